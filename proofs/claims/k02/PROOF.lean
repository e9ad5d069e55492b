import PyProof.Rows.All
import Wide.All
import OpenK.AllK
import Wide.FinOn
import KE.SortKeyHeap
import KE.KLam
import HandS.ForMost
import HandS.ForExc
import HandS.Flow
import HandS.Style
import HandS.SortInts
import HandS.SortKw
import HandS.TupAny
import HandS.TupMul
import HandS.Lambda
import HandS.EndTab
import HandS.Head2
import HandS.HeadEnd
import HandS.HeadHook4
import HandS.HeadWalk
import HandS.Walk
import HandS.IsInst
import HandS.Defaults
import HandS.More
import HandS.DictComp
import HandS.ListItems
import HandS.SetFor
import HandS.Strs
import HandS.Zip
import HandS.TupSets
import KE.SortData
import KE.GoesMore
import HandS.Conv
import HandS.WordsDict
import HandS.MakeKw
import HandS.Codes
import KE.KIndexOf
import PySem.Challenge.RW_deedsheaf_k02_books_looked_at
set_option Elab.async false
set_option linter.all false
set_option maxRecDepth 100000
set_option maxHeartbeats 0
set_option pp.maxSteps 1200

namespace PySem.SeqAt
open AutoSeq1 (wpAny_loadPart')
open MeetsSeq
/-! ### a dict and a text are never equal -/
theorem dict_eq_declines_str (l : Addr) (es : Array DictEntry) (ep : Nat) (dd : Option Addr) (sl : Array (Option Value)) (b : Str) (u : Tok) :
    Meets (Builtin.«dict.__eq__» ⟨[.ref l, .str b u], []⟩) (fun _ R s => s.heap.get? l = some { cls := .type "dict", dict := dd, data := .dict es ep, slots := sl } ∧ R (.ok (.ret .notImplemented)) s) :=
  .of_wp fun prog w A R s h => by obtain ⟨hp, g, d, tk, os⟩ := s; obtain ⟨hl, h⟩ := h; have f1 := F.sub_str_dict; wp_walk using wpAny_loadPart' hl; exact ⟨_, rfl, h⟩
theorem str_eq_declines_dict (b : Str) (u : Tok) (l : Addr) (c : Value) (es : Array DictEntry) (ep : Nat) (dd : Option Addr) (sl : Array (Option Value)) :
    Meets (Builtin.«str.__eq__» ⟨[.str b u, .ref l], []⟩) (fun _ R s => s.heap.get? l = some { cls := c, dict := dd, data := .dict es ep, slots := sl } ∧ R (.ok (.ret .notImplemented)) s) :=
  .of_wp fun prog w A R s h => by obtain ⟨hp, g, d, tk, os⟩ := s; obtain ⟨hl, h⟩ := h; wp_walk using wpAny_loadPart' hl, wpAny_load hl; exact ⟨_, rfl, h⟩
section
variable {M : Model} {A : Around} {E : Value → Shared → Prop} {s : Shared}
theorem RcAt.dict_str {l : Addr} {o : Obj} {es : Array DictEntry} {ep : Nat} (b : Str) (u : Tok) (ho : s.heap.get? l = some o) (hc : o.cls = .type "dict") (hd : o.data = .dict es ep) (hu : A.units < cLine) : RcAt A s (.ref l) (.str b u) false := fun prog w E Q h => by
  obtain ⟨cls, dd, data, sl⟩ := o
  simp only at hc hd
  subst hc hd
  exact rc_eq_decline_or (k := false) ⟨_, ho, rfl⟩ (typeIs_str s b u) (by decide) F.sub_str_dict F.slot_dict_eq F.slot_str_eq_refl
    (fun _ hq => call_meets F.slot_dict_eq ⟨_, ho, rfl⟩ F.entry_dict_eq (F.args_dict_eq_2 _ _) (dict_eq_declines_str l es ep dd sl b u) ⟨ho, hq⟩)
    (fun _ hq => call_meets F.slot_str_eq_refl (typeIs_str s b u) F.entry_str_eq (F.args_str_eq_2 _ _) (str_eq_declines_dict b u l (.type "dict") es ep dd sl) ⟨ho, hq⟩)
    (fun _ hq => wpAny_of_eq (rfl : isSame (.ref l) (.str b u) = pure false) hq) (.inr hu) h
theorem RcAt.str_dict {l : Addr} {o : Obj} {es : Array DictEntry} {ep : Nat} (b : Str) (u : Tok) (ho : s.heap.get? l = some o) (hc : o.cls = .type "dict") (hd : o.data = .dict es ep) (hu : A.units < cLine) : RcAt A s (.str b u) (.ref l) false := fun prog w E Q h => by
  obtain ⟨cls, dd, data, sl⟩ := o
  simp only at hc hd
  subst hc hd
  exact rc_eq_decline_or (k := false) (typeIs_str s b u) ⟨_, ho, rfl⟩ (by decide) F.sub_dict_str F.slot_str_eq F.slot_dict_eq_refl
    (fun _ hq => call_meets F.slot_str_eq (typeIs_str s b u) F.entry_str_eq (F.args_str_eq_2 _ _) (str_eq_declines_dict b u l (.type "dict") es ep dd sl) ⟨ho, hq⟩)
    (fun _ hq => call_meets F.slot_dict_eq_refl ⟨_, ho, rfl⟩ F.entry_dict_eq (F.args_dict_eq_2 _ _) (dict_eq_declines_str l es ep dd sl b u) ⟨ho, hq⟩)
    (fun _ hq => wpAny_of_eq (rfl : isSame (.str b u) (.ref l) = pure false) hq) (.inr hu) h
theorem EqAt.str_dict {l : Addr} {o : Obj} {es : Array DictEntry} {ep : Nat} (b : Str) (u : Tok) (ho : s.heap.get? l = some o) (hc : o.cls = .type "dict") (hd : o.data = .dict es ep) (hu : A.units < cLine) : EqAt A s (.str b u) (.ref l) false := fun prog w E Q h => by
  unfold eqBool
  refine wpAny_holding ?_
  refine wpAny_ite_split (fun hab => absurd (eq_of_beq hab) nofun) (fun _ => ?_)
  exact wpAny_bind (RcAt.str_dict b u ho hc hd hu prog w E _ (wpAny_truthy_bool h))
theorem int___gt___bool_int_0 (a : Bool) (b : Int) (u : Tok) : Gives (Builtin.«int.__gt__» ⟨[.bool a, .int b u], []⟩) (.val (Value.bool (decide ((if a = true then (1 : Int) else 0) > b)))) :=
  .of_wp fun M A E s Q h => by obtain ⟨hp, g, d, tk, os⟩ := s; wp_walk; exact ⟨_, rfl, h⟩
theorem gt_bool_int {prog : Program} {w : World} {a : Bool} {b : Int} {u : Tok} {Q : Value → Shared → Prop} (h : Q (.bool (decide ((if a = true then (1 : Int) else 0) > b))) s) : wpAny (model prog w) A (compareOp .Gt (.bool a) (.int b u)) Q E s :=
  rc_left_or (op := .Gt) rfl (typeIs_int s b u) (by decide) F.sub_int_bool F.slot_bool_gt
    (call_gives F.slot_bool_gt rfl F.entry_int_gt (F.args_int_gt_2 _ _) (int___gt___bool_int_0 a b u) ⟨nofun, h⟩) (.inl rfl)
end
end PySem.SeqAt
namespace Deed
open PySem PySem.Spec PyProof.Rows L2
/-! ### things of whatever kind -/
inductive Knd (H : Hp) : V → Prop
  | non : Knd H .non
  | bl (b : Bool) : Knd H (.bl b)
  | int (i : Int) : Knd H (.int i)
  | str (x : Str) : Knd H (.str x)
  | lst {a : Addr} {xs : List V} : H a = some (.lst xs) → Knd H (.ref a)
  | tup {a : Addr} {xs : List V} : H a = some (.tup xs) → Knd H (.ref a)
  | dct {a : Addr} {kvs : List (Key × V)} : H a = some (.dK kvs) → Knd H (.ref a)
section
variable {X : Cx}
/-- thing == text -/
def rEqTS : R2 := fun x y H Q => ∃ z, y = .str z ∧ Knd H x ∧ Q (.bl (decide (x = .str z))) H
theorem dct_at {pins : List (Addr × Obj)} {σ : L2.St} {H : Hp} {s : Shared} (I : Inv X pins σ H s) {a : Addr} {kvs : List (Key × V)} (e : H a = some (.dK kvs)) : ∃ (o : Obj) (es : Array DictEntry) (ep : Nat), s.heap.get? a = some o ∧ o.cls = .type "dict" ∧ o.data = .dict es ep := by
  obtain ⟨_, _, vs, _, o, es, ep, ho, hx, hd, _⟩ := I.hok a _ e
  exact ⟨o, es, ep, ho, hx.1, hd⟩
theorem op_eqTS (hu : X.A.units + 64 < cLine) : OpR X (compareOp .Eq) rEqTS := by
  intro pins s σ H x y v u Q I rx ry h
  obtain ⟨z, rfl, hk, q⟩ := h
  have hu' : X.A.units < cLine := by omega
  obtain ⟨t', rfl⟩ := ry
  cases hk with
  | non => cases rx; exact SeqAt.RcAt.none_str z t' X.prog X.w _ _ ⟨.bl false, H, I, rfl, q⟩
  | bl b => cases rx; exact SeqAt.RcAt.bool_str b z t' X.prog X.w _ _ ⟨.bl false, H, I, rfl, q⟩
  | int i => obtain ⟨t, rfl⟩ := rx; exact SeqAt.RcAt.int_str i t z t' X.prog X.w _ _ ⟨.bl false, H, I, rfl, q⟩
  | str i =>
    exact op_eq pins s σ H _ (.str z) _ _ Q I rx ⟨t', rfl⟩ ⟨rfl, q⟩
  | lst e =>
    cases rx
    obtain ⟨its, r, pl, hz⟩ := I.list (SqL.of (K := X.K) e)
    exact SeqAt.RcAt.list_str z t' pl.isList hu' X.prog X.w _ _ ⟨.bl false, H, I, rfl, q⟩
  | tup e =>
    cases rx
    obtain ⟨its, r, pl, hz⟩ := I.tuple (SqT.of (K := X.K) e)
    exact SeqAt.RcAt.tuple_str z t' pl hu' X.prog X.w _ _ ⟨.bl false, H, I, rfl, q⟩
  | dct e =>
    cases rx
    obtain ⟨o, es, ep, ho, hc, hd⟩ := dct_at I e
    exact SeqAt.RcAt.dict_str z t' ho hc hd hu' X.prog X.w _ _ ⟨.bl false, H, I, rfl, q⟩
/-- thing in, or not in, a list or tuple of texts -/
def rInTS (K : PySem.W.Frag) (neg : Bool) : R2 := fun x y H Q => ∃ (p : Addr) (ws : List Str), y = .ref p ∧ (SqL K H p (ws.map V.str) ∨ SqT K H p (ws.map V.str)) ∧ Knd H x ∧ Q (.bl (if neg then !decide (x ∈ ws.map V.str) else decide (x ∈ ws.map V.str))) H
def eqTS (x : V) : Value → Bool
  | .str z _ => decide (x = .str z)
  | _ => false
theorem eqTS_at {pins : List (Addr × Obj)} {σ : L2.St} {H : Hp} {s : Shared} {A : Around} (I : Inv X pins σ H s) (hu : A.units < cLine) {x : V} {v : Value} (rx : RelV x v) (hk : Knd H x) {ws : List Str} {its : List Value} (r : Vals (ws.map V.str) its) : ∀ y ∈ its, SeqAt.EqAt A s y v (eqTS x y) := by
  intro y hy
  have hs : ∃ z t, y = .str z t := by
    clear hk rx
    induction its generalizing ws with
    | nil => cases hy
    | cons a r' ih =>
      cases ws with
      | nil => cases r
      | cons z zs =>
        cases r with
        | cons h1 h2 =>
          rcases List.mem_cons.mp hy with rfl | hy
          · obtain ⟨t, rfl⟩ := h1
            exact ⟨z, t, rfl⟩
          · exact ih h2 hy
  obtain ⟨z, t, rfl⟩ := hs
  cases hk with
  | non => cases rx; exact SeqAt.EqAt.str_none z t
  | bl b => cases rx; exact SeqAt.EqAt.str_bool z t b
  | int i => obtain ⟨t', rfl⟩ := rx; exact SeqAt.EqAt.str_int z t i t'
  | str i =>
    obtain ⟨t', rfl⟩ := rx
    have := SeqAt.EqAt.str_str (A := A) (s := s) z t i t'
    rw [show eqTS (.str i) (.str z t) = (z == i) from ?_]
    · exact this
    · show decide (V.str i = V.str z) = (z == i)
      by_cases e : i = z
      · subst e
        simp
      · rw [decide_eq_false (fun q => e (by injection q))]
        exact (beq_eq_false_iff_ne.mpr fun q => e q.symm).symm
  | lst e =>
    cases rx
    obtain ⟨its, r, pl, hz⟩ := I.list (SqL.of (K := X.K) e)
    exact SeqAt.EqAt.str_list z t pl.isList hu
  | tup e =>
    cases rx
    obtain ⟨its, r, pl, hz⟩ := I.tuple (SqT.of (K := X.K) e)
    exact SeqAt.EqAt.str_tuple z t pl hu
  | dct e =>
    cases rx
    obtain ⟨o, es, ep, ho, hc, hd⟩ := dct_at I e
    exact SeqAt.EqAt.str_dict z t ho hc hd hu
theorem any_eqTS {x : V} : ∀ {ws : List Str} {its : List Value}, Vals (ws.map V.str) its → its.any (eqTS x) = decide (x ∈ ws.map V.str)
  | [], _, r => by
    cases r
    simp
  | z :: zs, _, r => by
    cases r with
    | cons h1 h2 =>
      obtain ⟨t, rfl⟩ := h1
      rw [List.any_cons, any_eqTS h2, List.map_cons]
      show (decide (x = .str z) || _) = _
      rw [← Bool.decide_or]
      simp only [List.mem_cons]
theorem op_inTS (hu : X.A.units + 64 < cLine) : OpR X (compareOp .In) (rInTS X.K false) := by
  intro pins s σ H x y v u Q I rx ry h
  obtain ⟨p, ws, rfl, hq, hk, q⟩ := h
  cases ry
  have hu' : X.A.in1.units < cLine := by show X.A.units + 1 < cLine; omega
  rcases hq with hq | hq
  · obtain ⟨its, r, pl, hz⟩ := I.list hq
    refine SeqAt.in_listAt (eqTS x) pl.isList (fun w hw => eqTS_at I hu' rx hk r w (by simpa using hw)) ⟨.bl _, H, I, rfl, ?_⟩
    rw [show its.toArray.any (eqTS x) = its.any (eqTS x) by simp, any_eqTS r]
    exact q
  · obtain ⟨its, r, pl, hz⟩ := I.tuple hq
    refine SeqAt.in_tupleAt (eqTS x) pl (fun w hw => eqTS_at I hu' rx hk r w (by simpa using hw)) ⟨.bl _, H, I, rfl, ?_⟩
    rw [show its.toArray.any (eqTS x) = its.any (eqTS x) by simp, any_eqTS r]
    exact q
theorem op_notInTS (hu : X.A.units + 64 < cLine) : OpR X (compareOp .NotIn) (rInTS X.K true) := by
  intro pins s σ H x y v u Q I rx ry h
  obtain ⟨p, ws, rfl, hq, hk, q⟩ := h
  cases ry
  have hu' : X.A.in1.units < cLine := by show X.A.units + 1 < cLine; omega
  rcases hq with hq | hq
  · obtain ⟨its, r, pl, hz⟩ := I.list hq
    refine SeqAt.notIn_listAt (eqTS x) pl.isList (fun w hw => eqTS_at I hu' rx hk r w (by simpa using hw)) ⟨.bl _, H, I, rfl, ?_⟩
    rw [show its.toArray.any (eqTS x) = its.any (eqTS x) by simp, any_eqTS r]
    exact q
  · obtain ⟨its, r, pl, hz⟩ := I.tuple hq
    refine SeqAt.notIn_tupleAt (eqTS x) pl (fun w hw => eqTS_at I hu' rx hk r w (by simpa using hw)) ⟨.bl _, H, I, rfl, ?_⟩
    rw [show its.toArray.any (eqTS x) = its.any (eqTS x) by simp, any_eqTS r]
    exact q
/-- tuple != () -/
def rNeTE (K : PySem.W.Frag) : R2 := fun x y H Q => ∃ a b xs, x = .ref a ∧ y = .ref b ∧ SqT K H a xs ∧ SqT K H b [] ∧ Q (.bl (!xs.isEmpty)) H
theorem op_neTE (hu : X.A.units + 64 < cLine) : OpR X (compareOp .NotEq) (rNeTE X.K) := by
  intro pins s σ H x y v u Q I rx ry h
  obtain ⟨a, b, xs, rfl, rfl, ha, hb, q⟩ := h
  cases rx
  cases ry
  obtain ⟨its, r, pl, hz⟩ := I.tuple ha
  obtain ⟨its2, r2, pl2, hz2⟩ := I.tuple hb
  cases r2
  have hl := r.length
  refine SeqAt.RcNeAt.tuples (e := fun _ => true) pl pl2 (by omega) (fun j h1 h2 => absurd h2 (by simp)) X.prog X.w _ _ ⟨.bl _, H, I, rfl, ?_⟩
  have e : (!((List.range (min its.toArray.size ([] : List Value).toArray.size)).all (fun _ => true) && its.toArray.size == ([] : List Value).toArray.size)) = !xs.isEmpty := by
    cases xs with
    | nil =>
      have : its = [] := List.eq_nil_of_length_eq_zero (by rw [← hl]; rfl)
      subst this
      rfl
    | cons x xs =>
      cases its with
      | nil => simp at hl
      | cons i is => simp
  rw [e]
  exact q
/-- thing + number, thing - number, thing > number, of numbers and truths -/
def b2n (b : Bool) : Int := if b = true then 1 else 0
def numOf : V → Option Int
  | .int i => some i
  | .bl b => some (b2n b)
  | _ => none
theorem op_addTI : OpR X (binaryOp .Add) (fun x y H Q => ∃ i j, numOf x = some i ∧ y = .int j ∧ Q (.int (i + j)) H) := by
  intro pins s σ H x y v u Q I rx ry h
  obtain ⟨i, j, hx, rfl, q⟩ := h
  obtain ⟨t', rfl⟩ := ry
  cases x with
  | int k =>
    obtain ⟨t, rfl⟩ := rx
    injection hx with hx
    subst hx
    exact add_int ⟨.int _, H, I.tok _, ⟨_, rfl⟩, q⟩
  | bl k =>
    cases rx
    injection hx with hx
    subst hx
    exact PySem.IntBool.add_bool_int ⟨.int _, H, I.tok _, ⟨_, rfl⟩, q⟩
  | _ => cases hx
theorem op_subTI : OpR X (binaryOp .Sub) (fun x y H Q => ∃ i j, numOf x = some i ∧ y = .int j ∧ Q (.int (i - j)) H) := by
  intro pins s σ H x y v u Q I rx ry h
  obtain ⟨i, j, hx, rfl, q⟩ := h
  obtain ⟨t', rfl⟩ := ry
  cases x with
  | int k =>
    obtain ⟨t, rfl⟩ := rx
    injection hx with hx
    subst hx
    exact sub_int ⟨.int _, H, I.tok _, ⟨_, rfl⟩, q⟩
  | bl k =>
    cases rx
    injection hx with hx
    subst hx
    exact PySem.IntBool.sub_bool_int ⟨.int _, H, I.tok _, ⟨_, rfl⟩, q⟩
  | _ => cases hx
theorem op_gtTI : OpR X (compareOp .Gt) (fun x y H Q => ∃ i j, numOf x = some i ∧ y = .int j ∧ Q (.bl (decide (i > j))) H) := by
  intro pins s σ H x y v u Q I rx ry h
  obtain ⟨i, j, hx, rfl, q⟩ := h
  cases x with
  | int k =>
    injection hx with hx
    subst hx
    exact op_gt pins s σ H _ _ _ _ Q I rx ry ⟨_, _, rfl, rfl, q⟩
  | bl k =>
    obtain ⟨t', rfl⟩ := ry
    cases rx
    injection hx with hx
    subst hx
    exact SeqAt.gt_bool_int ⟨.bl _, H, I, rfl, q⟩
  | _ => cases hx
theorem str_of_bool {prog : Program} {w : World} {A : Around} {E : Value → Shared → Prop} {s : Shared} {b : Bool} {Q : Value → Shared → Prop} (h : Q (.str (if b then "True" else "False") s.toks) { s with toks := s.toks + 1 }) : wpAny (model prog w) A (call (.type "str") [.bool b]) Q E s :=
  callType_new F.called_str (by decide) (F.typeCall_str_1 _) (F.newCall_str_1 _) (fun obj => F.args_object_init_2 obj _) F.entry_str_new
    (meets_str_new (S := fun _ R s => R (.ok (.ret (.str (if b then "True" else "False") s.toks))) { s with toks := s.toks + 1 }) fun _ _ _ _ s hq =>
      wpAny_strOf_gives rfl (PySem.typeIs_bool s b) F.slot_bool_str F.slot_bool_repr F.entry_bool_repr (F.args_bool_repr_1 _) (gives_bool_repr b) hq (hsz := by cases b <;> decide)) ⟨typeIs_str _ _ _, h⟩
def strTI : V → Int → Str
  | .bl b, _ => if b then "True" else "False"
  | _, i => toString i
/-- str(thing) of a number or a truth: some text -/
theorem call_strTI : CallR X (.type "str") (fun xs H Q => ∃ x i, xs = [x] ∧ numOf x = some i ∧ i.natAbs.log2 < 1920 ∧ Q (.str (strTI x i)) H) := by
  intro pins s σ H xs us Q I r h
  obtain ⟨x, i, rfl, hx, hz, q⟩ := h
  obtain ⟨u, rfl, rx⟩ := vals1 r
  cases x with
  | int k =>
    obtain ⟨t, rfl⟩ := rx
    injection hx with hx
    subst hx
    exact PySem.P.str_of_int hz ⟨.str _, H, I.tok _, ⟨_, rfl⟩, q⟩
  | bl k =>
    cases rx
    exact str_of_bool ⟨.str _, H, I.tok _, ⟨_, rfl⟩, q⟩
  | _ => cases hx
end
end Deed

namespace Deed
open PySem PySem.Spec PyProof.Rows L2
/-! ### t[::-1] of a tuple -/
theorem fm_congr {α β : Type} {f g : α → Option β} : ∀ {l : List α}, (∀ x ∈ l, f x = g x) → l.filterMap f = l.filterMap g
  | [], _ => rfl
  | a :: l, h => by rw [List.filterMap_cons, List.filterMap_cons, h a List.mem_cons_self, fm_congr fun x hx => h x (List.mem_cons_of_mem _ hx)]
section
variable {prog : Program} {w : World} {A : Around} {E : Value → Shared → Prop} {s : Shared}
theorem revPick (xs : Array Value) : ((List.range xs.size).filterMap fun (m : Nat) => xs[(((xs.size : Int) - 1) + (m : Int) * (-1)).toNat]?).toArray = xs.toList.reverse.toArray := by
  rw [← PySem.W.krv_pick]
  unfold slicePick
  rw [PySem.W.krv_bounds]
  show _ = ((sliceRange ((xs.size : Int) - 1) (-1) (-1)).filterMap (xs[·]?)).toArray
  rw [PySem.W.krv_sliceRange, List.filterMap_map]
  congr 1
  refine fm_congr fun m hm => ?_
  have := List.mem_range.mp hm
  show xs[(((xs.size : Int) - 1) + (m : Int) * (-1)).toNat]? = xs[xs.size - 1 - m]?
  congr 1
  omega
theorem sliceApplied_rev {sl : Addr} {vs : Value} {n : Nat} {Q : Int × Int × Nat → Shared → Prop} (hs : s.heap.IsSliceOf sl .none .none vs) (ps : IsPart vs (some (-1)))
    (h : Q ((n : Int) - 1, -1, n) s) : wpAny (model prog w) A (Builtin.Slice.sliceApplied (.ref sl) (pure (n : Int))) Q E s := by
  obtain ⟨os, hos, hcs, hds⟩ := id hs
  unfold Builtin.Slice.sliceApplied Builtin.Slice.sliceFields
  refine wpAny_bind (wpAny_bind (wpAny_field hos hds (x := .none) rfl (wpAny_bind (wpAny_field hos hds (x := .none) rfl (wpAny_bind (wpAny_field hos hds (x := vs) rfl (wpAny_pure ?_)))))))
  refine wpAny_bind (HT.slicePart_ ps ?_)
  show wpAny _ _ (if ((-1 : Int) == 0) = true then _ else _) _ _ s
  rw [if_neg (by decide)]
  refine wpAny_bind (HT.slicePart_ .none (wpAny_bind (HT.slicePart_ .none (wpAny_bind (wpAny_pure ?_)))))
  show wpAny _ _ (match Builtin.Slice.sliceAdjust none none (-1) (n : Int) with | (lo, hi) => pure (lo, (-1 : Int), Builtin.Slice.slicePlaces lo hi (-1))) _ _ s
  have e : Builtin.Slice.sliceAdjust none none (-1) (n : Int) = ((n : Int) - 1, -1) := by
    unfold Builtin.Slice.sliceAdjust
    simp
  rw [e]
  show wpAny _ _ (pure ((n : Int) - 1, (-1 : Int), Builtin.Slice.slicePlaces ((n : Int) - 1) (-1) (-1))) _ _ s
  have e2 : Builtin.Slice.slicePlaces ((n : Int) - 1) (-1) (-1) = n := by
    unfold Builtin.Slice.slicePlaces
    simp
    omega
  rw [e2]
  exact wpAny_pure h
theorem getItem_tuple_rev {t sl : Addr} {items : Array Value} {vs : Value} {Q : Value → Shared → Prop} (ht : IsTup s.heap t items) (hs : s.heap.IsSliceOf sl .none .none vs) (ps : IsPart vs (some (-1)))
    (h : Q (.ref s.heap.objs.size) { s with heap := s.heap.push { cls := .type "tuple", data := .seq items.toList.reverse.toArray } })
    (hsz : items.size ≤ sizeLine) : wpAny (model prog w) A (getItem (.ref t) (.ref sl)) Q E s := by
  have htake : sizeOk (.seq items.toList.reverse.toArray) := by
    show items.toList.reverse.toArray.size ≤ sizeLine
    rw [List.size_toArray, List.length_reverse, Array.length_toList]
    omega
  obtain ⟨os, hos, hcs, hds⟩ := id hs
  have hTs : s.TypeIs (.ref sl) "slice" := ⟨os, hos, hcs⟩
  unfold getItem
  try with_reducible refine wpAny_holding ?_
  first | refine wpAny_bind (wpAny_pure ?_) | skip
  refine wpAny_bind (wpAny_sequenceKey ht.typeIs (by decide) ?_)
  refine wpAny_bind (wpAny_callSpecial?_slot (name := Str.ofString "__getitem__") ht.typeIs PyProof.Rows.slot_tuple_getitem
    (wpAny_call_entry PyProof.Rows.slot_tuple_getitem ht.typeIs entry_tuple_getitem ?_ (args_tuple_getitem _ _)))
  show wpAny _ _ (Builtin.Tuple.tupleItemsOf (.ref t) >>= _) _ _ s
  refine wpAny_bind (tupleItemsOf_ ht ?_)
  refine wpAny_bind (wpAny_typeOf hTs ?_)
  rw [if_pos (by decide)]
  refine wpAny_bind (sliceApplied_rev hs ps ?_)
  have hno : ¬ ((((items.size : Int) - 1) == 0 && (-1 : Int) == 1 && items.size == items.size) = true) := by
    intro q
    rw [Bool.and_eq_true, Bool.and_eq_true] at q
    exact absurd q.1.2 (by decide)
  show wpAny _ _ (if (((items.size : Int) - 1) == 0 && (-1 : Int) == 1 && items.size == items.size) = true then _ else _) _ _ s
  rw [if_neg hno, revPick]
  first
    | exact wpAny_bind (m := Builtin.Tuple.tupleExact _) (wpAny_newObj_type (wpAny_pure ⟨_, rfl, wpAny_pure h⟩) htake)
    | exact wpAny_bind (m := Builtin.Tuple.tupleExact _) (wpAny_newObj_type (wpAny_bind (wpAny_pure (wpAny_pure ⟨_, rfl, wpAny_pure h⟩))) htake)
    | exact wpAny_bind (wpAny_bind (m := Builtin.Tuple.tupleExact _) (wpAny_newObj_type (wpAny_pure (wpAny_pure ⟨_, rfl, wpAny_pure h⟩)) htake))
    | exact wpAny_bind (wpAny_bind (m := Builtin.Tuple.tupleExact _) (wpAny_newObj_type (wpAny_pure ⟨_, rfl, wpAny_pure h⟩) htake))
end
section
variable {X : Cx}
def tRevT (K : PySem.W.Frag) (te : TE) : TE := fun σ H Q => te σ H fun x H1 => ∃ a xs, x = .ref a ∧ SqT K H1 a xs ∧ ∀ p, H1 p = none → Q (.ref p) (upd H1 p (.tup xs.reverse))
theorem pe_revT {e : Expr} {te : TE} {k : Nat} {p1 p2 p3 pos : Pos} (he : PE X e te) : PE X (.Subscript e (.Slice none none (some (.UnaryOp .USub (.Constant (.int 1) k p1) p2)) p3) pos) (tRevT X.K te) := by
  refine ⟨fun pins s σ H Q I h => ?_⟩
  refine Subscript_ (thn (he.run pins s σ H _ I h) fun v s1 ⟨x, H1, I1, r1, q1⟩ => ?_)
  obtain ⟨a, xs, ex, hx, q⟩ := q1
  subst ex
  cases r1
  have hst : PO X (some (.UnaryOp .USub (.Constant (.int 1) k p1) p2)) (tPart (tUn (rU fun i => .int (-i)) (tC (.int 1)))) := po_some (pe_un un_neg pe_int)
  refine wpAny_Slice (thn (po_none.run pins s1 σ H1 (fun o H2 => o = none ∧ H2 = H1) I1 ⟨rfl, rfl⟩) fun vl s2 ⟨l, H2, I2, pl, el, e2⟩ => ?_)
  subst el e2
  refine thn (po_none.run pins s2 σ H2 (fun o H3 => o = none ∧ H3 = H2) I2 ⟨rfl, rfl⟩) fun vu s3 ⟨u, H3, I3, pu, eu, e3⟩ => ?_
  subst eu e3
  refine thn (hst.run pins s3 σ H3 (fun o H4 => o = some (-1) ∧ H4 = H3) I3 ⟨1, rfl, -1, rfl, rfl, rfl⟩) fun vs s4 ⟨o, H4, I4, ps, eo, e4⟩ => ?_
  subst eo e4
  have I5 : Inv X pins σ H4 { s4 with heap := s4.heap.push { cls := .type "slice", data := .fields #[vl, vu, vs] } } := I4.kept (t' := s4.toks) fun b ob q => Heap.get?_push_of_some _ q
  obtain ⟨its, r, ht, hz⟩ := I5.tuple hx
  have hlen := r.length
  cases pl
  cases pu
  show wpAny (model X.prog X.w) X.A (subscriptTail e (.Slice none none (some (.UnaryOp .USub (.Constant (.int 1) k p1) p2)) p3) (.ref a) (.ref s4.heap.objs.size)) (EP X pins σ Q) X.xe { s4 with heap := s4.heap.push { cls := .type "slice", data := .fields #[.none, .none, vs] } }
  refine tail_any (ops := [.ref a, .ref s4.heap.objs.size]) ht.typeIs (PyProof.Rows.slot_tuple_getitem.lookup) ?_ (by with_unfolding_all rfl)
  refine getItem_tuple_rev ht (Heap.IsSliceOf.new _ .none .none vs) ps ?_ (by rw [List.size_toArray]; omega)
  refine ⟨.ref _, _, I5.laid (t' := s4.toks) (o := .tup xs.reverse) (fun b ob q => Heap.get?_push_of_some _ q) (Nat.le_refl _) ?_, rfl, q _ (I5.hok.fresh (Nat.le_refl _))⟩
  exact ⟨by rw [List.length_reverse]; exact hz, its.reverse, r.reverse, IsTup.new _ _⟩
end
end Deed

namespace Deed
open PySem PySem.Spec PyProof.Rows L2
def topS (i : Nat) : Stmt := PySem.Challenge.pw_deedsheaf_k02_books_looked_at.main.body.getD i (.Pass ⟨0, 0, 0, 0⟩)
/-! ### heaps: all but the pen at p is as it was -/
def Kp (p : Addr) (H H' : Hp) : Prop := ∀ b o, b ≠ p → H b = some o → H' b = some o
theorem Kp.refl (p : Addr) (H : Hp) : Kp p H H := fun _ _ _ h => h
theorem Kp.trans {p : Addr} {H H1 H2 : Hp} (a : Kp p H H1) (b : Kp p H1 H2) : Kp p H H2 := fun c o n h => b c o n (a c o n h)
theorem Kp.new {p q : Addr} {H : Hp} (n : H q = none) (o : HO) : Kp p H (upd H q o) := fun b u _ e => by
  rw [upd_ne (ne_of_none e n)]
  exact e
theorem Kp.put {p : Addr} {H : Hp} (o : HO) : Kp p H (upd H p o) := fun b u n e => by
  rw [upd_ne n]
  exact e
theorem Kp.same {p : Addr} {H H' : Hp} (h : Same H H') : Kp p H H' := fun b o _ e => h b o e
/-- the pen: four whole numbers, the last one a rest -/
def PenAt (H : Hp) (p : Addr) : Prop := ∃ a f c e : Int, H p = some (.lst [.int a, .int f, .int c, .int e]) ∧ 0 ≤ e ∧ e < 1000000007
theorem PenAt.new {p q : Addr} {H : Hp} (h : PenAt H p) (n : H q = none) (o : HO) : PenAt (upd H q o) p := by
  obtain ⟨a, f, c, e, h1, h2⟩ := h
  refine ⟨a, f, c, e, ?_, h2⟩
  rw [upd_ne (ne_of_none h1 n)]
  exact h1
theorem PenAt.ne {p q : Addr} {H : Hp} {o : HO} (h : PenAt H p) (e : H q = some o) (no : ∀ xs, o ≠ .lst xs) : q ≠ p := fun z => by
  obtain ⟨a, f, c, e', h1, _⟩ := h
  rw [z, h1] at e
  exact no _ (Option.some.inj e).symm
theorem PenAt.free {p q : Addr} {H : Hp} (h : PenAt H p) (n : H q = none) : q ≠ p := fun z => by
  obtain ⟨a, f, c, e', h1, _⟩ := h
  rw [z, h1] at n
  cases n
section
variable {P : Program} {w : World} {K : PySem.W.Frag} {mg : Str → Option Value} {base : Heap}
/-! ### the script's cell -/
abbrev sCell : Stmt := topS 27
theorem scCell : FnScope ["_law_script", "_law_k"] ["_law_script", "_law_k"] (defScope sCell) := ⟨rfl, rfl, rfl, by decide +kernel, rfl, by decide +kernel, by decide +kernel⟩
def spCell (K : PySem.W.Frag) : Sp := fun vs H Q _ => ∃ (a : Addr) (ns : List Int) (k : Int), vs = [.ref a, .int k] ∧ SqL K H a (ns.map V.int) ∧ 0 ≤ k ∧ ∀ v : Int, Q (.int v) H
theorem ok_cell {f : Addr} {fd : FuncData} {k : Nat} (F : Fun K "_law_cell_at" "_law_cell_at" sCell f fd) (ml : mg "len" = none) : FnOk P w K mg base CX0 (k + 1) f fd ["_law_script", "_law_k"] (spCell K) := by
  refine F.ok scCell (fun vs H Q E h => ?_) (fun cdv A outer s H vs Q E hr h => ?_)
  · obtain ⟨a, ns, k, rfl, _⟩ := h
    rfl
  · obtain ⟨a, ns, k, rfl, hS, h0, q⟩ := h
    refine ⟨_, pss_cons (ps_if (pt_cmpR op_lt (pv 1) (pe_callB call_len_seq (by rfl) ml PySem.boot_len (pa_cons (pv 0) pa_nil)) (nomark _)) (pss_one (ps_ret (pe_ix ix_list (pv 0) (pv 1) (fun _ _ => rfl)))) pss_nil)
      (pss_one (ps_ret pe_int)), ?_⟩
    have hl : (ns.map V.int).length = ns.length := List.length_map _
    refine ⟨_, rfl, _, rfl, a, _, rfl, .inl hS, _, _, rfl, rfl, _, rfl, ?_⟩
    refine ite2 (fun c => ?_) (fun c => ?_)
    · have c' : k < (((ns.map V.int).length : Nat) : Int) := of_decide_eq_true c
      rw [hl] at c'
      have hk : k.toNat < ns.length := by omega
      have ek : k = ((k.toNat : Nat) : Int) := by omega
      refine ⟨_, rfl, _, rfl, a, _, _, .int ns[k.toNat], rfl, rfl, hS, ?_, q _⟩
      exact at_of ek (by rw [List.getElem?_map, List.getElem?_eq_getElem hk] <;> rfl)
    · exact q 0
/-! ### the pen -/
abbrev sPen : Stmt := topS 28
theorem scPen : FnScope ["_law_cell"] ["_law_cell"] (defScope sPen) := ⟨rfl, rfl, rfl, by decide +kernel, rfl, by decide +kernel, by decide +kernel⟩
def spPen : Sp := fun vs H Q _ => ∃ (c : Int), vs = [.int c] ∧ ∀ p H', Same H H' → H p = none → PenAt H' p → Q (.ref p) H'
theorem ok_pen {f : Addr} {fd : FuncData} {k : Nat} (F : Fun K "_law_pen" "_law_pen" sPen f fd) (mi : mg "int" = none) : FnOk P w K mg base CX0 (k + 1) f fd ["_law_cell"] spPen := by
  refine F.ok scPen (fun vs H Q E h => ?_) (fun cdv A outer s H vs Q E hr h => ?_)
  · obtain ⟨c, rfl, _⟩ := h
    rfl
  · obtain ⟨c, rfl, q⟩ := h
    refine ⟨_, pss_one (ps_ret (pe_lst (pa_cons (pv 0) (pa_cons (pe_callTy call_int1 (by rfl) mi (by decide +kernel) (pa_cons (pe_cmpR op_ge (pv 0) (pe_op op_pow pe_int pe_int) (nomark _)) pa_nil)) (pa_cons pe_int (pa_cons (pe_op op_mod (pv 0) pe_int) pa_nil)))))), ?_⟩
    refine ⟨_, rfl, _, rfl, _, _, rfl, rfl, ⟨by decide, by decide, by decide⟩, _, _, rfl, rfl, .inr ⟨_, rfl, ?_⟩⟩
    refine ⟨_, rfl, _, _, rfl, rfl, (by show (0 : Int) < 1000000007; decide), (by show 4 ≤ sizeLine; decide), fun p hp => ?_⟩
    refine q p _ (fun b o e => ?_) hp ⟨_, _, _, _, upd_same, Int.emod_nonneg _ (by decide), Int.emod_lt_of_pos _ (by decide)⟩
    rw [upd_ne (ne_of_none e hp)]
    exact e
/-! ### a draw -/
abbrev sDraw : Stmt := topS 29
theorem scDraw : FnScope ["_law_pen_here", "_law_bound", "_law_found", "_law_stir"] ["_law_pen_here", "_law_bound"] (defScope sDraw) := ⟨rfl, rfl, rfl, by decide +kernel, rfl, by decide +kernel, by decide +kernel⟩
def spDraw : Sp := fun vs H Q _ => ∃ (p : Addr) (b : Int), vs = [.ref p, .int b] ∧ PenAt H p ∧ 0 < b ∧ b < 1073741824 ∧ ∀ v H', Kp p H H' → PenAt H' p → 0 ≤ v → v < b → Q (.int v) H'
theorem ok_draw {f : Addr} {fd : FuncData} {k : Nat} (F : Fun K "_law_draw" "_law_draw" sDraw f fd) : FnOk P w K mg base CX0 (k + 1) f fd ["_law_pen_here", "_law_bound"] spDraw := by
  refine F.ok scDraw (fun vs H Q E h => ?_) (fun cdv A outer s H vs Q E hr h => ?_)
  · obtain ⟨p, b, rfl, _⟩ := h
    rfl
  · obtain ⟨p, b, rfl, ⟨x, y, c, e, hp, he0, he1⟩, hb0, hb1, q⟩ := h
    refine ⟨_, pss_cons (ps_if (PW.pt (pw_and (pt_cmpR op_eq (pe_ix ix_list (pv 0) pe_int (fun _ _ => rfl)) pe_int (nomark _)) (pw_and1 (pt_cmpR op_gt (pe_ix ix_list (pv 0) pe_int (fun _ _ => rfl)) pe_int (nomark _)))))
        (pss_cons (ps_set (i := 2) scDraw.nd rfl (.inl rfl) (pe_op op_mod (pe_ix ix_list (pv 0) pe_int (fun _ _ => rfl)) (pv 1)))
        (pss_cons (ps_asg (pe_op op_fdiv (pe_ix ix_list (pv 0) pe_int (fun _ _ => rfl)) (pv 1)) (pg_sub (pv 0) pe_int set_list))
        (pss_one (ps_ret (pv 2))))) pss_nil)
      (pss_cons (ps_asg (pe_op op_add (pe_ix ix_list (pv 0) pe_int (fun _ _ => rfl)) pe_int) (pg_sub (pv 0) pe_int set_list))
      (pss_cons (ps_set (i := 3) scDraw.nd rfl (.inl rfl) (pe_op op_mod (pe_op op_mul (pe_op op_add (pe_ix ix_list (pv 0) pe_int (fun _ _ => rfl)) pe_int) (pe_op op_add pe_int (pe_op op_mul pe_int (pe_ix ix_list (pv 0) pe_int (fun _ _ => rfl))))) pe_int))
      (pss_cons (ps_set (i := 3) scDraw.nd rfl (.inl rfl) (pe_op op_mod (pe_op op_add (pe_op op_add (pe_op op_mul (pv 3) (pv 3)) (pe_op op_mul pe_int (pe_ix ix_list (pv 0) pe_int (fun _ _ => rfl)))) pe_int) pe_int))
      (pss_one (ps_ret (pe_op op_mod (pe_op op_fdiv (pe_op op_mod (pe_op op_mul (pv 3) pe_int) pe_int) pe_int) (pv 1))))))), ?_⟩
    have i0 : ∀ u : V, ∀ r : List V, atI (u :: r) 0 = some u := fun u r => atI_nat (j := 0) rfl
    have i1 : ∀ u v : V, ∀ r : List V, atI (u :: v :: r) 1 = some v := fun u v r => atI_nat (j := 1) rfl
    have i2 : ∀ u v w : V, ∀ r : List V, atI (u :: v :: w :: r) 2 = some w := fun u v w r => atI_nat (j := 2) rfl
    have i3 : ∀ u v w z : V, ∀ r : List V, atI (u :: v :: w :: z :: r) 3 = some z := fun u v w z r => atI_nat (j := 3) rfl
    have hS : SqL K H p [.int x, .int y, .int c, .int e] := SqL.of hp
    refine ⟨_, rfl, p, _, _, _, rfl, rfl, hS, i1 _ _ _, rfl, _, rfl, ?_⟩
    refine ite2 (fun c1 => ?_) (fun c1 => ?slow1)
    refine ⟨_, rfl, p, _, _, _, rfl, rfl, hS, i0 _ _, _, _, rfl, rfl, _, rfl, ?_⟩
    refine ite2 (fun c2 => ?_) (fun c2 => ?slow2)
    · refine ⟨_, rfl, p, _, _, _, rfl, rfl, hS, i0 _ _, _, rfl, _, _, rfl, rfl, hb0, ?_⟩
      refine ⟨_, rfl, p, _, _, _, rfl, rfl, hS, i0 _ _, _, rfl, _, _, rfl, rfl, ⟨hb0, hb1⟩, _, rfl, p, _, 0, 0, rfl, rfl, hp, rfl, ?_⟩
      exact ⟨_, rfl, q _ _ (Kp.put _) ⟨_, _, _, _, upd_same, he0, he1⟩ (Int.emod_nonneg _ (by omega)) (Int.emod_lt_of_pos _ hb0)⟩
    all_goals
      refine ⟨_, rfl, p, _, _, _, rfl, rfl, hS, i2 _ _ _ _, _, _, rfl, rfl, _, rfl, p, _, 2, 2, rfl, rfl, hp, rfl, ?_⟩
      have hp1 : (upd H p (.lst [.int x, .int y, .int (c + 1), .int e])) p = some (.lst [.int x, .int y, .int (c + 1), .int e]) := upd_same
      have hS1 : SqL K (upd H p (.lst [.int x, .int y, .int (c + 1), .int e])) p [.int x, .int y, .int (c + 1), .int e] := SqL.of hp1
      refine ⟨_, rfl, p, _, _, _, rfl, rfl, hS1, i3 _ _ _ _ _, _, _, rfl, rfl, _, rfl, p, _, _, _, rfl, rfl, hS1, i2 _ _ _ _, _, _, rfl, rfl, .inl ⟨by decide, by decide⟩, _, _, rfl, rfl, _, _, rfl, rfl, .inl ⟨by omega, by omega⟩, _, _, rfl, rfl, (by show (0 : Int) < 2147483647; decide), ?_⟩
      have r1 := Int.emod_nonneg ((e + 17) * (69621 + 2 * (c + 1))) (b := 2147483647) (by decide)
      have r2 := Int.emod_lt_of_pos ((e + 17) * (69621 + 2 * (c + 1))) (b := 2147483647) (by decide)
      generalize (e + 17) * (69621 + 2 * (c + 1)) % 2147483647 = st at r1 r2
      refine ⟨_, rfl, _, rfl, _, _, rfl, rfl, .inl ⟨by omega, by omega⟩, _, rfl, p, _, _, _, rfl, rfl, hS1, i2 _ _ _ _, _, _, rfl, rfl, .inl ⟨by decide, by decide⟩, _, _, rfl, rfl, _, _, rfl, rfl, _, _, rfl, rfl, (by show (0 : Int) < 2147483629; decide), ?_⟩
      refine ⟨_, rfl, _, _, rfl, rfl, .inr ⟨by decide, by decide⟩, _, _, rfl, rfl, (by show (0 : Int) < 2147483647; decide), _, _, rfl, rfl, ⟨by decide, by decide⟩, _, rfl, _, _, rfl, rfl, hb0, ?_⟩
      exact q _ _ (Kp.put _) ⟨_, _, _, _, upd_same, he0, he1⟩ (Int.emod_nonneg _ (by omega)) (Int.emod_lt_of_pos _ hb0)
end
end Deed

namespace Deed
open PySem PySem.Spec PyProof.Rows L2
/-- a def of the top: where it stands, how its arguments come, its name -/
structure Df (K : PySem.W.Frag) (mg : Str → Option Value) (x : Str) (st : Stmt) (ps : List Str) (f : Addr) (fd : FuncData) : Prop where
  F : Fun K x x st f fd
  b : Binds K fd ps []
  g : mg x = some (.ref f)
theorem am0 {φ : V → Prop} : ∀ y ∈ ([] : List V), φ y := fun _ h => nomatch h
theorem am1 {φ : V → Prop} {x : V} {xs : List V} (h : φ x) (r : ∀ y ∈ xs, φ y) : ∀ y ∈ x :: xs, φ y := fun y hy => (List.mem_cons.mp hy).elim (fun e => e ▸ h) (r y)
/-- an item of a written list at an open place -/
theorem pick {xs : List V} {i : Int} (φ : V → Prop) (h0 : 0 ≤ i) (h1 : i < (xs.length : Int)) (hx : ∀ x ∈ xs, φ x) : ∃ v, atI xs i = some v ∧ φ v := by
  have hk : i.toNat < xs.length := by omega
  exact ⟨xs[i.toNat], at_of (j := i.toNat) (by omega) (List.getElem?_eq_getElem hk), hx _ (List.getElem_mem hk)⟩
/-- an int within bounds -/
def Within (lo hi : Int) (x : V) : Prop := ∃ n : Int, x = .int n ∧ lo ≤ n ∧ n ≤ hi
section
variable {P : Program} {w : World} {K : PySem.W.Frag} {mg : Str → Option Value} {base : Heap} {fDr : Addr} {dDr : FuncData}
abbrev DrawD (K : PySem.W.Frag) (mg : Str → Option Value) := Df K mg "_law_draw" sDraw ["_law_pen_here", "_law_bound"]
/-! ### a day -/
abbrev sDay : Stmt := topS 30
theorem scDay : FnScope ["_law_pen_here", "_law_far"] ["_law_pen_here"] (defScope sDay) := ⟨rfl, rfl, rfl, by decide +kernel, rfl, by decide +kernel, by decide +kernel⟩
def spDay : Sp := fun vs H Q _ => ∃ (p : Addr), vs = [.ref p] ∧ PenAt H p ∧ ∀ v H', Kp p H H' → PenAt H' p → 0 ≤ v → v ≤ 9999 → Q (.int v) H'
theorem ok_day {f : Addr} {fd : FuncData} {k : Nat} (F : Fun K "_law_day" "_law_day" sDay f fd) (D : DrawD K mg fDr dDr) : FnOk P w K mg base CX0 (k + 2) f fd ["_law_pen_here"] spDay := by
  have G : FnOk P w K mg base CX0 (k + 1) fDr dDr ["_law_pen_here", "_law_bound"] spDraw := ok_draw D.F
  refine F.ok scDay (fun vs H Q E h => ?_) (fun cdv A outer s H vs Q E hr h => ?_)
  · obtain ⟨p, rfl, _⟩ := h
    rfl
  · obtain ⟨p, rfl, hP, q⟩ := h
    refine ⟨_, pss_cons (ps_set (i := 1) scDay.nd rfl (.inl rfl) (pe_ix ix_list (pe_lst (pa_cons pe_int (pa_cons (pe_call G hr (by rfl) D.g D.F.kp D.b .nil pass0 (pa_cons (pv 0) (pa_cons pe_int pa_nil))) pa_nil))) (pe_call G hr (by rfl) D.g D.F.kp D.b .nil pass0 (pa_cons (pv 0) (pa_cons pe_int pa_nil))) (fun _ _ => rfl)))
      (pss_one (ps_ret (pe_ix ix_list (pe_lst (pa_cons (pe_call G hr (by rfl) D.g D.F.kp D.b .nil pass0 (pa_cons (pv 0) (pa_cons pe_int pa_nil))) (pa_cons (pe_call G hr (by rfl) D.g D.F.kp D.b .nil pass0 (pa_cons (pv 0) (pa_cons pe_int pa_nil))) (pa_cons (pe_call G hr (by rfl) D.g D.F.kp D.b .nil pass0 (pa_cons (pv 0) (pa_cons pe_int pa_nil))) (pa_cons (pv 1) pa_nil))))) (pe_call G hr (by rfl) D.g D.F.kp D.b .nil pass0 (pa_cons (pv 0) (pa_cons pe_int pa_nil))) (fun _ _ => rfl)))), ?_⟩
    refine ⟨_, rfl, p, 10000, rfl, hP, by decide, by decide, fun v1 H1 k1 P1 a1 b1 => ?_⟩
    refine ⟨(by show 2 ≤ sizeLine; decide), fun l hl => ?_⟩
    refine ⟨_, rfl, p, 2, rfl, P1.new hl _, by decide, by decide, fun v2 H2 k2 P2 a2 b2 => ?_⟩
    obtain ⟨v3, g3, n3, rfl, a3, b3⟩ := pick (xs := [.int 9999, .int v1]) (Within 0 9999) a2 b2 (am1 ⟨9999, rfl, by decide, by decide⟩ (am1 ⟨v1, rfl, a1, by omega⟩ am0))
    refine ⟨l, _, v2, _, rfl, rfl, SqL.of (k2 _ _ (P1.free hl) upd_same), g3, ?_⟩
    have kA : Kp p H H2 := (k1.trans (Kp.new hl _)).trans k2
    refine ⟨_, rfl, p, 6, rfl, P2, by decide, by decide, fun v4 H4 k4 P4 a4 b4 => ?_⟩
    refine ⟨_, rfl, p, 6, rfl, P4, by decide, by decide, fun v5 H5 k5 P5 a5 b5 => ?_⟩
    refine ⟨_, rfl, p, 40, rfl, P5, by decide, by decide, fun v6 H6 k6 P6 a6 b6 => ?_⟩
    refine ⟨_, rfl, (by show 4 ≤ sizeLine; decide), fun m hm => ?_⟩
    refine ⟨_, rfl, p, 4, rfl, P6.new hm _, by decide, by decide, fun v7 H7 k7 P7 a7 b7 => ?_⟩
    obtain ⟨v8, g8, n8, rfl, a8, b8⟩ := pick (xs := [.int v4, .int v5, .int v6, .int n3]) (Within 0 9999) a7 b7 (am1 ⟨_, rfl, by omega, by omega⟩ (am1 ⟨_, rfl, by omega, by omega⟩ (am1 ⟨_, rfl, by omega, by omega⟩ (am1 ⟨_, rfl, by omega, by omega⟩ am0))))
    refine ⟨m, _, v7, _, rfl, rfl, SqL.of (k7 _ _ (P6.free hm) upd_same), g8, ?_⟩
    exact q n8 _ (kA.trans (k4.trans (k5.trans (k6.trans ((Kp.new hm _).trans k7))))) P7 a8 b8
/-! ### folk -/
abbrev sFolk : Stmt := topS 31
theorem scFolk : FnScope ["_law_pen_here", "_law_least", "_law_found", "_law_k", "_law_born", "_law_died"] ["_law_pen_here", "_law_least"] (defScope sFolk) := ⟨rfl, rfl, rfl, by decide +kernel, rfl, by decide +kernel, by decide +kernel⟩
/-- a person at x -/
def PersonAt (H : Hp) (x : V) : Prop := ∃ (a : Addr) (b : Int) (d : V), x = .ref a ∧ H a = some (.tup [.int b, d]) ∧ -9999 ≤ b ∧ b ≤ 9998 ∧ (d = .non ∨ ∃ i : Int, d = .int i ∧ b < i ∧ i ≤ 9999)
theorem PersonAt.kp {p : Addr} {H H' : Hp} {x : V} (h : PersonAt H x) (k : Kp p H H') (P : PenAt H p) : PersonAt H' x := by
  obtain ⟨a, b, d, e, h1, r⟩ := h
  exact ⟨a, b, d, e, k _ _ (P.ne h1 fun _ z => by cases z) h1, r⟩
def FolkAt (H : Hp) (t : Addr) (n : Nat) : Prop := ∃ xs : List V, H t = some (.tup xs) ∧ xs.length = n ∧ ∀ x ∈ xs, PersonAt H x
theorem FolkAt.kp {p : Addr} {H H' : Hp} {t : Addr} {n : Nat} (h : FolkAt H t n) (k : Kp p H H') (P : PenAt H p) : FolkAt H' t n := by
  obtain ⟨xs, h1, h2, h3⟩ := h
  exact ⟨xs, k _ _ (P.ne h1 fun _ z => by cases z) h1, h2, fun x hx => (h3 x hx).kp k P⟩
def spFolk : Sp := fun vs H Q _ => ∃ (p : Addr) (least : Int), vs = [.ref p, .int least] ∧ PenAt H p ∧ 1 ≤ least ∧ least ≤ 6 ∧ ∀ t (n : Nat) H', Kp p H H' → PenAt H' p → FolkAt H' t n → least ≤ n → n ≤ 6 → Q (.ref t) H'
theorem ok_folk {f : Addr} {fd : FuncData} {k : Nat} (F : Fun K "_law_folk" "_law_folk" sFolk f fd) (D : DrawD K mg fDr dDr) (mr : mg "range" = none) (mm : mg "min" = none) (mt : mg "tuple" = none) : FnOk P w K mg base CX0 (k + 2) f fd ["_law_pen_here", "_law_least"] spFolk := by
  have G : FnOk P w K mg base CX0 (k + 1) fDr dDr ["_law_pen_here", "_law_bound"] spDraw := ok_draw D.F
  refine F.ok scFolk (fun vs H Q E h => ?_) (fun cdv A outer s H vs Q E hr h => ?_)
  · obtain ⟨p, l, rfl, _⟩ := h
    rfl
  · obtain ⟨p, least, rfl, hP, hl1, hl6, q⟩ := h
    refine ⟨_, pss_cons (ps_set (i := 2) scFolk.nd rfl (.inl rfl) (pe_lst pa_nil))
      (pss_cons (ps_for PassesOwn.never rfl (pi_range1 rfl mr (pa_cons (pe_op op_add (pv 1) (pe_call G hr (by rfl) D.g D.F.kp D.b .nil pass0 (pa_cons (pv 0) (pa_cons (pe_op op_sub pe_int (pv 1)) pa_nil)))) pa_nil)) (pg_name (i := 3) scFolk.nd rfl (.inl rfl))
        (pss_cons (ps_set (i := 4) scFolk.nd rfl (.inl rfl) (pe_ix ix_list (pe_lst (pa_cons (pe_op op_sub (pe_call G hr (by rfl) D.g D.F.kp D.b .nil pass0 (pa_cons (pv 0) (pa_cons pe_int pa_nil))) pe_int) (pa_cons (pe_op op_sub (pe_call G hr (by rfl) D.g D.F.kp D.b .nil pass0 (pa_cons (pv 0) (pa_cons pe_int pa_nil))) pe_int) (pa_cons (pe_un un_neg pe_int) pa_nil)))) (pe_call G hr (by rfl) D.g D.F.kp D.b .nil pass0 (pa_cons (pv 0) (pa_cons pe_int pa_nil))) (fun _ _ => rfl)))
        (pss_cons (ps_set (i := 5) scFolk.nd rfl (.inl rfl) (pe_callB (call_min2 rfl) (by rfl) mm (by decide +kernel) (pa_cons pe_int (pa_cons (pe_op op_add (pe_op op_add (pv 4) pe_int) (pe_ix ix_list (pe_lst (pa_cons (pe_call G hr (by rfl) D.g D.F.kp D.b .nil pass0 (pa_cons (pv 0) (pa_cons pe_int pa_nil))) (pa_cons (pe_call G hr (by rfl) D.g D.F.kp D.b .nil pass0 (pa_cons (pv 0) (pa_cons pe_int pa_nil))) pa_nil))) (pe_call G hr (by rfl) D.g D.F.kp D.b .nil pass0 (pa_cons (pv 0) (pa_cons pe_int pa_nil))) (fun _ _ => rfl))) pa_nil))))
        (pss_one (ps_expr (pe_bm PySem.F.plainAttrs_list PySem.F.slot_list_append PySem.F.type_list_append mt_append (pv 2) (pa_cons (pe_tup (pa_cons (pv 4) (pa_cons (pe_ix ix_list (pe_lst (pa_cons pe_non (pa_cons (pv 5) pa_nil))) (pe_call G hr (by rfl) D.g D.F.kp D.b .nil pass0 (pa_cons (pv 0) (pa_cons pe_int pa_nil))) (fun _ _ => rfl)) pa_nil))) pa_nil)))))))
      (pss_one (ps_ret (pe_callTy call_tuple_of (by rfl) mt (by decide +kernel) (pa_cons (pv 2) pa_nil))))), ?_⟩
    refine ⟨Nat.zero_le _, fun l hl => ?_⟩
    have Pl : PenAt (upd H l (.lst [])) p := hP.new hl _
    have nl : l ≠ p := hP.free hl
    refine ⟨_, rfl, _, rfl, _, rfl, _, _, rfl, rfl, p, 7 - least, rfl, Pl, by omega, by omega, fun v1 H1 k1 P1 a1 b1 => ?_⟩
    refine ⟨_, _, rfl, rfl, _, rfl, by omega, by omega, ?_⟩
    refine for_range (lo := 0) (n := (least + v1).toNat) (fun i σ H' => ∃ y3 y4 y5 xs, σ = [some (.ref p), some (.int least), some (.ref l), y3, y4, y5] ∧ Kp p H H' ∧ PenAt H' p ∧ H' l = some (.lst xs) ∧ xs.length = i ∧ ∀ x ∈ xs, PersonAt H' x)
      ⟨none, none, none, [], rfl, (Kp.new hl _).trans k1, P1, k1 _ _ nl upd_same, rfl, am0⟩ ?_ ?_
    · rintro i σ H' hi ⟨y3, y4, y5, xs, rfl, k', P', el, ln, ps⟩
      -- born
      refine ⟨_, rfl, p, 9, rfl, P', by decide, by decide, fun v2 H2 k2 P2 a2 b2 => ⟨_, _, rfl, rfl, ?_⟩⟩
      refine ⟨_, rfl, p, 19998, rfl, P2, by decide, by decide, fun v3 H3 k3 P3 a3 b3 => ⟨_, _, rfl, rfl, ?_⟩⟩
      refine ⟨_, rfl, (by show 3 ≤ sizeLine; decide), fun m hm => ?_⟩
      refine ⟨_, rfl, p, 3, rfl, P3.new hm _, by decide, by decide, fun v4 H4 k4 P4 a4 b4 => ?_⟩
      obtain ⟨_, g5, n5, rfl, a5, b5⟩ := pick (xs := [.int (v2 - 4), .int (v3 - 9999), .int (-9999)]) (Within (-9999) 9998) a4 b4 (am1 ⟨_, rfl, by omega, by omega⟩ (am1 ⟨_, rfl, by omega, by omega⟩ (am1 ⟨_, rfl, by omega, by omega⟩ am0)))
      refine ⟨m, _, v4, _, rfl, rfl, SqL.of (k4 _ _ (P3.free hm) upd_same), g5, ?_⟩
      have kA : Kp p H' H4 := k2.trans (k3.trans ((Kp.new hm _).trans k4))
      -- died
      refine ⟨_, rfl, _, _, rfl, rfl, ?_⟩
      refine ⟨_, rfl, p, 12, rfl, P4, by decide, by decide, fun v6 H6 k6 P6 a6 b6 => ?_⟩
      refine ⟨_, rfl, p, 9999, rfl, P6, by decide, by decide, fun v7 H7 k7 P7 a7 b7 => ?_⟩
      refine ⟨(by show 2 ≤ sizeLine; decide), fun m2 hm2 => ?_⟩
      refine ⟨_, rfl, p, 2, rfl, P7.new hm2 _, by decide, by decide, fun v8 H8 k8 P8 a8 b8 => ?_⟩
      obtain ⟨_, g9, n9, rfl, a9, b9⟩ := pick (xs := [.int v6, .int v7]) (Within 0 9998) a8 b8 (am1 ⟨_, rfl, by omega, by omega⟩ (am1 ⟨_, rfl, by omega, by omega⟩ am0))
      refine ⟨m2, _, v8, _, rfl, rfl, SqL.of (k8 _ _ (P7.free hm2) upd_same), g9, _, _, rfl, rfl, _, _, rfl, ?_⟩
      have kB : Kp p H4 H8 := k6.trans (k7.trans ((Kp.new hm2 _).trans k8))
      have hd : n5 < (if n5 + 1 + n9 < 9999 then n5 + 1 + n9 else 9999) ∧ (if n5 + 1 + n9 < 9999 then n5 + 1 + n9 else 9999) ≤ 9999 := by
        split <;> omega
      generalize (if n5 + 1 + n9 < 9999 then n5 + 1 + n9 else 9999) = dd at hd
      have kC := kA.trans kB
      have el8 := kC _ _ nl el
      -- found.append((born, ..))
      refine ⟨_, rfl, .inl ⟨rfl, _, SqL.of el8⟩, _, rfl, _, rfl, (by show 2 ≤ sizeLine; decide), fun m3 hm3 => ?_⟩
      refine ⟨_, rfl, p, 2, rfl, P8.new hm3 _, by decide, by decide, fun v10 H10 k10 P10 a10 b10 => ?_⟩
      obtain ⟨vd, g11, hvd⟩ := pick (xs := [.non, .int dd]) (fun d => d = .non ∨ ∃ i : Int, d = .int i ∧ n5 < i ∧ i ≤ 9999) a10 b10 (am1 (.inl rfl) (am1 (.inr ⟨_, rfl, hd⟩) am0))
      refine ⟨m3, _, v10, _, rfl, rfl, SqL.of (k10 _ _ (P8.free hm3) upd_same), g11, (by show 2 ≤ sizeLine; decide), fun t ht => ?_⟩
      have kD := (kC.trans ((Kp.new hm3 _).trans k10)).trans (Kp.new (p := p) ht (.tup [.int n5, vd]))
      have elD := kD _ _ nl el
      have PD : PenAt (upd H10 t (.tup [.int n5, vd])) p := P10.new ht _
      refine ⟨l, _, _, rfl, rfl, elD, small1000 (by omega), ?_⟩
      have kE : ∀ b o, b ≠ p → b ≠ l → H' b = some o → (upd (upd H10 t (.tup [.int n5, vd])) l (.lst (xs ++ [.ref t]))) b = some o := fun b o n1 n2 e => by
        rw [upd_ne n2]
        exact kD _ _ n1 e
      have ntl : t ≠ l := fun z => by
        have := (kC.trans ((Kp.new hm3 _).trans k10)) _ _ nl el
        rw [z, this] at ht
        cases ht
      refine ⟨_, _, _, xs ++ [.ref t], rfl, fun b o n1 e => ?_, ?_, upd_same, ?_, fun x hx => ?_⟩
      · by_cases hb : b = l
        · rw [hb, hl] at e
          cases e
        · exact kE b o n1 hb (k' _ _ n1 e)
      · obtain ⟨x1, x2, x3, x4, e1, e2⟩ := PD
        exact ⟨x1, x2, x3, x4, by rw [upd_ne nl.symm]; exact e1, e2⟩
      · rw [List.length_append, ln]
        rfl
      · rcases List.mem_append.mp hx with hx | hx
        · obtain ⟨a, b, d, e, h1, r⟩ := ps x hx
          exact ⟨a, b, d, e, kE _ _ (P'.ne h1 fun _ z => by cases z) (fun z => by rw [z, el] at h1; cases h1) h1, r⟩
        · rw [List.mem_singleton.mp hx]
          exact ⟨t, n5, vd, rfl, by rw [upd_ne ntl, upd_same], by omega, by omega, hvd⟩
    · rintro σ H' ⟨y3, y4, y5, xs, rfl, k', P', el, ln, ps⟩
      refine ⟨_, rfl, l, xs, rfl, .inl ⟨SqL.of el, fun t ht => ?_⟩⟩
      have kF : Kp p H' (upd H' t (.tup xs)) := Kp.new ht _
      exact q t (least + v1).toNat _ (k'.trans kF) (P'.new ht _) ⟨xs, upd_same, ln, fun x hx => (ps x hx).kp kF P'⟩ (by omega) (by omega)
end
end Deed

namespace Deed
open PySem PySem.Spec PyProof.Rows L2
theorem seqIx {i : Int} {n : Nat} (h0 : 0 ≤ i) (h1 : i < n) : seqIndex? i n = some i.toNat := seqIndex_of h0 h1
theorem rising_of {l : List Int} (hn : l.Nodup) (hp : l.Pairwise (· ≤ ·)) : l.Pairwise (· < ·) := by
  induction l with
  | nil => exact .nil
  | cons x r ih =>
    have h1 := List.nodup_cons.mp hn
    have h2 := List.pairwise_cons.mp hp
    refine List.pairwise_cons.mpr ⟨fun y hy => ?_, ih h1.2 h2.2⟩
    have h3 := h2.1 y hy
    have h4 : x ≠ y := fun e => h1.1 (e ▸ hy)
    omega
theorem perm_erase {α : Type} {l : List α} {k : Nat} {y : α} (h : l[k]? = some y) : (y :: l.eraseIdx k).Perm l := by
  induction l generalizing k with
  | nil => simp at h
  | cons a r ih =>
    cases k with
    | zero =>
      have e : a = y := by simpa using h
      subst e
      exact List.Perm.refl _
    | succ k =>
      have h' : r[k]? = some y := by simpa using h
      show (y :: a :: r.eraseIdx k).Perm (a :: r)
      exact (List.Perm.swap a y _).trans ((ih h').cons a)
theorem erase_map {α β : Type} (f : α → β) : ∀ (l : List α) (k : Nat), (l.map f).eraseIdx k = (l.eraseIdx k).map f
  | [], _ => rfl
  | _ :: _, 0 => rfl
  | a :: r, k + 1 => congrArg (List.cons (f a)) (erase_map f r k)
section
variable {P : Program} {w : World} {K : PySem.W.Frag} {mg : Str → Option Value} {base : Heap} {fDr : Addr} {dDr : FuncData}
/-! ### a few of some -/
abbrev sFew : Stmt := topS 32
theorem scFew : FnScope ["_law_pen_here", "_law_some", "_law_most", "_law_left", "_law_found", "_law_k"] ["_law_pen_here", "_law_some", "_law_most"] (defScope sFew) := ⟨rfl, rfl, rfl, by decide +kernel, rfl, by decide +kernel, by decide +kernel⟩
def spFew (K : PySem.W.Frag) : Sp := fun vs H Q _ => ∃ (p a : Addr) (most : Int) (ns : List Int), vs = [.ref p, .ref a, .int most] ∧ PenAt H p ∧ SqL K H a (ns.map V.int) ∧ 0 ≤ most ∧ most ≤ 1000 ∧ ns.length ≤ 1000 ∧
  ∀ t (rs ls : List Int) H', Kp p H H' → PenAt H' p → H' t = some (.tup (rs.map V.int)) → (rs ++ ls).Perm ns → rs.Pairwise (· ≤ ·) → rs.length ≤ most → Q (.ref t) H'
theorem ok_few {f : Addr} {fd : FuncData} {k : Nat} (F : Fun K "_law_few" "_law_few" sFew f fd) (D : DrawD K mg fDr dDr) (mr : mg "range" = none) (mm : mg "min" = none) (mt : mg "tuple" = none) (ml : mg "list" = none) (mn : mg "len" = none) (ms : mg "sorted" = none) :
    FnOk P w K mg base CX0 (k + 2) f fd ["_law_pen_here", "_law_some", "_law_most"] (spFew K) := by
  have G : FnOk P w K mg base CX0 (k + 1) fDr dDr ["_law_pen_here", "_law_bound"] spDraw := ok_draw D.F
  refine F.ok scFew (fun vs H Q E h => ?_) (fun cdv A outer s H vs Q E hr h => ?_)
  · obtain ⟨p, a, most, ns, rfl, _⟩ := h
    rfl
  · obtain ⟨p, a, most, ns, rfl, hP, hS, hm0, hm1, hn1, q⟩ := h
    refine ⟨_, pss_cons (ps_par (i := 3) (j := 4) (by rfl) scFew.nd rfl rfl (by decide) rfl rfl (pa_cons (pe_callTy call_list_of (by rfl) ml (by decide +kernel) (pa_cons (pv 1) pa_nil)) (pa_cons (pe_lst pa_nil) pa_nil)) (by rfl))
      (pss_cons (ps_for PassesOwn.never rfl (pi_range1 rfl mr (pa_cons (pe_callB (call_min2 rfl) (by rfl) mm (by decide +kernel) (pa_cons (pe_callB call_len_seq (by rfl) mn PySem.boot_len (pa_cons (pv 3) pa_nil)) (pa_cons (pe_call G hr (by rfl) D.g D.F.kp D.b .nil pass0 (pa_cons (pv 0) (pa_cons (pe_op op_add (pv 2) pe_int) pa_nil))) pa_nil))) pa_nil)) (pg_name (i := 5) scFew.nd rfl (.inl rfl))
        (pss_one (ps_expr (pe_bm PySem.F.plainAttrs_list PySem.F.slot_list_append PySem.F.type_list_append mt_append (pv 4) (pa_cons (pe_bm PySem.F.plainAttrs_list PySem.F.slot_list_pop PySem.F.type_list_pop mt_popAt (pv 3) (pa_cons (pe_call G hr (by rfl) D.g D.F.kp D.b .nil pass0 (pa_cons (pv 0) (pa_cons (pe_callB call_len_seq (by rfl) mn PySem.boot_len (pa_cons (pv 3) pa_nil)) pa_nil))) pa_nil)) pa_nil)))))
      (pss_one (ps_ret (pe_callTy call_tuple_of (by rfl) mt (by decide +kernel) (pa_cons (pe_callB cr_sortedI (by rfl) ms (by decide +kernel) (pa_cons (pv 4) pa_nil)) pa_nil))))), ?_⟩
    refine ⟨_, rfl, a, _, rfl, .inl hS, fun l hl => ?_⟩
    have Pl : PenAt (upd H l (.lst (ns.map V.int))) p := hP.new hl _
    have nl : l ≠ p := hP.free hl
    refine ⟨Nat.zero_le _, fun g hg => ⟨_, _, rfl, ?_⟩⟩
    have ng : g ≠ p := Pl.free hg
    have nlg : l ≠ g := fun z => by
      rw [← z, upd_same] at hg
      cases hg
    have Pg := Pl.new hg (.lst [])
    have el : (upd (upd H l (.lst (ns.map V.int))) g (.lst [])) l = some (.lst (ns.map V.int)) := by rw [upd_ne nlg, upd_same]
    refine ⟨_, rfl, l, _, rfl, .inl (SqL.of el), _, rfl, _, rfl, _, _, rfl, rfl, p, most + 1, rfl, Pg, by omega, by omega, fun v1 H1 k1 P1 a1 b1 => ?_⟩
    have hlen : (ns.map V.int).length = ns.length := List.length_map _
    refine ⟨_, _, rfl, ?_⟩
    rw [hlen]
    have hj : 0 ≤ (if v1 < (ns.length : Int) then v1 else (ns.length : Int)) ∧ (if v1 < (ns.length : Int) then v1 else (ns.length : Int)) ≤ ns.length ∧ (if v1 < (ns.length : Int) then v1 else (ns.length : Int)) ≤ most := by
      split <;> omega
    generalize (if v1 < (ns.length : Int) then v1 else (ns.length : Int)) = j at hj
    refine ⟨_, rfl, by omega, by omega, ?_⟩
    have k0 : Kp p H H1 := ((Kp.new hl _).trans (Kp.new hg _)).trans k1
    refine for_range (lo := 0) (n := j.toNat) (fun i σ H' => ∃ y5, ∃ rs ls : List Int, σ = [some (.ref p), some (.ref a), some (.int most), some (.ref l), some (.ref g), y5] ∧ Kp p H H' ∧ PenAt H' p ∧ H' l = some (.lst (ls.map V.int)) ∧ H' g = some (.lst (rs.map V.int)) ∧ rs.length = i ∧ (rs ++ ls).Perm ns)
      ⟨none, [], ns, rfl, k0, P1, k1 _ _ nl el, k1 _ _ ng upd_same, rfl, List.Perm.refl _⟩ ?_ ?_
    · rintro i σ H' hi ⟨y5, rs, ls, rfl, k', P', e1, e2, hrl, hpm⟩
      have hll : ls.length = ns.length - i := by
        have := hpm.length_eq
        rw [List.length_append] at this
        omega
      have hml : (ls.map V.int).length = ls.length := List.length_map _
      refine ⟨_, rfl, .inl ⟨rfl, _, SqL.of e2⟩, _, rfl, .inl ⟨rfl, _, SqL.of e1⟩, _, rfl, _, rfl, l, _, rfl, .inl (SqL.of e1), p, _, rfl, P', by omega, by omega, fun v2 H2 k2 P2 a2 b2 => ?_⟩
      rw [hml] at b2
      have e1' := k2 _ _ nl e1
      have e2' := k2 _ _ ng e2
      have hk : v2.toNat < ls.length := by omega
      refine ⟨l, _, v2, v2.toNat, .int ls[v2.toNat], rfl, rfl, e1', by omega, by omega, seqIx a2 (by rw [hml]; omega), by rw [List.getElem?_map, List.getElem?_eq_getElem hk] <;> rfl, ?_⟩
      have e2'' : (upd H2 l (.lst ((ls.map V.int).eraseIdx v2.toNat))) g = some (.lst (rs.map V.int)) := by rw [upd_ne nlg.symm]; exact e2'
      refine ⟨g, _, _, rfl, rfl, e2'', small1000 (by rw [List.length_map]; omega), ?_⟩
      refine ⟨_, rs ++ [ls[v2.toNat]], ls.eraseIdx v2.toNat, rfl, fun b o n1 e => ?_, ?_, ?_, ?_, ?_, ?_⟩
      · rw [upd_ne (ne_of_none e (show H g = none by rw [upd_ne nlg.symm] at hg; exact hg)), upd_ne (ne_of_none e hl)]
        exact (k'.trans k2) _ _ n1 e
      · obtain ⟨x1, x2, x3, x4, z1, z2⟩ := P2
        exact ⟨x1, x2, x3, x4, by rw [upd_ne ng.symm, upd_ne nl.symm]; exact z1, z2⟩
      · rw [upd_ne nlg, upd_same, erase_map]
      · rw [upd_same, List.map_append]
        rfl
      · rw [List.length_append, hrl]
        rfl
      · have h1 : (ls[v2.toNat] :: ls.eraseIdx v2.toNat).Perm ls := perm_erase (List.getElem?_eq_getElem hk)
        refine List.Perm.trans ?_ hpm
        rw [List.append_assoc]
        exact (List.Perm.append_left rs h1)
    · rintro σ H' ⟨y5, rs, ls, rfl, k', P', e1, e2, hrl, hpm⟩
      refine ⟨_, rfl, g, rs, rfl, SqL.of e2, fun rs' m pm up hm => ?_⟩
      have hm' : (upd H' m (.lst (rs'.map V.int))) m = some (.lst (rs'.map V.int)) := upd_same
      refine ⟨m, _, rfl, .inl ⟨SqL.of hm', fun t ht => ?_⟩⟩
      refine q t rs' ls _ (k'.trans ((Kp.new hm _).trans (Kp.new ht _))) ((P'.new hm _).new ht _) upd_same ((List.Perm.append_right ls pm).trans hpm) up ?_
      rw [pm.length_eq, hrl]
      omega
end
end Deed

namespace Deed
open PySem PySem.Spec PyProof.Rows L2
/-! ### lists of ints compared -/
theorem dp_ints {K : PySem.W.Frag} {H : Hp} : ∀ ns : List Int, DpAll K H (ns.map V.int) (ns.map PyData.int)
  | [] => .nil
  | n :: r => .cons (.int n) (dp_ints r)
theorem lay_ints : ∀ ns : List Int, PyData.canLayAll0 (ns.map PyData.int) = true
  | [] => by simp [PyData.canLayAll0]
  | n :: r => by simp [PyData.canLayAll0, PyData.canLay0, lay_ints r]
theorem depth_ints : ∀ ns : List Int, PyData.depthAll (ns.map PyData.int) ≤ 1
  | [] => by simp [PyData.depthAll]
  | n :: r => by
    have h := depth_ints r
    simp only [List.map_cons, PyData.depthAll, PyData.depth]
    omega
theorem shaped_ints (ns : List Int) : SeqAt.shaped (.list (ns.map PyData.int)) = true := by
  have h1 := depth_ints ns
  have h2 : PyData.depth (.list (ns.map PyData.int)) ≤ 64 := by
    simp only [PyData.depth]
    omega
  show (PyData.canLay0 (.list (ns.map PyData.int)) && decide (PyData.depth (.list (ns.map PyData.int)) ≤ 64)) = true
  rw [Bool.and_eq_true]
  exact ⟨by simp only [PyData.canLay0]; exact lay_ints ns, decide_eq_true h2⟩
theorem eqvAll_ints : ∀ ns ms : List Int, PyData.eqvAll (ns.map PyData.int) (ms.map PyData.int) = decide (ns = ms)
  | [], [] => by simp [PyData.eqvAll]
  | [], _ :: _ => by simp [PyData.eqvAll]
  | _ :: _, [] => by simp [PyData.eqvAll]
  | n :: r, m :: q => by
    simp only [List.map_cons, PyData.eqvAll, PyData.eqv, eqvAll_ints r q]
    by_cases h : n = m
    · subst h
      simp
    · simp [h]
theorem eqv_ints (ns ms : List Int) : PyData.eqv (.list (ns.map PyData.int)) (.list (ms.map PyData.int)) = decide (ns = ms) := by
  simp only [PyData.eqv]
  exact eqvAll_ints ns ms
theorem mem_inV {n : Int} {ns : List Int} : inV (.int n) (ns.map V.int) = decide (n ∈ ns) := by
  induction ns with
  | nil => simp [inV]
  | cons m r ih =>
    have e : inV (.int n) ((m :: r).map V.int) = (eqV (.int m) (.int n) || inV (.int n) (r.map V.int)) := by simp [inV]
    have e2 : eqV (.int m) (.int n) = decide (m = n) := by
      first | rfl | simp [eqV] | (unfold eqV; simp)
    rw [e, ih, e2]
    by_cases h : m = n
    · subst h
      simp
    · have h' : ¬ n = m := fun z => h z.symm
      simp [h, h']
theorem flat_ints (ns : List Int) : (ns.map V.int).all flatV = true := by
  induction ns with
  | nil => rfl
  | cons n r ih =>
    rw [List.map_cons, List.all_cons, ih]
    rfl
/-! ### entries -/
inductive Kd where
  | deed (g t : Int) (rs ws : List Int)
  | act (x : Str) (o : Int)
structure En where
  num : Int
  day : Int
  wri : Int
  hand : Int
  kd : Kd
def En.isDeed (e : En) : Bool := match e.kd with
  | .deed _ _ _ _ => true
  | .act _ _ => false
/-- the entry e at the address a -/
def EntAt (H : Hp) (a : Addr) (e : En) : Prop := match e.kd with
  | .deed g t rs ws => ∃ r w : Addr, H a = some (.tup [.int e.num, .int e.day, .int e.wri, .int e.hand, .str "deed", .int g, .int t, .ref r, .ref w]) ∧ H r = some (.tup (rs.map V.int)) ∧ H w = some (.tup (ws.map V.int))
  | .act x o => H a = some (.tup [.int e.num, .int e.day, .int e.wri, .int e.hand, .str x, .int o])
/-- all that isn't a list is kept -/
def KpT (H H' : Hp) : Prop := ∀ b xs, H b = some (.tup xs) → H' b = some (.tup xs)
theorem Kp.tup {p : Addr} {H H' : Hp} (k : Kp p H H') (P : PenAt H p) : KpT H H' := fun b xs e => k _ _ (P.ne e fun _ z => by cases z) e
theorem Same.tup {H H' : Hp} (k : Same H H') : KpT H H' := fun b xs e => k _ _ e
theorem KpT.trans {H H1 H2 : Hp} (a : KpT H H1) (b : KpT H1 H2) : KpT H H2 := fun c o h => b c o (a c o h)
theorem EntAt.kp {H H' : Hp} {a : Addr} {e : En} (h : EntAt H a e) (k : KpT H H') : EntAt H' a e := by
  unfold EntAt at h ⊢
  cases hk : e.kd with
  | deed g t rs ws =>
    rw [hk] at h
    obtain ⟨r, w, h1, h2, h3⟩ := h
    exact ⟨r, w, k _ _ h1, k _ _ h2, k _ _ h3⟩
  | act x o =>
    rw [hk] at h
    exact k _ _ h
def EnOk (n : Nat) (ds as : List Int) (e : En) : Prop := (0 ≤ e.day ∧ e.day ≤ 9999) ∧ (0 ≤ e.wri ∧ e.wri ≤ 9999) ∧ (0 ≤ e.hand ∧ e.hand ≤ 3) ∧ match e.kd with
  | .deed g t rs ws => (0 ≤ g ∧ g < n) ∧ (0 ≤ t ∧ t < n) ∧ g ≠ t ∧ rs.length ≤ 2 ∧ rs.Pairwise (· < ·) ∧ (∀ r ∈ rs, r ∈ ds ∧ r < e.num) ∧ ws.length ≤ 3 ∧ ws.Pairwise (· < ·) ∧ ∀ x ∈ ws, 0 ≤ x ∧ x < n ∧ x ≠ g ∧ x ≠ t
  | .act x o => ((x = "undone" ∧ o ∈ as) ∨ ((x = "paid" ∨ x = "void") ∧ o ∈ ds)) ∧ o < e.num
theorem EnOk.mono {n : Nat} {ds as ds' as' : List Int} {e : En} (h : EnOk n ds as e) (h1 : ∀ x ∈ ds, x ∈ ds') (h2 : ∀ x ∈ as, x ∈ as') : EnOk n ds' as' e := by
  unfold EnOk at h ⊢
  obtain ⟨a, b, c, d⟩ := h
  refine ⟨a, b, c, ?_⟩
  cases hk : e.kd with
  | deed g t rs ws =>
    rw [hk] at d
    obtain ⟨d1, d2, d3, d4, d5, d6, d7⟩ := d
    exact ⟨d1, d2, d3, d4, d5, fun r hr => ⟨h1 _ (d6 r hr).1, (d6 r hr).2⟩, d7⟩
  | act x o =>
    rw [hk] at d
    obtain ⟨d1, d2⟩ := d
    refine ⟨?_, d2⟩
    rcases d1 with ⟨z, m⟩ | ⟨z, m⟩
    · exact .inl ⟨z, h2 _ m⟩
    · exact .inr ⟨z, h1 _ m⟩
section
variable {P : Program} {w : World} {K : PySem.W.Frag} {mg : Str → Option Value} {base : Heap} {fDr fFe fDy fDe : Addr} {dDr dFe dDy dDe : FuncData}
abbrev FewD (K : PySem.W.Frag) (mg : Str → Option Value) := Df K mg "_law_few" sFew ["_law_pen_here", "_law_some", "_law_most"]
abbrev DayD (K : PySem.W.Frag) (mg : Str → Option Value) := Df K mg "_law_day" sDay ["_law_pen_here"]
/-- the built-ins' names are the built-ins' -/
structure Bi (mg : Str → Option Value) : Prop where
  range : mg "range" = none
  min : mg "min" = none
  max : mg "max" = none
  tuple : mg "tuple" = none
  list : mg "list" = none
  len : mg "len" = none
  sorted : mg "sorted" = none
  int : mg "int" = none
/-! ### what stands behind a deed's word -/
abbrev sDeed : Stmt := topS 33
abbrev nDeed : List Str := ["_law_pen_here", "_law_folk_here", "_law_deeds", "_law_giver", "_law_taker", "_law_others", "_law_one"]
theorem scDeed : FnScope nDeed ["_law_pen_here", "_law_folk_here", "_law_deeds"] (defScope sDeed) := ⟨rfl, rfl, rfl, by decide +kernel, rfl, by decide +kernel, by decide +kernel⟩
def spDeed (K : PySem.W.Frag) : Sp := fun vs H Q _ => ∃ (p fk ld : Addr) (n : Nat) (ds : List Int), vs = [.ref p, .ref fk, .ref ld] ∧ PenAt H p ∧ FolkAt H fk n ∧ 2 ≤ n ∧ n ≤ 6 ∧ H ld = some (.lst (ds.map V.int)) ∧ ld ≠ p ∧ ds.Nodup ∧ ds.length ≤ 1000 ∧
  ∀ a r x (g t : Int) (rs ws : List Int) H', Kp p H H' → PenAt H' p → H' a = some (.tup [.int g, .int t, .ref r, .ref x]) → H' r = some (.tup (rs.map V.int)) → H' x = some (.tup (ws.map V.int)) →
    (0 ≤ g ∧ g < n) → (0 ≤ t ∧ t < n) → g ≠ t → rs.length ≤ 2 → rs.Pairwise (· < ·) → (∀ r ∈ rs, r ∈ ds) → ws.length ≤ 3 → ws.Pairwise (· < ·) → (∀ y ∈ ws, 0 ≤ y ∧ y < n ∧ y ≠ g ∧ y ≠ t) → Q (.ref a) H'
theorem taker_ne {g v : Int} {n : Nat} (h2 : 2 ≤ n) (h6 : n ≤ 6) (hg : 0 ≤ g) (hg' : g < n) (hv : 0 ≤ v) (hv' : v < (n : Int) - 1) : 0 ≤ (g + 1 + v) % (n : Int) ∧ (g + 1 + v) % (n : Int) < n ∧ g ≠ (g + 1 + v) % (n : Int) := by
  have hn : n = 2 ∨ n = 3 ∨ n = 4 ∨ n = 5 ∨ n = 6 := by omega
  rcases hn with rfl | rfl | rfl | rfl | rfl <;> omega
theorem ok_deed {f : Addr} {fd : FuncData} {k : Nat} (F : Fun K "_law_deed" "_law_deed" sDeed f fd) (D : DrawD K mg fDr dDr) (DF : FewD K mg fFe dFe) (B : Bi mg) : FnOk P w K mg base CX0 (k + 3) f fd ["_law_pen_here", "_law_folk_here", "_law_deeds"] (spDeed K) := by
  have G : FnOk P w K mg base CX0 (k + 1) fDr dDr ["_law_pen_here", "_law_bound"] spDraw := ok_draw D.F
  have GF : FnOk P w K mg base CX0 (k + 2) fFe dFe ["_law_pen_here", "_law_some", "_law_most"] (spFew K) := ok_few DF.F D B.range B.min B.tuple B.list B.len B.sorted
  refine F.ok scDeed (fun vs H Q E h => ?_) (fun cdv A outer s H vs Q E hr h => ?_)
  · obtain ⟨p, fk, ld, n, ds, rfl, _⟩ := h
    rfl
  · obtain ⟨p, fk, ld, n, ds, rfl, hP, hF, hn2, hn6, hld, nld, hnd, hdl, q⟩ := h
    have hr1 : Room (k + 1) _ := hr.mono (Nat.le_succ _)
    obtain ⟨xs, hfk, hxl, hps⟩ := id hF
    refine ⟨_, pss_cons (ps_set (i := 3) scDeed.nd rfl (.inr rfl) (pe_call G hr1 (by rfl) D.g D.F.kp D.b .nil pass0 (pa_cons (pv 0) (pa_cons (pe_callB call_len_seq (by rfl) B.len PySem.boot_len (pa_cons (pv 1) pa_nil)) pa_nil))))
      (pss_cons (ps_set (i := 4) scDeed.nd rfl (.inr rfl) (pe_op op_mod (pe_op op_add (pe_op op_add (pv 3) pe_int) (pe_call G hr1 (by rfl) D.g D.F.kp D.b .nil pass0 (pa_cons (pv 0) (pa_cons (pe_op op_sub (pe_callB call_len_seq (by rfl) B.len PySem.boot_len (pa_cons (pv 1) pa_nil)) pe_int) pa_nil)))) (pe_callB call_len_seq (by rfl) B.len PySem.boot_len (pa_cons (pv 1) pa_nil))))
      (pss_cons (ps_setLc (i := 5) (own := [("_law_one", 6)]) (g := gName 6) (by rfl) scDeed.nd rfl rfl (sw_true rfl rfl rfl (by decide +kernel)) (pi_range1 (by rfl) B.range (pa_cons (pe_callB call_len_seq (by rfl) B.len PySem.boot_len (pa_cons (pv 1) pa_nil)) pa_nil)) (blkOk_by (own := [("_law_one", 6)]) (N := nDeed) (sc := defScope sDeed) (by decide +kernel)) (fun _ _ _ _ _ => pg_name (i := 6) scDeed.nd rfl (Or.inl rfl))
          (fun _ _ _ _ _ => pts_one (pt_cmpR (show OpR _ (compareOp .NotIn) (rIn K true) from op_notIn_seq) (pv 6) (pe_tup (pa_cons (pv 3) (pa_cons (pv 4) pa_nil))) (by rfl))) (fun _ _ _ _ _ => pv 6))
      (pss_one (ps_ret (pe_tup (pa_cons (pv 3) (pa_cons (pv 4) (pa_cons (pe_call GF hr (by rfl) DF.g DF.F.kp DF.b .nil pass0 (pa_cons (pv 0) (pa_cons (pv 2) (pa_cons pe_int pa_nil)))) (pa_cons (pe_call GF hr (by rfl) DF.g DF.F.kp DF.b .nil pass0 (pa_cons (pv 0) (pa_cons (pv 5) (pa_cons pe_int pa_nil)))) pa_nil))))))))), ?_⟩
    refine ⟨_, rfl, _, rfl, fk, xs, rfl, .inr (SqT.of hfk), p, _, rfl, hP, by omega, by omega, fun g H1 k1 P1 a1 b1 => ?_⟩
    have hfk1 := k1.tup hP _ _ hfk
    refine ⟨_, rfl, _, _, rfl, rfl, _, rfl, _, rfl, fk, xs, rfl, .inr (SqT.of hfk1), _, _, rfl, rfl, p, _, rfl, P1, by omega, by omega, fun v H2 k2 P2 a2 b2 => ?_⟩
    have hfk2 := k2.tup P1 _ _ hfk1
    refine ⟨_, _, rfl, rfl, _, rfl, fk, xs, rfl, .inr (SqT.of hfk2), _, _, rfl, rfl, by omega, ?_⟩
    rw [hxl] at b1 b2
    obtain ⟨t1, t2, t3⟩ := taker_ne hn2 hn6 a1 b1 a2 b2
    rw [hxl]
    dsimp only
    generalize (g + 1 + v) % (n : Int) = t at t1 t2 t3
    have k12 := k1.trans k2
    refine ⟨_, rfl, fk, xs, rfl, .inr (SqT.of hfk2), _, rfl, by omega, by omega, ?_⟩
    rw [hxl]
    refine fun o no => ?_
    have npo : o ≠ p := P2.free no
    refine lc_range (lo := 0) (n := ((n : Nat) : Int).toNat) (fun i H' => ∃ os : List Int, H' o = some (.lst (os.map V.int)) ∧ Kp p H H' ∧ PenAt H' p ∧ os.length ≤ i ∧ os.Pairwise (· < ·) ∧ ∀ y ∈ os, 0 ≤ y ∧ y < (i : Int) ∧ y ≠ g ∧ y ≠ t)
      ⟨[], upd_same, k12.trans (Kp.new no _), P2.new no _, Nat.le_refl _, .nil, fun _ h => nomatch h⟩ ?_ ?_
    · rintro i H' hi ⟨os, ho, k', P', hol, hup, hall⟩
      refine ⟨rfl, _, rfl, _, rfl, _, rfl, (by show 2 ≤ sizeLine; decide), fun u hu => ?_⟩
      have hu' : (upd H' u (.tup [.int g, .int t])) u = some (.tup [.int g, .int t]) := upd_same
      refine ⟨u, _, rfl, .inr (SqT.of hu'), rfl, rfl, _, rfl, ?_⟩
      have kU : Kp p H' (upd H' u (.tup [.int g, .int t])) := Kp.new hu _
      have hmem : inV (.int (0 + (i : Int))) [.int g, .int t] = decide ((0 + (i : Int)) ∈ [g, t]) := mem_inV (ns := [g, t])
      have ho' := kU _ _ npo ho
      refine ite2 (fun c => ?_) (fun c => ?_)
      · have c' : ¬ ((0 + (i : Int)) ∈ [g, t]) := by
          have c1 : (!inV (.int (0 + (i : Int))) [.int g, .int t]) = true := c
          rw [hmem] at c1
          simpa using c1
        refine ⟨_, rfl, _, ho', small1000 (by rw [List.length_map]; omega), os ++ [0 + (i : Int)], ?_, fun b z n1 e => ?_, ?_, ?_, ?_, ?_⟩
        · rw [upd_same, List.map_append]
          rfl
        · have nb : b ≠ o := fun z' => by
            have e' := k12 _ _ n1 e
            rw [z', no] at e'
            cases e'
          rw [upd_ne nb]
          exact (k'.trans kU) _ _ n1 e
        · obtain ⟨x1, x2, x3, x4, z1, z2⟩ := P'.new hu (.tup [.int g, .int t])
          exact ⟨x1, x2, x3, x4, by rw [upd_ne npo.symm]; exact z1, z2⟩
        · rw [List.length_append]
          show os.length + 1 ≤ i + 1
          omega
        · refine List.pairwise_append.mpr ⟨hup, List.pairwise_singleton _ _, fun x hx y hy => ?_⟩
          rw [List.mem_singleton.mp hy]
          have := hall x hx
          omega
        · intro y hy
          rcases List.mem_append.mp hy with hy | hy
          · have := hall y hy
            refine ⟨this.1, by omega, this.2.2⟩
          · rw [List.mem_singleton.mp hy]
            simp only [List.mem_cons, List.not_mem_nil, or_false, not_or] at c'
            refine ⟨by omega, by omega, c'.1, c'.2⟩
      · exact ⟨os, ho', k'.trans kU, P'.new hu _, by omega, hup, fun y hy => by
          have := hall y hy
          exact ⟨this.1, by omega, this.2.2⟩⟩
    · rintro H' ⟨os, ho, k', P', hol, hup, hall⟩
      refine ⟨_, rfl, _, rfl, ?_⟩
      refine ⟨_, rfl, _, rfl, p, ld, 2, ds, rfl, P', SqL.of (k' _ _ nld hld), by decide, by decide, hdl, fun r rs ls H3 k3 P3 hr3 pm3 up3 ln3 => ?_⟩
      refine ⟨_, rfl, _, rfl, p, o, 3, os, rfl, P3, SqL.of (k3 _ _ npo ho), by decide, by decide, by omega, fun x ws ms H4 k4 P4 hr4 pm4 up4 ln4 => ?_⟩
      refine ⟨(by show 4 ≤ sizeLine; decide), fun a ha => ?_⟩
      have k5 : Kp p H4 (upd H4 a (.tup [.int g, .int t, .ref r, .ref x])) := Kp.new ha _
      have nd3 : rs.Nodup := (List.nodup_append.mp (pm3.nodup_iff.mpr hnd)).1
      have ndo : os.Nodup := hup.imp fun h => by omega
      have nd4 : ws.Nodup := (List.nodup_append.mp (pm4.nodup_iff.mpr ndo)).1
      refine q a r x g t rs ws _ (k'.trans (k3.trans (k4.trans k5))) (P4.new ha _) upd_same (k5.tup P4 _ _ (k4.tup P3 _ _ hr3)) (k5.tup P4 _ _ hr4) ⟨a1, b1⟩ ⟨t1, t2⟩ t3 (by omega) (rising_of nd3 up3) (fun y hy => pm3.mem_iff.mp (List.mem_append_left _ hy)) (by omega) (rising_of nd4 up4) fun y hy => ?_
      have hm := hall y (pm4.mem_iff.mp (List.mem_append_left _ hy))
      exact ⟨hm.1, by omega, hm.2.2⟩
end
end Deed

namespace Deed
open PySem PySem.Spec PyProof.Rows L2
def rLenS (K : PySem.W.Frag) : List V → Hp → VK → Prop := fun xs H Q => ∃ p ys, xs = [.ref p] ∧ (SqL K H p ys ∨ SqT K H p ys) ∧ Q (.int ys.length) H
section
variable {P : Program} {w : World} {K : PySem.W.Frag} {mg : Str → Option Value} {base : Heap} {fDr fFe fDy fDe : Addr} {dDr dFe dDy dDe : FuncData}
abbrev DeedD (K : PySem.W.Frag) (mg : Str → Option Value) := Df K mg "_law_deed" sDeed ["_law_pen_here", "_law_folk_here", "_law_deeds"]
/-! ### an entry -/
abbrev sEntry : Stmt := topS 34
abbrev nEntry : List Str := ["_law_pen_here", "_law_folk_here", "_law_number", "_law_deeds", "_law_acts", "_law_head", "_law_way", "_law_word"]
abbrev pEntry : List Str := ["_law_pen_here", "_law_folk_here", "_law_number", "_law_deeds", "_law_acts"]
theorem scEntry : FnScope nEntry pEntry (defScope sEntry) := ⟨rfl, rfl, rfl, by decide +kernel, rfl, by decide +kernel, by decide +kernel⟩
def spEntry (K : PySem.W.Frag) : Sp := fun vs H Q _ => ∃ (p fk ld la : Addr) (num : Int) (n : Nat) (ds as : List Int), vs = [.ref p, .ref fk, .int num, .ref ld, .ref la] ∧ PenAt H p ∧ FolkAt H fk n ∧ 2 ≤ n ∧ n ≤ 6 ∧ H ld = some (.lst (ds.map V.int)) ∧ ld ≠ p ∧ H la = some (.lst (as.map V.int)) ∧ la ≠ p ∧ ds.Nodup ∧ ds.length ≤ 1000 ∧ as.length ≤ 1000 ∧
  (∀ d ∈ ds, d < num) ∧ (∀ d ∈ as, d < num) ∧ ∀ a (e : En) H', Kp p H H' → PenAt H' p → EntAt H' a e → e.num = num → EnOk n ds as e → Q (.ref a) H'
theorem ok_entry {f : Addr} {fd : FuncData} {k : Nat} (F : Fun K "_law_entry" "_law_entry" sEntry f fd) (D : DrawD K mg fDr dDr) (DF : FewD K mg fFe dFe) (DY : DayD K mg fDy dDy) (DD : DeedD K mg fDe dDe) (B : Bi mg) : FnOk P w K mg base CX0 (k + 4) f fd pEntry (spEntry K) := by
  have G : FnOk P w K mg base CX0 (k + 1) fDr dDr ["_law_pen_here", "_law_bound"] spDraw := ok_draw D.F
  have GY : FnOk P w K mg base CX0 (k + 2) fDy dDy ["_law_pen_here"] spDay := ok_day DY.F D
  have GD : FnOk P w K mg base CX0 (k + 3) fDe dDe ["_law_pen_here", "_law_folk_here", "_law_deeds"] (spDeed K) := ok_deed DD.F D DF B
  refine F.ok scEntry (fun vs H Q E h => ?_) (fun cdv A outer s H vs Q E hr h => ?_)
  · obtain ⟨p, fk, ld, la, num, n, ds, as, rfl, _⟩ := h
    rfl
  · obtain ⟨p, fk, ld, la, num, n, ds, as, rfl, hP, hF, hn2, hn6, hld, nld, hla, nla, hnd, hdl, hal, hdn, han, q⟩ := h
    have hr1 : Room (k + 1) _ := hr.mono (by omega)
    have hr2 : Room (k + 2) _ := hr.mono (by omega)
    refine ⟨_, pss_cons (ps_set (i := 5) scEntry.nd rfl (.inl rfl) (pe_tup (pa_cons (pv 2) (pa_cons (pe_call GY hr2 (by rfl) DY.g DY.F.kp DY.b .nil pass0 (pa_cons (pv 0) pa_nil)) (pa_cons (pe_call GY hr2 (by rfl) DY.g DY.F.kp DY.b .nil pass0 (pa_cons (pv 0) pa_nil)) (pa_cons (pe_call G hr1 (by rfl) D.g D.F.kp D.b .nil pass0 (pa_cons (pv 0) (pa_cons pe_int pa_nil))) pa_nil))))))
      (pss_cons (ps_set (i := 6) scEntry.nd rfl (.inl rfl) (pe_call G hr1 (by rfl) D.g D.F.kp D.b .nil pass0 (pa_cons (pv 0) (pa_cons pe_int pa_nil))))
      (pss_cons (ps_if (PW.pt (pw_or (pt_cmpR (op_eqD hr.units) (pv 3) (pe_lst pa_nil) (nomark _)) (pw_or1 (pt_cmpR op_lt (pv 6) pe_int (nomark _)))))
        (pss_one (ps_ret (pe_op op_catT (pe_op op_catT (pv 5) (pe_tup (pa_cons pe_str pa_nil))) (pe_call GD hr (by rfl) DD.g DD.F.kp DD.b .nil pass0 (pa_cons (pv 0) (pa_cons (pv 1) (pa_cons (pv 3) pa_nil))))))) pss_nil)
      (pss_cons (ps_if (PW.pt (pw_or (pt_cmpR (op_eqD hr.units) (pv 4) (pe_lst pa_nil) (nomark _)) (pw_or1 (pt_cmpR op_lt (pv 6) pe_int (nomark _)))))
        (pss_cons (ps_set (i := 7) scEntry.nd rfl (.inl rfl) (pe_ix ix_list (pe_lst (pa_cons pe_str (pa_cons pe_str pa_nil))) (pe_call G hr1 (by rfl) D.g D.F.kp D.b .nil pass0 (pa_cons (pv 0) (pa_cons pe_int pa_nil))) (fun _ _ => rfl)))
        (pss_one (ps_ret (pe_op op_catT (pv 5) (pe_tup (pa_cons (pv 7) (pa_cons (pe_ix ix_list (pv 3) (pe_call G hr1 (by rfl) D.g D.F.kp D.b .nil pass0 (pa_cons (pv 0) (pa_cons (pe_callB call_len_seq (by rfl) B.len PySem.boot_len (pa_cons (pv 3) pa_nil)) pa_nil))) (fun _ _ => rfl)) pa_nil))))))) pss_nil)
      (pss_one (ps_ret (pe_op op_catT (pv 5) (pe_tup (pa_cons pe_str (pa_cons (pe_ix ix_list (pv 4) (pe_call G hr1 (by rfl) D.g D.F.kp D.b .nil pass0 (pa_cons (pv 0) (pa_cons (pe_callB call_len_seq (by rfl) B.len PySem.boot_len (pa_cons (pv 4) pa_nil)) pa_nil))) (fun _ _ => rfl)) pa_nil))))))))), ?_⟩
    -- head
    refine ⟨_, rfl, _, rfl, p, rfl, hP, fun v1 H1 k1 P1 a1 b1 => ?_⟩
    refine ⟨_, rfl, p, rfl, P1, fun v2 H2 k2 P2 a2 b2 => ?_⟩
    refine ⟨_, rfl, p, 4, rfl, P2, by decide, by decide, fun v3 H3 k3 P3 a3 b3 => ?_⟩
    refine ⟨(by show 4 ≤ sizeLine; decide), fun h hh => ?_⟩
    have kh : Kp p H3 (upd H3 h (.tup [.int num, .int v1, .int v2, .int v3])) := Kp.new hh _
    have Ph := P3.new hh (.tup [.int num, .int v1, .int v2, .int v3])
    have eh : (upd H3 h (.tup [.int num, .int v1, .int v2, .int v3])) h = some (.tup [.int num, .int v1, .int v2, .int v3]) := upd_same
    have kA : Kp p H (upd H3 h (.tup [.int num, .int v1, .int v2, .int v3])) := k1.trans (k2.trans (k3.trans kh))
    generalize (upd H3 h (.tup [.int num, .int v1, .int v2, .int v3])) = Hh at kh Ph eh kA
    -- way
    refine ⟨_, rfl, p, 12, rfl, Ph, by decide, by decide, fun way H4 k4 P4 a4 b4 => ?_⟩
    have kB := kA.trans k4
    have e4 := k4.tup Ph _ _ eh
    -- deeds == []
    refine ⟨_, rfl, Nat.zero_le _, fun z hz => ?_⟩
    have kz : Kp p H4 (upd H4 z (.lst [])) := Kp.new hz _
    have Pz := P4.new hz (.lst [])
    have ez : (upd H4 z (.lst [])) z = some (.lst []) := upd_same
    have ehz := kz.tup P4 _ _ e4
    have kC := kB.trans kz
    generalize (upd H4 z (.lst [])) = Hz at kz Pz ez ehz kC
    refine ⟨.list (ds.map .int), .list (([] : List Int).map .int), .lst (SqL.of (kC _ _ nld hld)) (dp_ints ds), .lst (SqL.of ez) (dp_ints []), shaped_ints ds, shaped_ints [], _, rfl, ?_⟩
    rw [eqv_ints]
    refine ite2 (fun c => ?dw1) (fun c => (⟨_, rfl, _, _, rfl, rfl, _, rfl, ite2 (fun c2 => ?dw2) (fun c2 => ?nx)⟩))
    case nx =>
      have hdne : ds ≠ [] := fun e0 => c (decide_eq_true e0)
      have hdpos : 0 < ds.length := List.length_pos_iff.mpr hdne
      refine ⟨_, rfl, Nat.zero_le _, fun y hy => ?_⟩
      have ky : Kp p Hz (upd Hz y (.lst [])) := Kp.new hy _
      have Py := Pz.new hy (.lst [])
      have ey : (upd Hz y (.lst [])) y = some (.lst []) := upd_same
      have ehy := ky.tup Pz _ _ ehz
      have kD := kC.trans ky
      generalize (upd Hz y (.lst [])) = Hy at ky Py ey ehy kD
      refine ⟨.list (as.map .int), .list (([] : List Int).map .int), .lst (SqL.of (kD _ _ nla hla)) (dp_ints as), .lst (SqL.of ey) (dp_ints []), shaped_ints as, shaped_ints [], _, rfl, ?_⟩
      rw [eqv_ints]
      refine ite2 (fun c3 => ?pv1) (fun c3 => (⟨_, rfl, _, _, rfl, rfl, _, rfl, ite2 (fun c4 => ?pv2) (fun c4 => ?un)⟩))
      case un =>
        have hane : as ≠ [] := fun e0 => c3 (decide_eq_true e0)
        have hapos : 0 < as.length := List.length_pos_iff.mpr hane
        have hml : (as.map V.int).length = as.length := List.length_map _
        refine ⟨_, rfl, _, rfl, _, rfl, _, rfl, la, _, rfl, .inl (SqL.of (kD _ _ nla hla)), p, _, rfl, Py, by omega, by omega, fun i H5 k5 P5 a5 b5 => ?_⟩
        rw [hml] at b5
        have hk : i.toNat < as.length := by omega
        refine ⟨la, _, i, .int as[i.toNat], rfl, rfl, SqL.of ((kD.trans k5) _ _ nla hla), at_of (j := i.toNat) (by omega) (by rw [List.getElem?_map, List.getElem?_eq_getElem hk] <;> rfl), (by show 2 ≤ sizeLine; decide), fun u hu => ?_⟩
        have ku : Kp p H5 (upd H5 u (.tup [.str "undone", .int as[i.toNat]])) := Kp.new hu _
        refine ⟨h, u, _, _, rfl, rfl, SqT.of (ku.tup P5 _ _ (k5.tup Py _ _ ehy)), SqT.of upd_same, List.cons_ne_nil _ _, (by show 6 ≤ sizeLine; decide), fun z0 => absurd z0 (List.cons_ne_nil _ _), fun _ t ht => ?_⟩
        refine q t ⟨num, v1, v2, v3, .act "undone" as[i.toNat]⟩ _ (kD.trans (k5.trans (ku.trans (Kp.new ht _)))) ((P5.new hu _).new ht _) upd_same rfl ?_
        exact ⟨⟨a1, b1⟩, ⟨a2, b2⟩, ⟨a3, by show v3 ≤ 3; omega⟩, .inl ⟨rfl, List.getElem_mem hk⟩, han _ (List.getElem_mem hk)⟩
      all_goals
        refine ⟨(by show 2 ≤ sizeLine; decide), fun m hm => ?_⟩
        refine ⟨_, rfl, p, 2, rfl, Py.new hm _, by decide, by decide, fun v5 H5 k5 P5 a5 b5 => ?_⟩
        obtain ⟨_, g5, x, rfl, hx⟩ := pick (xs := [.str "paid", .str "void"]) (fun y => ∃ x : Str, y = .str x ∧ (x = "paid" ∨ x = "void")) a5 b5 (am1 ⟨_, rfl, .inl rfl⟩ (am1 ⟨_, rfl, .inr rfl⟩ am0))
        refine ⟨m, _, v5, _, rfl, rfl, SqL.of (k5 _ _ (Py.free hm) upd_same), g5, ?_⟩
        have kE := kD.trans ((Kp.new hm _).trans k5)
        have eh5 := k5.tup (Py.new hm _) _ _ ((Kp.new (p := p) hm _).tup Py _ _ ehy)
        have hml : (ds.map V.int).length = ds.length := List.length_map _
        refine ⟨_, rfl, _, rfl, _, rfl, _, rfl, _, rfl, ld, _, rfl, .inl (SqL.of (kE _ _ nld hld)), p, _, rfl, P5, by omega, by omega, fun i H6 k6 P6 a6 b6 => ?_⟩
        rw [hml] at b6
        have hk : i.toNat < ds.length := by omega
        refine ⟨ld, _, i, .int ds[i.toNat], rfl, rfl, SqL.of ((kE.trans k6) _ _ nld hld), at_of (j := i.toNat) (by omega) (by rw [List.getElem?_map, List.getElem?_eq_getElem hk] <;> rfl), (by show 2 ≤ sizeLine; decide), fun u hu => ?_⟩
        have ku : Kp p H6 (upd H6 u (.tup [.str x, .int ds[i.toNat]])) := Kp.new hu _
        refine ⟨h, u, _, _, rfl, rfl, SqT.of (ku.tup P6 _ _ (k6.tup P5 _ _ eh5)), SqT.of upd_same, List.cons_ne_nil _ _, (by show 6 ≤ sizeLine; decide), fun z0 => absurd z0 (List.cons_ne_nil _ _), fun _ t ht => ?_⟩
        refine q t ⟨num, v1, v2, v3, .act x ds[i.toNat]⟩ _ (kE.trans (k6.trans (ku.trans (Kp.new ht _)))) ((P6.new hu _).new ht _) upd_same rfl ?_
        exact ⟨⟨a1, b1⟩, ⟨a2, b2⟩, ⟨a3, by show v3 ≤ 3; omega⟩, .inr ⟨hx, List.getElem_mem hk⟩, hdn _ (List.getElem_mem hk)⟩
    all_goals
      refine ⟨_, rfl, (by show 1 ≤ sizeLine; decide), fun u hu => ?_⟩
      have ku : Kp p Hz (upd Hz u (.tup [.str "deed"])) := Kp.new hu _
      refine ⟨h, u, _, _, rfl, rfl, SqT.of (ku.tup Pz _ _ ehz), SqT.of upd_same, List.cons_ne_nil _ _, (by show 5 ≤ sizeLine; decide), fun z0 => absurd z0 (List.cons_ne_nil _ _), fun _ t ht => ?_⟩
      have Pu := Pz.new hu (.tup [.str "deed"])
      have kt : Kp p (upd Hz u (.tup [.str "deed"])) (upd (upd Hz u (.tup [.str "deed"])) t (.tup ([.int num, .int v1, .int v2, .int v3] ++ [.str "deed"]))) := Kp.new ht _
      have Pt := Pu.new ht (.tup ([.int num, .int v1, .int v2, .int v3] ++ [.str "deed"]))
      have kE := kC.trans (ku.trans kt)
      refine ⟨_, rfl, _, rfl, _, rfl, p, fk, ld, n, ds, rfl, Pt, hF.kp kE hP, hn2, hn6, kE _ _ nld hld, nld, hnd, hdl, fun a r x g tk rs ws H6 k6 P6 ea er ex hg htk hgt hrl hrp hrd hwl hwp hw => ?_⟩
      have et6 := k6.tup Pt _ _ (upd_same (H := upd Hz u (.tup [.str "deed"])) (a := t))
      refine ⟨t, a, _, _, rfl, rfl, SqT.of et6, SqT.of ea, List.cons_ne_nil _ _, (by show 9 ≤ sizeLine; decide), fun z0 => absurd z0 (List.cons_ne_nil _ _), fun _ b hb => ?_⟩
      have kb : Kp p H6 (upd H6 b (.tup (([.int num, .int v1, .int v2, .int v3] ++ [.str "deed"]) ++ [.int g, .int tk, .ref r, .ref x]))) := Kp.new hb _
      refine q b ⟨num, v1, v2, v3, .deed g tk rs ws⟩ _ (kE.trans (k6.trans kb)) (P6.new hb _) ⟨r, x, upd_same, kb.tup P6 _ _ er, kb.tup P6 _ _ ex⟩ rfl ?_
      exact ⟨⟨a1, b1⟩, ⟨a2, b2⟩, ⟨a3, by show v3 ≤ 3; omega⟩, hg, htk, hgt, hrl, hrp, fun y hy => ⟨hrd y hy, hdn _ (hrd y hy)⟩, hwl, hwp, hw⟩
/-! ### in another order -/
abbrev sMixed : Stmt := topS 35
abbrev nMixed : List Str := ["_law_pen_here", "_law_some", "_law_left", "_law_k"]
theorem scMixed : FnScope nMixed ["_law_pen_here", "_law_some"] (defScope sMixed) := ⟨rfl, rfl, rfl, by decide +kernel, rfl, by decide +kernel, by decide +kernel⟩
def spMixed (K : PySem.W.Frag) : Sp := fun vs H Q _ => ∃ (p a : Addr) (xs : List V), vs = [.ref p, .ref a] ∧ PenAt H p ∧ (SqL K H a xs ∨ SqT K H a xs) ∧ xs.length ≤ 1000 ∧
  ∀ l (ys : List V) H', Kp p H H' → PenAt H' p → H l = none → H' l = some (.lst ys) → ys.Perm xs → Q (.ref l) H'
theorem ok_mixed {f : Addr} {fd : FuncData} {k : Nat} (F : Fun K "_law_mixed" "_law_mixed" sMixed f fd) (D : DrawD K mg fDr dDr) (B : Bi mg) : FnOk P w K mg base CX0 (k + 2) f fd ["_law_pen_here", "_law_some"] (spMixed K) := by
  have G : FnOk P w K mg base CX0 (k + 1) fDr dDr ["_law_pen_here", "_law_bound"] spDraw := ok_draw D.F
  refine F.ok scMixed (fun vs H Q E h => ?_) (fun cdv A outer s H vs Q E hr h => ?_)
  · obtain ⟨p, a, xs, rfl, _⟩ := h
    rfl
  · obtain ⟨p, a, xs, rfl, hP, hS, hxl, q⟩ := h
    refine ⟨_, pss_cons (ps_set (i := 2) scMixed.nd rfl (.inr rfl) (pe_callTy call_list_of (by rfl) B.list (by decide +kernel) (pa_cons (pv 1) pa_nil)))
      (pss_one (ps_ret (pe_lc (own := [("_law_k", 3)]) (g := gName 3) (by rfl) scMixed.nd (pi_range1 (by rfl) B.range (pa_cons (pe_callB call_len_seq (by rfl) B.len PySem.boot_len (pa_cons (pv 2) pa_nil)) pa_nil)) (blkOk_by (own := [("_law_k", 3)]) (N := nMixed) (sc := defScope sMixed) (by decide +kernel)) (fun _ _ _ _ _ => pg_name (i := 3) scMixed.nd rfl (Or.inl rfl)) (fun _ _ _ _ _ => pts_nil)
        (fun _ _ _ _ _ => show PE _ _ (tBM K "list" rPopAt (tVar 2) (tCons (tCall spDraw [] E0 (tCons (tVar 0) (tCons (tCB (rLenS K) (tCons (tVar 2) tNil)) tNil))) tNil)) from pe_bm PySem.F.plainAttrs_list PySem.F.slot_list_pop PySem.F.type_list_pop mt_popAt (pv 2) (pa_cons (pe_call G hr (by rfl) D.g D.F.kp D.b .nil pass0 (pa_cons (pv 0) (pa_cons (pe_callB call_len_seq (by rfl) B.len PySem.boot_len (pa_cons (pv 2) pa_nil)) pa_nil))) pa_nil))))), ?_⟩
    refine ⟨_, rfl, a, _, rfl, hS, fun l hl => ?_⟩
    have nl : l ≠ p := hP.free hl
    have el : (upd H l (.lst xs)) l = some (.lst xs) := upd_same
    refine ⟨_, rfl, l, xs, rfl, .inl (SqL.of el), _, rfl, by omega, by omega, fun o no => ?_⟩
    have no' : o ≠ p := (hP.new hl _).free no
    have nlo : l ≠ o := fun z => by
      rw [← z, el] at no
      cases no
    have hno : H o = none := by
      rw [upd_ne nlo.symm] at no
      exact no
    refine lc_range (lo := 0) (n := ((xs.length : Nat) : Int).toNat) (fun i H' => ∃ ys ls : List V, H' o = some (.lst ys) ∧ H' l = some (.lst ls) ∧ Kp p H H' ∧ PenAt H' p ∧ ys.length = i ∧ (ys ++ ls).Perm xs)
      ⟨[], xs, upd_same, by rw [upd_ne nlo]; exact el, (Kp.new hl _).trans (Kp.new no _), (hP.new hl _).new no _, rfl, List.Perm.refl _⟩ ?_ ?_
    · rintro i H' hi ⟨ys, ls, e1, e2, k', P', hyl, hpm⟩
      have hll : ls.length = xs.length - i := by
        have := hpm.length_eq
        rw [List.length_append] at this
        omega
      refine ⟨rfl, ?_⟩
      unfold tYes
      dsimp only
      rw [if_pos rfl]
      refine ⟨_, rfl, .inl ⟨rfl, _, SqL.of e2⟩, _, rfl, _, rfl, l, ls, rfl, .inl (SqL.of e2), p, _, rfl, P', by omega, by omega, fun v2 H2 k2 P2 a2 b2 => ?_⟩
      have e1' := k2 _ _ no' e1
      have e2' := k2 _ _ nl e2
      have hk : v2.toNat < ls.length := by omega
      refine ⟨l, _, v2, v2.toNat, ls[v2.toNat], rfl, rfl, e2', by omega, by omega, seqIx a2 (by omega), List.getElem?_eq_getElem hk, ?_⟩
      refine ⟨ys, by rw [upd_ne nlo.symm]; exact e1', small1000 (by omega), ys ++ [ls[v2.toNat]], ls.eraseIdx v2.toNat, upd_same, by rw [upd_ne nlo, upd_same], fun b z n1 e => ?_, ?_, ?_, ?_⟩
      · rw [upd_ne (ne_of_none e hno), upd_ne (ne_of_none e hl)]
        exact (k'.trans k2) _ _ n1 e
      · obtain ⟨x1, x2, x3, x4, z1, z2⟩ := P2
        exact ⟨x1, x2, x3, x4, by rw [upd_ne no'.symm, upd_ne nl.symm]; exact z1, z2⟩
      · rw [List.length_append, hyl]
        rfl
      · have h1 : (ls[v2.toNat] :: ls.eraseIdx v2.toNat).Perm ls := perm_erase (List.getElem?_eq_getElem hk)
        refine List.Perm.trans ?_ hpm
        rw [List.append_assoc]
        exact List.Perm.append_left ys h1
    · rintro H' ⟨ys, ls, e1, e2, k', P', hyl, hpm⟩
      refine q o ys H' k' P' hno e1 ?_
      have h0 : ls = [] := by
        have := hpm.length_eq
        rw [List.length_append] at this
        exact List.length_eq_zero_iff.mp (by omega)
      rw [h0, List.append_nil] at hpm
      exact hpm
end
end Deed

namespace Deed
open PySem PySem.Spec PyProof.Rows L2
theorem perm_pairs {α β : Type} (f : α → β) {ys xs : List β} (h : ys.Perm xs) : ∀ zs : List α, xs = zs.map f → ∃ zs' : List α, ys = zs'.map f ∧ zs'.Perm zs := by
  induction h with
  | nil =>
    intro zs e
    cases zs with
    | nil => exact ⟨[], rfl, List.Perm.refl _⟩
    | cons z r => cases e
  | cons x _ ih =>
    intro zs e
    cases zs with
    | nil => cases e
    | cons z r =>
      rw [List.map_cons] at e
      injection e with e1 e2
      obtain ⟨zs', h1, h2⟩ := ih r e2
      exact ⟨z :: zs', by rw [List.map_cons, ← h1, e1], h2.cons z⟩
  | swap x y l =>
    intro zs e
    match zs, e with
    | [], e => cases e
    | [_], e => cases e
    | a :: b :: r, e =>
      rw [List.map_cons, List.map_cons] at e
      injection e with e1 e2
      injection e2 with e2 e3
      exact ⟨b :: a :: r, by rw [List.map_cons, List.map_cons, ← e1, ← e2, ← e3], List.Perm.swap _ _ _⟩
  | trans _ _ ih1 ih2 =>
    intro zs e
    obtain ⟨z1, h1, h2⟩ := ih2 zs e
    obtain ⟨z2, h3, h4⟩ := ih1 z1 h1
    exact ⟨z2, h3, h4.trans h2⟩
def dn (es : List En) : List Int := (es.filter (·.isDeed)).map (·.num)
def an (es : List En) : List Int := (es.filter (fun e => !e.isDeed)).map (·.num)
theorem dn_snoc (es : List En) (e : En) : dn (es ++ [e]) = dn es ++ (if e.isDeed then [e.num] else []) := by
  unfold dn
  rw [List.filter_append, List.map_append]
  cases h : e.isDeed <;> simp [List.filter, h]
theorem an_snoc (es : List En) (e : En) : an (es ++ [e]) = an es ++ (if e.isDeed then [] else [e.num]) := by
  unfold an
  rw [List.filter_append, List.map_append]
  cases h : e.isDeed <;> simp [List.filter, h]
theorem dn_sub (es : List En) : ∀ x ∈ dn es, x ∈ es.map (·.num) := fun x hx => by
  obtain ⟨e, he, rfl⟩ := List.mem_map.mp hx
  exact List.mem_map.mpr ⟨e, (List.mem_filter.mp he).1, rfl⟩
theorem an_sub (es : List En) : ∀ x ∈ an es, x ∈ es.map (·.num) := fun x hx => by
  obtain ⟨e, he, rfl⟩ := List.mem_map.mp hx
  exact List.mem_map.mpr ⟨e, (List.mem_filter.mp he).1, rfl⟩
theorem dn_nodup {es : List En} (h : (es.map (fun e => e.num)).Nodup) : (dn es).Nodup := by
  have h1 : (es.filter (fun e => e.isDeed)).Sublist es := List.filter_sublist
  exact (h1.map (fun e => e.num)).nodup h
theorem dn_len (es : List En) : (dn es).length ≤ es.length := by
  unfold dn
  rw [List.length_map]
  exact List.length_filter_le _ _
theorem an_len (es : List En) : (an es).length ≤ es.length := by
  unfold an
  rw [List.length_map]
  exact List.length_filter_le _ _
theorem mem_dn {es : List En} {x : Int} : x ∈ dn es ↔ ∃ e ∈ es, e.isDeed = true ∧ e.num = x := by
  unfold dn
  simp only [List.mem_map, List.mem_filter]
  constructor
  · rintro ⟨e, ⟨h1, h2⟩, h3⟩
    exact ⟨e, h1, h2, h3⟩
  · rintro ⟨e, h1, h2, h3⟩
    exact ⟨e, ⟨h1, h2⟩, h3⟩
theorem mem_an {es : List En} {x : Int} : x ∈ an es ↔ ∃ e ∈ es, e.isDeed = false ∧ e.num = x := by
  unfold an
  simp only [List.mem_map, List.mem_filter, Bool.not_eq_true']
  constructor
  · rintro ⟨e, ⟨h1, h2⟩, h3⟩
    exact ⟨e, h1, h2, h3⟩
  · rintro ⟨e, h1, h2, h3⟩
    exact ⟨e, ⟨h1, h2⟩, h3⟩
/-- entries of a book of n folk -/
structure BkOk (n : Nat) (es : List En) : Prop where
  nd : (es.map (·.num)).Nodup
  rng : ∀ e ∈ es, 0 ≤ e.num ∧ e.num ≤ 30
  ok : ∀ e ∈ es, EnOk n (dn es) (an es) e
theorem BkOk.perm {n : Nat} {es es' : List En} (h : BkOk n es) (p : es'.Perm es) : BkOk n es' := by
  refine ⟨(p.map _).nodup_iff.mpr h.nd, fun e he => h.rng e (p.mem_iff.mp he), fun e he => (h.ok e (p.mem_iff.mp he)).mono (fun x hx => ?_) fun x hx => ?_⟩
  · obtain ⟨e', h1, h2⟩ := mem_dn.mp hx
    exact mem_dn.mpr ⟨e', p.mem_iff.mpr h1, h2⟩
  · obtain ⟨e', h1, h2⟩ := mem_an.mp hx
    exact mem_an.mpr ⟨e', p.mem_iff.mpr h1, h2⟩
def En.word (e : En) : Str := match e.kd with
  | .deed _ _ _ _ => "deed"
  | .act x _ => x
theorem EnOk.word {n : Nat} {ds as : List Int} {e : En} (h : EnOk n ds as e) : e.word = "deed" ↔ e.isDeed = true := by
  unfold En.word En.isDeed
  cases hk : e.kd with
  | deed g t rs ws => simp
  | act x o =>
    have h4 := h.2.2.2
    rw [hk] at h4
    simp only [Bool.false_eq_true, iff_false]
    rcases h4.1 with ⟨z, _⟩ | ⟨z | z, _⟩ <;> rw [z] <;> decide
/-- the first places of an entry -/
theorem EntAt.tup {H : Hp} {a : Addr} {e : En} (h : EntAt H a e) : ∃ xs, H a = some (.tup xs) ∧ atI xs 0 = some (.int e.num) ∧ atI xs 1 = some (.int e.day) ∧ atI xs 2 = some (.int e.wri) ∧ atI xs 3 = some (.int e.hand) ∧ atI xs 4 = some (.str e.word) := by
  unfold EntAt at h
  unfold En.word
  cases hk : e.kd with
  | deed g t rs ws =>
    rw [hk] at h
    obtain ⟨r, w, h1, _⟩ := h
    exact ⟨_, h1, atI_nat (j := 0) rfl, atI_nat (j := 1) rfl, atI_nat (j := 2) rfl, atI_nat (j := 3) rfl, atI_nat (j := 4) rfl⟩
  | act x o =>
    rw [hk] at h
    exact ⟨_, h, atI_nat (j := 0) rfl, atI_nat (j := 1) rfl, atI_nat (j := 2) rfl, atI_nat (j := 3) rfl, atI_nat (j := 4) rfl⟩
theorem FolkAt.kpT {H H' : Hp} {t : Addr} {n : Nat} (h : FolkAt H t n) (k : KpT H H') : FolkAt H' t n := by
  obtain ⟨xs, h1, h2, h3⟩ := h
  refine ⟨xs, k _ _ h1, h2, fun x hx => ?_⟩
  obtain ⟨a, b, d, e, h4, r⟩ := h3 x hx
  exact ⟨a, b, d, e, k _ _ h4, r⟩
theorem KpT.lst {H : Hp} {l : Addr} {xs : List V} (e : H l = some (.lst xs)) (o : HO) : KpT H (upd H l o) := fun b ys h => by
  have nb : b ≠ l := fun z => by
    rw [z, e] at h
    cases h
  rw [upd_ne nb]
  exact h
theorem KpT.refl (H : Hp) : KpT H H := fun _ _ h => h
theorem Kp.over {p l : Addr} {H H' : Hp} (k : Kp p H H') (n : H l = none) (o : HO) : Kp p H (upd H' l o) := fun b u n1 e => by
  rw [upd_ne (ne_of_none e n)]
  exact k _ _ n1 e
theorem PenAt.put {p l : Addr} {H : Hp} (h : PenAt H p) (n : l ≠ p) (o : HO) : PenAt (upd H l o) p := by
  obtain ⟨x1, x2, x3, x4, z1, z2⟩ := h
  exact ⟨x1, x2, x3, x4, by rw [upd_ne n.symm]; exact z1, z2⟩
abbrev refs (zs : List (Addr × En)) : List V := zs.map fun z => .ref z.1
abbrev ens (zs : List (Addr × En)) : List En := zs.map (·.2)
/-- a book at b -/
structure BookAt (H : Hp) (b fk t : Addr) (n : Nat) (age : Int) (zs : List (Addr × En)) : Prop where
  at_ : H b = some (.tup [.ref fk, .int age, .ref t])
  folk : FolkAt H fk n
  n2 : 2 ≤ n
  n6 : n ≤ 6
  age0 : 0 ≤ age
  age1 : age ≤ 9999
  ents : H t = some (.tup (refs zs))
  ent : ∀ z ∈ zs, EntAt H z.1 z.2
  ok : BkOk n (ens zs)
  len : zs.length ≤ 16
theorem BookAt.kp {H H' : Hp} {b fk t : Addr} {n : Nat} {age : Int} {zs : List (Addr × En)} (h : BookAt H b fk t n age zs) (k : KpT H H') : BookAt H' b fk t n age zs :=
  ⟨k _ _ h.at_, h.folk.kpT k, h.n2, h.n6, h.age0, h.age1, k _ _ h.ents, fun z hz => (h.ent z hz).kp k, h.ok, h.len⟩
section
variable {P : Program} {w : World} {K : PySem.W.Frag} {mg : Str → Option Value} {base : Heap} {fDr fFe fDy fDe fEn fFo fMi : Addr} {dDr dFe dDy dDe dEn dFo dMi : FuncData}
abbrev EntryD (K : PySem.W.Frag) (mg : Str → Option Value) := Df K mg "_law_entry" sEntry pEntry
abbrev FolkD (K : PySem.W.Frag) (mg : Str → Option Value) := Df K mg "_law_folk" sFolk ["_law_pen_here", "_law_least"]
abbrev MixedD (K : PySem.W.Frag) (mg : Str → Option Value) := Df K mg "_law_mixed" sMixed ["_law_pen_here", "_law_some"]
/-! ### a book -/
abbrev sBook : Stmt := topS 36
abbrev nBook : List Str := ["_law_pen_here", "_law_most", "_law_folk_here", "_law_number", "_law_deeds", "_law_acts", "_law_found", "_law_k", "_law_entry_here"]
theorem scBook : FnScope nBook ["_law_pen_here", "_law_most"] (defScope sBook) := ⟨rfl, rfl, rfl, by decide +kernel, rfl, by decide +kernel, by decide +kernel⟩
def spBook : Sp := fun vs H Q _ => ∃ (p : Addr) (most : Int), vs = [.ref p, .int most] ∧ PenAt H p ∧ 0 ≤ most ∧ most ≤ 16 ∧
  ∀ b fk t n age zs H', Kp p H H' → PenAt H' p → BookAt H' b fk t n age zs → (zs.length : Int) ≤ most → Q (.ref b) H'
theorem ok_book {f : Addr} {fd : FuncData} {k : Nat} (F : Fun K "_law_book" "_law_book" sBook f fd) (D : DrawD K mg fDr dDr) (DF : FewD K mg fFe dFe) (DY : DayD K mg fDy dDy) (DD : DeedD K mg fDe dDe) (DE : EntryD K mg fEn dEn) (DO : FolkD K mg fFo dFo) (DM : MixedD K mg fMi dMi) (B : Bi mg) :
    FnOk P w K mg base CX0 (k + 5) f fd ["_law_pen_here", "_law_most"] spBook := by
  have G : FnOk P w K mg base CX0 (k + 1) fDr dDr ["_law_pen_here", "_law_bound"] spDraw := ok_draw D.F
  have GE : FnOk P w K mg base CX0 (k + 4) fEn dEn pEntry (spEntry K) := ok_entry DE.F D DF DY DD B
  have GO : FnOk P w K mg base CX0 (k + 2) fFo dFo ["_law_pen_here", "_law_least"] spFolk := ok_folk DO.F D B.range B.min B.tuple
  have GM : FnOk P w K mg base CX0 (k + 2) fMi dMi ["_law_pen_here", "_law_some"] (spMixed K) := ok_mixed DM.F D B
  refine F.ok scBook (fun vs H Q E h => ?_) (fun cdv A outer s H vs Q E hr h => ?_)
  · obtain ⟨p, m, rfl, _⟩ := h
    rfl
  · obtain ⟨p, most, rfl, hP, hm0, hm1, q⟩ := h
    have hr1 : Room (k + 1) _ := hr.mono (by omega)
    have hr2 : Room (k + 2) _ := hr.mono (by omega)
    refine ⟨_, pss_cons (ps_par (i := 2) (j := 3) (by rfl) scBook.nd rfl rfl (by decide) rfl rfl (pa_cons (pe_call GO hr2 (by rfl) DO.g DO.F.kp DO.b .nil pass0 (pa_cons (pv 0) (pa_cons pe_int pa_nil))) (pa_cons (pe_call G hr1 (by rfl) D.g D.F.kp D.b .nil pass0 (pa_cons (pv 0) (pa_cons pe_int pa_nil))) pa_nil)) (by rfl))
      (pss_cons (ps_par3 (i := 4) (j := 5) (l := 6) (by rfl) scBook.nd rfl rfl rfl (by decide) (by decide) (by decide) rfl rfl rfl (pa_cons (pe_lst pa_nil) (pa_cons (pe_lst pa_nil) (pa_cons (pe_lst pa_nil) pa_nil))) (by rfl))
      (pss_cons (ps_for PassesOwn.never rfl (pi_range1 rfl B.range (pa_cons (pe_call G hr1 (by rfl) D.g D.F.kp D.b .nil pass0 (pa_cons (pv 0) (pa_cons (pe_op op_add (pv 1) pe_int) pa_nil))) pa_nil)) (pg_name (i := 7) scBook.nd rfl (.inl rfl))
        (pss_cons (ps_set (i := 8) scBook.nd rfl (.inl rfl) (pe_call GE hr (by rfl) DE.g DE.F.kp DE.b .nil pass0 (pa_cons (pv 0) (pa_cons (pv 2) (pa_cons (pv 3) (pa_cons (pv 4) (pa_cons (pv 5) pa_nil)))))))
        (pss_cons (ps_expr (pe_bm PySem.F.plainAttrs_list PySem.F.slot_list_append PySem.F.type_list_append mt_append (pv 6) (pa_cons (pv 8) pa_nil)))
        (pss_cons (ps_if (pt_cmpR op_eq (pe_ix ix_tup (pv 8) pe_int (fun _ _ => rfl)) pe_str (nomark _))
            (pss_one (ps_expr (pe_bm PySem.F.plainAttrs_list PySem.F.slot_list_append PySem.F.type_list_append mt_append (pv 4) (pa_cons (pv 3) pa_nil))))
            (pss_one (ps_expr (pe_bm PySem.F.plainAttrs_list PySem.F.slot_list_append PySem.F.type_list_append mt_append (pv 5) (pa_cons (pv 3) pa_nil)))))
        (pss_one (ps_set (i := 3) scBook.nd rfl (.inl rfl) (pe_op op_add (pe_op op_add (pv 3) pe_int) (pe_ix ix_list (pe_lst (pa_cons pe_int (pa_cons (pe_call G hr1 (by rfl) D.g D.F.kp D.b .nil pass0 (pa_cons (pv 0) (pa_cons pe_int pa_nil))) pa_nil))) (pe_callTy call_int1 (by rfl) B.int (by decide +kernel) (pa_cons (pe_cmpR op_lt (pv 3) (pe_op op_add pe_int (pv 7)) (nomark _)) pa_nil)) (fun _ _ => rfl)))))))))
      (pss_one (ps_ret (pe_tup (pa_cons (pv 2) (pa_cons (pe_call G hr1 (by rfl) D.g D.F.kp D.b .nil pass0 (pa_cons (pv 0) (pa_cons pe_int pa_nil))) (pa_cons (pe_callTy call_tuple_of (by rfl) B.tuple (by decide +kernel) (pa_cons (pe_call GM hr2 (by rfl) DM.g DM.F.kp DM.b .nil pass0 (pa_cons (pv 0) (pa_cons (pv 6) pa_nil))) pa_nil)) pa_nil)))))))), ?_⟩
    refine ⟨_, rfl, p, 2, rfl, hP, by decide, by decide, fun fk n H1 k1 P1 F1 hn2 hn6 => ?_⟩
    have hn2' : 2 ≤ n := by omega
    refine ⟨_, rfl, p, 3, rfl, P1, by decide, by decide, fun num0 H2 k2 P2 a2 b2 => ⟨_, _, rfl, ?_⟩⟩
    have F2 := F1.kp k2 P1
    have k12 := k1.trans k2
    refine ⟨Nat.zero_le _, fun ld hld => ?_⟩
    have nld : ld ≠ p := P2.free hld
    have hldH : H ld = none := by
      cases z : H ld with
      | none => rfl
      | some o => rw [k12 _ _ nld z] at hld; cases hld
    refine ⟨Nat.zero_le _, fun la hla => ?_⟩
    have Pd := P2.new hld (.lst [])
    have nla : la ≠ p := Pd.free hla
    have nda : ld ≠ la := fun z => by
      rw [← z, upd_same] at hla
      cases hla
    have hlaH : H la = none := by
      cases z : H la with
      | none => rfl
      | some o =>
        rw [upd_ne nda.symm, k12 _ _ nla z] at hla
        cases hla
    refine ⟨Nat.zero_le _, fun lf hlf => ⟨_, _, _, rfl, ?_⟩⟩
    have Pa := Pd.new hla (.lst [])
    have nlf : lf ≠ p := Pa.free hlf
    have naf : la ≠ lf := fun z => by
      rw [← z, upd_same] at hlf
      cases hlf
    have ndf : ld ≠ lf := fun z => by
      rw [← z, upd_ne nda, upd_same] at hlf
      cases hlf
    have hlfH : H lf = none := by
      cases z : H lf with
      | none => rfl
      | some o =>
        rw [upd_ne naf.symm, upd_ne ndf.symm, k12 _ _ nlf z] at hlf
        cases hlf
    have k3 : Kp p H2 (upd (upd (upd H2 ld (.lst [])) la (.lst [])) lf (.lst [])) := ((Kp.new hld _).trans (Kp.new hla _)).trans (Kp.new hlf _)
    have P3 := Pa.new hlf (.lst [])
    have e3d : (upd (upd (upd H2 ld (.lst [])) la (.lst [])) lf (.lst [])) ld = some (.lst []) := by rw [upd_ne ndf, upd_ne nda, upd_same]
    have e3a : (upd (upd (upd H2 ld (.lst [])) la (.lst [])) lf (.lst [])) la = some (.lst []) := by rw [upd_ne naf, upd_same]
    have e3f : (upd (upd (upd H2 ld (.lst [])) la (.lst [])) lf (.lst [])) lf = some (.lst []) := upd_same
    generalize (upd (upd (upd H2 ld (.lst [])) la (.lst [])) lf (.lst [])) = H3 at k3 P3 e3d e3a e3f
    refine ⟨_, rfl, _, rfl, _, _, rfl, rfl, p, most + 1, rfl, P3, by omega, by omega, fun many H4 k4 P4 a4 b4 => ?_⟩
    refine ⟨_, rfl, by omega, by omega, ?_⟩
    refine for_range (lo := 0) (n := many.toNat) (fun i σ H' => ∃ y7 y8, ∃ (num : Int) (zs : List (Addr × En)), σ = [some (.ref p), some (.int most), some (.ref fk), some (.int num), some (.ref ld), some (.ref la), some (.ref lf), y7, y8] ∧ Kp p H H' ∧ PenAt H' p ∧ FolkAt H' fk n ∧
        H' ld = some (.lst ((dn (ens zs)).map V.int)) ∧ H' la = some (.lst ((an (ens zs)).map V.int)) ∧ H' lf = some (.lst (refs zs)) ∧ (∀ z ∈ zs, EntAt H' z.1 z.2) ∧ zs.length = i ∧ BkOk n (ens zs) ∧ (∀ e ∈ ens zs, e.num < num) ∧ 0 ≤ num ∧ num ≤ 15 + (i : Int))
      ⟨none, none, num0, [], rfl, k12.trans (k3.trans k4), P4, (F2.kp k3 P2).kp k4 P3, k4 _ _ nld e3d, k4 _ _ nla e3a, k4 _ _ nlf e3f, (fun _ h => nomatch h), rfl, ⟨List.nodup_nil, (fun _ h => nomatch h), (fun _ h => nomatch h)⟩, (fun _ h => nomatch h), a2, by omega⟩ ?_ ?_
    · rintro i σ H' hi ⟨y7, y8, num, zs, rfl, k', P', F', ed, ea, ef, hent, hlen, hok, hlt, hn0, hn1⟩
      have hel : (ens zs).length = i := by rw [List.length_map, hlen]
      have hdl := dn_len (ens zs)
      have hal := an_len (ens zs)
      -- entry_here
      refine ⟨_, rfl, _, rfl, _, rfl, _, rfl, _, rfl, p, fk, ld, la, num, n, dn (ens zs), an (ens zs), rfl, P', F', hn2', hn6, ed, nld, ea, nla, dn_nodup hok.nd, by omega, by omega, fun d hd => ?_, fun d hd => ?_, fun a e H5 k5 P5 E5 hnum hEn => ?_⟩
      · obtain ⟨e, he, rfl⟩ := List.mem_map.mp (dn_sub _ _ hd)
        exact hlt e he
      · obtain ⟨e, he, rfl⟩ := List.mem_map.mp (an_sub _ _ hd)
        exact hlt e he
      have kT5 := k5.tup P'
      have ed5 := k5 _ _ nld ed
      have ea5 := k5 _ _ nla ea
      have ef5 := k5 _ _ nlf ef
      -- found.append
      refine ⟨_, rfl, .inl ⟨rfl, _, SqL.of ef5⟩, _, rfl, lf, _, _, rfl, rfl, ef5, small1000 (by rw [List.length_map]; omega), ?_⟩
      have kT6 := KpT.lst ef5 (.lst (refs zs ++ [.ref a]))
      have P6 := P5.put nlf (.lst (refs zs ++ [.ref a]))
      have k6 := (k'.trans k5).over hlfH (.lst (refs zs ++ [.ref a]))
      have ed6 := (show (upd H5 lf (.lst (refs zs ++ [.ref a]))) ld = H5 ld from upd_ne ndf).trans ed5
      have ea6 := (show (upd H5 lf (.lst (refs zs ++ [.ref a]))) la = H5 la from upd_ne naf).trans ea5
      have ef6 := (show (upd H5 lf (.lst (refs zs ++ [.ref a]))) lf = some (.lst (refs zs ++ [.ref a])) from upd_same)
      have E6 := E5.kp kT6
      have hent6 : ∀ z ∈ zs, EntAt (upd H5 lf (.lst (refs zs ++ [.ref a]))) z.1 z.2 := fun z hz => ((hent z hz).kp kT5).kp kT6
      have F6 := (F'.kpT kT5).kpT kT6
      generalize (upd H5 lf (.lst (refs zs ++ [.ref a]))) = H6 at kT6 P6 k6 ed6 ea6 ef6 E6 hent6 F6
      obtain ⟨xs6, ex6, _, _, _, _, g4⟩ := E6.tup
      refine ⟨_, rfl, a, xs6, 4, _, rfl, rfl, SqT.of ex6, g4, rfl, _, rfl, ?_⟩
      have okE : BkOk n (ens zs ++ [e]) := by
        have hd : ∀ x ∈ dn (ens zs), x ∈ dn (ens zs ++ [e]) := fun x hx => by rw [dn_snoc]; exact List.mem_append_left _ hx
        have ha : ∀ x ∈ an (ens zs), x ∈ an (ens zs ++ [e]) := fun x hx => by rw [an_snoc]; exact List.mem_append_left _ hx
        refine ⟨?_, fun e' he' => ?_, fun e' he' => ?_⟩
        · rw [List.map_append]
          refine List.nodup_append.mpr ⟨hok.nd, List.pairwise_singleton _ _, fun x hx y hy => ?_⟩
          obtain ⟨e', he', rfl⟩ := List.mem_map.mp hx
          have hy' : y = e.num := by simpa using hy
          rw [hy', hnum]
          exact Int.ne_of_lt (hlt e' he')
        · rcases List.mem_append.mp he' with he' | he'
          · exact hok.rng e' he'
          · rw [List.mem_singleton.mp he', hnum]
            omega
        · rcases List.mem_append.mp he' with he' | he'
          · exact (hok.ok e' he').mono hd ha
          · rw [List.mem_singleton.mp he']
            exact hEn.mono hd ha
      have wd := hEn.word
      -- the last row of a turn
      refine ite2 (fun c => ?deed) (fun c => ?act)
      case deed =>
        have hd : e.isDeed = true := wd.mp (by
          have := of_decide_eq_true c
          injection this)
        refine ⟨_, rfl, .inl ⟨rfl, _, SqL.of ed6⟩, _, rfl, ld, _, _, rfl, rfl, ed6, small1000 (by rw [List.length_map]; omega), ?_⟩
        have kT7 := KpT.lst ed6 (.lst ((dn (ens zs)).map V.int ++ [.int num]))
        have P7 := P6.put nld (.lst ((dn (ens zs)).map V.int ++ [.int num]))
        have k7 := k6.over hldH (.lst ((dn (ens zs)).map V.int ++ [.int num]))
        have ea7 := (show (upd H6 ld (.lst ((dn (ens zs)).map V.int ++ [.int num]))) la = H6 la from upd_ne nda.symm).trans ea6
        have ef7 := (show (upd H6 ld (.lst ((dn (ens zs)).map V.int ++ [.int num]))) lf = H6 lf from upd_ne ndf.symm).trans ef6
        have ed7 := (show (upd H6 ld (.lst ((dn (ens zs)).map V.int ++ [.int num]))) ld = some (.lst ((dn (ens zs)).map V.int ++ [.int num])) from upd_same)
        have E7 := E6.kp kT7
        have F7 := F6.kpT kT7
        have hent7 : ∀ z ∈ zs, EntAt (upd H6 ld (.lst ((dn (ens zs)).map V.int ++ [.int num]))) z.1 z.2 := fun z hz => (hent6 z hz).kp kT7
        generalize (upd H6 ld (.lst ((dn (ens zs)).map V.int ++ [.int num]))) = H7 at kT7 P7 k7 ea7 ef7 ed7 E7 F7 hent7
        have dn7 : dn (ens zs) ++ [num] = dn (ens (zs ++ [(a, e)])) := by
          rw [show ens (zs ++ [(a, e)]) = ens zs ++ [e] by simp [ens], dn_snoc, if_pos hd, hnum]
        have an7 : an (ens zs) = an (ens (zs ++ [(a, e)])) := by
          rw [show ens (zs ++ [(a, e)]) = ens zs ++ [e] by simp [ens], an_snoc, if_pos hd, List.append_nil]
        refine ⟨_, rfl, _, _, rfl, rfl, ?_⟩
        refine ⟨_, rfl, p, 2, rfl, P7, by decide, by decide, fun v8 H8 k8 P8 a8 b8 => ?_⟩
        refine ⟨(by show 2 ≤ sizeLine; decide), fun m hm => ?_⟩
        refine ⟨_, rfl, _, rfl, _, _, rfl, rfl, _, _, rfl, rfl, .inr ⟨_, rfl, ?_⟩⟩
        have kM : Kp p H8 (upd H8 m (.lst [.int 0, .int v8])) := Kp.new hm _
        have eM : (upd H8 m (.lst [.int 0, .int v8])) m = some (.lst [.int 0, .int v8]) := upd_same
        have PM := P8.new hm (.lst [.int 0, .int v8])
        generalize (upd H8 m (.lst [.int 0, .int v8])) = H9 at kM eM PM
        have k9 := k8.trans kM
        have kT9 : KpT H7 H9 := k9.tup P7
        obtain ⟨dv, gv, hv⟩ : ∃ dv : Int, atI [V.int 0, V.int v8] (if decide (num < 14 + (0 + (i : Int))) then 1 else 0) = some (.int dv) ∧ 0 ≤ dv ∧ num + 1 + dv ≤ 15 + ((i : Int) + 1) := by
          by_cases hc : num < 14 + (0 + (i : Int))
          · rw [decide_eq_true hc]
            exact ⟨v8, atI_nat (j := 1) rfl, a8, by omega⟩
          · rw [decide_eq_false hc]
            exact ⟨0, atI_nat (j := 0) rfl, by omega, by omega⟩
        refine ⟨m, _, _, _, rfl, rfl, SqL.of eM, gv, _, _, rfl, rfl, ?_⟩
        refine ⟨_, _, num + 1 + dv, zs ++ [(a, e)], rfl, k7.trans k9, PM, F7.kpT kT9, ?_, ?_, ?_, fun z hz => ?_, ?_, ?_, fun e' he' => ?_, ?_, ?_⟩
        · rw [← dn7]
          refine (k9 _ _ nld ed7).trans ?_
          simp
        · rw [← an7]
          refine (k9 _ _ nla ea7).trans ?_
          simp
        · refine (k9 _ _ nlf ef7).trans ?_
          simp [refs]
        · rcases List.mem_append.mp hz with hz | hz
          · exact (hent7 z hz).kp kT9
          · rw [List.mem_singleton.mp hz]
            exact E7.kp kT9
        · rw [List.length_append, hlen]
          rfl
        · rw [show ens (zs ++ [(a, e)]) = ens zs ++ [e] by simp [ens]]
          exact okE
        · rw [show ens (zs ++ [(a, e)]) = ens zs ++ [e] by simp [ens]] at he'
          rcases List.mem_append.mp he' with he' | he'
          · have := hlt e' he'
            omega
          · rw [List.mem_singleton.mp he', hnum]
            omega
        · omega
        · omega
      case act =>
        have hd : e.isDeed = false := by
          cases hh : e.isDeed with
          | false => rfl
          | true =>
            refine absurd (decide_eq_true ?_) c
            rw [wd.mpr hh]
        refine ⟨_, rfl, .inl ⟨rfl, _, SqL.of ea6⟩, _, rfl, la, _, _, rfl, rfl, ea6, small1000 (by rw [List.length_map]; omega), ?_⟩
        have kT7 := KpT.lst ea6 (.lst ((an (ens zs)).map V.int ++ [.int num]))
        have P7 := P6.put nla (.lst ((an (ens zs)).map V.int ++ [.int num]))
        have k7 := k6.over hlaH (.lst ((an (ens zs)).map V.int ++ [.int num]))
        have ed7 := (show (upd H6 la (.lst ((an (ens zs)).map V.int ++ [.int num]))) ld = H6 ld from upd_ne nda).trans ed6
        have ef7 := (show (upd H6 la (.lst ((an (ens zs)).map V.int ++ [.int num]))) lf = H6 lf from upd_ne naf.symm).trans ef6
        have ea7 := (show (upd H6 la (.lst ((an (ens zs)).map V.int ++ [.int num]))) la = some (.lst ((an (ens zs)).map V.int ++ [.int num])) from upd_same)
        have E7 := E6.kp kT7
        have F7 := F6.kpT kT7
        have hent7 : ∀ z ∈ zs, EntAt (upd H6 la (.lst ((an (ens zs)).map V.int ++ [.int num]))) z.1 z.2 := fun z hz => (hent6 z hz).kp kT7
        generalize (upd H6 la (.lst ((an (ens zs)).map V.int ++ [.int num]))) = H7 at kT7 P7 k7 ea7 ef7 ed7 E7 F7 hent7
        have dn7 : dn (ens zs) = dn (ens (zs ++ [(a, e)])) := by
          rw [show ens (zs ++ [(a, e)]) = ens zs ++ [e] by simp [ens], dn_snoc, hd]
          simp
        have an7 : an (ens zs) ++ [num] = an (ens (zs ++ [(a, e)])) := by
          rw [show ens (zs ++ [(a, e)]) = ens zs ++ [e] by simp [ens], an_snoc, hd, hnum]
          simp
        refine ⟨_, rfl, _, _, rfl, rfl, ?_⟩
        refine ⟨_, rfl, p, 2, rfl, P7, by decide, by decide, fun v8 H8 k8 P8 a8 b8 => ?_⟩
        refine ⟨(by show 2 ≤ sizeLine; decide), fun m hm => ?_⟩
        refine ⟨_, rfl, _, rfl, _, _, rfl, rfl, _, _, rfl, rfl, .inr ⟨_, rfl, ?_⟩⟩
        have kM : Kp p H8 (upd H8 m (.lst [.int 0, .int v8])) := Kp.new hm _
        have eM : (upd H8 m (.lst [.int 0, .int v8])) m = some (.lst [.int 0, .int v8]) := upd_same
        have PM := P8.new hm (.lst [.int 0, .int v8])
        generalize (upd H8 m (.lst [.int 0, .int v8])) = H9 at kM eM PM
        have k9 := k8.trans kM
        have kT9 : KpT H7 H9 := k9.tup P7
        obtain ⟨dv, gv, hv⟩ : ∃ dv : Int, atI [V.int 0, V.int v8] (if decide (num < 14 + (0 + (i : Int))) then 1 else 0) = some (.int dv) ∧ 0 ≤ dv ∧ num + 1 + dv ≤ 15 + ((i : Int) + 1) := by
          by_cases hc : num < 14 + (0 + (i : Int))
          · rw [decide_eq_true hc]
            exact ⟨v8, atI_nat (j := 1) rfl, a8, by omega⟩
          · rw [decide_eq_false hc]
            exact ⟨0, atI_nat (j := 0) rfl, by omega, by omega⟩
        refine ⟨m, _, _, _, rfl, rfl, SqL.of eM, gv, _, _, rfl, rfl, ?_⟩
        refine ⟨_, _, num + 1 + dv, zs ++ [(a, e)], rfl, k7.trans k9, PM, F7.kpT kT9, ?_, ?_, ?_, fun z hz => ?_, ?_, ?_, fun e' he' => ?_, ?_, ?_⟩
        · rw [← dn7]
          refine (k9 _ _ nld ed7).trans ?_
          simp
        · rw [← an7]
          refine (k9 _ _ nla ea7).trans ?_
          simp
        · refine (k9 _ _ nlf ef7).trans ?_
          simp [refs]
        · rcases List.mem_append.mp hz with hz | hz
          · exact (hent7 z hz).kp kT9
          · rw [List.mem_singleton.mp hz]
            exact E7.kp kT9
        · rw [List.length_append, hlen]
          rfl
        · rw [show ens (zs ++ [(a, e)]) = ens zs ++ [e] by simp [ens]]
          exact okE
        · rw [show ens (zs ++ [(a, e)]) = ens zs ++ [e] by simp [ens]] at he'
          rcases List.mem_append.mp he' with he' | he'
          · have := hlt e' he'
            omega
          · rw [List.mem_singleton.mp he', hnum]
            omega
        · omega
        · omega
    · rintro σ H' ⟨y7, y8, num, zs, rfl, k', P', F', ed, ea, ef, hent, hlen, hok, hlt, hn0, hn1⟩
      refine ⟨_, rfl, _, rfl, p, 30, rfl, P', by decide, by decide, fun age H5 k5 P5 a5 b5 => ?_⟩
      refine ⟨_, rfl, _, rfl, p, lf, refs zs, rfl, P5, .inl (SqL.of (k5 _ _ nlf ef)), by rw [List.length_map]; omega, fun l ys H6 k6 P6 nl el hpm => ?_⟩
      refine ⟨l, ys, rfl, .inl ⟨SqL.of el, fun t ht => ?_⟩⟩
      have k7 : Kp p H6 (upd H6 t (.tup ys)) := Kp.new ht _
      have P7 := P6.new ht (.tup ys)
      refine ⟨(by show 3 ≤ sizeLine; decide), fun b hb => ?_⟩
      have k8 : Kp p (upd H6 t (.tup ys)) (upd (upd H6 t (.tup ys)) b (.tup [.ref fk, .int age, .ref t])) := Kp.new hb _
      obtain ⟨zs', hy, hz⟩ := perm_pairs (fun z : Addr × En => V.ref z.1) hpm zs rfl
      have kT : KpT H' (upd (upd H6 t (.tup ys)) b (.tup [.ref fk, .int age, .ref t])) := (k5.tup P').trans ((k6.tup P5).trans ((k7.tup P6).trans (k8.tup P7)))
      have hlen' : zs'.length = zs.length := hz.length_eq
      refine q b fk t n age zs' _ (k'.trans (k5.trans (k6.trans (k7.trans k8)))) (P7.new hb _) ⟨upd_same, F'.kpT kT, hn2', hn6, a5, by omega, ?_, fun z hz' => (hent z (hz.mem_iff.mp hz')).kp kT, hok.perm (hz.map _), by omega⟩ (by omega)
      refine k8.tup P7 _ _ ?_
      rw [upd_same, hy]
end
end Deed

namespace Deed
theorem take_more {α : Type} {l : List α} {i : Nat} {x : α} (h : l[i]? = some x) : l.take (i + 1) = l.take i ++ [x] := by
  rw [List.take_add_one, h]
  rfl
end Deed

namespace Deed
open PySem PySem.Spec PyProof.Rows L2 LamX
/-! ### rules whose reading names K; a def that may be called; comprehensions at large -/
theorem ix_tupK {X : Cx} {K : PySem.W.Frag} (h : X.K = K) : IxR X (rIxT K) := h ▸ ix_tup
theorem ix_listK {X : Cx} {K : PySem.W.Frag} (h : X.K = K) : IxR X (rIxL K) := h ▸ ix_list
theorem in_seqK {X : Cx} {K : PySem.W.Frag} (h : X.K = K) : OpR X (compareOp .In) (rIn K false) := h ▸ op_in_seq
theorem notIn_seqK {X : Cx} {K : PySem.W.Frag} (h : X.K = K) : OpR X (compareOp .NotIn) (rIn K true) := h ▸ op_notIn_seq
theorem len_seqK {X : Cx} {K : PySem.W.Frag} (h : X.K = K) : CallR X (.builtin "len") (rLenS K) := h ▸ call_len_seq
structure CallOk (P : Program) (w : World) (K : PySem.W.Frag) (mg : Str → Option Value) (base : Heap) (L : Nat) (x : Str) (ps : List Str) (sp : Sp) where
  f : Addr
  fd : FuncData
  g : mg x = some (.ref f)
  kp : PySem.W.keepIn K (.ref f) = true
  b : Binds K fd ps []
  ok : FnOk P w K mg base CX0 L f fd ps sp
def CallOk.mono {P : Program} {w : World} {K : PySem.W.Frag} {mg : Str → Option Value} {base : Heap} {L L' : Nat} {x : Str} {ps : List Str} {sp : Sp} (c : CallOk P w K mg base L x ps sp) (h : L ≤ L') : CallOk P w K mg base L' x ps sp := ⟨c.f, c.fd, c.g, c.kp, c.b, c.ok.mono h⟩
def Df.call {P : Program} {w : World} {K : PySem.W.Frag} {mg : Str → Option Value} {base : Heap} {L : Nat} {x : Str} {st : Stmt} {ps : List Str} {f : Addr} {fd : FuncData} {sp : Sp} (D : Df K mg x st ps f fd) (G : FnOk P w K mg base CX0 L f fd ps sp) : CallOk P w K mg base L x ps sp := ⟨f, fd, D.g, D.F.kp, D.b, G⟩
theorem nodup_len : ∀ {l m : List Int}, l.Nodup → (∀ x ∈ l, x ∈ m) → l.length ≤ m.length
  | [], m, _, _ => Nat.zero_le _
  | a :: r, m, h, hs => by
    rw [List.nodup_cons] at h
    have ha := hs a List.mem_cons_self
    have h1 := nodup_len (l := r) (m := m.erase a) h.2 fun x hx => by
      have hne : x ≠ a := fun z => h.1 (z ▸ hx)
      exact (List.mem_erase_of_ne hne).mpr (hs x (List.mem_cons_of_mem _ hx))
    rw [List.length_erase_of_mem ha] at h1
    have := List.length_pos_of_mem ha
    rw [List.length_cons]
    omega
theorem none_back {H H' : Hp} {p : Addr} (s : Same H H') (n : H' p = none) : H p = none := by
  cases h : H p with
  | none => rfl
  | some o => rw [s _ _ h] at n; cases n
theorem same_refl (H : Hp) : Same H H := fun _ _ e => e
theorem take_filter {α : Type} {p : α → Bool} {ys : List α} {i : Nat} {y : α} (h : ys[i]? = some y) : (ys.take (i + 1)).filter p = (ys.take i).filter p ++ (if p y then [y] else []) := by
  rw [take_more h, List.filter_append]
  congr 1
  cases hp : p y <;> simp [hp]
section
variable {J : It} {n : Nat} {G : Hp → Prop} {Y : Nat → Hp → V → Hp → Prop} {g : TG} {tt : TT} {te : TE} {vs : List Nat} {σ : L2.St} {H1 : Hp} {D : Addr} {Qd : Hp → Prop} {α : Type}
abbrev LcGoal (J : It) (g : TG) (tt : TT) (te : TE) (vs : List Nat) (σ : L2.St) (H1 : Hp) (D : Addr) (Qd : Hp → Prop) : Prop :=
  ∃ W : Nat → Nat → Hp → Prop, (∃ m, W 0 m (upd H1 D (.lst []))) ∧ ∀ i m H, W i m H →
      (J.stop i H ∧ Qd H) ∨ (J.go i H ∧ ∃ Nx : Hp → Prop, (∀ H', Nx H' → ∃ m', m' < m ∧ W (i + 1) m' H') ∧ ∀ x H', J.yld i H x H' → g x (wipe σ vs) H' fun σ2 H2 => wipe σ2 vs = wipe σ vs ∧ tt σ2 H2 fun b H3 =>
        if b = true then te σ2 H3 fun y H4 => ∃ acc, H4 D = some (.lst acc) ∧ acc.length < sizeLine ∧ Nx (upd H4 D (.lst (acc ++ [y]))) else Nx H3)
/-- at large: St a step of the heap, In what holds of it, E what holds of an item -/
theorem lc_gen (w : Walk J n G Y) (ys : List α) (p : α → Bool) (In : Hp → Prop) (Sp1 : Hp → Hp → Prop) (E : Hp → α → V → Prop) (hn : ys.length = n) (hlen : ys.length ≤ 1000) (h0 : In (upd H1 D (.lst []))) (hG : ∀ H, In H → G H)
    (hSt : ∀ H H', In H → Sp1 H H' → In H' ∧ ∀ xs, H D = some (.lst xs) → H' D = some (.lst xs)) (hPut : ∀ H xs l, In H → H D = some (.lst xs) → In (upd H D (.lst l)))
    (hE : ∀ H H' y u, In H → Sp1 H H' → E H y u → E H' y u) (hEp : ∀ H xs l y u, In H → H D = some (.lst xs) → E H y u → E (upd H D (.lst l)) y u)
    (hs : ∀ i y x H H', ys[i]? = some y → In H → Y i H x H' → ∀ (Q1 : V → Hp → Prop) (Q0 : Hp → Prop), (p y = true → ∀ u H4, Sp1 H H4 → E H4 y u → Q1 u H4) → (p y = false → ∀ H3, Sp1 H H3 → Q0 H3) →
      g x (wipe σ vs) H' fun σ2 H2 => wipe σ2 vs = wipe σ vs ∧ tt σ2 H2 fun b H3 => if b = true then te σ2 H3 Q1 else Q0 H3)
    (hd : ∀ H (zs : List (V × α)), In H → H D = some (.lst (zs.map (·.1))) → zs.map (·.2) = ys.filter p → (∀ z ∈ zs, E H z.2 z.1) → Qd H) : LcGoal J g tt te vs σ H1 D Qd := by
  refine lc_it w (fun i H => In H ∧ ∃ zs : List (V × α), H D = some (.lst (zs.map (·.1))) ∧ zs.map (·.2) = (ys.take i).filter p ∧ ∀ z ∈ zs, E H z.2 z.1) ⟨h0, [], upd_same, rfl, fun _ h => nomatch h⟩ (fun i H _ h => hG H h.1) ?_ ?_
  · rintro i x H H' hi ⟨hI, zs, eD, ez, hz⟩ hY
    rw [← hn] at hi
    have hy : ys[i]? = some ys[i] := List.getElem?_eq_getElem hi
    have hzl : zs.length ≤ 1000 := by
      have h1 := congrArg List.length ez
      rw [List.length_map] at h1
      have h2 := List.length_filter_le p (ys.take i)
      rw [List.length_take] at h2
      omega
    refine hs i ys[i] x H H' hy hI hY _ _ (fun hp u H4 s4 e4 => ?_) (fun hp H3 s3 => ?_)
    · obtain ⟨I4, k4⟩ := hSt _ _ hI s4
      have eD4 := k4 _ eD
      refine ⟨_, eD4, small1000 (by rw [List.length_map]; omega), hPut _ _ _ I4 eD4, zs ++ [(u, ys[i])], ?_, ?_, fun z hzz => ?_⟩
      · rw [upd_same, List.map_append]
        rfl
      · rw [List.map_append, ez, take_filter hy, hp]
        rfl
      · rcases List.mem_append.mp hzz with h | h
        · exact hEp _ _ _ _ _ I4 eD4 (hE _ _ _ _ hI s4 (hz z h))
        · rw [List.mem_singleton.mp h]
          exact hEp _ _ _ _ _ I4 eD4 e4
    · obtain ⟨I3, k3⟩ := hSt _ _ hI s3
      refine ⟨I3, zs, k3 _ eD, ?_, fun z hzz => hE _ _ _ _ hI s3 (hz z hzz)⟩
      rw [ez, take_filter hy, hp]
      simp
  · rintro H ⟨hI, zs, eD, ez, hz⟩
    rw [← hn, List.take_length] at ez
    exact hd H zs hI eD ez hz
theorem same_put {H H1 : Hp} {D : Addr} (nD : H1 D = none) (s : Same H1 H) (o : HO) : Same H1 (upd H D o) := fun b u e => by
  rw [upd_ne (ne_of_none e nD)]
  exact s _ _ e
theorem same_new {H : Hp} {p : Addr} (n : H p = none) (o : HO) : Same H (upd H p o) := fun b u e => by rw [upd_ne (ne_of_none e n)]; exact e
/-- values; nothing but the new list is otherwise -/
theorem lc_sameV (w : Walk J n G Y) (ys : List α) (p : α → Bool) (v : α → V) (hn : ys.length = n) (hlen : ys.length ≤ 1000) (nD : H1 D = none) (hG : ∀ H, Same H1 H → G H)
    (hs : ∀ i y x H H', ys[i]? = some y → Same H1 H → Y i H x H' → ∀ (Q1 : V → Hp → Prop) (Q0 : Hp → Prop), (p y = true → ∀ H4, Same H H4 → Q1 (v y) H4) → (p y = false → ∀ H3, Same H H3 → Q0 H3) →
      g x (wipe σ vs) H' fun σ2 H2 => wipe σ2 vs = wipe σ vs ∧ tt σ2 H2 fun b H3 => if b = true then te σ2 H3 Q1 else Q0 H3)
    (hd : ∀ H, Same H1 H → H D = some (.lst ((ys.filter p).map v)) → Qd H) : LcGoal J g tt te vs σ H1 D Qd := by
  refine lc_gen w ys p (fun H => Same H1 H) Same (fun _ y u => u = v y) hn hlen (same_new nD _) hG (fun H H' h1 h2 => ⟨h1.trans h2, fun xs e => h2 _ _ e⟩) (fun H xs l h1 _ => same_put nD h1 _) (fun _ _ _ _ _ _ e => e) (fun _ _ _ _ _ _ _ e => e) (fun i y x H H' hy h1 hY Q1 Q0 q1 q0 => ?_) (fun H zs h1 e ez hz => ?_)
  · exact hs i y x H H' hy h1 hY Q1 Q0 (fun hp H4 s4 => q1 hp _ H4 s4 rfl) q0
  · refine hd H h1 ?_
    rw [e, ← ez, List.map_map]
    congr 2
    exact List.map_congr_left fun z hzz => hz z hzz
theorem lc_sameM (w : Walk J n G Y) (ys : List α) (v : α → V) (hn : ys.length = n) (hlen : ys.length ≤ 1000) (nD : H1 D = none) (hG : ∀ H, Same H1 H → G H)
    (hs : ∀ i y x H H', ys[i]? = some y → Same H1 H → Y i H x H' → ∀ (Q1 : V → Hp → Prop), (∀ H4, Same H H4 → Q1 (v y) H4) → g x (wipe σ vs) H' fun σ2 H2 => wipe σ2 vs = wipe σ vs ∧ te σ2 H2 Q1)
    (hd : ∀ H, Same H1 H → H D = some (.lst (ys.map v)) → Qd H) : LcGoal J g tYes te vs σ H1 D Qd := by
  refine lc_sameV w ys (fun _ => true) v hn hlen nD hG (fun i y x H H' hy h1 hY Q1 Q0 q1 q0 => ?_) (fun H h1 e => hd H h1 (by rw [e, List.filter_eq_self.mpr fun _ _ => rfl]))
  exact hs i y x H H' hy h1 hY Q1 (fun H4 s4 => q1 rfl H4 s4)
/-- new tuples -/
theorem lc_sameT (w : Walk J n G Y) (ys : List α) (p : α → Bool) (v : α → List V) (hn : ys.length = n) (hlen : ys.length ≤ 1000) (nD : H1 D = none) (hG : ∀ H, Same H1 H → G H)
    (hs : ∀ i y x H H', ys[i]? = some y → Same H1 H → Y i H x H' → ∀ (Q1 : V → Hp → Prop) (Q0 : Hp → Prop), (p y = true → ∀ t H4, Same H H4 → H4 t = some (.tup (v y)) → Q1 (.ref t) H4) → (p y = false → ∀ H3, Same H H3 → Q0 H3) →
      g x (wipe σ vs) H' fun σ2 H2 => wipe σ2 vs = wipe σ vs ∧ tt σ2 H2 fun b H3 => if b = true then te σ2 H3 Q1 else Q0 H3)
    (hd : ∀ H (zs : List (Addr × α)), Same H1 H → H D = some (.lst (zs.map fun z => .ref z.1)) → zs.map (·.2) = ys.filter p → (∀ z ∈ zs, H z.1 = some (.tup (v z.2))) → Qd H) : LcGoal J g tt te vs σ H1 D Qd := by
  refine lc_gen w ys p (fun H => Same H1 H) Same (fun H y u => ∃ t, u = .ref t ∧ H t = some (.tup (v y))) hn hlen (same_new nD _) hG (fun H H' h1 h2 => ⟨h1.trans h2, fun xs e => h2 _ _ e⟩) (fun H xs l h1 _ => same_put nD h1 _) (fun H H' y u _ h2 e => ?_) (fun H xs l y u h1 h2 e => ?_) (fun i y x H H' hy h1 hY Q1 Q0 q1 q0 => ?_) (fun H zs h1 e ez hz => ?_)
  · obtain ⟨t, e1, e2⟩ := e
    exact ⟨t, e1, h2 _ _ e2⟩
  · obtain ⟨t, e1, e2⟩ := e
    refine ⟨t, e1, ?_⟩
    rw [upd_ne fun z => by rw [z, h2] at e2; cases e2]
    exact e2
  · exact hs i y x H H' hy h1 hY Q1 Q0 (fun hp t H4 s4 e4 => q1 hp _ H4 s4 ⟨t, rfl, e4⟩) q0
  · have key : ∀ zs : List (V × α), (∀ z ∈ zs, ∃ t, z.1 = .ref t ∧ H t = some (.tup (v z.2))) → ∃ ws : List (Addr × α), zs.map (·.1) = ws.map (fun z => V.ref z.1) ∧ ws.map (·.2) = zs.map (·.2) ∧ ∀ z ∈ ws, H z.1 = some (.tup (v z.2)) := by
      intro zs
      induction zs with
      | nil => exact fun _ => ⟨[], rfl, rfl, fun _ h => nomatch h⟩
      | cons z r ih =>
        intro h
        obtain ⟨ws, a1, a2, a3⟩ := ih fun x hx => h x (List.mem_cons_of_mem _ hx)
        obtain ⟨t, e1, e2⟩ := h z List.mem_cons_self
        refine ⟨(t, z.2) :: ws, ?_, ?_, fun x hx => ?_⟩
        · rw [List.map_cons, List.map_cons, a1, e1]
        · rw [List.map_cons, List.map_cons, a2]
        · rcases List.mem_cons.mp hx with h | h
          · rw [h]
            exact e2
          · exact a3 x h
    obtain ⟨ws, a1, a2, a3⟩ := key zs hz
    exact hd H ws h1 (by rw [e, a1]) (by rw [a2, ez]) a3
end
end Deed

namespace Deed
open PySem PySem.Spec PyProof.Rows L2 LamX
/-! tuples put together and cut, whatever they are: what follows is shown once -/
theorem catA_same {K : PySem.W.Frag} {H : Hp} {a b : Addr} {xs ys : List V} {Q : VK} (ha : H a = some (.tup xs)) (hb : H b = some (.tup ys)) (hl : xs.length + ys.length ≤ 1000) (q : ∀ t H', Same H H' → H' t = some (.tup (xs ++ ys)) → Q (.ref t) H') : rCatA K (.ref a) (.ref b) H Q := by
  refine ⟨a, b, xs, ys, rfl, rfl, SqT.of ha, SqT.of hb, Nat.le_of_lt (small1000 hl), fun e => ?_, fun _ e => ?_, fun _ _ p np => q p _ (same_new np _) upd_same⟩
  · subst e
    exact q b H (same_refl _) hb
  · subst e
    exact q a H (same_refl _) (by rw [List.append_nil]; exact ha)
theorem slA_same {K : PySem.W.Frag} {H : Hp} {a : Addr} {xs : List V} {lo hi : Option Int} {Q : VK} (ha : H a = some (.tup xs)) (q : ∀ t H', Same H H' → H' t = some (.tup (cutV xs lo hi)) → Q (.ref t) H') : rSlA K (.ref a) lo hi H Q := by
  refine ⟨a, xs, rfl, SqT.of ha, fun e => ?_, fun _ p np => q p _ (same_new np _) upd_same⟩
  refine q a H (same_refl _) ?_
  rw [ha]
  unfold cutV
  rw [e.1, e.2, List.drop_zero, Nat.sub_zero, List.take_length]
end Deed

namespace Deed
open PySem PySem.Spec PyProof.Rows L2 LamX
/-! ### a thing of whatever kind, as data -/
theorem Kp.noneG {p q : Addr} {H H' : Hp} (k : Kp p H H') (n : q ≠ p) (h : H' q = none) : H q = none := by
  cases e : H q with
  | none => rfl
  | some o => rw [k _ _ n e] at h; cases h
inductive Tg where
  | non | bl (b : Bool) | int (i : Int) | str (x : Str) | lst | tup (ts : List Tg) | dct
mutual
inductive TgAt (p : Addr) (H : Hp) : V → Tg → Prop
  | non : TgAt p H .non .non
  | bl (b : Bool) : TgAt p H (.bl b) (.bl b)
  | int (i : Int) : TgAt p H (.int i) (.int i)
  | str (x : Str) : TgAt p H (.str x) (.str x)
  | lst {a : Addr} {xs : List V} : a ≠ p → H a = some (.lst xs) → TgAt p H (.ref a) .lst
  | tup {a : Addr} {xs : List V} {ts : List Tg} : H a = some (.tup xs) → TgAll p H xs ts → TgAt p H (.ref a) (.tup ts)
  | dct {a : Addr} {kvs : List (Key × V)} : a ≠ p → H a = some (.dK kvs) → TgAt p H (.ref a) .dct
inductive TgAll (p : Addr) (H : Hp) : List V → List Tg → Prop
  | nil : TgAll p H [] []
  | cons {v : V} {vs : List V} {t : Tg} {ts : List Tg} : TgAt p H v t → TgAll p H vs ts → TgAll p H (v :: vs) (t :: ts)
end
section
variable {p : Addr} {H H' : Hp} {K : PySem.W.Frag}
mutual
theorem TgAt.kp (k : Kp p H H') (P : PenAt H p) : ∀ (t : Tg) (v : V), TgAt p H v t → TgAt p H' v t
  | .non, _, h => by cases h; exact .non
  | .bl _, _, h => by cases h; exact .bl _
  | .int _, _, h => by cases h; exact .int _
  | .str _, _, h => by cases h; exact .str _
  | .lst, _, h => by
    cases h with
    | lst n e => exact .lst n (k _ _ n e)
  | .tup ts, _, h => by
    cases h with
    | tup e ha => exact .tup (k.tup P _ _ e) (TgAll.kp k P ts _ ha)
  | .dct, _, h => by
    cases h with
    | dct n e => exact .dct n (k _ _ n e)
theorem TgAll.kp (k : Kp p H H') (P : PenAt H p) : ∀ (ts : List Tg) (vs : List V), TgAll p H vs ts → TgAll p H' vs ts
  | [], _, h => by cases h; exact .nil
  | t :: ts, _, h => by
    cases h with
    | cons h1 h2 => exact .cons (TgAt.kp k P t _ h1) (TgAll.kp k P ts _ h2)
end
mutual
theorem TgAt.same (k : Same H H') : ∀ (t : Tg) (v : V), TgAt p H v t → TgAt p H' v t
  | .non, _, h => by cases h; exact .non
  | .bl _, _, h => by cases h; exact .bl _
  | .int _, _, h => by cases h; exact .int _
  | .str _, _, h => by cases h; exact .str _
  | .lst, _, h => by
    cases h with
    | lst n e => exact .lst n (k _ _ e)
  | .tup ts, _, h => by
    cases h with
    | tup e ha => exact .tup (k _ _ e) (TgAll.same k ts _ ha)
  | .dct, _, h => by
    cases h with
    | dct n e => exact .dct n (k _ _ e)
theorem TgAll.same (k : Same H H') : ∀ (ts : List Tg) (vs : List V), TgAll p H vs ts → TgAll p H' vs ts
  | [], _, h => by cases h; exact .nil
  | t :: ts, _, h => by
    cases h with
    | cons h1 h2 => exact .cons (TgAt.same k t _ h1) (TgAll.same k ts _ h2)
end
mutual
/-- a list that changes stays a list -/
theorem TgAt.relist {M : Addr} {xs ys : List V} (e : H M = some (.lst xs)) : ∀ (t : Tg) (v : V), TgAt p H v t → TgAt p (upd H M (.lst ys)) v t
  | .non, _, h => by cases h; exact .non
  | .bl _, _, h => by cases h; exact .bl _
  | .int _, _, h => by cases h; exact .int _
  | .str _, _, h => by cases h; exact .str _
  | .lst, _, h => by
    cases h with
    | @lst a zs n e' =>
      by_cases ha : a = M
      · subst ha
        exact .lst n upd_same
      · exact .lst n (by rw [upd_ne ha]; exact e')
  | .tup ts, _, h => by
    cases h with
    | tup e' ha => exact .tup (by rw [upd_ne fun z => by rw [z, e] at e'; cases e']; exact e') (TgAll.relist e ts _ ha)
  | .dct, _, h => by
    cases h with
    | dct n e' => exact .dct n (by rw [upd_ne fun z => by rw [z, e] at e'; cases e']; exact e')
theorem TgAll.relist {M : Addr} {xs ys : List V} (e : H M = some (.lst xs)) : ∀ (ts : List Tg) (vs : List V), TgAll p H vs ts → TgAll p (upd H M (.lst ys)) vs ts
  | [], _, h => by cases h; exact .nil
  | t :: ts, _, h => by
    cases h with
    | cons h1 h2 => exact .cons (TgAt.relist e t _ h1) (TgAll.relist e ts _ h2)
end
theorem TgAll.length : ∀ {vs : List V} {ts : List Tg}, TgAll p H vs ts → vs.length = ts.length
  | _, [], h => by cases h; rfl
  | _, t :: ts, h => by
    cases h with
    | cons h1 h2 => rw [List.length_cons, List.length_cons, TgAll.length h2]
theorem TgAll.get : ∀ {vs : List V} {ts : List Tg} {i : Nat} {v : V}, TgAll p H vs ts → vs[i]? = some v → ∃ t, ts[i]? = some t ∧ TgAt p H v t
  | _, [], i, v, h, e => by
    cases h
    cases e
  | _, t :: ts, i, v, h, e => by
    cases h with
    | cons h1 h2 =>
      cases i with
      | zero =>
        injection e with e
        subst e
        exact ⟨t, rfl, h1⟩
      | succ i => exact TgAll.get (i := i) h2 (by simpa using e)
theorem TgAll.append : ∀ {vs : List V} {ts : List Tg} {vs' : List V} {ts' : List Tg}, TgAll p H vs ts → TgAll p H vs' ts' → TgAll p H (vs ++ vs') (ts ++ ts')
  | _, [], _, _, h, h' => by
    cases h
    exact h'
  | _, t :: ts, _, _, h, h' => by
    cases h with
    | cons h1 h2 => exact .cons h1 (TgAll.append h2 h')
theorem TgAll.take : ∀ {vs : List V} {ts : List Tg} (n : Nat), TgAll p H vs ts → TgAll p H (vs.take n) (ts.take n)
  | _, _, 0, _ => .nil
  | _, [], n + 1, h => by
    cases h
    exact .nil
  | _, t :: ts, n + 1, h => by
    cases h with
    | cons h1 h2 => exact .cons h1 (TgAll.take n h2)
theorem TgAll.drop : ∀ {vs : List V} {ts : List Tg} (n : Nat), TgAll p H vs ts → TgAll p H (vs.drop n) (ts.drop n)
  | _, _, 0, h => h
  | _, [], n + 1, h => by
    cases h
    exact .nil
  | _, t :: ts, n + 1, h => by
    cases h with
    | cons h1 h2 => exact TgAll.drop n h2
theorem TgAll.reverse : ∀ {vs : List V} {ts : List Tg}, TgAll p H vs ts → TgAll p H vs.reverse ts.reverse
  | _, [], h => by
    cases h
    exact .nil
  | _, t :: ts, h => by
    cases h with
    | cons h1 h2 =>
      rw [List.reverse_cons, List.reverse_cons]
      exact (TgAll.reverse h2).append (.cons h1 .nil)
theorem TgAll.cut {vs : List V} {ts : List Tg} (h : TgAll p H vs ts) (lo hi : Option Int) : ∃ ts', TgAll p H (cutV vs lo hi) ts' := ⟨_, (h.drop _).take _⟩
theorem TgAll.rep {vs : List V} {ts : List Tg} (h : TgAll p H vs ts) : ∀ k : Nat, TgAll p H (List.replicate k vs).flatten (List.replicate k ts).flatten
  | 0 => .nil
  | k + 1 => by
    rw [List.replicate_succ, List.replicate_succ, List.flatten_cons, List.flatten_cons]
    exact h.append (h.rep k)
theorem TgAll.ints : ∀ ns : List Int, TgAll p H (ns.map V.int) (ns.map Tg.int)
  | [] => .nil
  | n :: r => .cons (.int n) (TgAll.ints r)
theorem TgAll.mk {vs : List V} (h : ∀ v ∈ vs, ∃ t, TgAt p H v t) : ∃ ts, TgAll p H vs ts := by
  induction vs with
  | nil => exact ⟨[], .nil⟩
  | cons v r ih =>
    obtain ⟨t, ht⟩ := h v List.mem_cons_self
    obtain ⟨ts, hts⟩ := ih fun x hx => h x (List.mem_cons_of_mem _ hx)
    exact ⟨t :: ts, .cons ht hts⟩
theorem TgAll.mem {vs : List V} {ts : List Tg} (h : TgAll p H vs ts) {v : V} (hv : v ∈ vs) : ∃ t, t ∈ ts ∧ TgAt p H v t := by
  obtain ⟨i, hi, e⟩ := List.mem_iff_getElem.mp hv
  obtain ⟨t, ht, hat⟩ := h.get (i := i) (by rw [List.getElem?_eq_getElem hi, e])
  exact ⟨t, List.mem_of_getElem? ht, hat⟩
theorem TgAt.knd {v : V} {t : Tg} (h : TgAt p H v t) : Knd H v := by
  cases h with
  | non => exact .non
  | bl b => exact .bl b
  | int i => exact .int i
  | str x => exact .str x
  | lst _ e => exact .lst e
  | tup e _ => exact .tup e
  | dct _ e => exact .dct e
def Tg.ty : Tg → String
  | .non => "NoneType" | .bl _ => "bool" | .int _ => "int" | .str _ => "str" | .lst => "list" | .tup _ => "tuple" | .dct => "dict"
theorem TgAt.ty {v : V} {t : Tg} (h : TgAt p H v t) : TyX K H v (.type t.ty) := by
  cases h with
  | non => exact .base .non
  | bl b => exact .base (.bl b)
  | int i => exact .base (.int i)
  | str x => exact .base (.str x)
  | lst _ e => exact .base (.lst e)
  | tup e _ => exact .base (.tup e)
  | dct _ e => exact .base (.dK e)
def Tg.isI : Tg → Bool | .int _ => true | .bl _ => true | _ => false
def Tg.isB : Tg → Bool | .bl _ => true | _ => false
def Tg.isT : Tg → Bool | .tup _ => true | _ => false
def Tg.isS : Tg → Bool | .str _ => true | _ => false
def Tg.isL : Tg → Bool | .lst => true | _ => false
theorem Tg.kI (t : Tg) : kitB t.ty "int" = some t.isI := by cases t <;> (simp only [Tg.ty, Tg.isI]; decide +kernel)
theorem Tg.kB (t : Tg) : kitB t.ty "bool" = some t.isB := by cases t <;> (simp only [Tg.ty, Tg.isB]; decide +kernel)
theorem Tg.kT (t : Tg) : kitB t.ty "tuple" = some t.isT := by cases t <;> (simp only [Tg.ty, Tg.isT]; decide +kernel)
theorem Tg.kS (t : Tg) : kitB t.ty "str" = some t.isS := by cases t <;> (simp only [Tg.ty, Tg.isS]; decide +kernel)
theorem Tg.kL (t : Tg) : kitB t.ty "list" = some t.isL := by cases t <;> (simp only [Tg.ty, Tg.isL]; decide +kernel)
theorem TgAt.tupOf {v : V} {t : Tg} (h : TgAt p H v t) (ht : t.isT = true) : ∃ a xs ts, v = .ref a ∧ t = .tup ts ∧ H a = some (.tup xs) ∧ TgAll p H xs ts := by
  cases h with
  | tup e ha => exact ⟨_, _, _, rfl, rfl, e, ha⟩
  | _ => cases ht
end
end Deed

namespace Deed
open PySem PySem.Spec PyProof.Rows L2 LamX
section
variable {P : Program} {w : World} {K : PySem.W.Frag} {mg : Str → Option Value} {base : Heap}
abbrev CDrw (P : Program) (w : World) (K : PySem.W.Frag) (mg : Str → Option Value) (base : Heap) (k : Nat) := CallOk P w K mg base k "_law_draw" ["_law_pen_here", "_law_bound"] spDraw
abbrev sLThing : Stmt := topS 37
abbrev nLThing : List Str := ["_law_pen_here", "_law_deep", "_law_way", "_law_parts", "_law_k"]
abbrev pLThing : List Str := ["_law_pen_here", "_law_deep"]
theorem scLThing : FnScope nLThing pLThing (defScope sLThing) := ⟨rfl, rfl, rfl, by decide +kernel, rfl, by decide +kernel, by decide +kernel⟩
def spLThing (n : Nat) : Sp := fun vs H Q _ => ∃ (p : Addr) (deep : Int), vs = [.ref p, .int deep] ∧ PenAt H p ∧ 0 ≤ deep ∧ deep < n ∧ ∀ v H', Kp p H H' → PenAt H' p → (∃ t, TgAt p H' v t) → Q v H'
theorem ok_LThing {f : Addr} {fd : FuncData} {k : Nat} (D : Df K mg "_law_thing" sLThing pLThing f fd) (cDr : ∀ n, CDrw P w K mg base (k + n)) (m_range : mg "range" = none) (m_tuple : mg "tuple" = none) : ∀ n : Nat, FnOk P w K mg base CX0 (k + n + 1) f fd pLThing (spLThing n)
  | 0 => by
    refine D.F.ok scLThing (fun vs H Q E h => ?_) (fun cdv A outer s H vs Q E hr h => ?_)
    · obtain ⟨p, deep, rfl, _⟩ := h
      rfl
    · obtain ⟨p, deep, rfl, _, h0, h1, _⟩ := h
      omega
  | n + 1 => by
    have C__law_thing : CallOk P w K mg base (k + (n + 1)) "_law_thing" pLThing (spLThing n) := D.call (ok_LThing D cDr m_range m_tuple n)
    have C__law_draw := cDr (n + 1)
    refine D.F.ok scLThing (fun vs H Q E h => ?_) (fun cdv A outer s H vs Q E hr h => ?_)
    · obtain ⟨p, deep, rfl, _⟩ := h
      rfl
    · obtain ⟨p, deep, rfl, hP, h0, h1, q⟩ := h
      have nd := scLThing.nd
      refine ⟨_, pss_cons (ps_set (i := 2) nd rfl (.inl rfl) (pe_call C__law_draw.ok hr (by rfl) C__law_draw.g C__law_draw.kp C__law_draw.b .nil pass0 (pa_cons (pv 0) (pa_cons pe_int pa_nil))))
      (pss_cons (ps_if (PW.pt (pw_or (pt_cmpR op_lt (pv 2) pe_int (nomark _)) (pw_or1 (pt_cmpR op_eq (pv 1) pe_int (nomark _))))) (pss_one (ps_ret (pe_ix ix_list (pe_lst (pa_cons pe_non (pa_cons pe_bl (pa_cons pe_bl (pa_cons pe_int (pa_cons pe_int (pa_cons (pe_un un_neg pe_int) (pa_cons pe_int (pa_cons (pe_op op_pow pe_int pe_int) (pa_cons pe_str (pa_cons pe_str (pa_cons (pe_tup pa_nil) (pa_cons (pe_lst pa_nil) pa_nil))))))))))))) (pe_call C__law_draw.ok hr (by rfl) C__law_draw.g C__law_draw.kp C__law_draw.b .nil pass0 (pa_cons (pv 0) (pa_cons pe_int pa_nil))) (fun _ _ => rfl)))) pss_nil)
      (pss_cons (ps_setLc (i := 3) (own := [("_law_k", 4)]) (g := gName 4) (by rfl) nd rfl rfl (sw_true rfl rfl rfl (by decide +kernel)) (pi_range1 rfl m_range (pa_cons (pe_call C__law_draw.ok hr (by rfl) C__law_draw.g C__law_draw.kp C__law_draw.b .nil pass0 (pa_cons (pv 0) (pa_cons pe_int pa_nil))) pa_nil)) (blkOk_by (own := [("_law_k", 4)]) (N := nLThing) (sc := defScope sLThing) (by decide +kernel)) (fun _ _ _ _ _ => (pg_name (i := 4) nd rfl (.inl rfl))) (fun _ _ _ _ _ => pts_nil)
          (fun _ _ _ _ _ => (pe_call C__law_thing.ok hr (by rfl) C__law_thing.g C__law_thing.kp C__law_thing.b .nil pass0 (pa_cons (pv 0) (pa_cons (pe_op op_sub (pv 1) pe_int) pa_nil)))))
      (pss_cons (ps_if (pt_cmpR op_eq (pv 2) pe_int (nomark _)) (pss_one (ps_ret (pv 3))) pss_nil)
      (pss_cons (ps_if (pt_cmpR op_eq (pv 2) pe_int (nomark _)) (pss_one (ps_ret (pe_disp (pps_cons pe_str (pv 3) pps_nil) rfl rfl (by simp) (by decide)))) pss_nil)
      (pss_one (ps_ret (pe_callTy call_tuple_of (by rfl) m_tuple (by decide +kernel) (pa_cons (pv 3) pa_nil)))))))), ?_⟩
      refine ⟨_, rfl, p, 12, rfl, hP, by decide, by decide, fun way H1 k1 P1 a1 b1 => ?_⟩
      refine ⟨_, rfl, _, _, rfl, rfl, _, rfl, ?_⟩
      refine ite2 (fun c => ?_) (fun c => ⟨_, rfl, rfl, _, rfl, ite2 (fun c2 => ?_) (fun c2 => ?_)⟩)
      rotate_right 1
      · have hd : deep ≠ 0 := fun h => c2 (decide_eq_true (congrArg V.int h))
        refine ⟨_, rfl, p, 4, rfl, P1, by decide, by decide, fun m H2 k2 P2 a2 b2 => ?_⟩
        refine ⟨_, rfl, by omega, by omega, fun M nM => ?_⟩
        have nMp : M ≠ p := P2.free nM
        refine lc_range (lo := 0) (n := m.toNat) (fun i H' => ∃ (xs : List V) (ts : List Tg), H' M = some (.lst xs) ∧ Kp p H2 H' ∧ PenAt H' p ∧ xs.length = i ∧ TgAll p H' xs ts) ⟨[], [], upd_same, Kp.new nM _, P2.new nM _, rfl, .nil⟩ ?_ ?_
        · rintro i H3 hi ⟨xs, ts, eM, k3, P3, hl, hts⟩
          refine ⟨rfl, ?_⟩
          unfold tYes
          dsimp only
          rw [if_pos rfl]
          refine ⟨_, rfl, _, rfl, _, _, rfl, rfl, p, deep - 1, rfl, P3, by omega, by omega, fun v H4 k4 P4 ⟨t, hv⟩ => ?_⟩
          have eM4 := k4 _ _ nMp eM
          have hxs4 : ∀ x ∈ xs ++ [v], ∃ t, TgAt p (upd H4 M (.lst (xs ++ [v]))) x t := fun x hx => by
            have h5 : ∃ t, TgAt p H4 x t := by
              rcases List.mem_append.mp hx with hx | hx
              · obtain ⟨t', _, ht'⟩ := hts.mem hx
                exact ⟨t', TgAt.kp k4 P3 _ _ ht'⟩
              · rw [List.mem_singleton.mp hx]
                exact ⟨t, hv⟩
            obtain ⟨t5, h5⟩ := h5
            exact ⟨t5, TgAt.relist eM4 t5 x h5⟩
          obtain ⟨ts', hts'⟩ := TgAll.mk hxs4
          exact ⟨_, eM4, small1000 (by omega), xs ++ [v], ts', upd_same, (k3.trans k4).over nM _, P4.put nMp _, by rw [List.length_append, hl]; rfl, hts'⟩
        rintro H3 ⟨xs, ts, eM, k3, P3, hl, hts⟩
        have k03 := k1.trans (k2.trans k3)
        refine ⟨_, rfl, rfl, _, rfl, ite2 (fun c => ⟨_, rfl, q _ H3 k03 P3 ⟨_, .lst nMp eM⟩⟩) (fun c => ⟨_, rfl, rfl, _, rfl, ite2 (fun c => ?_) (fun c => ?_)⟩)⟩
        · intro d nd'
          have ndp : d ≠ p := P3.free nd'
          exact ⟨_, rfl, upd_same, [(Sum.inr "a", .ref M)], rfl, (by show 1 ≤ 15; omega), q _ _ ((k03.trans (Kp.new nd' _)).over (k03.noneG ndp nd') _) ((P3.new nd' _).put ndp _) ⟨_, .dct ndp upd_same⟩⟩
        · exact ⟨_, rfl, M, _, rfl, .inl ⟨SqL.of eM, fun t nt => q _ _ (k03.trans (Kp.new nt _)) (P3.new nt _) ⟨_, .tup upd_same (TgAll.kp (Kp.new nt _) P3 _ _ hts)⟩⟩⟩
      all_goals
        refine ⟨_, rfl, _, _, rfl, rfl, ⟨by decide, by decide, by decide⟩, Nat.zero_le _, fun t1 nt1 => ?_⟩
        have P2 := P1.new nt1 (.tup [])
        have k2 : Kp p H1 (upd H1 t1 (.tup [])) := Kp.new nt1 _
        have e2 : (upd H1 t1 (.tup [])) t1 = some (.tup []) := upd_same
        generalize (upd H1 t1 (.tup [])) = H2 at P2 k2 e2
        refine ⟨Nat.zero_le _, fun l2 nl2 => ?_⟩
        have P3 := P2.new nl2 (.lst [])
        have k3 : Kp p H2 (upd H2 l2 (.lst [])) := Kp.new nl2 _
        have s3 := same_new nl2 (.lst [])
        have e3 : (upd H2 l2 (.lst [])) l2 = some (.lst []) := upd_same
        have np2 : l2 ≠ p := P2.free nl2
        generalize (upd H2 l2 (.lst [])) = H3 at P3 k3 s3 e3
        refine ⟨(by show 12 ≤ sizeLine; decide), fun l3 nl3 => ?_⟩
        have np3 : l3 ≠ p := P3.free nl3
        have s4 := same_new nl3 (.lst [.non, .bl true, .bl false, .int 0, .int 1, .int (-1), .int 9, .int (10 ^ (39 : Int).toNat), .str "", .str "a", .ref t1, .ref l2])
        refine ⟨_, rfl, p, 12, rfl, P3.new nl3 _, by decide, by decide, fun u H5 k5 P5 a5 b5 => ?_⟩
        obtain ⟨v, gv, hv⟩ := pick (xs := [.non, .bl true, .bl false, .int 0, .int 1, .int (-1), .int 9, .int (10 ^ (39 : Int).toNat), .str "", .str "a", .ref t1, .ref l2]) (fun v => ∃ o, TgAt p H5 v o) a5 b5 (am1 ⟨_, .non⟩ (am1 ⟨_, .bl _⟩ (am1 ⟨_, .bl _⟩ (am1 ⟨_, .int _⟩ (am1 ⟨_, .int _⟩ (am1 ⟨_, .int _⟩ (am1 ⟨_, .int _⟩ (am1 ⟨_, .int _⟩ (am1 ⟨_, .str _⟩ (am1 ⟨_, .str _⟩ (am1 ⟨_, .tup (k5.tup (P3.new nl3 _) _ _ (s4 _ _ (s3 _ _ e2))) .nil⟩ (am1 ⟨_, .lst np2 (k5 _ _ np2 (s4 _ _ e3))⟩ am0))))))))))))
        exact ⟨l3, _, u, v, rfl, rfl, SqL.of (k5 _ _ np3 upd_same), gv, q v H5 (k1.trans (k2.trans (k3.trans ((Kp.new nl3 _).trans k5)))) P5 hv⟩
end
end Deed

namespace Deed
open PySem PySem.Spec PyProof.Rows L2 LamX
def FitsN : Nat → Tg → Prop
  | 0, _ => False
  | n + 1, .tup ts => ts.length ≤ 300 ∧ ∀ t ∈ ts, FitsN n t
  | _ + 1, .str x => x.length ≤ 300
  | _ + 1, .int i => i.natAbs.log2 < 1920
  | _ + 1, _ => True
theorem TgAt.num {p : Addr} {H : Hp} {v : V} {t : Tg} {n : Nat} (h : TgAt p H v t) (hf : FitsN (n + 1) t) (hi : t.isI = true) : ∃ i, numOf v = some i ∧ i.natAbs.log2 < 1920 := by
  cases h with
  | int i => exact ⟨i, rfl, hf⟩
  | bl b => exact ⟨_, rfl, by cases b <;> decide⟩
  | _ => cases hi
theorem cutV_le (xs : List V) (lo hi : Option Int) : (cutV xs lo hi).length ≤ xs.length := cutV_length xs lo hi
section
variable {P : Program} {w : World} {K : PySem.W.Frag} {mg : Str → Option Value} {base : Heap}
abbrev sLSpoilt : Stmt := topS 38
abbrev nLSpoilt : List Str := ["_law_pen_here", "_law_thing_here", "_law_at", "_law_way"]
abbrev pLSpoilt : List Str := ["_law_pen_here", "_law_thing_here"]
theorem scLSpoilt : FnScope nLSpoilt pLSpoilt (defScope sLSpoilt) := ⟨rfl, rfl, rfl, by decide +kernel, rfl, by decide +kernel, by decide +kernel⟩
def spLSpoilt (n : Nat) : Sp := fun vs H Q _ => ∃ (p : Addr) (v : V) (t : Tg), vs = [.ref p, v] ∧ PenAt H p ∧ TgAt p H v t ∧ FitsN n t ∧ ∀ v' H', Kp p H H' → PenAt H' p → (∃ t', TgAt p H' v' t') → Q v' H'
theorem ok_LSpoilt {f : Addr} {fd : FuncData} {k : Nat} (D : Df K mg "_law_spoilt" sLSpoilt pLSpoilt f fd) (cDr : ∀ n, CDrw P w K mg base (k + n)) (cTh : ∀ n, CallOk P w K mg base (k + n) "_law_thing" pLThing (spLThing 3)) (m_isinstance : mg "isinstance" = none) (m_tuple : mg "tuple" = none) (m_len : mg "len" = none) (m_list : mg "list" = none) (m_int : mg "int" = none) (m_str : mg "str" = none) : ∀ n : Nat, FnOk P w K mg base CX0 (k + n + 1) f fd pLSpoilt (spLSpoilt n)
  | 0 => by
    refine D.F.ok scLSpoilt (fun vs H Q E h => ?_) (fun cdv A outer s H vs Q E hr h => ?_)
    · obtain ⟨p, v, t, rfl, _⟩ := h
      rfl
    · obtain ⟨p, v, t, rfl, _, _, h0, _⟩ := h
      exact h0.elim
  | n + 1 => by
    have C__law_spoilt : CallOk P w K mg base (k + (n + 1)) "_law_spoilt" pLSpoilt (spLSpoilt n) := D.call (ok_LSpoilt D cDr cTh m_isinstance m_tuple m_len m_list m_int m_str n)
    have C__law_draw := cDr (n + 1)
    have C__law_thing := cTh (n + 1)
    refine D.F.ok scLSpoilt (fun vs H Q E h => ?_) (fun cdv A outer s H vs Q E hr h => ?_)
    · obtain ⟨p, v, t, rfl, _⟩ := h
      rfl
    · obtain ⟨p, v, t, rfl, hP, hT, hf, q⟩ := h
      have nd := scLSpoilt.nd
      refine ⟨_, C8.pss_cut (ps_if (PW.pt (pw_and (pt_val (pe_callB call_isi (by rfl) m_isinstance (by decide +kernel) (pa_cons (pv 1) (pa_cons (pe_bltn (v := .ty "tuple") (by rfl) m_tuple (by decide +kernel) rfl) pa_nil)))) (pw_and (pt_cmpR (op_neTE hr.units) (pv 1) (pe_tup pa_nil) (nomark _)) (pw_and1 (pt_cmpR op_gt (pe_call C__law_draw.ok hr (by rfl) C__law_draw.g C__law_draw.kp C__law_draw.b .nil pass0 (pa_cons (pv 0) (pa_cons pe_int pa_nil))) pe_int (nomark _)))))) (pss_cons (ps_set (i := 2) nd rfl (.inl rfl) (pe_call C__law_draw.ok hr (by rfl) C__law_draw.g C__law_draw.kp C__law_draw.b .nil pass0 (pa_cons (pv 0) (pa_cons (pe_callB call_len_seq (by rfl) m_len (by decide +kernel) (pa_cons (pv 1) pa_nil)) pa_nil))))
      (pss_one (ps_ret (pe_op op_catA (pe_op op_catA (pe_slice sl_tupA (pv 1) po_none (po_some (pv 2))) (pe_tup (pa_cons (pe_call C__law_spoilt.ok hr (by rfl) C__law_spoilt.g C__law_spoilt.kp C__law_spoilt.b .nil pass0 (pa_cons (pv 0) (pa_cons (pe_ix ix_tup (pv 1) (pv 2) (fun _ _ => rfl)) pa_nil))) pa_nil))) (pe_slice sl_tupA (pv 1) (po_some (pe_op op_add (pv 2) pe_int)) po_none))))) pss_nil)
      (pss_cons (ps_set (i := 3) nd rfl (.inl rfl) (pe_call C__law_draw.ok hr (by rfl) C__law_draw.g C__law_draw.kp C__law_draw.b .nil pass0 (pa_cons (pv 0) (pa_cons pe_int pa_nil))))
      (C8.pss_cut (ps_if (PW.pt (pw_and (pt_val (pe_callB call_isi (by rfl) m_isinstance (by decide +kernel) (pa_cons (pv 1) (pa_cons (pe_bltn (v := .ty "tuple") (by rfl) m_tuple (by decide +kernel) rfl) pa_nil)))) (pw_and1 (pt_cmpR op_lt (pv 3) pe_int (nomark _))))) (pss_one (ps_ret (pe_ix ix_list (pe_lst (pa_cons (pe_op op_catA (pv 1) (pe_slice sl_tupA (pv 1) (po_some (pe_un un_neg pe_int)) po_none)) (pa_cons (pe_slice sl_tupA (pv 1) po_none (po_some (pe_un un_neg pe_int))) (pa_cons (pe_callTy call_list_of (by rfl) m_list (by decide +kernel) (pa_cons (pv 1) pa_nil)) (pa_cons (pe_revT (pv 1)) pa_nil))))) (pv 3) (fun _ _ => rfl)))) pss_nil)
      (C8.pss_cut (ps_if (PW.pt (pw_and (pt_val (pe_callB call_isi (by rfl) m_isinstance (by decide +kernel) (pa_cons (pv 1) (pa_cons (pe_bltn (v := .ty "int") (by rfl) m_int (by decide +kernel) rfl) pa_nil)))) (pw_and1 (pt_cmpR op_lt (pv 3) pe_int (nomark _))))) (pss_one (ps_ret (pe_ix ix_list (pe_lst (pa_cons (pe_op op_addTI (pv 1) pe_int) (pa_cons (pe_op op_subTI (pv 1) pe_int) (pa_cons (pe_cmpR op_gtTI (pv 1) pe_int (nomark _)) (pa_cons (pe_callTy call_strTI (by rfl) m_str (by decide +kernel) (pa_cons (pv 1) pa_nil)) pa_nil))))) (pv 3) (fun _ _ => rfl)))) pss_nil)
      (C8.pss_cut (ps_if (PW.pt (pw_and (pt_val (pe_callB call_isi (by rfl) m_isinstance (by decide +kernel) (pa_cons (pv 1) (pa_cons (pe_bltn (v := .ty "str") (by rfl) m_str (by decide +kernel) rfl) pa_nil)))) (pw_and1 (pt_cmpR op_lt (pv 3) pe_int (nomark _))))) (pss_one (ps_ret (pe_ix ix_list (pe_lst (pa_cons (pe_op op_add_str (pv 1) pe_str) (pa_cons (pe_upper (pv 1)) (pa_cons (pe_slice sl_str (pv 1) po_none (po_some (pe_un un_neg pe_int))) (pa_cons (pe_op op_add_str pe_str (pv 1)) pa_nil))))) (pv 3) (fun _ _ => rfl)))) pss_nil)
      (pss_one (ps_ret (pe_call C__law_thing.ok hr (by rfl) C__law_thing.g C__law_thing.kp C__law_thing.b .nil pass0 (pa_cons (pv 0) (pa_cons pe_int pa_nil))))))))), ?_⟩
      refine ⟨fun σ' H' => ∃ y2, σ' = [some (.ref p), some v, y2, none] ∧ Kp p H H' ∧ PenAt H' p, ?_, ?_⟩
      · refine ⟨_, rfl, _, _, _, _, t.isT, rfl, .ty "tuple", hT.ty, kit_ty t.kT, _, rfl, ?_⟩
        refine ite2 (fun c => ?_) (fun c => ⟨_, rfl, Kp.refl _ _, hP⟩)
        obtain ⟨a, xs, ts, rfl, rfl, ea, hts⟩ := hT.tupOf c
        refine ⟨_, rfl, Nat.zero_le _, fun t1 nt1 => ?_⟩
        have s1 := same_new nt1 (.tup [])
        have e1 : (upd H t1 (.tup [])) t1 = some (.tup []) := upd_same
        have P1 := hP.new nt1 (.tup [])
        generalize (upd H t1 (.tup [])) = H1 at s1 e1 P1
        refine ⟨a, t1, xs, rfl, rfl, SqT.of (s1 _ _ ea), SqT.of e1, _, rfl, ?_⟩
        refine ite2 (fun c1 => ?_) (fun c1 => ⟨_, rfl, Kp.same s1, P1⟩)
        refine ⟨_, rfl, p, 6, rfl, P1, by decide, by decide, fun u H2 k2 P2 a2 b2 => ⟨_, _, rfl, rfl, _, rfl, ?_⟩⟩
        have k02 : Kp p H H2 := (Kp.same s1).trans k2
        refine ite2 (fun c2 => ?_) (fun c2 => ⟨_, rfl, k02, P2⟩)
        have hne : xs ≠ [] := fun z => by
          subst z
          cases c1
        have hl0 : 0 < xs.length := List.length_pos_iff.mpr hne
        have hl9 : xs.length ≤ 300 := by rw [hts.length]; exact hf.1
        have ea2 := k02.tup hP _ _ ea
        have hts2 := TgAll.kp k02 hP _ _ hts
        refine ⟨_, rfl, _, rfl, a, _, rfl, .inr (SqT.of ea2), p, _, rfl, P2, by omega, by omega, fun at_ H3 k3 P3 a3 b3 => ?_⟩
        have ea3 := k3.tup P2 _ _ ea2
        have hts3 := TgAll.kp k3 P2 _ _ hts2
        refine ⟨_, rfl, _, rfl, _, rfl, slA_same ea3 fun t4 H4 s4 e4 => ?_⟩
        have P4 : PenAt H4 p := by
          obtain ⟨x1, x2, x3, x4, z1, z2⟩ := P3
          exact ⟨x1, x2, x3, x4, s4 _ _ z1, z2⟩
        have hix : at_.toNat < xs.length := by omega
        have hv : xs[at_.toNat]? = some xs[at_.toNat] := List.getElem?_eq_getElem hix
        obtain ⟨tv, htv, hatv⟩ := (TgAll.same s4 _ _ hts3).get hv
        refine ⟨_, rfl, _, rfl, _, rfl, a, _, at_, xs[at_.toNat], rfl, rfl, SqT.of (s4 _ _ ea3), at_of (j := at_.toNat) (by omega) hv, p, _, tv, rfl, P4, hatv, hf.2 tv (List.mem_of_getElem? htv), fun v5 H5 k5 P5 ⟨t5, h5⟩ => ?_⟩
        refine ⟨(by show 1 ≤ sizeLine; decide), fun t6 nt6 => ?_⟩
        have s6 := same_new nt6 (.tup [v5])
        have e6 : (upd H5 t6 (.tup [v5])) t6 = some (.tup [v5]) := upd_same
        have P6 := P5.new nt6 (.tup [v5])
        generalize (upd H5 t6 (.tup [v5])) = H6 at s6 e6 P6
        have k46 : Kp p H4 H6 := k5.trans (Kp.same s6)
        have hc4 := cutV_le xs none (some at_)
        refine catA_same (k46.tup P4 _ _ e4) e6 (by show _ + 1 ≤ 1000; omega) fun t7 H7 s7 e7 => ?_
        have k37 : Kp p H3 H7 := (Kp.same s4).trans (k46.trans (Kp.same s7))
        refine ⟨_, rfl, _, rfl, _, _, rfl, rfl, _, rfl, ?_⟩
        dsimp only [tNoPart]
        refine slA_same (k37.tup P3 _ _ ea3) fun t8 H8 s8 e8 => ?_
        have hc8 := cutV_le xs (some (at_ + 1)) none
        refine catA_same (s8 _ _ e7) e8 (by rw [List.length_append]; show _ + 1 + _ ≤ 1000; omega) fun t9 H9 s9 e9 => ?_
        have s69 := s7.trans (s8.trans s9)
        have k39 : Kp p H3 H9 := k37.trans (Kp.same (s8.trans s9))
        have P9 : PenAt H9 p := by
          obtain ⟨x1, x2, x3, x4, z1, z2⟩ := P6
          exact ⟨x1, x2, x3, x4, s69 _ _ z1, z2⟩
        have hts9 := TgAll.kp k39 P3 _ _ hts3
        obtain ⟨u1, hu1⟩ := hts9.cut none (some at_)
        obtain ⟨u2, hu2⟩ := hts9.cut (some (at_ + 1)) none
        exact q _ H9 (k02.trans (k3.trans k39)) P9 ⟨_, .tup e9 ((hu1.append (.cons (TgAt.same (s6.trans s69) _ _ h5) .nil)).append hu2)⟩
      rintro _ H1 ⟨y2, rfl, k1, P1⟩
      have hT1 := TgAt.kp k1 hP _ _ hT
      refine ⟨_, rfl, p, 8, rfl, P1, by decide, by decide, fun way H2 k2 P2 a2 b2 => ?_⟩
      have hT2 := TgAt.kp k2 P1 _ _ hT1
      have k02 := k1.trans k2
      refine ⟨fun σ' H' => σ' = [some (.ref p), some v, y2, some (.int way)] ∧ H' = H2, ?_, ?_⟩
      · refine ⟨_, rfl, _, _, _, _, t.isT, rfl, .ty "tuple", hT2.ty, kit_ty t.kT, _, rfl, ?_⟩
        refine ite2 (fun c => ?_) (fun c => ⟨rfl, rfl⟩)
        refine ⟨_, rfl, _, _, rfl, rfl, _, rfl, ?_⟩
        refine ite2 (fun c1 => ?_) (fun c1 => ⟨rfl, rfl⟩)
        have hw4 : way < 4 := of_decide_eq_true c1
        obtain ⟨a, xs, ts, rfl, rfl, ea, hts⟩ := hT2.tupOf c
        have hl9 : xs.length ≤ 300 := by rw [hts.length]; exact hf.1
        refine ⟨_, rfl, _, rfl, _, rfl, _, rfl, ?_⟩
        dsimp only [tNoPart]
        refine slA_same ea fun t3 H3 s3 e3 => ?_
        have hc3 := cutV_le xs (some (-1)) none
        refine catA_same (s3 _ _ ea) e3 (by omega) fun t4 H4 s4 e4 => ?_
        have s24 := s3.trans s4
        refine ⟨_, rfl, _, rfl, _, rfl, slA_same (s24 _ _ ea) fun t5 H5 s5 e5 => ?_⟩
        have s25 := s24.trans s5
        refine ⟨_, rfl, a, _, rfl, .inr (SqT.of (s25 _ _ ea)), fun l6 nl6 => ?_⟩
        have s6 := same_new nl6 (.lst xs)
        have e6 : (upd H5 l6 (.lst xs)) l6 = some (.lst xs) := upd_same
        have nlp : l6 ≠ p := fun z => by
          obtain ⟨x1, x2, x3, x4, z1, z2⟩ := P2
          rw [z, s25 _ _ z1] at nl6
          cases nl6
        generalize (upd H5 l6 (.lst xs)) = H6 at s6 e6
        have s26 := s25.trans s6
        refine ⟨_, rfl, a, _, rfl, SqT.of (s26 _ _ ea), fun t7 nt7 => ?_⟩
        have s7 := same_new nt7 (.tup xs.reverse)
        have e7 : (upd H6 t7 (.tup xs.reverse)) t7 = some (.tup xs.reverse) := upd_same
        generalize (upd H6 t7 (.tup xs.reverse)) = H7 at s7 e7
        have s27 := s26.trans s7
        refine ⟨(by show 4 ≤ sizeLine; decide), fun l8 nl8 => ?_⟩
        have s8 := same_new nl8 (.lst [.ref t4, .ref t5, .ref l6, .ref t7])
        have e8 : (upd H7 l8 (.lst [.ref t4, .ref t5, .ref l6, .ref t7])) l8 = some (.lst [.ref t4, .ref t5, .ref l6, .ref t7]) := upd_same
        generalize (upd H7 l8 (.lst [.ref t4, .ref t5, .ref l6, .ref t7])) = H8 at s8 e8
        have s28 := s27.trans s8
        have hts8 := TgAll.same s28 _ _ hts
        obtain ⟨u1, hu1⟩ := hts8.cut (some (-1)) none
        obtain ⟨u2, hu2⟩ := hts8.cut none (some (-1))
        obtain ⟨vv, gv, hv⟩ := pick (i := way) (xs := [.ref t4, .ref t5, .ref l6, .ref t7]) (fun v => ∃ o, TgAt p H8 v o) a2 (by show way < 4; exact hw4) (am1 ⟨_, .tup ((s5.trans (s6.trans (s7.trans s8))) _ _ e4) (hts8.append hu1)⟩ (am1 ⟨_, .tup ((s6.trans (s7.trans s8)) _ _ e5) hu2⟩ (am1 ⟨_, .lst nlp ((s7.trans s8) _ _ e6)⟩ (am1 ⟨_, .tup (s8 _ _ e7) hts8.reverse⟩ am0))))
        have P8 : PenAt H8 p := by
          obtain ⟨x1, x2, x3, x4, z1, z2⟩ := P2
          exact ⟨x1, x2, x3, x4, s28 _ _ z1, z2⟩
        exact ⟨_, rfl, l8, _, way, vv, rfl, rfl, SqL.of e8, gv, q vv H8 (k02.trans (Kp.same s28)) P8 hv⟩
      rintro _ H2' ⟨rfl, eH⟩
      rw [eH]
      clear eH H2'
      refine ⟨fun σ' H' => σ' = [some (.ref p), some v, y2, some (.int way)] ∧ H' = H2, ?_, ?_⟩
      · refine ⟨_, rfl, _, _, _, _, t.isI, rfl, .ty "int", hT2.ty, kit_ty t.kI, _, rfl, ?_⟩
        refine ite2 (fun c => ?_) (fun c => ⟨rfl, rfl⟩)
        refine ⟨_, rfl, _, _, rfl, rfl, _, rfl, ?_⟩
        refine ite2 (fun c1 => ?_) (fun c1 => ⟨rfl, rfl⟩)
        have hw4 : way < 4 := of_decide_eq_true c1
        obtain ⟨i, hi, hlg⟩ := hT2.num hf c
        refine ⟨_, rfl, i, 1, hi, rfl, _, rfl, i, 1, hi, rfl, _, rfl, i, 0, hi, rfl, _, rfl, v, i, rfl, hi, hlg, (by show 4 ≤ sizeLine; decide), fun l8 nl8 => ?_⟩
        obtain ⟨vv, gv, hv⟩ := pick (i := way) (xs := [.int (i + 1), .int (i - 1), .bl (decide (i > 0)), .str (strTI v i)]) (fun x => ∃ o, TgAt p (upd H2 l8 (.lst [.int (i + 1), .int (i - 1), .bl (decide (i > 0)), .str (strTI v i)])) x o) a2 (by show way < 4; exact hw4) (am1 ⟨_, .int _⟩ (am1 ⟨_, .int _⟩ (am1 ⟨_, .bl _⟩ (am1 ⟨_, .str _⟩ am0))))
        exact ⟨_, rfl, l8, _, way, vv, rfl, rfl, SqL.of upd_same, gv, q vv _ (k02.trans (Kp.new nl8 _)) (P2.new nl8 _) hv⟩
      rintro _ H2' ⟨rfl, eH⟩
      rw [eH]
      clear eH H2'
      refine ⟨fun σ' H' => σ' = [some (.ref p), some v, y2, some (.int way)] ∧ H' = H2, ?_, ?_⟩
      · refine ⟨_, rfl, _, _, _, _, t.isS, rfl, .ty "str", hT2.ty, kit_ty t.kS, _, rfl, ?_⟩
        refine ite2 (fun c => ?_) (fun c => ⟨rfl, rfl⟩)
        refine ⟨_, rfl, _, _, rfl, rfl, _, rfl, ?_⟩
        refine ite2 (fun c1 => ?_) (fun c1 => ⟨rfl, rfl⟩)
        have hw4 : way < 4 := of_decide_eq_true c1
        obtain ⟨z, rfl, rfl⟩ : ∃ z, v = .str z ∧ t = .str z := by
          cases hT2 with
          | str x => exact ⟨_, rfl, rfl⟩
          | _ => cases c
        have hz : z.length ≤ 300 := hf
        have hz1 : z.length + 1 ≤ sizeLine := Nat.le_of_lt (small1000 (by omega))
        refine ⟨_, rfl, z, "a", rfl, rfl, hz1, _, rfl, ⟨_, rfl⟩, z, rfl, rfl, by omega, _, rfl, _, rfl, _, rfl, z, rfl, by omega, _, rfl, "1", z, rfl, rfl, (by show 1 + z.length ≤ sizeLine; omega), (by show 4 ≤ sizeLine; decide), fun l8 nl8 => ?_⟩
        obtain ⟨vv, gv, hv⟩ := pick (i := way) (xs := [.str (z ++ "a"), .str (Txt.upper z), .str (cutS z none (some (-1))), .str ("1" ++ z)]) (fun v => ∃ o, TgAt p (upd H2 l8 (.lst [.str (z ++ "a"), .str (Txt.upper z), .str (cutS z none (some (-1))), .str ("1" ++ z)])) v o) a2 (by show way < 4; exact hw4) (am1 ⟨_, .str _⟩ (am1 ⟨_, .str _⟩ (am1 ⟨_, .str _⟩ (am1 ⟨_, .str _⟩ am0))))
        exact ⟨_, rfl, l8, _, way, vv, rfl, rfl, SqL.of upd_same, gv, q vv _ (k02.trans (Kp.new nl8 _)) (P2.new nl8 _) hv⟩
      rintro _ H2' ⟨rfl, eH⟩
      rw [eH]
      clear eH H2'
      exact ⟨_, rfl, p, 2, rfl, P2, by decide, by decide, fun v' H' k' P' hv => q v' H' (k02.trans k') P' hv⟩
end
end Deed

namespace Deed
open PySem PySem.Spec PyProof.Rows L2 LamX
def MgInt (mg : Str → Option Value) (x : Str) (i : Int) : Prop := ∃ t, mg x = some (.int i t)
theorem pe_num {X : Cx} {x : Str} {i : Int} {pos : Pos} (hg : Gl X x) (h : MgInt X.mg x i) (hd : (x == ("__debug__" : Str)) = false := by decide) : PE X (.Name x pos) (tC (.int i)) := by
  obtain ⟨t, h⟩ := h
  exact pe_glob hg h ⟨t, rfl⟩ hd
end Deed

namespace Deed
open PySem PySem.Spec PyProof.Rows L2 LamX
/-! ### what a thing is: yes or no -/
def Tg.toI : Tg → Int | .int i => i | _ => 0
def Tg.isW : Tg → Bool | .int _ => true | _ => false
def Tg.within (lo hi : Int) : Tg → Bool | .int i => decide (lo ≤ i) && decide (i ≤ hi) | _ => false
theorem Tg.within_int {lo hi : Int} {t : Tg} (h : t.within lo hi = true) : ∃ i, t = .int i ∧ lo ≤ i ∧ i ≤ hi := by
  cases t with
  | int i =>
    unfold Tg.within at h
    rw [Bool.and_eq_true] at h
    exact ⟨i, rfl, of_decide_eq_true h.1, of_decide_eq_true h.2⟩
  | _ => cases h
def diedT (b : Int) : Tg → Bool | .non => true | d => d.within (b + 1) 9999
def isPersonT : Tg → Bool
  | .tup [b, d] => b.within (-9999) 9999 && diedT b.toI d
  | _ => false
def isFolkT : Tg → Bool
  | .tup ts => (decide (1 ≤ ts.length) && decide (ts.length ≤ 6)) && ts.all isPersonT
  | _ => false
theorem len1 {α : Type} : ∀ {l : List α}, l.length = 1 → ∃ a, l = [a]
  | [a], _ => ⟨a, rfl⟩
  | [], h => nomatch h
  | _ :: _ :: _, h => by simp at h
theorem len2 {α : Type} : ∀ {l : List α}, l.length = 2 → ∃ a b, l = [a, b]
  | [a, b], _ => ⟨a, b, rfl⟩
  | [], h => nomatch h
  | [_], h => nomatch h
  | _ :: _ :: _ :: _, h => by simp at h
theorem len4 {α : Type} : ∀ {l : List α}, l.length = 4 → ∃ a b c d, l = [a, b, c, d]
  | [a, b, c, d], _ => ⟨a, b, c, d, rfl⟩
  | [], h => nomatch h
  | [_], h => nomatch h
  | [_, _], h => nomatch h
  | [_, _, _], h => nomatch h
  | _ :: _ :: _ :: _ :: _ :: _, h => by simp at h
theorem len6 {α : Type} : ∀ {l : List α}, 6 ≤ l.length → ∃ a b c d e f r, l = a :: b :: c :: d :: e :: f :: r
  | a :: b :: c :: d :: e :: f :: r, _ => ⟨a, b, c, d, e, f, r, rfl⟩
  | [], h => by simp at h
  | [_], h => by simp at h
  | [_, _], h => by simp at h
  | [_, _, _], h => by simp at h
  | [_, _, _, _], h => by simp at h
  | [_, _, _, _, _], h => by simp at h
def spB1 (φ : Tg → Bool) : Sp := fun vs H Q _ => ∃ (p : Addr) (v : V) (t : Tg), vs = [v] ∧ TgAt p H v t ∧ ∀ H', Same H H' → Q (.bl (φ t)) H'
theorem all_map_id {α : Type} (φ : α → Bool) (l : List α) : (l.map φ).all id = l.all φ := by
  induction l with
  | nil => rfl
  | cons a r ih => simp [ih]
theorem TgAll.at {p : Addr} {H : Hp} {xs : List V} {ts : List Tg} {i : Nat} {x : V} {y : Tg} (h : TgAll p H xs ts) (hx : xs[i]? = some x) (hy : ts[i]? = some y) : TgAt p H x y := by
  obtain ⟨t, e, ht⟩ := h.get hx
  rw [hy] at e
  injection e with e
  rw [e]
  exact ht
section
variable {P : Program} {w : World} {K : PySem.W.Frag} {mg : Str → Option Value} {base : Heap}
abbrev sIsWhole : Stmt := topS 13
abbrev nIsWhole : List Str := ["thing"]
abbrev pIsWhole : List Str := ["thing"]
theorem scIsWhole : FnScope nIsWhole pIsWhole (defScope sIsWhole) := ⟨rfl, rfl, rfl, by decide +kernel, rfl, by decide +kernel, by decide +kernel⟩
theorem ok_IsWhole {f : Addr} {fd : FuncData} {k : Nat} (F : Fun K "is_whole" "is_whole" sIsWhole f fd) (m_isinstance : mg "isinstance" = none) (m_int : mg "int" = none) (m_bool : mg "bool" = none) : FnOk P w K mg base CX0 (k + 1) f fd pIsWhole (spB1 Tg.isW) := by
  refine F.ok scIsWhole (fun vs H Q E h => ?_) (fun cdv A outer s H vs Q E hr h => ?_)
  · obtain ⟨p, v, t, rfl, _⟩ := h
    rfl
  · obtain ⟨p, v, t, rfl, hT, q⟩ := h
    refine ⟨_, pss_one (ps_ret (pe_and (pe_callB call_isi (by rfl) m_isinstance (by decide +kernel) (pa_cons (pv 0) (pa_cons (pe_bltn (v := .ty "int") (by rfl) m_int (by decide +kernel) rfl) pa_nil))) (pe_one (pe_not (pe_callB call_isi (by rfl) m_isinstance (by decide +kernel) (pa_cons (pv 0) (pa_cons (pe_bltn (v := .ty "bool") (by rfl) m_bool (by decide +kernel) rfl) pa_nil))))))), ?_⟩
    refine ⟨_, rfl, _, _, _, _, t.isI, rfl, .ty "int", hT.ty, kit_ty t.kI, _, rfl, ?_⟩
    refine ite2 (fun c => ?_) (fun c => ?_)
    · refine ⟨_, rfl, _, _, _, _, t.isB, rfl, .ty "bool", hT.ty, kit_ty t.kB, _, rfl, ?_⟩
      rw [show (!t.isB) = t.isW by cases t <;> first | rfl | cases c]
      exact q _ (same_refl _)
    · have h := q _ (same_refl _)
      have e : t.isW = false := by cases t <;> first | rfl | exact absurd rfl c
      rw [e] at h
      exact h
def spWi : Sp := fun vs H Q _ => ∃ (p : Addr) (v : V) (t : Tg) (lo hi : Int), vs = [v, .int lo, .int hi] ∧ TgAt p H v t ∧ ∀ H', Same H H' → Q (.bl (t.within lo hi)) H'
abbrev sIsWithin : Stmt := topS 14
abbrev nIsWithin : List Str := ["thing", "low", "high"]
abbrev pIsWithin : List Str := ["thing", "low", "high"]
theorem scIsWithin : FnScope nIsWithin pIsWithin (defScope sIsWithin) := ⟨rfl, rfl, rfl, by decide +kernel, rfl, by decide +kernel, by decide +kernel⟩
theorem ok_IsWithin {f : Addr} {fd : FuncData} {k : Nat} (F : Fun K "is_within" "is_within" sIsWithin f fd) (C_is_whole : CallOk P w K mg base k "is_whole" pIsWhole (spB1 Tg.isW)) : FnOk P w K mg base CX0 (k + 1) f fd pIsWithin spWi := by
  refine F.ok scIsWithin (fun vs H Q E h => ?_) (fun cdv A outer s H vs Q E hr h => ?_)
  · obtain ⟨p, v, t, lo, hi, rfl, _⟩ := h
    rfl
  · obtain ⟨p, v, t, lo, hi, rfl, hT, q⟩ := h
    refine ⟨_, pss_one (ps_ret (pe_and (pe_call C_is_whole.ok hr (by rfl) C_is_whole.g C_is_whole.kp C_is_whole.b .nil pass0 (pa_cons (pv 0) pa_nil)) (pe_one (pe_chain op_le op_le (pv 1) (pv 0) (pv 2))))), ?_⟩
    refine ⟨_, rfl, p, v, t, rfl, hT, fun H1 s1 => ⟨_, rfl, ?_⟩⟩
    have q1 := q _ s1
    cases hT with
    | int i =>
      refine iteT ?_
      refine ⟨_, rfl, _, rfl, _, _, rfl, rfl, _, rfl, ?_⟩
      have q2 : Q (.bl (decide (lo ≤ i) && decide (i ≤ hi))) H1 := q1
      refine ite2 (fun c => ?_) (fun c => ?_)
      · have c' : decide (lo ≤ i) = true := c
        rw [c', Bool.true_and] at q2
        exact ⟨_, rfl, _, _, rfl, rfl, q2⟩
      · have c' : decide (lo ≤ i) = false := Bool.eq_false_iff.mpr c
        rw [c', Bool.false_and] at q2
        exact q2
    | _ => exact iteF q1
abbrev sIsDay : Stmt := topS 15
abbrev nIsDay : List Str := ["thing"]
abbrev pIsDay : List Str := ["thing"]
theorem scIsDay : FnScope nIsDay pIsDay (defScope sIsDay) := ⟨rfl, rfl, rfl, by decide +kernel, rfl, by decide +kernel, by decide +kernel⟩
theorem ok_IsDay {f : Addr} {fd : FuncData} {k : Nat} (F : Fun K "is_day" "is_day" sIsDay f fd) (C_is_within : CallOk P w K mg base k "is_within" pIsWithin spWi) (iLAST_DAY : MgInt mg "LAST_DAY" 9999) : FnOk P w K mg base CX0 (k + 1) f fd pIsDay (spB1 (Tg.within 0 9999)) := by
  refine F.ok scIsDay (fun vs H Q E h => ?_) (fun cdv A outer s H vs Q E hr h => ?_)
  · obtain ⟨p, v, t, rfl, _⟩ := h
    rfl
  · obtain ⟨p, v, t, rfl, hT, q⟩ := h
    refine ⟨_, pss_one (ps_ret (pe_call C_is_within.ok hr (by rfl) C_is_within.g C_is_within.kp C_is_within.b .nil pass0 (pa_cons (pv 0) (pa_cons pe_int (pa_cons (pe_num (by rfl) iLAST_DAY) pa_nil))))), ?_⟩
    exact ⟨_, rfl, p, v, t, 0, 9999, rfl, hT, q⟩
abbrev sIsPerson : Stmt := topS 17
abbrev nIsPerson : List Str := ["thing", "born", "died"]
abbrev pIsPerson : List Str := ["thing"]
theorem scIsPerson : FnScope nIsPerson pIsPerson (defScope sIsPerson) := ⟨rfl, rfl, rfl, by decide +kernel, rfl, by decide +kernel, by decide +kernel⟩
theorem ok_IsPerson {f : Addr} {fd : FuncData} {k : Nat} (F : Fun K "is_person" "is_person" sIsPerson f fd) (C_is_within : CallOk P w K mg base k "is_within" pIsWithin spWi) (m_isinstance : mg "isinstance" = none) (m_tuple : mg "tuple" = none) (m_len : mg "len" = none) (iLAST_DAY : MgInt mg "LAST_DAY" 9999) : FnOk P w K mg base CX0 (k + 1) f fd pIsPerson (spB1 isPersonT) := by
  refine F.ok scIsPerson (fun vs H Q E h => ?_) (fun cdv A outer s H vs Q E hr h => ?_)
  · obtain ⟨p, v, t, rfl, _⟩ := h
    rfl
  · obtain ⟨p, v, t, rfl, hT, q⟩ := h
    have nd := scIsPerson.nd
    refine ⟨_, pss_cons (ps_if (PW.pt (pw_or (pt_not (pt_val (pe_callB call_isi (by rfl) m_isinstance (by decide +kernel) (pa_cons (pv 0) (pa_cons (pe_bltn (v := .ty "tuple") (by rfl) m_tuple (by decide +kernel) rfl) pa_nil))))) (pw_or1 (pt_cmpR op_ne (pe_callB call_len_seq (by rfl) m_len (by decide +kernel) (pa_cons (pv 0) pa_nil)) pe_int (nomark _))))) (pss_one (ps_ret pe_bl)) pss_nil)
      (pss_cons (ps_asg (pv 0) (pg_tup (by rfl) (pgs_cons (pg_name (i := 1) nd rfl (.inl rfl)) (pgs_cons (pg_name (i := 2) nd rfl (.inl rfl)) pgs_nil))))
      (pss_cons (ps_if (pt_not (pt_val (pe_call C_is_within.ok hr (by rfl) C_is_within.g C_is_within.kp C_is_within.b .nil pass0 (pa_cons (pv 1) (pa_cons (pe_un un_neg (pe_num (by rfl) iLAST_DAY)) (pa_cons (pe_num (by rfl) iLAST_DAY) pa_nil)))))) (pss_one (ps_ret pe_bl)) pss_nil)
      (pss_one (ps_ret (pe_or (pe_cmpR op_isN (pv 2) pe_non (nomark _)) (pe_one (pe_call C_is_within.ok hr (by rfl) C_is_within.g C_is_within.kp C_is_within.b .nil pass0 (pa_cons (pv 2) (pa_cons (pe_op op_add (pv 1) pe_int) (pa_cons (pe_num (by rfl) iLAST_DAY) pa_nil)))))))))), ?_⟩
    refine ⟨_, rfl, _, _, _, _, t.isT, rfl, .ty "tuple", hT.ty, kit_ty t.kT, _, rfl, ?_⟩
    cases hc : t.isT with
    | false =>
      refine iteT ?_
      have h := q _ (same_refl _)
      have e : isPersonT t = false := by cases t <;> first | rfl | cases hc
      rw [e] at h
      exact h
    | true =>
      refine iteF ?_
      obtain ⟨a, xs, ts, rfl, rfl, ea, hts⟩ := hT.tupOf hc
      refine ⟨_, rfl, a, _, rfl, .inr (SqT.of ea), rfl, _, rfl, ?_⟩
      have hlen := hts.length
      by_cases h2 : ts.length = 2
      · rw [show decide (V.int (xs.length : Nat) = V.int 2) = true from decide_eq_true (by rw [hlen, h2]; rfl)]
        refine iteF ?_
        obtain ⟨xb, xd, rfl⟩ := len2 (hlen.trans h2)
        obtain ⟨tb, td, rfl⟩ := len2 h2
        cases hts with
        | cons hb h' =>
          cases h' with
          | cons hd _ =>
            refine ⟨_, rfl, a, [xb, xd], rfl, SqT.of ea, rfl, xb, [xd], rfl, xd, [], rfl, rfl, ?_⟩
            refine ⟨_, rfl, _, rfl, p, xb, tb, -9999, 9999, rfl, hb, fun H1 s1 => ⟨_, rfl, ?_⟩⟩
            have q1 : ∀ H', Same H H' → Q (.bl (tb.within (-9999) 9999 && diedT tb.toI td)) H' := q
            cases hw : tb.within (-9999) 9999 with
            | false =>
              refine iteT ?_
              have h := q1 _ s1
              rw [hw] at h
              exact h
            | true =>
              refine iteF ?_
              obtain ⟨i, rfl, hi0, hi1⟩ := Tg.within_int hw
              cases hb
              rw [hw, Bool.true_and] at q1
              refine ⟨_, rfl, ?_⟩
              by_cases hn : xd = .non
              · subst hn
                cases hd
                refine ⟨rfl, _, rfl, iteT ?_⟩
                exact q1 _ s1
              · have hne : td ≠ .non := fun z => by
                  subst z
                  cases hd
                  exact hn rfl
                have e : diedT i td = td.within (i + 1) 9999 := by cases td <;> first | rfl | exact absurd rfl hne
                have hd1 := TgAt.same s1 _ _ hd
                refine ⟨by cases xd <;> rfl, _, rfl, ?_⟩
                rw [show decide (xd = V.non) = false from decide_eq_false hn]
                refine iteF ?_
                refine ⟨_, rfl, _, rfl, _, _, rfl, rfl, p, xd, td, i + 1, 9999, rfl, hd1, fun H2 s2 => ?_⟩
                have h := q1 _ (s1.trans s2)
                rw [show (Tg.int i).toI = i from rfl, e] at h
                exact h
      · rw [show decide (V.int (xs.length : Nat) = V.int 2) = false from decide_eq_false fun z => h2 (by injection z with z; omega)]
        refine iteT ?_
        have h := q _ (same_refl _)
        have e : isPersonT (.tup ts) = false := by
          match ts, h2 with
          | [], _ => rfl
          | [_], _ => rfl
          | [_, _], h2 => exact absurd rfl h2
          | _ :: _ :: _ :: _, _ => rfl
        rw [e] at h
        exact h
abbrev sIsFolkG : Stmt := topS 18
abbrev nIsFolkG : List Str := ["thing", "person"]
abbrev pIsFolkG : List Str := ["thing"]
theorem scIsFolkG : FnScope nIsFolkG pIsFolkG (defScope sIsFolkG) := ⟨rfl, rfl, rfl, by decide +kernel, rfl, by decide +kernel, by decide +kernel⟩
theorem ok_IsFolkG {f : Addr} {fd : FuncData} {k : Nat} (F : Fun K "is_folk" "is_folk" sIsFolkG f fd) (C_is_person : CallOk P w K mg base k "is_person" pIsPerson (spB1 isPersonT)) (m_isinstance : mg "isinstance" = none) (m_tuple : mg "tuple" = none) (m_len : mg "len" = none) (m_all : mg "all" = none) (iMOST_FOLK : MgInt mg "MOST_FOLK" 6) : FnOk P w K mg base CX0 (k + 1) f fd pIsFolkG (spB1 isFolkT) := by
  refine F.ok scIsFolkG (fun vs H Q E h => ?_) (fun cdv A outer s H vs Q E hr h => ?_)
  · obtain ⟨p, v, t, rfl, _⟩ := h
    rfl
  · obtain ⟨p, v, t, rfl, hT, q⟩ := h
    have nd := scIsFolkG.nd
    refine ⟨_, pss_cons (ps_if (PW.pt (pw_or (pt_not (pt_val (pe_callB call_isi (by rfl) m_isinstance (by decide +kernel) (pa_cons (pv 0) (pa_cons (pe_bltn (v := .ty "tuple") (by rfl) m_tuple (by decide +kernel) rfl) pa_nil))))) (pw_or1 (pt_not (pt_chain op_le op_le pe_int (pe_callB call_len_seq (by rfl) m_len (by decide +kernel) (pa_cons (pv 0) pa_nil)) (pe_num (by rfl) iMOST_FOLK)))))) (pss_one (ps_ret pe_bl)) pss_nil)
      (pss_one (ps_ret (pe_callB (cr_all rfl) (by rfl) m_all (by decide +kernel) (pa_cons (pe_lc (own := [("person", 1)]) (g := gName 1) (by rfl) nd (pi_tup (pv 0)) (blkOk_by (own := [("person", 1)]) (N := nIsFolkG) (sc := defScope sIsFolkG) (by decide +kernel)) (fun _ _ _ _ _ => (pg_name (i := 1) nd rfl (.inl rfl))) (fun _ _ _ _ _ => pts_nil)
          (fun _ _ _ _ _ => (pe_call C_is_person.ok hr (by rfl) C_is_person.g C_is_person.kp C_is_person.b .nil pass0 (pa_cons (pv 1) pa_nil)))) pa_nil)))), ?_⟩
    refine ⟨_, rfl, _, _, _, _, t.isT, rfl, .ty "tuple", hT.ty, kit_ty t.kT, _, rfl, ?_⟩
    cases hc : t.isT with
    | false =>
      refine iteT ?_
      have h := q _ (same_refl _)
      have e : isFolkT t = false := by cases t <;> first | rfl | cases hc
      rw [e] at h
      exact h
    | true =>
      refine iteF ?_
      obtain ⟨a, xs, ts, rfl, rfl, ea, hts⟩ := hT.tupOf hc
      have hlen := hts.length
      refine ⟨_, rfl, a, _, rfl, .inr (SqT.of ea), _, _, rfl, rfl, _, rfl, ?_⟩
      have q1 : ∀ H', Same H H' → Q (.bl ((decide (1 ≤ ts.length) && decide (ts.length ≤ 6)) && ts.all isPersonT)) H' := q
      by_cases h1 : 1 ≤ ts.length
      · rw [decide_eq_true (show (1 : Int) ≤ (xs.length : Nat) by omega)]
        refine iteT ?_
        refine ⟨_, _, rfl, rfl, _, rfl, ?_⟩
        by_cases h6 : ts.length ≤ 6
        · rw [decide_eq_true (show ((xs.length : Nat) : Int) ≤ 6 by omega)]
          refine iteF ?_
          rw [decide_eq_true h1, decide_eq_true h6] at q1
          refine ⟨_, rfl, a, rfl, ⟨_, SqT.of ea⟩, fun M nM => ?_⟩
          refine lc_sameM (walk_tup (xs := xs)) ts (fun y => .bl (isPersonT y)) hlen.symm (by omega) nM (fun H s => SqT.of (s _ _ ea)) ?_ ?_
          · rintro i y x H2' H2 hy s2 ⟨rfl, hx⟩ Q1 q1'
            exact ⟨rfl, _, rfl, p, x, y, rfl, TgAt.same s2 _ _ (hts.at hx hy), fun H3 s3 => q1' _ s3⟩
          intro H2 s2 eM
          refine ⟨M, ts.map isPersonT, rfl, SqL.of (by rw [eM, List.map_map]; rfl), ?_⟩
          rw [all_map_id]
          exact q1 _ s2
        · rw [decide_eq_false (show ¬ ((xs.length : Nat) : Int) ≤ 6 by omega)]
          refine iteT ?_
          rw [decide_eq_true h1, decide_eq_false h6] at q1
          exact q1 _ (same_refl _)
      · rw [decide_eq_false (show ¬ (1 : Int) ≤ (xs.length : Nat) by omega)]
        refine ⟨_, rfl, iteT ?_⟩
        rw [decide_eq_false h1] at q1
        exact q1 _ (same_refl _)
end
end Deed

namespace Deed
open PySem PySem.Spec PyProof.Rows L2 LamX RZ
theorem walk_zipG {K : PySem.W.Frag} {a b : Addr} {xs ys : List V} {n : Nat} (hn : n = min xs.length ys.length) : Walk (ItzT K a b) n (fun H => SqT K H a xs ∧ SqT K H b ys) (YPair (fun i => xs[i]?) (fun i => ys[i]?)) := by
  subst hn
  refine ⟨fun i _ hi q => ?_, fun _ q => ⟨xs, ys, q.1, q.2, by omega⟩, fun i H v H' _ q y => ?_⟩
  · have h1 : i < xs.length := by omega
    have h2 : i < ys.length := by omega
    exact ⟨xs, ys, xs[i], ys[i], q.1, q.2, by simp [h1], by simp [h2]⟩
  · obtain ⟨T, x, z, h1, h2, h3, h4, h5⟩ := y
    exact ⟨T, x, z, h1, h2, h3, h4 xs q.1, h5 ys q.2⟩
theorem cutDropG {α : Type} (f : α → V) (l : List α) (m : Nat) : cutV (l.map f) (some (m : Int)) none = (l.drop m).map f := by
  unfold cutV
  rw [HT.sIx_none, HT.sIx_nat, List.length_map, ← List.map_drop, ← List.map_take]
  congr 1
  by_cases h : m ≤ l.length
  · rw [Nat.min_eq_left h, List.take_of_length_le (by rw [List.length_drop]; omega)]
  · rw [Nat.min_eq_right (by omega), List.drop_of_length_le (by omega), List.drop_of_length_le (by omega), List.take_nil]
def ltAt (ns : List Int) (j : Nat) : Bool := decide ((ns[j]?).getD 0 < (ns[j + 1]?).getD 0)
def risI (ns : List Int) : Bool := (List.range (ns.length - 1)).all (ltAt ns)
theorem risI_iff (ns : List Int) : risI ns = true ↔ ns.Pairwise (· < ·) := by
  unfold risI
  rw [List.all_eq_true]
  constructor
  · intro h
    have adj : ∀ j (h1 : j + 1 < ns.length), ns[j] < ns[j + 1] := fun j h1 => by
      have := of_decide_eq_true (h j (List.mem_range.mpr (by omega)))
      rw [List.getElem?_eq_getElem (by omega), List.getElem?_eq_getElem h1] at this
      exact this
    have step : ∀ (d i : Nat) (h1 : i + d + 1 < ns.length), ns[i] < ns[i + d + 1] := fun d => by
      induction d with
      | zero => exact fun i h1 => adj i h1
      | succ d ih =>
        intro i h1
        have a1 := ih i (by omega)
        have a2 := adj (i + d + 1) (by omega)
        have : ns[i + (d + 1) + 1] = ns[i + d + 1 + 1] := by congr 1
        omega
    refine List.pairwise_iff_getElem.mpr fun i j hi hj hij => ?_
    have := step (j - i - 1) i (by omega)
    have e : ns[i + (j - i - 1) + 1]'(by omega) = ns[j] := by congr 1; omega
    omega
  · intro h j hj
    have hj := List.mem_range.mp hj
    have := List.pairwise_iff_getElem.mp h j (j + 1) (by omega) (by omega) (by omega)
    unfold ltAt
    rw [List.getElem?_eq_getElem (by omega), List.getElem?_eq_getElem (by omega)]
    exact decide_eq_true this
def risT (most limit : Int) : Tg → Bool
  | .tup ts => decide ((ts.length : Int) ≤ most) && (ts.all (Tg.within 0 (limit - 1)) && risI (ts.map Tg.toI))
  | _ => false
theorem TgAll.ofInts {p : Addr} {H : Hp} : ∀ {xs : List V} {ts : List Tg} {lo hi : Int}, TgAll p H xs ts → ts.all (Tg.within lo hi) = true → xs = (ts.map Tg.toI).map V.int ∧ ts = (ts.map Tg.toI).map Tg.int
  | _, [], _, _, h, _ => by
    cases h
    exact ⟨rfl, rfl⟩
  | _, t :: ts, lo, hi, h, ha => by
    rw [List.all_cons, Bool.and_eq_true] at ha
    cases h with
    | cons h1 h2 =>
      obtain ⟨e1, e2⟩ := TgAll.ofInts h2 ha.2
      obtain ⟨i, rfl, _⟩ := Tg.within_int ha.1
      cases h1
      exact ⟨by rw [List.map_cons, List.map_cons, ← e1]; rfl, by rw [List.map_cons, List.map_cons, ← e2]; rfl⟩
def hasI (i : Int) : Tg → Bool
  | .tup ts => decide (i ∈ ts.map Tg.toI)
  | _ => false
def deedTailT (n num : Int) : List Tg → Bool
  | [g, t, r, w] => g.within 0 (n - 1) && (t.within 0 (n - 1) && (!decide (g.toI = t.toI) && (risT 2 num r && (risT 3 n w && (!hasI g.toI w && !hasI t.toI w)))))
  | _ => false
def actTailT (num : Int) : List Tg → Bool
  | [x] => x.within 0 (num - 1)
  | _ => false
def tailT (n num : Int) (x : Tg) (r : List Tg) : Bool := match x with
  | .str z => if z = "deed" then deedTailT n num r else decide (z ∈ [("paid" : Str), "void", "undone"]) && actTailT num r
  | _ => false
def isEntT (n : Int) : Tg → Bool
  | .tup (a :: b :: c :: d :: e :: f :: r) => a.within 0 30 && (b.within 0 9999 && (c.within 0 9999 && (d.within 0 3 && tailT n a.toI e (f :: r))))
  | _ => false
def ActWG (K : PySem.W.Frag) (mg : Str → Option Value) (a : Addr) : Prop := mg "ACT_WORDS" = some (.ref a) ∧ ∀ H : Hp, SqT K H a (([("paid" : Str), "void", "undone"] : List Str).map V.str)
def lenT : Tg → Int | .tup ts => ts.length | _ => 0
section
variable {P : Program} {w : World} {K : PySem.W.Frag} {mg : Str → Option Value} {base : Heap}
abbrev sIsRisG : Stmt := topS 19
abbrev nIsRisG : List Str := ["things", "ahead", "behind"]
abbrev pIsRisG : List Str := ["things"]
theorem scIsRisG : FnScope nIsRisG pIsRisG (defScope sIsRisG) := ⟨rfl, rfl, rfl, by decide +kernel, rfl, by decide +kernel, by decide +kernel⟩
def spRisG : Sp := fun vs H Q _ => ∃ (t : Addr) (ns : List Int), vs = [.ref t] ∧ H t = some (.tup (ns.map V.int)) ∧ ns.length ≤ 1000 ∧ ∀ H', Same H H' → Q (.bl (risI ns)) H'
theorem ok_IsRisG {f : Addr} {fd : FuncData} {k : Nat} (F : Fun K "is_rising" "is_rising" sIsRisG f fd) (m_zip : mg "zip" = none) (m_all : mg "all" = none) : FnOk P w K mg base CX0 (k + 1) f fd pIsRisG spRisG := by
  refine F.ok scIsRisG (fun vs H Q E h => ?_) (fun cdv A outer s H vs Q E hr h => ?_)
  · obtain ⟨t, ns, rfl, _⟩ := h
    rfl
  · obtain ⟨t, ns, rfl, et, hl, q⟩ := h
    have nd := scIsRisG.nd
    refine ⟨_, pss_one (ps_ret (pe_callB (cr_all rfl) (by rfl) m_all (by decide +kernel) (pa_cons (pe_lc (own := [("ahead", 1), ("behind", 2)]) (g := gTup K 2 (gCons (gName 1) (gCons (gName 2) gNil))) (by rfl) nd (pi_zipA (by rfl) m_zip (pa_cons (pv 0) (pa_cons (pe_slice sl_tupA (pv 0) (po_some pe_int) po_none) pa_nil))) (blkOk_by (own := [("ahead", 1), ("behind", 2)]) (N := nIsRisG) (sc := defScope sIsRisG) (by decide +kernel)) (fun _ _ _ _ _ => (pg_tup (by rfl) (pgs_cons (pg_name (i := 1) nd rfl (.inl rfl)) (pgs_cons (pg_name (i := 2) nd rfl (.inl rfl)) pgs_nil)))) (fun _ _ _ _ _ => pts_nil)
          (fun _ _ _ _ _ => (pe_cmpR op_lt (pv 1) (pv 2) (nomark _)))) pa_nil))), ?_⟩
    refine ⟨_, rfl, _, rfl, _, rfl, ?_⟩
    dsimp only [tNoPart]
    refine slA_same et fun t2 H2 s2 e2 => ?_
    have e2' : H2 t2 = some (.tup ((ns.drop 1).map V.int)) := by
      rw [e2]
      exact congrArg (fun l => some (HO.tup l)) (cutDropG V.int ns 1)
    refine ⟨t, t2, ns.map V.int, (ns.drop 1).map V.int, rfl, .inr ⟨SqT.of (s2 _ _ et), SqT.of e2', fun M nM => ?_⟩⟩
    refine lc_sameM (walk_zipG (n := ns.length - 1) (by simp)) (List.range (ns.length - 1)) (fun j => .bl (ltAt ns j)) (by rw [List.length_range]) (by rw [List.length_range]; omega) nM (fun H s => ⟨SqT.of (s _ _ (s2 _ _ et)), SqT.of (s _ _ e2')⟩) ?_ ?_
    · rintro j y x H3 H3' hy s3 ⟨T0, xx, yy, rfl, nT, rfl, hxx, hyy⟩ Q1 q1
      obtain rfl : j = y := by
        have h9 := (List.getElem?_eq_some_iff.mp hy).2
        rw [List.getElem_range] at h9
        exact h9
      dsimp only at hxx hyy
      rw [List.getElem?_map] at hxx hyy
      rw [List.getElem?_drop] at hyy
      cases hz : ns[j]? with
      | none => rw [hz] at hxx; cases hxx
      | some m =>
        rw [hz] at hxx
        injection hxx with hxx
        subst hxx
        rw [show 1 + j = j + 1 by omega] at hyy
        cases hz2 : ns[j + 1]? with
        | none => rw [hz2] at hyy; cases hyy
        | some m2 =>
          rw [hz2] at hyy
          injection hyy with hyy
          subst hyy
          have s4 := same_new nT (.tup [.int m, .int m2])
          have eT : (upd H3 T0 (.tup [.int m, .int m2])) T0 = some (.tup [.int m, .int m2]) := upd_same
          generalize (upd H3 T0 (.tup [.int m, .int m2])) = H4 at s4 eT
          refine ⟨T0, _, rfl, SqT.of eT, rfl, _, _, rfl, _, _, rfl, rfl, rfl, ?_⟩
          refine ⟨_, rfl, _, rfl, _, _, rfl, rfl, ?_⟩
          have e : ltAt ns j = decide (m < m2) := by
            unfold ltAt
            rw [hz, hz2]
            rfl
          have := q1 _ s4
          rw [e] at this
          exact this
    intro H3 s3 eM
    refine ⟨M, (List.range (ns.length - 1)).map (ltAt ns), rfl, SqL.of (by rw [eM, List.map_map]; rfl), ?_⟩
    rw [all_map_id]
    exact q _ (s2.trans s3)
abbrev sIsRisB : Stmt := topS 20
abbrev nIsRisB : List Str := ["thing", "most", "limit", "part"]
abbrev pIsRisB : List Str := ["thing", "most", "limit"]
theorem scIsRisB : FnScope nIsRisB pIsRisB (defScope sIsRisB) := ⟨rfl, rfl, rfl, by decide +kernel, rfl, by decide +kernel, by decide +kernel⟩
def spRisBG : Sp := fun vs H Q _ => ∃ (p : Addr) (v : V) (t : Tg) (most limit : Int), vs = [v, .int most, .int limit] ∧ TgAt p H v t ∧ most ≤ 1000 ∧ ∀ H', Same H H' → Q (.bl (risT most limit t)) H'
theorem ok_IsRisB {f : Addr} {fd : FuncData} {k : Nat} (F : Fun K "is_rising_below" "is_rising_below" sIsRisB f fd) (C_is_within : CallOk P w K mg base k "is_within" pIsWithin spWi) (C_is_rising : CallOk P w K mg base k "is_rising" pIsRisG spRisG) (m_isinstance : mg "isinstance" = none) (m_tuple : mg "tuple" = none) (m_len : mg "len" = none) (m_all : mg "all" = none) : FnOk P w K mg base CX0 (k + 1) f fd pIsRisB spRisBG := by
  refine F.ok scIsRisB (fun vs H Q E h => ?_) (fun cdv A outer s H vs Q E hr h => ?_)
  · obtain ⟨p, v, t, most, limit, rfl, _⟩ := h
    rfl
  · obtain ⟨p, v, t, most, limit, rfl, hT, hm, q⟩ := h
    have nd := scIsRisB.nd
    refine ⟨_, pss_cons (ps_if (PW.pt (pw_or (pt_not (pt_val (pe_callB call_isi (by rfl) m_isinstance (by decide +kernel) (pa_cons (pv 0) (pa_cons (pe_bltn (v := .ty "tuple") (by rfl) m_tuple (by decide +kernel) rfl) pa_nil))))) (pw_or1 (pt_cmpR op_gt (pe_callB call_len_seq (by rfl) m_len (by decide +kernel) (pa_cons (pv 0) pa_nil)) (pv 1) (nomark _))))) (pss_one (ps_ret pe_bl)) pss_nil)
      (pss_one (ps_ret (pe_and (pe_callB (cr_all rfl) (by rfl) m_all (by decide +kernel) (pa_cons (pe_lc (own := [("part", 3)]) (g := gName 3) (by rfl) nd (pi_tup (pv 0)) (blkOk_by (own := [("part", 3)]) (N := nIsRisB) (sc := defScope sIsRisB) (by decide +kernel)) (fun _ _ _ _ _ => (pg_name (i := 3) nd rfl (.inl rfl))) (fun _ _ _ _ _ => pts_nil)
          (fun _ _ _ _ _ => (pe_call C_is_within.ok hr (by rfl) C_is_within.g C_is_within.kp C_is_within.b .nil pass0 (pa_cons (pv 3) (pa_cons pe_int (pa_cons (pe_op op_sub (pv 2) pe_int) pa_nil)))))) pa_nil)) (pe_one (pe_call C_is_rising.ok hr (by rfl) C_is_rising.g C_is_rising.kp C_is_rising.b .nil pass0 (pa_cons (pv 0) pa_nil)))))), ?_⟩
    refine ⟨_, rfl, _, _, _, _, t.isT, rfl, .ty "tuple", hT.ty, kit_ty t.kT, _, rfl, ?_⟩
    cases hc : t.isT with
    | false =>
      refine iteT ?_
      have h := q _ (same_refl _)
      have e : risT most limit t = false := by cases t <;> first | rfl | cases hc
      rw [e] at h
      exact h
    | true =>
      refine iteF ?_
      obtain ⟨a, xs, ts, rfl, rfl, ea, hts⟩ := hT.tupOf hc
      have hlen := hts.length
      have q1 : ∀ H', Same H H' → Q (.bl (decide ((ts.length : Int) ≤ most) && (ts.all (Tg.within 0 (limit - 1)) && risI (ts.map Tg.toI)))) H' := q
      refine ⟨_, rfl, a, _, rfl, .inr (SqT.of ea), _, rfl, _, _, rfl, rfl, _, rfl, ?_⟩
      by_cases hgt : ((xs.length : Nat) : Int) > most
      · rw [decide_eq_true hgt]
        refine iteT ?_
        rw [decide_eq_false (show ¬ (ts.length : Int) ≤ most by omega)] at q1
        exact q1 _ (same_refl _)
      · rw [decide_eq_false hgt]
        refine iteF ?_
        rw [decide_eq_true (show (ts.length : Int) ≤ most by omega), Bool.true_and] at q1
        refine ⟨_, rfl, a, rfl, ⟨_, SqT.of ea⟩, fun M nM => ?_⟩
        refine lc_sameM (walk_tup (xs := xs)) ts (fun y => .bl (y.within 0 (limit - 1))) hlen.symm (by omega) nM (fun H s => SqT.of (s _ _ ea)) ?_ ?_
        · rintro i y x H2' H2 hy s2 ⟨rfl, hx⟩ Q1 q1'
          exact ⟨rfl, _, rfl, _, rfl, _, _, rfl, rfl, p, x, y, 0, limit - 1, rfl, TgAt.same s2 _ _ (hts.at hx hy), fun H3 s3 => q1' _ s3⟩
        intro H2 s2 eM
        refine ⟨M, ts.map (Tg.within 0 (limit - 1)), rfl, SqL.of (by rw [eM, List.map_map]; rfl), ?_⟩
        rw [all_map_id]
        refine ⟨_, rfl, ?_⟩
        refine ite2 (fun c => ?_) (fun c => ?_)
        · have c' : ts.all (Tg.within 0 (limit - 1)) = true := c
          rw [c', Bool.true_and] at q1
          obtain ⟨e1, _⟩ := hts.ofInts c'
          refine ⟨_, rfl, a, ts.map Tg.toI, rfl, ?_, by rw [List.length_map]; omega, fun H3 s3 => q1 _ (s2.trans s3)⟩
          rw [s2 _ _ ea, ← e1]
        · have c' : ts.all (Tg.within 0 (limit - 1)) = false := Bool.eq_false_iff.mpr c
          rw [c', Bool.false_and] at q1
          exact q1 _ s2
abbrev sIsDeedT : Stmt := topS 21
abbrev nIsDeedT : List Str := ["folk", "number", "tail", "giver", "taker", "rests", "witnesses", "last"]
abbrev pIsDeedT : List Str := ["folk", "number", "tail"]
theorem scIsDeedT : FnScope nIsDeedT pIsDeedT (defScope sIsDeedT) := ⟨rfl, rfl, rfl, by decide +kernel, rfl, by decide +kernel, by decide +kernel⟩
def spDeedTG : Sp := fun vs H Q _ => ∃ (p fa a : Addr) (fx xs : List V) (ts : List Tg) (num : Int), vs = [.ref fa, .int num, .ref a] ∧ H fa = some (.tup fx) ∧ H a = some (.tup xs) ∧ TgAll p H xs ts ∧ ∀ H', Same H H' → Q (.bl (deedTailT fx.length num ts)) H'
theorem ok_IsDeedT {f : Addr} {fd : FuncData} {k : Nat} (F : Fun K "is_deed_tail" "is_deed_tail" sIsDeedT f fd) (C_is_within : CallOk P w K mg base k "is_within" pIsWithin spWi) (C_is_rising_below : CallOk P w K mg base k "is_rising_below" pIsRisB spRisBG) (m_len : mg "len" = none) (iMOST_RESTS : MgInt mg "MOST_RESTS" 2) (iMOST_WITNESSES : MgInt mg "MOST_WITNESSES" 3) : FnOk P w K mg base CX0 (k + 1) f fd pIsDeedT spDeedTG := by
  refine F.ok scIsDeedT (fun vs H Q E h => ?_) (fun cdv A outer s H vs Q E hr h => ?_)
  · obtain ⟨p, fa, a, fx, xs, ts, num, rfl, _⟩ := h
    rfl
  · obtain ⟨p, fa, a, fx, xs, ts, num, rfl, ef, ea, hts, q⟩ := h
    have nd := scIsDeedT.nd
    refine ⟨_, pss_cons (ps_if (pt_cmpR op_ne (pe_callB call_len_seq (by rfl) m_len (by decide +kernel) (pa_cons (pv 2) pa_nil)) pe_int (nomark _)) (pss_one (ps_ret pe_bl)) pss_nil)
      (pss_cons (ps_asg (pv 2) (pg_tup (by rfl) (pgs_cons (pg_name (i := 3) nd rfl (.inl rfl)) (pgs_cons (pg_name (i := 4) nd rfl (.inl rfl)) (pgs_cons (pg_name (i := 5) nd rfl (.inl rfl)) (pgs_cons (pg_name (i := 6) nd rfl (.inl rfl)) pgs_nil))))))
      (pss_cons (ps_set (i := 7) nd rfl (.inl rfl) (pe_op op_sub (pe_callB call_len_seq (by rfl) m_len (by decide +kernel) (pa_cons (pv 0) pa_nil)) pe_int))
      (pss_cons (ps_if (PW.pt (pw_or (pt_not (pt_val (pe_call C_is_within.ok hr (by rfl) C_is_within.g C_is_within.kp C_is_within.b .nil pass0 (pa_cons (pv 3) (pa_cons pe_int (pa_cons (pv 7) pa_nil)))))) (pw_or (pt_not (pt_val (pe_call C_is_within.ok hr (by rfl) C_is_within.g C_is_within.kp C_is_within.b .nil pass0 (pa_cons (pv 4) (pa_cons pe_int (pa_cons (pv 7) pa_nil)))))) (pw_or1 (pt_cmpR op_eq (pv 3) (pv 4) (nomark _)))))) (pss_one (ps_ret pe_bl)) pss_nil)
      (pss_cons (ps_if (pt_not (pt_val (pe_call C_is_rising_below.ok hr (by rfl) C_is_rising_below.g C_is_rising_below.kp C_is_rising_below.b .nil pass0 (pa_cons (pv 5) (pa_cons (pe_num (by rfl) iMOST_RESTS) (pa_cons (pv 1) pa_nil)))))) (pss_one (ps_ret pe_bl)) pss_nil)
      (pss_cons (ps_if (pt_not (pt_val (pe_call C_is_rising_below.ok hr (by rfl) C_is_rising_below.g C_is_rising_below.kp C_is_rising_below.b .nil pass0 (pa_cons (pv 6) (pa_cons (pe_num (by rfl) iMOST_WITNESSES) (pa_cons (pe_callB call_len_seq (by rfl) m_len (by decide +kernel) (pa_cons (pv 0) pa_nil)) pa_nil)))))) (pss_one (ps_ret pe_bl)) pss_nil)
      (pss_one (ps_ret (pe_and (pe_cmpR op_notIn_seq (pv 3) (pv 6) (by rfl)) (pe_one (pe_cmpR op_notIn_seq (pv 4) (pv 6) (by rfl))))))))))), ?_⟩
    have hlen := hts.length
    refine ⟨_, rfl, a, _, rfl, .inr (SqT.of ea), rfl, _, rfl, ?_⟩
    by_cases h4 : ts.length = 4
    · rw [show decide (V.int (xs.length : Nat) = V.int 4) = true from decide_eq_true (by rw [hlen, h4]; rfl)]
      refine iteF ?_
      obtain ⟨xg, xt, xr, xw, rfl⟩ := len4 (hlen.trans h4)
      obtain ⟨tg, tt, tr, tw, rfl⟩ := len4 h4
      cases hts with
      | cons hg h' =>
      cases h' with
      | cons ht h' =>
      cases h' with
      | cons hr' h' =>
      cases h' with
      | cons hw _ =>
      refine ⟨_, rfl, a, _, rfl, SqT.of ea, rfl, _, _, rfl, _, _, rfl, _, _, rfl, _, _, rfl, rfl, ?_⟩
      refine ⟨_, rfl, fa, _, rfl, .inr (SqT.of ef), _, _, rfl, rfl, ?_⟩
      have q1 : ∀ H', Same H H' → Q (.bl (tg.within 0 ((fx.length : Int) - 1) && (tt.within 0 ((fx.length : Int) - 1) && (!decide (tg.toI = tt.toI) && (risT 2 num tr && (risT 3 fx.length tw && (!hasI tg.toI tw && !hasI tt.toI tw))))))) H' := q
      clear q
      refine ⟨_, rfl, _, rfl, p, xg, tg, 0, _, rfl, hg, fun H1 s1 => ⟨_, rfl, ?_⟩⟩
      cases c1 : tg.within 0 ((fx.length : Int) - 1) with
      | false =>
        refine iteT ?_
        have h := q1 _ s1
        rw [c1] at h
        exact h
      | true =>
      refine iteF ?_
      rw [c1, Bool.true_and] at q1
      refine ⟨_, rfl, _, rfl, p, xt, tt, 0, _, rfl, TgAt.same s1 _ _ ht, fun H2 s2 => ⟨_, rfl, ?_⟩⟩
      have s02 := s1.trans s2
      cases c2 : tt.within 0 ((fx.length : Int) - 1) with
      | false =>
        refine iteT ?_
        have h := q1 _ s02
        rw [c2] at h
        exact h
      | true =>
      refine iteF ?_
      rw [c2, Bool.true_and] at q1
      obtain ⟨g, rfl, _, _⟩ := Tg.within_int c1
      obtain ⟨t, rfl, _, _⟩ := Tg.within_int c2
      cases hg
      cases ht
      refine ⟨_, rfl, _, rfl, rfl, _, rfl, ?_⟩
      rw [show decide (V.int g = V.int t) = decide (g = t) by by_cases e : g = t <;> simp [e]]
      have q2 : ∀ H', Same H H' → Q (.bl (!decide (g = t) && (risT 2 num tr && (risT 3 fx.length tw && (!hasI g tw && !hasI t tw))))) H' := q1
      clear q1
      cases c3 : decide (g = t) with
      | true =>
        refine iteT ?_
        have h := q2 _ s02
        rw [c3] at h
        exact h
      | false =>
      refine iteF ?_
      rw [c3, Bool.not_false, Bool.true_and] at q2
      refine ⟨_, rfl, _, rfl, p, xr, tr, 2, num, rfl, TgAt.same s02 _ _ hr', by decide, fun H3 s3 => ⟨_, rfl, ?_⟩⟩
      have s03 := s02.trans s3
      cases c4 : risT 2 num tr with
      | false =>
        refine iteT ?_
        have h := q2 _ s03
        rw [c4] at h
        exact h
      | true =>
      refine iteF ?_
      rw [c4, Bool.true_and] at q2
      refine ⟨_, rfl, _, rfl, fa, _, rfl, .inr (SqT.of (s03 _ _ ef)), p, xw, tw, 3, _, rfl, TgAt.same s03 _ _ hw, by decide, fun H4 s4 => ⟨_, rfl, ?_⟩⟩
      have s04 := s03.trans s4
      cases c5 : risT 3 fx.length tw with
      | false =>
        refine iteT ?_
        have h := q2 _ s04
        rw [c5] at h
        exact h
      | true =>
      refine iteF ?_
      rw [c5, Bool.true_and] at q2
      have htw : tw.isT = true := by cases tw <;> first | rfl | cases c5
      obtain ⟨wa, wxs, wts, rfl, rfl, ew, hwts⟩ := hw.tupOf htw
      have c5' : (decide ((wts.length : Int) ≤ 3) && (wts.all (Tg.within 0 ((fx.length : Int) - 1)) && risI (wts.map Tg.toI))) = true := c5
      rw [Bool.and_eq_true, Bool.and_eq_true] at c5'
      obtain ⟨e1, _⟩ := hwts.ofInts c5'.2.1
      have ew4 : H4 wa = some (.tup ((wts.map Tg.toI).map V.int)) := by rw [s04 _ _ ew, ← e1]
      have q3 : ∀ H', Same H H' → Q (.bl (!decide (g ∈ wts.map Tg.toI) && !decide (t ∈ wts.map Tg.toI))) H' := q2
      refine ⟨_, rfl, _, rfl, wa, _, rfl, .inr (SqT.of ew4), rfl, flat_ints _, _, rfl, ?_⟩
      rw [show (if true = true then !inV (V.int g) ((wts.map Tg.toI).map V.int) else inV (V.int g) ((wts.map Tg.toI).map V.int)) = !decide (g ∈ wts.map Tg.toI) by rw [if_pos rfl, mem_inV]]
      cases c6 : decide (g ∈ wts.map Tg.toI) with
      | true =>
        refine iteF ?_
        have h := q3 _ s04
        rw [c6] at h
        exact h
      | false =>
        refine iteT ?_
        rw [c6] at q3
        refine ⟨_, rfl, _, rfl, wa, _, rfl, .inr (SqT.of ew4), rfl, flat_ints _, ?_⟩
        rw [show (if true = true then !inV (V.int t) ((wts.map Tg.toI).map V.int) else inV (V.int t) ((wts.map Tg.toI).map V.int)) = !decide (t ∈ wts.map Tg.toI) by rw [if_pos rfl, mem_inV]]
        exact q3 _ s04
    · rw [show decide (V.int (xs.length : Nat) = V.int 4) = false from decide_eq_false fun z => h4 (by injection z with z; omega)]
      refine iteT ?_
      have h := q _ (same_refl _)
      have e : deedTailT fx.length num ts = false := by
        match ts, h4 with
        | [], _ => rfl
        | [_], _ => rfl
        | [_, _], _ => rfl
        | [_, _, _], _ => rfl
        | [_, _, _, _], h4 => exact absurd rfl h4
        | _ :: _ :: _ :: _ :: _ :: _, _ => rfl
      rw [e] at h
      exact h
abbrev sIsActT : Stmt := topS 22
abbrev nIsActT : List Str := ["number", "tail"]
abbrev pIsActT : List Str := ["number", "tail"]
theorem scIsActT : FnScope nIsActT pIsActT (defScope sIsActT) := ⟨rfl, rfl, rfl, by decide +kernel, rfl, by decide +kernel, by decide +kernel⟩
def spActTG : Sp := fun vs H Q _ => ∃ (p a : Addr) (xs : List V) (ts : List Tg) (num : Int), vs = [.int num, .ref a] ∧ H a = some (.tup xs) ∧ TgAll p H xs ts ∧ ∀ H', Same H H' → Q (.bl (actTailT num ts)) H'
theorem ok_IsActT {f : Addr} {fd : FuncData} {k : Nat} (F : Fun K "is_act_tail" "is_act_tail" sIsActT f fd) (C_is_within : CallOk P w K mg base k "is_within" pIsWithin spWi) (m_len : mg "len" = none) : FnOk P w K mg base CX0 (k + 1) f fd pIsActT spActTG := by
  refine F.ok scIsActT (fun vs H Q E h => ?_) (fun cdv A outer s H vs Q E hr h => ?_)
  · obtain ⟨p, a, xs, ts, num, rfl, _⟩ := h
    rfl
  · obtain ⟨p, a, xs, ts, num, rfl, ea, hts, q⟩ := h
    have nd := scIsActT.nd
    refine ⟨_, pss_one (ps_ret (pe_and (pe_cmpR op_eq (pe_callB call_len_seq (by rfl) m_len (by decide +kernel) (pa_cons (pv 1) pa_nil)) pe_int (nomark _)) (pe_one (pe_call C_is_within.ok hr (by rfl) C_is_within.g C_is_within.kp C_is_within.b .nil pass0 (pa_cons (pe_ix ix_tup (pv 1) pe_int (fun _ _ => rfl)) (pa_cons pe_int (pa_cons (pe_op op_sub (pv 0) pe_int) pa_nil))))))), ?_⟩
    have hlen := hts.length
    refine ⟨_, rfl, a, _, rfl, .inr (SqT.of ea), rfl, _, rfl, ?_⟩
    by_cases h1 : ts.length = 1
    · rw [show decide (V.int (xs.length : Nat) = V.int 1) = true from decide_eq_true (by rw [hlen, h1]; rfl)]
      refine iteT ?_
      obtain ⟨x, rfl⟩ := len1 (hlen.trans h1)
      obtain ⟨t, rfl⟩ := len1 h1
      cases hts with
      | cons hx _ =>
      exact ⟨_, rfl, a, _, 0, _, rfl, rfl, SqT.of ea, atI_nat (j := 0) rfl, _, rfl, _, _, rfl, rfl, p, x, t, 0, num - 1, rfl, hx, q⟩
    · rw [show decide (V.int (xs.length : Nat) = V.int 1) = false from decide_eq_false fun z => h1 (by injection z with z; omega)]
      refine iteF ?_
      have h := q _ (same_refl _)
      have e : actTailT num ts = false := by
        match ts, h1 with
        | [], _ => rfl
        | [_], h1 => exact absurd rfl h1
        | _ :: _ :: _, _ => rfl
      rw [e] at h
      exact h
end
end Deed

namespace Deed
open PySem PySem.Spec PyProof.Rows L2 LamX
section
variable {P : Program} {w : World} {K : PySem.W.Frag} {mg : Str → Option Value} {base : Heap}
theorem TgAt.str_iff {p : Addr} {H : Hp} {v : V} {t : Tg} (h : TgAt p H v t) (z : Str) : v = .str z ↔ t = .str z := by
  cases h <;> simp
theorem tailT_deed {n num : Int} {x : Tg} {r : List Tg} (h : x = .str "deed") : tailT n num x r = deedTailT n num r := by
  subst h
  unfold tailT
  simp
theorem tailT_act {n num : Int} {x : Tg} {r : List Tg} {z : Str} (h : x = .str z) (h2 : z ≠ "deed") (h3 : z ∈ [("paid" : Str), "void", "undone"]) : tailT n num x r = actTailT num r := by
  subst h
  show (if z = "deed" then _ else _) = _
  rw [if_neg h2, decide_eq_true h3, Bool.true_and]
theorem tailT_no {n num : Int} {x : Tg} {r : List Tg} (h : x ≠ .str "deed") (h2 : ∀ z ∈ [("paid" : Str), "void", "undone"], x ≠ .str z) : tailT n num x r = false := by
  cases x with
  | str z =>
    show (if z = "deed" then _ else _) = _
    rw [if_neg fun e => h (by rw [e]), decide_eq_false fun e => h2 z e rfl, Bool.false_and]
  | _ => rfl
abbrev sIsEntG : Stmt := topS 23
abbrev nIsEntG : List Str := ["folk", "thing", "number", "day", "written", "hand", "word"]
abbrev pIsEntG : List Str := ["folk", "thing"]
theorem scIsEntG : FnScope nIsEntG pIsEntG (defScope sIsEntG) := ⟨rfl, rfl, rfl, by decide +kernel, rfl, by decide +kernel, by decide +kernel⟩
def spEntG : Sp := fun vs H Q _ => ∃ (p : Addr) (vf v : V) (tf t : Tg), vs = [vf, v] ∧ TgAt p H vf tf ∧ TgAt p H v t ∧ ∀ H', Same H H' → Q (.bl (isFolkT tf && isEntT (lenT tf) t)) H'
theorem ok_IsEntG {f : Addr} {fd : FuncData} {k : Nat} {a_ACT_WORDS : Addr} (F : Fun K "is_entry" "is_entry" sIsEntG f fd) (C_is_folk : CallOk P w K mg base k "is_folk" pIsFolkG (spB1 isFolkT)) (C_is_within : CallOk P w K mg base k "is_within" pIsWithin spWi) (C_is_day : CallOk P w K mg base k "is_day" pIsDay (spB1 (Tg.within 0 9999))) (C_is_deed_tail : CallOk P w K mg base k "is_deed_tail" pIsDeedT spDeedTG) (C_is_act_tail : CallOk P w K mg base k "is_act_tail" pIsActT spActTG) (m_isinstance : mg "isinstance" = none) (m_tuple : mg "tuple" = none) (m_len : mg "len" = none) (iOF : MgInt mg "OF" 5) (iLAST_NUMBER : MgInt mg "LAST_NUMBER" 30) (iLAST_HAND : MgInt mg "LAST_HAND" 3) (AW : ActWG K mg a_ACT_WORDS) : FnOk P w K mg base CX0 (k + 1) f fd pIsEntG spEntG := by
  refine F.ok scIsEntG (fun vs H Q E h => ?_) (fun cdv A outer s H vs Q E hr h => ?_)
  · obtain ⟨p, vf, v, tf, t, rfl, _⟩ := h
    rfl
  · obtain ⟨p, vf, v, tf, t, rfl, hTf, hT, q⟩ := h
    have nd := scIsEntG.nd
    have g_ACT_WORDS := AW.1
    refine ⟨_, pss_cons (ps_if (PW.pt (pw_or (pt_not (pt_val (pe_call C_is_folk.ok hr (by rfl) C_is_folk.g C_is_folk.kp C_is_folk.b .nil pass0 (pa_cons (pv 0) pa_nil)))) (pw_or (pt_not (pt_val (pe_callB call_isi (by rfl) m_isinstance (by decide +kernel) (pa_cons (pv 1) (pa_cons (pe_bltn (v := .ty "tuple") (by rfl) m_tuple (by decide +kernel) rfl) pa_nil))))) (pw_or1 (pt_cmpR op_le (pe_callB call_len_seq (by rfl) m_len (by decide +kernel) (pa_cons (pv 1) pa_nil)) (pe_num (by rfl) iOF) (nomark _)))))) (pss_one (ps_ret pe_bl)) pss_nil)
      (pss_cons (ps_asg (pe_slice sl_tupA (pv 1) po_none (po_some (pe_num (by rfl) iOF))) (pg_tup (by rfl) (pgs_cons (pg_name (i := 2) nd rfl (.inl rfl)) (pgs_cons (pg_name (i := 3) nd rfl (.inl rfl)) (pgs_cons (pg_name (i := 4) nd rfl (.inl rfl)) (pgs_cons (pg_name (i := 5) nd rfl (.inl rfl)) (pgs_cons (pg_name (i := 6) nd rfl (.inl rfl)) pgs_nil)))))))
      (pss_cons (ps_if (PW.pt (pw_or (pt_not (pt_val (pe_call C_is_within.ok hr (by rfl) C_is_within.g C_is_within.kp C_is_within.b .nil pass0 (pa_cons (pv 2) (pa_cons pe_int (pa_cons (pe_num (by rfl) iLAST_NUMBER) pa_nil)))))) (pw_or (pt_not (pt_val (pe_call C_is_day.ok hr (by rfl) C_is_day.g C_is_day.kp C_is_day.b .nil pass0 (pa_cons (pv 3) pa_nil)))) (pw_or1 (pt_not (pt_val (pe_call C_is_day.ok hr (by rfl) C_is_day.g C_is_day.kp C_is_day.b .nil pass0 (pa_cons (pv 4) pa_nil)))))))) (pss_one (ps_ret pe_bl)) pss_nil)
      (pss_cons (ps_if (pt_not (pt_val (pe_call C_is_within.ok hr (by rfl) C_is_within.g C_is_within.kp C_is_within.b .nil pass0 (pa_cons (pv 5) (pa_cons pe_int (pa_cons (pe_num (by rfl) iLAST_HAND) pa_nil)))))) (pss_one (ps_ret pe_bl)) pss_nil)
      (pss_cons (ps_if (pt_cmpR (op_eqTS hr.units) (pv 6) pe_str (nomark _)) (pss_one (ps_ret (pe_call C_is_deed_tail.ok hr (by rfl) C_is_deed_tail.g C_is_deed_tail.kp C_is_deed_tail.b .nil pass0 (pa_cons (pv 0) (pa_cons (pv 2) (pa_cons (pe_slice sl_tupA (pv 1) (po_some (pe_num (by rfl) iOF)) po_none) pa_nil)))))) pss_nil)
      (pss_one (ps_ret (pe_and (pe_cmpR (op_inTS hr.units) (pv 6) (pe_glob (v := .ref a_ACT_WORDS) (by rfl) g_ACT_WORDS rfl) (by rfl)) (pe_one (pe_call C_is_act_tail.ok hr (by rfl) C_is_act_tail.g C_is_act_tail.kp C_is_act_tail.b .nil pass0 (pa_cons (pv 2) (pa_cons (pe_slice sl_tupA (pv 1) (po_some (pe_num (by rfl) iOF)) po_none) pa_nil))))))))))), ?_⟩
    refine ⟨_, rfl, p, vf, tf, rfl, hTf, fun H1 s1 => ⟨_, rfl, ?_⟩⟩
    cases cf : isFolkT tf with
    | false =>
      refine iteT ?_
      have h := q _ s1
      rw [cf] at h
      exact h
    | true =>
    refine iteF ?_
    rw [cf, Bool.true_and] at q
    have htf : tf.isT = true := by cases tf <;> first | rfl | cases cf
    obtain ⟨fa, fx, fts, rfl, rfl, ef, hfts⟩ := hTf.tupOf htf
    have hfl : lenT (.tup fts) = (fx.length : Int) := by rw [hfts.length]; rfl
    rw [hfl] at q
    have hT1 := TgAt.same s1 _ _ hT
    refine ⟨_, rfl, _, _, _, _, t.isT, rfl, .ty "tuple", hT1.ty, kit_ty t.kT, _, rfl, ?_⟩
    cases hc : t.isT with
    | false =>
      refine iteT ?_
      have h := q _ s1
      have e : isEntT fx.length t = false := by cases t <;> first | rfl | cases hc
      rw [e] at h
      exact h
    | true =>
    refine iteF ?_
    obtain ⟨a, xs, ts, rfl, rfl, ea, hts⟩ := hT.tupOf hc
    have ea1 := s1 _ _ ea
    have hlen := hts.length
    refine ⟨_, rfl, a, _, rfl, .inr (SqT.of ea1), _, _, rfl, rfl, _, rfl, ?_⟩
    by_cases h6 : 6 ≤ ts.length
    rotate_left
    · rw [decide_eq_true (show ((xs.length : Nat) : Int) ≤ 5 by omega)]
      refine iteT ?_
      have h := q _ s1
      have e : isEntT fx.length (.tup ts) = false := by
        match ts, h6 with
        | [], _ => rfl
        | [_], _ => rfl
        | [_, _], _ => rfl
        | [_, _, _], _ => rfl
        | [_, _, _, _], _ => rfl
        | [_, _, _, _, _], _ => rfl
        | _ :: _ :: _ :: _ :: _ :: _ :: _, h6 => simp at h6
      rw [e] at h
      exact h
    rw [decide_eq_false (show ¬ ((xs.length : Nat) : Int) ≤ 5 by omega)]
    refine iteF ?_
    obtain ⟨xa, xb, xc, xd, xe, xf, xr, rfl⟩ := len6 (show 6 ≤ xs.length by omega)
    obtain ⟨ta, tb, tc, td, te, tf', tr, rfl⟩ := len6 h6
    have htl : TgAll p H (xf :: xr) (tf' :: tr) := hts.drop 5
    cases hts with
    | cons ha h' =>
    cases h' with
    | cons hb h' =>
    cases h' with
    | cons hc' h' =>
    cases h' with
    | cons hd h' =>
    cases h' with
    | cons he _ =>
    refine ⟨_, rfl, _, rfl, slA_same ea1 fun t2 H2 s2 e2 => ?_⟩
    have e2' : H2 t2 = some (.tup [xa, xb, xc, xd, xe]) := by
      rw [e2]
      refine congrArg (fun l => some (HO.tup l)) ?_
      unfold cutV
      rw [HT.sIx_none, show ((5 : Int)) = ((5 : Nat) : Int) from rfl, HT.sIx_nat, Nat.min_eq_left (by simp)]
      rfl
    have s02 := s1.trans s2
    refine ⟨t2, _, rfl, SqT.of e2', rfl, _, _, rfl, _, _, rfl, _, _, rfl, _, _, rfl, _, _, rfl, rfl, ?_⟩
    have q1 : ∀ H', Same H H' → Q (.bl (ta.within 0 30 && (tb.within 0 9999 && (tc.within 0 9999 && (td.within 0 3 && tailT fx.length ta.toI te (tf' :: tr)))))) H' := q
    clear q
    refine ⟨_, rfl, p, xa, ta, 0, 30, rfl, TgAt.same s02 _ _ ha, fun H3 s3 => ⟨_, rfl, ?_⟩⟩
    have s03 := s02.trans s3
    cases c1 : ta.within 0 30 with
    | false =>
      refine iteT ?_
      have h := q1 _ s03
      rw [c1] at h
      exact h
    | true =>
    refine iteF ?_
    rw [c1, Bool.true_and] at q1
    refine ⟨_, rfl, p, xb, tb, rfl, TgAt.same s03 _ _ hb, fun H4 s4 => ⟨_, rfl, ?_⟩⟩
    have s04 := s03.trans s4
    cases c2 : tb.within 0 9999 with
    | false =>
      refine iteT ?_
      have h := q1 _ s04
      rw [c2] at h
      exact h
    | true =>
    refine iteF ?_
    rw [c2, Bool.true_and] at q1
    refine ⟨_, rfl, p, xc, tc, rfl, TgAt.same s04 _ _ hc', fun H5 s5 => ⟨_, rfl, ?_⟩⟩
    have s05 := s04.trans s5
    cases c3 : tc.within 0 9999 with
    | false =>
      refine iteT ?_
      have h := q1 _ s05
      rw [c3] at h
      exact h
    | true =>
    refine iteF ?_
    rw [c3, Bool.true_and] at q1
    refine ⟨_, rfl, p, xd, td, 0, 3, rfl, TgAt.same s05 _ _ hd, fun H6 s6 => ⟨_, rfl, ?_⟩⟩
    have s06 := s05.trans s6
    cases c4 : td.within 0 3 with
    | false =>
      refine iteT ?_
      have h := q1 _ s06
      rw [c4] at h
      exact h
    | true =>
    refine iteF ?_
    rw [c4, Bool.true_and] at q1
    obtain ⟨num, rfl, _, _⟩ := Tg.within_int c1
    cases ha
    have he6 := TgAt.same s06 _ _ he
    have cut5 : ∀ xa' xb' xc' xd' xe' : V, cutV (xa' :: xb' :: xc' :: xd' :: xe' :: xf :: xr) (some (5 : Int)) none = xf :: xr := fun _ _ _ _ _ => by
      unfold cutV
      rw [HT.sIx_none, show ((5 : Int)) = ((5 : Nat) : Int) from rfl, HT.sIx_nat, Nat.min_eq_left (by simp)]
      show List.take _ (xf :: xr) = _
      rw [List.take_of_length_le (by simp)]
    refine ⟨_, rfl, _, rfl, he6.knd, _, rfl, ?_⟩
    by_cases cd : xe = .str "deed"
    · rw [decide_eq_true cd]
      refine iteT ?_
      rw [tailT_deed ((he.str_iff _).mp cd)] at q1
      refine ⟨_, rfl, _, rfl, _, rfl, _, rfl, ?_⟩
      dsimp only [tNoPart]
      refine slA_same (s06 _ _ ea) fun t7 H7 s7 e7 => ?_
      rw [cut5] at e7
      have s07 := s06.trans s7
      exact ⟨p, fa, t7, fx, _, _, num, rfl, s07 _ _ ef, e7, TgAll.same s07 _ _ htl, fun H8 s8 => q1 _ (s07.trans s8)⟩
    rw [decide_eq_false cd]
    refine iteF ?_
    have hnd : te ≠ .str "deed" := fun z => cd ((he.str_iff _).mpr z)
    refine ⟨_, rfl, a_ACT_WORDS, [("paid" : Str), "void", "undone"], rfl, .inr (AW.2 _), he6.knd, _, rfl, ?_⟩
    by_cases ca : xe ∈ ([("paid" : Str), "void", "undone"] : List Str).map V.str
    · simp only [Bool.false_eq_true, if_false]
      rw [decide_eq_true ca]
      refine iteT ?_
      obtain ⟨z, hz, hze⟩ := List.mem_map.mp ca
      have hte : te = .str z := (he.str_iff z).mp hze.symm
      rw [tailT_act hte (fun e => hnd (by rw [hte, e])) hz] at q1
      refine ⟨_, rfl, _, rfl, _, rfl, ?_⟩
      dsimp only [tNoPart]
      refine slA_same (s06 _ _ ea) fun t7 H7 s7 e7 => ?_
      rw [cut5] at e7
      have s07 := s06.trans s7
      exact ⟨p, t7, _, _, num, rfl, e7, TgAll.same s07 _ _ htl, fun H8 s8 => q1 _ (s07.trans s8)⟩
    · simp only [Bool.false_eq_true, if_false]
      rw [decide_eq_false ca]
      refine iteF ?_
      rw [tailT_no hnd fun z hz e => ca (List.mem_map.mpr ⟨z, hz, ((he.str_iff z).mpr e).symm⟩)] at q1
      exact q1 _ s06
end
end Deed

namespace Deed
open PySem PySem.Spec PyProof.Rows L2 LamX
section
variable {X : Cx}
/-- set(t), t a tuple of ints -/
def rSetTu (K : PySem.W.Frag) (w : World) : List V → Hp → VK → Prop := fun xs H Q => ∃ (a : Addr) (ns : List Int), xs = [V.ref a] ∧ SqT K H a (ns.map V.int) ∧ ns.length + 1 < scanBound ∧ ∀ (p : Addr) (c : Nat), H p = none → c ≤ ns.length → Q (.ref p) (upd H p (SetO w p (fun j => decide (j ∈ ns)) c))
theorem cr_setTu (hc : X.calm = true) : CallR X (.type "set") (rSetTu X.K X.w) := by
  intro pins s σ H vs us Q I r h
  obtain ⟨a, ns, rfl, hs, hb, q⟩ := h
  obtain ⟨its, rv, hl, hz⟩ := I.tuple hs
  rw [Vals.ref1 r]
  refine call_set_tupI ns (I.ok.hd hc) hl (by simpa using rv.ints) hb fun h' tk c R lc kp => ?_
  exact ⟨.ref _, _, I.laid (t' := tk) kp (Nat.le_refl _) (setO_new R), rfl, q _ c (I.hok.fresh (Nat.le_refl _)) lc⟩
end
theorem rising_oneG : ∀ {l m : List Int}, l.Pairwise (· < ·) → m.Pairwise (· < ·) → (∀ x, x ∈ l ↔ x ∈ m) → l = m
  | [], [], _, _, _ => rfl
  | [], y :: m, _, _, h => absurd ((h y).mpr List.mem_cons_self) (by simp)
  | x :: l, [], _, _, h => absurd ((h x).mp List.mem_cons_self) (by simp)
  | x :: l, y :: m, h1, h2, h => by
    have a1 := List.pairwise_cons.mp h1
    have a2 := List.pairwise_cons.mp h2
    have exy : x = y := by
      have m1 := (h x).mp List.mem_cons_self
      have m2 := (h y).mpr List.mem_cons_self
      rcases List.mem_cons.mp m1 with e | e
      · exact e
      · rcases List.mem_cons.mp m2 with e' | e'
        · exact e'.symm
        · have := a1.1 y e'
          have := a2.1 x e
          omega
    subst exy
    congr 1
    refine rising_oneG a1.2 a2.2 fun z => ?_
    constructor
    · intro hz
      rcases List.mem_cons.mp ((h z).mp (List.mem_cons_of_mem _ hz)) with e | e
      · have := a1.1 z hz
        omega
      · exact e
    · intro hz
      rcases List.mem_cons.mp ((h z).mpr (List.mem_cons_of_mem _ hz)) with e | e
      · have := a2.1 z hz
        omega
      · exact e
theorem eq_sorted {ns ms : List Int} (h1 : ms.Pairwise (· < ·)) (h2 : ∀ k : Int, k ∈ ms ↔ decide (k ∈ ns) = true) : decide (ns = ms) = risI ns := by
  cases c : risI ns with
  | true =>
    have h := (risI_iff ns).mp c
    exact decide_eq_true (rising_oneG h h1 fun x => by rw [h2 x]; simp)
  | false =>
    refine decide_eq_false fun e => ?_
    subst e
    rw [(risI_iff ns).mpr h1] at c
    cases c
section
variable {P : Program} {w : World} {K : PySem.W.Frag} {mg : Str → Option Value} {base : Heap}
abbrev sLIn : Stmt := topS 39
abbrev nLIn : List Str := ["_law_thing_here", "_law_low", "_law_high"]
abbrev pLIn : List Str := ["_law_thing_here", "_law_low", "_law_high"]
theorem scLIn : FnScope nLIn pLIn (defScope sLIn) := ⟨rfl, rfl, rfl, by decide +kernel, rfl, by decide +kernel, by decide +kernel⟩
theorem ok_LIn {f : Addr} {fd : FuncData} {k : Nat} (F : Fun K "_law_in" "_law_in" sLIn f fd) (m_isinstance : mg "isinstance" = none) (m_int : mg "int" = none) (m_bool : mg "bool" = none) : FnOk P w K mg base CX0 (k + 1) f fd pLIn spWi := by
  refine F.ok scLIn (fun vs H Q E h => ?_) (fun cdv A outer s H vs Q E hr h => ?_)
  · obtain ⟨p, v, t, lo, hi, rfl, _⟩ := h
    rfl
  · obtain ⟨p, v, t, lo, hi, rfl, hT, q⟩ := h
    refine ⟨_, pss_one (ps_ret (pe_and (pe_callB call_isi (by rfl) m_isinstance (by decide +kernel) (pa_cons (pv 0) (pa_cons (pe_bltn (v := .ty "int") (by rfl) m_int (by decide +kernel) rfl) pa_nil))) (pe_and (pe_not (pe_callB call_isi (by rfl) m_isinstance (by decide +kernel) (pa_cons (pv 0) (pa_cons (pe_bltn (v := .ty "bool") (by rfl) m_bool (by decide +kernel) rfl) pa_nil)))) (pe_one (pe_chain op_le op_le (pv 1) (pv 0) (pv 2)))))), ?_⟩
    have q1 := q _ (same_refl _)
    refine ⟨_, rfl, _, _, _, _, t.isI, rfl, .ty "int", hT.ty, kit_ty t.kI, _, rfl, ?_⟩
    cases hT with
    | int i =>
      refine iteT ?_
      refine ⟨_, rfl, _, _, _, _, false, rfl, .ty "bool", .base (.int i), kit_ty (Tg.int i).kB, _, rfl, _, rfl, iteT ?_⟩
      refine ⟨_, rfl, _, rfl, _, _, rfl, rfl, _, rfl, ?_⟩
      have q2 : Q (.bl (decide (lo ≤ i) && decide (i ≤ hi))) H := q1
      refine ite2 (fun c => ?_) (fun c => ?_)
      · have c' : decide (lo ≤ i) = true := c
        rw [c', Bool.true_and] at q2
        exact ⟨_, rfl, _, _, rfl, rfl, q2⟩
      · have c' : decide (lo ≤ i) = false := Bool.eq_false_iff.mpr c
        rw [c', Bool.false_and] at q2
        exact q2
    | bl b =>
      refine iteT ?_
      exact ⟨_, rfl, _, _, _, _, true, rfl, .ty "bool", .base (.bl b), kit_ty (Tg.bl b).kB, _, rfl, _, rfl, iteF q1⟩
    | _ => exact iteF q1
theorem within_died {b d : Int} (hb : -9999 ≤ b) : (decide (-9999 ≤ d) && decide (d ≤ 9999) && !decide (d ≤ b)) = (decide (b + 1 ≤ d) && decide (d ≤ 9999)) := by
  by_cases h1 : d ≤ b
  · rw [decide_eq_true h1, decide_eq_false (show ¬ b + 1 ≤ d by omega)]
    simp
  · rw [decide_eq_false h1, decide_eq_true (show b + 1 ≤ d by omega), decide_eq_true (show -9999 ≤ d by omega)]
    simp
abbrev sLIsFolk : Stmt := topS 40
abbrev nLIsFolk : List Str := ["_law_thing_here", "_law_one"]
abbrev pLIsFolk : List Str := ["_law_thing_here"]
theorem scLIsFolk : FnScope nLIsFolk pLIsFolk (defScope sLIsFolk) := ⟨rfl, rfl, rfl, by decide +kernel, rfl, by decide +kernel, by decide +kernel⟩
theorem ok_LIsFolk {f : Addr} {fd : FuncData} {k : Nat} (F : Fun K "_law_is_folk" "_law_is_folk" sLIsFolk f fd) (C__law_in : CallOk P w K mg base k "_law_in" pLIn spWi) (m_isinstance : mg "isinstance" = none) (m_tuple : mg "tuple" = none) (m_len : mg "len" = none) : FnOk P w K mg base CX0 (k + 1) f fd pLIsFolk (spB1 isFolkT) := by
  refine F.ok scLIsFolk (fun vs H Q E h => ?_) (fun cdv A outer s H vs Q E hr h => ?_)
  · obtain ⟨p, v, t, rfl, _⟩ := h
    rfl
  · obtain ⟨p, v, t, rfl, hT, q⟩ := h
    have nd := scLIsFolk.nd
    refine ⟨_, pss_cons (ps_if (PW.pt (pw_or (pt_not (pt_val (pe_callB call_isi (by rfl) m_isinstance (by decide +kernel) (pa_cons (pv 0) (pa_cons (pe_bltn (v := .ty "tuple") (by rfl) m_tuple (by decide +kernel) rfl) pa_nil))))) (pw_or1 (pt_not (pt_chain op_le op_le pe_int (pe_callB call_len_seq (by rfl) m_len (by decide +kernel) (pa_cons (pv 0) pa_nil)) pe_int))))) (pss_one (ps_ret pe_bl)) pss_nil)
      (pss_cons (ps_for PassesOwn.never rfl (pi_tup (pv 0)) (pg_name (i := 1) nd rfl (.inl rfl))
        (pss_cons (ps_if (PW.pt (pw_or (pt_not (pt_val (pe_callB call_isi (by rfl) m_isinstance (by decide +kernel) (pa_cons (pv 1) (pa_cons (pe_bltn (v := .ty "tuple") (by rfl) m_tuple (by decide +kernel) rfl) pa_nil))))) (pw_or (pt_cmpR op_ne (pe_callB call_len_seq (by rfl) m_len (by decide +kernel) (pa_cons (pv 1) pa_nil)) pe_int (nomark _)) (pw_or1 (pt_not (pt_val (pe_call C__law_in.ok hr (by rfl) C__law_in.g C__law_in.kp C__law_in.b .nil pass0 (pa_cons (pe_ix ix_tup (pv 1) pe_int (fun _ _ => rfl)) (pa_cons (pe_un un_neg pe_int) (pa_cons pe_int pa_nil)))))))))) (pss_one (ps_ret pe_bl)) pss_nil)
      (pss_one (ps_if (PW.pt (pw_and (pt_cmpR op_notN (pe_ix ix_tup (pv 1) pe_int (fun _ _ => rfl)) pe_non (nomark _)) (pw_and1 (PW.pt (pw_or (pt_not (pt_val (pe_call C__law_in.ok hr (by rfl) C__law_in.g C__law_in.kp C__law_in.b .nil pass0 (pa_cons (pe_ix ix_tup (pv 1) pe_int (fun _ _ => rfl)) (pa_cons (pe_un un_neg pe_int) (pa_cons pe_int pa_nil)))))) (pw_or1 (pt_cmpR op_le (pe_ix ix_tup (pv 1) pe_int (fun _ _ => rfl)) (pe_ix ix_tup (pv 1) pe_int (fun _ _ => rfl)) (nomark _)))))))) (pss_one (ps_ret pe_bl)) pss_nil))))
      (pss_one (ps_ret pe_bl))), ?_⟩
    refine ⟨_, rfl, _, _, _, _, t.isT, rfl, .ty "tuple", hT.ty, kit_ty t.kT, _, rfl, ?_⟩
    cases hc : t.isT with
    | false =>
      refine iteT ?_
      have h := q _ (same_refl _)
      have e : isFolkT t = false := by cases t <;> first | rfl | cases hc
      rw [e] at h
      exact h
    | true =>
    refine iteF ?_
    obtain ⟨a, xs, ts, rfl, rfl, ea, hts⟩ := hT.tupOf hc
    have hlen := hts.length
    refine ⟨_, rfl, a, _, rfl, .inr (SqT.of ea), _, _, rfl, rfl, _, rfl, ?_⟩
    have q1 : ∀ H', Same H H' → Q (.bl ((decide (1 ≤ ts.length) && decide (ts.length ≤ 6)) && ts.all isPersonT)) H' := q
    by_cases h1 : 1 ≤ ts.length
    rotate_left
    · rw [decide_eq_false (show ¬ (1 : Int) ≤ (xs.length : Nat) by omega)]
      refine ⟨_, rfl, iteT ?_⟩
      rw [decide_eq_false h1] at q1
      exact q1 _ (same_refl _)
    rw [decide_eq_true (show (1 : Int) ≤ (xs.length : Nat) by omega)]
    refine iteT ?_
    refine ⟨_, _, rfl, rfl, _, rfl, ?_⟩
    by_cases h6 : ts.length ≤ 6
    rotate_left
    · rw [decide_eq_false (show ¬ ((xs.length : Nat) : Int) ≤ 6 by omega)]
      refine iteT ?_
      rw [decide_eq_true h1, decide_eq_false h6] at q1
      exact q1 _ (same_refl _)
    rw [decide_eq_true (show ((xs.length : Nat) : Int) ≤ 6 by omega)]
    refine iteF ?_
    rw [decide_eq_true h1, decide_eq_true h6] at q1
    have bad : ∀ H', Same H H' → (∃ y ∈ ts, isPersonT y = false) → Q (.bl false) H' := fun H' s' ⟨y, hy, hn⟩ => by
      have h := q1 _ s'
      rw [show ts.all isPersonT = false from List.all_eq_false.mpr ⟨y, hy, by rw [hn]; decide⟩] at h
      exact h
    refine ⟨_, rfl, a, rfl, ⟨_, SqT.of ea⟩, ?_⟩
    refine for_tup (K := K) (a := a) (xs := xs) (fun i σ H' => ∃ y1, σ = [some (.ref a), y1] ∧ Same H H' ∧ ∀ y ∈ ts.take i, isPersonT y = true) ⟨_, rfl, same_refl _, fun y h => nomatch h⟩ (fun i σ H' _ h => ?_) ?_ ?_
    · obtain ⟨_, _, s2, _⟩ := h
      exact SqT.of (s2 _ _ ea)
    · rintro i x σ H2 hx ⟨y1, rfl, s2, hall⟩
      obtain ⟨y, hy, hxy⟩ := hts.get hx
      have hym := List.mem_of_getElem? hy
      have hT2 := TgAt.same s2 _ _ hxy
      refine ⟨_, rfl, _, _, _, _, y.isT, rfl, .ty "tuple", hT2.ty, kit_ty y.kT, _, rfl, ?_⟩
      cases hc2 : y.isT with
      | false => exact iteT (bad _ s2 ⟨y, hym, by cases y <;> first | rfl | cases hc2⟩)
      | true =>
      refine iteF ?_
      obtain ⟨a2, xs2, ts2, rfl, rfl, ea2, hts2⟩ := hT2.tupOf hc2
      have hlen2 := hts2.length
      refine ⟨_, rfl, a2, _, rfl, .inr (SqT.of ea2), rfl, _, rfl, ?_⟩
      by_cases h2 : ts2.length = 2
      rotate_left
      · rw [show decide (V.int (xs2.length : Nat) = V.int 2) = false from decide_eq_false fun z => h2 (by injection z with z; omega)]
        refine iteT (bad _ s2 ⟨_, hym, ?_⟩)
        match ts2, h2 with
        | [], _ => rfl
        | [_], _ => rfl
        | [_, _], h2 => exact absurd rfl h2
        | _ :: _ :: _ :: _, _ => rfl
      rw [show decide (V.int (xs2.length : Nat) = V.int 2) = true from decide_eq_true (by rw [hlen2, h2]; rfl)]
      refine iteF ?_
      obtain ⟨xb, xd, rfl⟩ := len2 (hlen2.trans h2)
      obtain ⟨tb, td, rfl⟩ := len2 h2
      cases hts2 with
      | cons hb h' =>
      cases h' with
      | cons hd _ =>
      refine ⟨_, rfl, a2, _, 0, _, rfl, rfl, SqT.of ea2, atI_nat (j := 0) rfl, _, rfl, p, xb, tb, -9999, 9999, rfl, hb, fun H3 s3 => ⟨_, rfl, ?_⟩⟩
      have s03 := s2.trans s3
      cases hw : tb.within (-9999) 9999 with
      | false => exact iteT (bad _ s03 ⟨_, hym, by show (tb.within (-9999) 9999 && _) = false; rw [hw]; rfl⟩)
      | true =>
      refine iteF ?_
      obtain ⟨b, rfl, hb0, hb1⟩ := Tg.within_int hw
      cases hb
      have ea3 := s3 _ _ ea2
      have hper : isPersonT (.tup [.int b, td]) = diedT b td := by
        show ((Tg.int b).within (-9999) 9999 && _) = _
        rw [hw, Bool.true_and]
        rfl
      have good : diedT b td = true → ∀ y ∈ ts.take (i + 1), isPersonT y = true := fun hdt y hy' => by
        rw [take_more hy] at hy'
        rcases List.mem_append.mp hy' with h | h
        · exact hall y h
        · rw [List.mem_singleton.mp h, hper]
          exact hdt
      refine ⟨_, rfl, a2, _, 1, _, rfl, rfl, SqT.of ea3, atI_nat (j := 1) rfl, ?_⟩
      by_cases hn : xd = .non
      · subst hn
        cases hd
        refine ⟨rfl, _, rfl, iteF ?_⟩
        exact ⟨_, rfl, s03, good rfl⟩
      · have hne : td ≠ .non := fun z => by
          subst z
          cases hd
          exact hn rfl
        have e : diedT b td = td.within (b + 1) 9999 := by cases td <;> first | rfl | exact absurd rfl hne
        refine ⟨by cases xd <;> rfl, _, rfl, ?_⟩
        rw [show decide (xd = V.non) = false from decide_eq_false hn]
        refine iteT ?_
        refine ⟨_, rfl, a2, _, 1, _, rfl, rfl, SqT.of ea3, atI_nat (j := 1) rfl, _, rfl, p, xd, td, -9999, 9999, rfl, TgAt.same s3 _ _ hd, fun H4 s4 => ⟨_, rfl, ?_⟩⟩
        have s04 := s03.trans s4
        cases hw2 : td.within (-9999) 9999 with
        | false =>
          refine iteT (bad _ s04 ⟨_, hym, ?_⟩)
          rw [hper, e]
          cases td with
          | int d =>
            have := within_died (d := d) hb0
            have hw3 : (decide (-9999 ≤ d) && decide (d ≤ 9999)) = false := hw2
            rw [hw3] at this
            exact this.symm
          | _ => rfl
        | true =>
        refine iteF ?_
        obtain ⟨d, rfl, hd0, hd1⟩ := Tg.within_int hw2
        cases hd
        have ea4 := s4 _ _ ea3
        have hwd := within_died (d := d) hb0
        have hw3 : (decide (-9999 ≤ d) && decide (d ≤ 9999)) = true := hw2
        rw [hw3, Bool.true_and] at hwd
        refine ⟨_, rfl, a2, _, 1, _, rfl, rfl, SqT.of ea4, atI_nat (j := 1) rfl, _, rfl, a2, _, 0, _, rfl, rfl, SqT.of ea4, atI_nat (j := 0) rfl, _, _, rfl, rfl, _, rfl, ?_⟩
        refine ite2 (fun c => ?_) (fun c => ?_)
        · have c' : decide (d ≤ b) = true := c
          refine bad _ s04 ⟨_, hym, ?_⟩
          rw [hper, e]
          show (decide (b + 1 ≤ d) && decide (d ≤ 9999)) = false
          rw [← hwd, c']
          rfl
        · have c' : decide (d ≤ b) = false := Bool.eq_false_iff.mpr c
          refine ⟨_, rfl, s04, good ?_⟩
          rw [e]
          show (decide (b + 1 ≤ d) && decide (d ≤ 9999)) = true
          rw [← hwd, c']
          rfl
    · rintro σ H2 ⟨y1, rfl, s2, hall⟩
      rw [show xs.length = ts.length from hlen, List.take_length] at hall
      have h := q1 _ s2
      rw [List.all_eq_true.mpr hall] at h
      exact h
abbrev sLAre : Stmt := topS 41
abbrev nLAre : List Str := ["_law_thing_here", "_law_most", "_law_high", "_law_one"]
abbrev pLAre : List Str := ["_law_thing_here", "_law_most", "_law_high"]
theorem scLAre : FnScope nLAre pLAre (defScope sLAre) := ⟨rfl, rfl, rfl, by decide +kernel, rfl, by decide +kernel, by decide +kernel⟩
def spLAre : Sp := fun vs H Q _ => ∃ (p : Addr) (v : V) (t : Tg) (most high : Int), vs = [v, .int most, .int high] ∧ TgAt p H v t ∧ most ≤ 60 ∧ ∀ H', Same H H' → Q (.bl (risT most (high + 1) t)) H'
theorem ok_LAre {f : Addr} {fd : FuncData} {k : Nat} (F : Fun K "_law_are" "_law_are" sLAre f fd) (C__law_in : CallOk P w K mg base k "_law_in" pLIn spWi) (m_isinstance : mg "isinstance" = none) (m_tuple : mg "tuple" = none) (m_len : mg "len" = none) (m_all : mg "all" = none) (m_list : mg "list" = none) (m_sorted : mg "sorted" = none) (m_set : mg "set" = none) : FnOk P w K mg base CX0 (k + 1) f fd pLAre spLAre := by
  refine F.ok scLAre (fun vs H Q E h => ?_) (fun cdv A outer s H vs Q E hr h => ?_)
  · obtain ⟨p, v, t, most, high, rfl, _⟩ := h
    rfl
  · obtain ⟨p, v, t, most, high, rfl, hT, hm, q⟩ := h
    have nd := scLAre.nd
    refine ⟨_, pss_cons (ps_if (PW.pt (pw_or (pt_not (pt_val (pe_callB call_isi (by rfl) m_isinstance (by decide +kernel) (pa_cons (pv 0) (pa_cons (pe_bltn (v := .ty "tuple") (by rfl) m_tuple (by decide +kernel) rfl) pa_nil))))) (pw_or (pt_cmpR op_gt (pe_callB call_len_seq (by rfl) m_len (by decide +kernel) (pa_cons (pv 0) pa_nil)) (pv 1) (nomark _)) (pw_or1 (pt_not (pt_val (pe_callB (cr_all rfl) (by rfl) m_all (by decide +kernel) (pa_cons (pe_lc (own := [("_law_one", 3)]) (g := gName 3) (by rfl) nd (pi_tup (pv 0)) (blkOk_by (own := [("_law_one", 3)]) (N := nLAre) (sc := defScope sLAre) (by decide +kernel)) (fun _ _ _ _ _ => (pg_name (i := 3) nd rfl (.inl rfl))) (fun _ _ _ _ _ => pts_nil)
          (fun _ _ _ _ _ => (pe_call C__law_in.ok hr (by rfl) C__law_in.g C__law_in.kp C__law_in.b .nil pass0 (pa_cons (pv 3) (pa_cons pe_int (pa_cons (pv 2) pa_nil)))))) pa_nil)))))))) (pss_one (ps_ret pe_bl)) pss_nil)
      (pss_one (ps_ret (pe_cmpR (op_eqD hr.units) (pe_callTy call_list_of (by rfl) m_list (by decide +kernel) (pa_cons (pv 0) pa_nil)) (pe_callB (show CallR _ (.builtin "sorted") (rSortedSet w) from cr_sortedSet rfl) (by rfl) m_sorted (by decide +kernel) (pa_cons (pe_callTy (show CallR _ (.type "set") (rSetTu K w) from cr_setTu rfl) (by rfl) m_set (by decide +kernel) (pa_cons (pv 0) pa_nil)) pa_nil)) (nomark _)))), ?_⟩
    refine ⟨_, rfl, _, _, _, _, t.isT, rfl, .ty "tuple", hT.ty, kit_ty t.kT, _, rfl, ?_⟩
    cases hc : t.isT with
    | false =>
      refine iteT ?_
      have h := q _ (same_refl _)
      have e : risT most (high + 1) t = false := by cases t <;> first | rfl | cases hc
      rw [e] at h
      exact h
    | true =>
    refine iteF ?_
    obtain ⟨a, xs, ts, rfl, rfl, ea, hts⟩ := hT.tupOf hc
    have hlen := hts.length
    have q1 : ∀ H', Same H H' → Q (.bl (decide ((ts.length : Int) ≤ most) && (ts.all (Tg.within 0 high) && risI (ts.map Tg.toI)))) H' := by
      have e : high + 1 - 1 = high := by omega
      have q' := q
      unfold risT at q'
      rw [e] at q'
      exact q'
    refine ⟨_, rfl, a, _, rfl, .inr (SqT.of ea), _, rfl, _, _, rfl, rfl, _, rfl, ?_⟩
    by_cases hgt : ((xs.length : Nat) : Int) > most
    · rw [decide_eq_true hgt]
      refine iteT ?_
      rw [decide_eq_false (show ¬ (ts.length : Int) ≤ most by omega)] at q1
      exact q1 _ (same_refl _)
    rw [decide_eq_false hgt]
    refine iteF ?_
    rw [decide_eq_true (show (ts.length : Int) ≤ most by omega), Bool.true_and] at q1
    refine ⟨_, rfl, a, rfl, ⟨_, SqT.of ea⟩, fun M nM => ?_⟩
    refine lc_sameM (walk_tup (xs := xs)) ts (fun y => .bl (y.within 0 high)) hlen.symm (by omega) nM (fun H s => SqT.of (s _ _ ea)) ?_ ?_
    · rintro i y x H2' H2 hy s2 ⟨rfl, hx⟩ Q1 q1'
      exact ⟨rfl, _, rfl, _, rfl, p, x, y, 0, high, rfl, TgAt.same s2 _ _ (hts.at hx hy), fun H3 s3 => q1' _ s3⟩
    intro H2 s2 eM
    refine ⟨M, ts.map (Tg.within 0 high), rfl, SqL.of (by rw [eM, List.map_map]; rfl), ?_⟩
    rw [all_map_id]
    refine ⟨_, rfl, ?_⟩
    cases c' : ts.all (Tg.within 0 high) with
    | false =>
      refine iteT ?_
      rw [c', Bool.false_and] at q1
      exact q1 _ s2
    | true =>
    refine iteF ?_
    rw [c', Bool.true_and] at q1
    obtain ⟨e1, _⟩ := hts.ofInts c'
    have hnl : (ts.map Tg.toI).length = ts.length := List.length_map _
    generalize ts.map Tg.toI = ns at q1 e1 hnl
    subst e1
    have ea2 := s2 _ _ ea
    refine ⟨_, rfl, a, _, rfl, .inr (SqT.of ea2), fun l3 nl3 => ?_⟩
    have s3 := same_new nl3 (.lst (ns.map V.int))
    have e3 : (upd H2 l3 (.lst (ns.map V.int))) l3 = some (.lst (ns.map V.int)) := upd_same
    generalize (upd H2 l3 (.lst (ns.map V.int))) = H3 at s3 e3
    have hsb : ns.length + 1 < scanBound := Nat.lt_of_le_of_lt (show ns.length + 1 ≤ 100 by omega) (by decide)
    refine ⟨_, rfl, a, ns, rfl, SqT.of (s3 _ _ ea2), hsb, fun p4 c4 np4 hc4 => ?_⟩
    have s4 := same_new np4 (SetO w p4 (fun j => decide (j ∈ ns)) c4)
    have e4 : (upd H3 p4 (SetO w p4 (fun j => decide (j ∈ ns)) c4)) p4 = some (SetO w p4 (fun j => decide (j ∈ ns)) c4) := upd_same
    generalize (upd H3 p4 (SetO w p4 (fun j => decide (j ∈ ns)) c4)) = H4 at s4 e4
    refine ⟨p4, _, c4, rfl, e4, by omega, fun ms p5 hup hmem hml np5 => ?_⟩
    have s5 := same_new np5 (.lst (ms.map V.int))
    have e5 : (upd H4 p5 (.lst (ms.map V.int))) p5 = some (.lst (ms.map V.int)) := upd_same
    generalize (upd H4 p5 (.lst (ms.map V.int))) = H5 at s5 e5
    refine ⟨_, _, .lst (SqL.of ((s4.trans s5) _ _ e3)) (dp_ints _), .lst (SqL.of e5) (dp_ints _), shaped_ints _, shaped_ints _, ?_⟩
    rw [eqv_ints, eq_sorted hup hmem]
    exact q1 _ (s2.trans (s3.trans (s4.trans s5)))
end
end Deed

namespace Deed
open PySem PySem.Spec PyProof.Rows L2 LamX
theorem entT_len {n : Int} {ts : List Tg} (h6 : ts.length ≠ 6) (h9 : ts.length ≠ 9) : isEntT n (.tup ts) = false := by
  match ts, h6, h9 with
  | [], _, _ => rfl
  | [_], _, _ => rfl
  | [_, _], _, _ => rfl
  | [_, _, _], _, _ => rfl
  | [_, _, _, _], _, _ => rfl
  | [_, _, _, _, _], _, _ => rfl
  | a :: b :: c :: d :: e :: f :: r, h6, h9 =>
    have hr0 : r ≠ [] := fun z => h6 (by rw [z]; rfl)
    have hr3 : r.length ≠ 3 := fun z => h9 (by simp [z])
    have h1 : ∀ num, actTailT num (f :: r) = false := fun num => by
      match r, hr0 with
      | _ :: _, _ => rfl
    have h2 : ∀ num, deedTailT n num (f :: r) = false := fun num => by
      match r, hr3 with
      | [], _ => rfl
      | [_], _ => rfl
      | [_, _], _ => rfl
      | [_, _, _], h => exact absurd rfl h
      | _ :: _ :: _ :: _ :: _, _ => rfl
    have h3 : tailT n a.toI e (f :: r) = false := by
      cases e with
      | str z =>
        show (if z = "deed" then _ else _) = _
        rw [h1, h2, Bool.and_false]
        simp
      | _ => rfl
    show (a.within 0 30 && (b.within 0 9999 && (c.within 0 9999 && (d.within 0 3 && tailT n a.toI e (f :: r))))) = false
    rw [h3]
    simp
theorem tup_at {p : Addr} {H : Hp} {xs : List V} {ts : List Tg} (h : TgAll p H xs ts) {i : Nat} {t : Tg} (ht : ts[i]? = some t) : ∃ x, xs[i]? = some x ∧ TgAt p H x t := by
  have hi : i < ts.length := (List.getElem?_eq_some_iff.mp ht).1
  have hi' : i < xs.length := by rw [h.length]; exact hi
  exact ⟨xs[i], List.getElem?_eq_getElem hi', h.at (List.getElem?_eq_getElem hi') ht⟩
section
variable {P : Program} {w : World} {K : PySem.W.Frag} {mg : Str → Option Value} {base : Heap}
abbrev sLIsEnt : Stmt := topS 42
abbrev nLIsEnt : List Str := ["_law_folk_here", "_law_thing_here", "_law_last", "_law_one"]
abbrev pLIsEnt : List Str := ["_law_folk_here", "_law_thing_here"]
theorem scLIsEnt : FnScope nLIsEnt pLIsEnt (defScope sLIsEnt) := ⟨rfl, rfl, rfl, by decide +kernel, rfl, by decide +kernel, by decide +kernel⟩
def spLEntG : Sp := fun vs H Q _ => ∃ (p fa : Addr) (fx : List V) (v : V) (t : Tg), vs = [.ref fa, v] ∧ H fa = some (.tup fx) ∧ TgAt p H v t ∧ ∀ H', Same H H' → Q (.bl (isEntT fx.length t)) H'
theorem ok_LIsEnt {f : Addr} {fd : FuncData} {k : Nat} (F : Fun K "_law_is_entry" "_law_is_entry" sLIsEnt f fd) (C__law_in : CallOk P w K mg base k "_law_in" pLIn spWi) (C__law_are : CallOk P w K mg base k "_law_are" pLAre spLAre) (m_isinstance : mg "isinstance" = none) (m_tuple : mg "tuple" = none) (m_len : mg "len" = none) (m_str : mg "str" = none) : FnOk P w K mg base CX0 (k + 1) f fd pLIsEnt spLEntG := by
  refine F.ok scLIsEnt (fun vs H Q E h => ?_) (fun cdv A outer s H vs Q E hr h => ?_)
  · obtain ⟨p, fa, fx, v, t, rfl, _⟩ := h
    rfl
  · obtain ⟨p, fa, fx, v, t, rfl, ef, hT, q⟩ := h
    have nd := scLIsEnt.nd
    refine ⟨_, pss_cons (ps_if (PW.pt (pw_or (pt_not (pt_val (pe_callB call_isi (by rfl) m_isinstance (by decide +kernel) (pa_cons (pv 1) (pa_cons (pe_bltn (v := .ty "tuple") (by rfl) m_tuple (by decide +kernel) rfl) pa_nil))))) (pw_or (pt_cmpR op_notIn_seq (pe_callB call_len_seq (by rfl) m_len (by decide +kernel) (pa_cons (pv 1) pa_nil)) (pe_tup (pa_cons pe_int (pa_cons pe_int pa_nil))) (by rfl)) (pw_or1 (pt_not (pt_val (pe_call C__law_in.ok hr (by rfl) C__law_in.g C__law_in.kp C__law_in.b .nil pass0 (pa_cons (pe_ix ix_tup (pv 1) pe_int (fun _ _ => rfl)) (pa_cons pe_int (pa_cons pe_int pa_nil)))))))))) (pss_one (ps_ret pe_bl)) pss_nil)
      (pss_cons (ps_if (PW.pt (pw_or (pt_not (pt_val (pe_call C__law_in.ok hr (by rfl) C__law_in.g C__law_in.kp C__law_in.b .nil pass0 (pa_cons (pe_ix ix_tup (pv 1) pe_int (fun _ _ => rfl)) (pa_cons pe_int (pa_cons pe_int pa_nil)))))) (pw_or (pt_not (pt_val (pe_call C__law_in.ok hr (by rfl) C__law_in.g C__law_in.kp C__law_in.b .nil pass0 (pa_cons (pe_ix ix_tup (pv 1) pe_int (fun _ _ => rfl)) (pa_cons pe_int (pa_cons pe_int pa_nil)))))) (pw_or1 (pt_not (pt_val (pe_call C__law_in.ok hr (by rfl) C__law_in.g C__law_in.kp C__law_in.b .nil pass0 (pa_cons (pe_ix ix_tup (pv 1) pe_int (fun _ _ => rfl)) (pa_cons pe_int (pa_cons pe_int pa_nil)))))))))) (pss_one (ps_ret pe_bl)) pss_nil)
      (pss_cons (ps_if (PW.pt (pw_or (pt_not (pt_val (pe_callB call_isi (by rfl) m_isinstance (by decide +kernel) (pa_cons (pe_ix ix_tup (pv 1) pe_int (fun _ _ => rfl)) (pa_cons (pe_bltn (v := .ty "str") (by rfl) m_str (by decide +kernel) rfl) pa_nil))))) (pw_or1 (pt_cmpR (op_notInTS hr.units) (pe_ix ix_tup (pv 1) pe_int (fun _ _ => rfl)) (pe_tup (pa_cons pe_str (pa_cons pe_str (pa_cons pe_str (pa_cons pe_str pa_nil))))) (by rfl))))) (pss_one (ps_ret pe_bl)) pss_nil)
      (pss_cons (ps_if (pt_cmpR op_ne (pe_cmpR op_eq (pe_ix ix_tup (pv 1) pe_int (fun _ _ => rfl)) pe_str (nomark _)) (pe_cmpR op_eq (pe_callB call_len_seq (by rfl) m_len (by decide +kernel) (pa_cons (pv 1) pa_nil)) pe_int (nomark _)) (nomark _)) (pss_one (ps_ret pe_bl)) pss_nil)
      (pss_cons (ps_if (pt_cmpR op_ne (pe_ix ix_tup (pv 1) pe_int (fun _ _ => rfl)) pe_str (nomark _)) (pss_one (ps_ret (pe_call C__law_in.ok hr (by rfl) C__law_in.g C__law_in.kp C__law_in.b .nil pass0 (pa_cons (pe_ix ix_tup (pv 1) pe_int (fun _ _ => rfl)) (pa_cons pe_int (pa_cons (pe_op op_sub (pe_ix ix_tup (pv 1) pe_int (fun _ _ => rfl)) pe_int) pa_nil)))))) pss_nil)
      (pss_cons (ps_set (i := 2) nd rfl (.inl rfl) (pe_op op_sub (pe_callB call_len_seq (by rfl) m_len (by decide +kernel) (pa_cons (pv 0) pa_nil)) pe_int))
      (pss_cons (ps_if (PW.pt (pw_or (pt_not (pt_val (pe_call C__law_in.ok hr (by rfl) C__law_in.g C__law_in.kp C__law_in.b .nil pass0 (pa_cons (pe_ix ix_tup (pv 1) pe_int (fun _ _ => rfl)) (pa_cons pe_int (pa_cons (pv 2) pa_nil)))))) (pw_or (pt_not (pt_val (pe_call C__law_in.ok hr (by rfl) C__law_in.g C__law_in.kp C__law_in.b .nil pass0 (pa_cons (pe_ix ix_tup (pv 1) pe_int (fun _ _ => rfl)) (pa_cons pe_int (pa_cons (pv 2) pa_nil)))))) (pw_or1 (pt_cmpR op_eq (pe_ix ix_tup (pv 1) pe_int (fun _ _ => rfl)) (pe_ix ix_tup (pv 1) pe_int (fun _ _ => rfl)) (nomark _)))))) (pss_one (ps_ret pe_bl)) pss_nil)
      (pss_cons (ps_if (PW.pt (pw_or (pt_not (pt_val (pe_call C__law_are.ok hr (by rfl) C__law_are.g C__law_are.kp C__law_are.b .nil pass0 (pa_cons (pe_ix ix_tup (pv 1) pe_int (fun _ _ => rfl)) (pa_cons pe_int (pa_cons (pe_op op_sub (pe_ix ix_tup (pv 1) pe_int (fun _ _ => rfl)) pe_int) pa_nil)))))) (pw_or1 (pt_not (pt_val (pe_call C__law_are.ok hr (by rfl) C__law_are.g C__law_are.kp C__law_are.b .nil pass0 (pa_cons (pe_ix ix_tup (pv 1) pe_int (fun _ _ => rfl)) (pa_cons pe_int (pa_cons (pv 2) pa_nil))))))))) (pss_one (ps_ret pe_bl)) pss_nil)
      (pss_one (ps_ret (pe_cmpR (op_eqD hr.units) (pe_lc (own := [("_law_one", 3)]) (g := gName 3) (by rfl) nd (pi_tup (pe_ix ix_tup (pv 1) pe_int (fun _ _ => rfl))) (blkOk_by (own := [("_law_one", 3)]) (N := nLIsEnt) (sc := defScope sLIsEnt) (by decide +kernel)) (fun _ _ _ _ _ => (pg_name (i := 3) nd rfl (.inl rfl))) (fun _ _ _ _ _ => (pts_one (pt_cmpR (in_seqK (K := K) (by rfl)) (pv 3) (pe_slice (show SlR _ (rSlA K) from sl_tupA) (pv 1) (po_some pe_int) (po_some pe_int)) (by rfl))))
          (fun _ _ _ _ _ => (pv 3))) (pe_lst pa_nil) (nomark _))))))))))), ?_⟩
    refine ⟨_, rfl, _, _, _, _, t.isT, rfl, .ty "tuple", hT.ty, kit_ty t.kT, _, rfl, ?_⟩
    cases hc : t.isT with
    | false =>
      refine iteT ?_
      have h := q _ (same_refl _)
      have e : isEntT fx.length t = false := by cases t <;> first | rfl | cases hc
      rw [e] at h
      exact h
    | true =>
    refine iteF ?_
    obtain ⟨a, xs, ts, rfl, rfl, ea, hts⟩ := hT.tupOf hc
    have hlen := hts.length
    refine ⟨_, rfl, a, _, rfl, .inr (SqT.of ea), (by show 2 ≤ sizeLine; decide), fun t1 nt1 => ?_⟩
    have s1 := same_new nt1 (.tup [.int 6, .int 9])
    have e1 : (upd H t1 (.tup [.int 6, .int 9])) t1 = some (.tup (([6, 9] : List Int).map V.int)) := upd_same
    generalize (upd H t1 (.tup [.int 6, .int 9])) = H1 at s1 e1
    refine ⟨t1, _, rfl, .inr (SqT.of e1), rfl, flat_ints _, _, rfl, ?_⟩
    rw [show (if true = true then !inV (V.int (xs.length : Nat)) (([6, 9] : List Int).map V.int) else inV (V.int (xs.length : Nat)) (([6, 9] : List Int).map V.int)) = !decide (((xs.length : Nat) : Int) ∈ ([6, 9] : List Int)) by rw [if_pos rfl, mem_inV]]
    by_cases hl : ts.length = 6 ∨ ts.length = 9
    rotate_left
    · rw [decide_eq_false (show ¬ ((xs.length : Nat) : Int) ∈ ([6, 9] : List Int) by simp; omega)]
      refine iteT ?_
      have h := q _ s1
      rw [entT_len (by omega) (by omega)] at h
      exact h
    rw [decide_eq_true (show ((xs.length : Nat) : Int) ∈ ([6, 9] : List Int) by simp; omega)]
    refine iteF ?_
    obtain ⟨ta, tb, tc, td, te, tf, tr, rfl⟩ := len6 (show 6 ≤ ts.length by omega)
    obtain ⟨xa, gxa, ha⟩ := tup_at hts (i := 0) rfl
    obtain ⟨xb, gxb, hb⟩ := tup_at hts (i := 1) rfl
    obtain ⟨xc, gxc, hc'⟩ := tup_at hts (i := 2) rfl
    obtain ⟨xd, gxd, hd⟩ := tup_at hts (i := 3) rfl
    obtain ⟨xe, gxe, he⟩ := tup_at hts (i := 4) rfl
    obtain ⟨xf, gxf, hf⟩ := tup_at hts (i := 5) rfl
    have q1 : ∀ H', Same H H' → Q (.bl (ta.within 0 30 && (tb.within 0 9999 && (tc.within 0 9999 && (td.within 0 3 && tailT fx.length ta.toI te (tf :: tr)))))) H' := q
    clear q
    refine ⟨_, rfl, a, _, 0, _, rfl, rfl, SqT.of (s1 _ _ ea), atI_nat (j := 0) gxa, p, xa, ta, 0, 30, rfl, TgAt.same s1 _ _ ha, fun H2 s2 => ⟨_, rfl, ?_⟩⟩
    have s02 := s1.trans s2
    cases c1 : ta.within 0 30 with
    | false =>
      refine iteT ?_
      have h := q1 _ s02
      rw [c1] at h
      exact h
    | true =>
    refine iteF ?_
    rw [c1, Bool.true_and] at q1
    refine ⟨_, rfl, a, _, 1, _, rfl, rfl, SqT.of (s02 _ _ ea), atI_nat (j := 1) gxb, p, xb, tb, 0, 9999, rfl, TgAt.same s02 _ _ hb, fun H3 s3 => ⟨_, rfl, ?_⟩⟩
    have s03 := s02.trans s3
    cases c2 : tb.within 0 9999 with
    | false =>
      refine iteT ?_
      have h := q1 _ s03
      rw [c2] at h
      exact h
    | true =>
    refine iteF ?_
    rw [c2, Bool.true_and] at q1
    refine ⟨_, rfl, a, _, 2, _, rfl, rfl, SqT.of (s03 _ _ ea), atI_nat (j := 2) gxc, p, xc, tc, 0, 9999, rfl, TgAt.same s03 _ _ hc', fun H4 s4 => ⟨_, rfl, ?_⟩⟩
    have s04 := s03.trans s4
    cases c3 : tc.within 0 9999 with
    | false =>
      refine iteT ?_
      have h := q1 _ s04
      rw [c3] at h
      exact h
    | true =>
    refine iteF ?_
    rw [c3, Bool.true_and] at q1
    refine ⟨_, rfl, a, _, 3, _, rfl, rfl, SqT.of (s04 _ _ ea), atI_nat (j := 3) gxd, p, xd, td, 0, 3, rfl, TgAt.same s04 _ _ hd, fun H5 s5 => ⟨_, rfl, ?_⟩⟩
    have s05 := s04.trans s5
    cases c4 : td.within 0 3 with
    | false =>
      refine iteT ?_
      have h := q1 _ s05
      rw [c4] at h
      exact h
    | true =>
    refine iteF ?_
    rw [c4, Bool.true_and] at q1
    obtain ⟨num, rfl, _, _⟩ := Tg.within_int c1
    cases ha
    have he5 := TgAt.same s05 _ _ he
    refine ⟨_, rfl, a, _, 4, _, rfl, rfl, SqT.of (s05 _ _ ea), atI_nat (j := 4) gxe, _, _, _, _, te.isS, rfl, .ty "str", he5.ty, kit_ty te.kS, _, rfl, ?_⟩
    cases hes : te.isS with
    | false =>
      refine iteT ?_
      have h := q1 _ s05
      have e : tailT fx.length (Tg.int num).toI te (tf :: tr) = false := by cases te <;> first | rfl | cases hes
      rw [e] at h
      exact h
    | true =>
    refine iteF ?_
    obtain ⟨z, rfl, rfl⟩ : ∃ z, xe = .str z ∧ te = .str z := by
      cases he with
      | str x => exact ⟨_, rfl, rfl⟩
      | _ => cases hes
    have q2 : ∀ H', Same H H' → Q (.bl (if z = "deed" then deedTailT fx.length num (tf :: tr) else decide (z ∈ [("paid" : Str), "void", "undone"]) && actTailT num (tf :: tr))) H' := q1
    clear q1
    refine ⟨_, rfl, a, _, 4, _, rfl, rfl, SqT.of (s05 _ _ ea), atI_nat (j := 4) gxe, (by show 4 ≤ sizeLine; decide), fun t6 nt6 => ?_⟩
    have s6 := same_new nt6 (.tup [.str "deed", .str "paid", .str "void", .str "undone"])
    have e6 : (upd H5 t6 (.tup [.str "deed", .str "paid", .str "void", .str "undone"])) t6 = some (.tup (([("deed" : Str), "paid", "void", "undone"] : List Str).map V.str)) := upd_same
    generalize (upd H5 t6 (.tup [.str "deed", .str "paid", .str "void", .str "undone"])) = H6 at s6 e6
    have s06 := s05.trans s6
    refine ⟨t6, _, rfl, .inr (SqT.of e6), .str z, _, rfl, ?_⟩
    simp only [if_true]
    have hmw : ∀ ws : List Str, (V.str z ∈ ws.map V.str) ↔ z ∈ ws := fun ws => by
      constructor
      · intro h
        obtain ⟨y, hy, e⟩ := List.mem_map.mp h
        injection e with e
        rw [← e]
        exact hy
      · exact fun h => List.mem_map.mpr ⟨z, h, rfl⟩
    by_cases cw : V.str z ∈ ([("deed" : Str), "paid", "void", "undone"] : List Str).map V.str
    rotate_left
    · rw [decide_eq_false cw]
      refine iteT ?_
      have h := q2 _ s06
      rw [hmw] at cw
      rw [if_neg fun e => cw (by rw [e]; exact List.mem_cons_self), decide_eq_false fun e => cw (List.mem_cons_of_mem _ e), Bool.false_and] at h
      exact h
    rw [decide_eq_true cw]
    refine iteF ?_
    have ea6 := s06 _ _ ea
    refine ⟨_, rfl, a, _, 4, _, rfl, rfl, SqT.of ea6, atI_nat (j := 4) gxe, rfl, _, rfl, a, _, rfl, .inr (SqT.of ea6), rfl, rfl, _, rfl, ?_⟩
    by_cases hdz : z = "deed"
    · -- a deed
      subst hdz
      rw [show decide (V.str "deed" = V.str "deed") = true from decide_eq_true rfl]
      simp only [if_true] at q2
      rcases hl with hl6 | hl9
      · rw [show decide (V.int (xs.length : Nat) = V.int 9) = false from decide_eq_false fun e => by injection e with e; omega]
        refine iteT ?_
        have h := q2 _ s06
        have htr : tr = [] := by simpa using hl6
        subst htr
        exact h
      rw [show decide (V.int (xs.length : Nat) = V.int 9) = true from decide_eq_true (by rw [hlen, hl9]; rfl)]
      refine iteF ?_
      obtain ⟨tg, tr7, tw, rfl⟩ : ∃ x y u, tr = [x, y, u] := by
        match tr, hl9 with
        | [x, y, u], _ => exact ⟨x, y, u, rfl⟩
        | [], h => simp at h
        | [_], h => simp at h
        | [_, _], h => simp at h
        | _ :: _ :: _ :: _ :: _, h => simp at h
      obtain ⟨xg, gxg, hg⟩ := tup_at hts (i := 6) rfl
      obtain ⟨xr, gxr, hr'⟩ := tup_at hts (i := 7) rfl
      obtain ⟨xw, gxw, hw⟩ := tup_at hts (i := 8) rfl
      refine ⟨_, rfl, a, _, 4, _, rfl, rfl, SqT.of ea6, atI_nat (j := 4) gxe, rfl, _, rfl, ?_⟩
      rw [show decide (V.str "deed" = V.str "deed") = true from decide_eq_true rfl]
      refine iteF ?_
      refine ⟨_, rfl, fa, _, rfl, .inr (SqT.of (s06 _ _ ef)), _, _, rfl, rfl, ?_⟩
      have q3 : ∀ H', Same H H' → Q (.bl (tf.within 0 ((fx.length : Int) - 1) && (tg.within 0 ((fx.length : Int) - 1) && (!decide (tf.toI = tg.toI) && (risT 2 num tr7 && (risT 3 fx.length tw && (!hasI tf.toI tw && !hasI tg.toI tw))))))) H' := q2
      clear q2
      refine ⟨_, rfl, a, _, 5, _, rfl, rfl, SqT.of ea6, atI_nat (j := 5) gxf, _, rfl, p, xf, tf, 0, _, rfl, TgAt.same s06 _ _ hf, fun H7 s7 => ⟨_, rfl, ?_⟩⟩
      have s07 := s06.trans s7
      cases c5 : tf.within 0 ((fx.length : Int) - 1) with
      | false =>
        refine iteT ?_
        have h := q3 _ s07
        rw [c5] at h
        exact h
      | true =>
      refine iteF ?_
      rw [c5, Bool.true_and] at q3
      refine ⟨_, rfl, a, _, 6, _, rfl, rfl, SqT.of (s07 _ _ ea), atI_nat (j := 6) gxg, _, rfl, p, xg, tg, 0, _, rfl, TgAt.same s07 _ _ hg, fun H8 s8 => ⟨_, rfl, ?_⟩⟩
      have s08 := s07.trans s8
      cases c6 : tg.within 0 ((fx.length : Int) - 1) with
      | false =>
        refine iteT ?_
        have h := q3 _ s08
        rw [c6] at h
        exact h
      | true =>
      refine iteF ?_
      rw [c6, Bool.true_and] at q3
      obtain ⟨g, rfl, _, _⟩ := Tg.within_int c5
      obtain ⟨t, rfl, _, _⟩ := Tg.within_int c6
      cases hf
      cases hg
      have ea8 := s08 _ _ ea
      refine ⟨_, rfl, a, _, 5, _, rfl, rfl, SqT.of ea8, atI_nat (j := 5) gxf, _, rfl, a, _, 6, _, rfl, rfl, SqT.of ea8, atI_nat (j := 6) gxg, rfl, _, rfl, ?_⟩
      rw [show decide (V.int g = V.int t) = decide (g = t) by by_cases e : g = t <;> simp [e]]
      have q4 : ∀ H', Same H H' → Q (.bl (!decide (g = t) && (risT 2 num tr7 && (risT 3 fx.length tw && (!hasI g tw && !hasI t tw))))) H' := q3
      clear q3
      cases c7 : decide (g = t) with
      | true =>
        refine iteT ?_
        have h := q4 _ s08
        rw [c7] at h
        exact h
      | false =>
      refine iteF ?_
      rw [c7, Bool.not_false, Bool.true_and] at q4
      refine ⟨_, rfl, a, _, 7, _, rfl, rfl, SqT.of ea8, atI_nat (j := 7) gxr, _, rfl, a, _, 0, _, rfl, rfl, SqT.of ea8, atI_nat (j := 0) gxa, _, _, rfl, rfl, p, xr, tr7, 2, num - 1, rfl, TgAt.same s08 _ _ hr', by decide, fun H9 s9 => ⟨_, rfl, ?_⟩⟩
      have s09 := s08.trans s9
      rw [show num - 1 + 1 = num by omega]
      cases c8 : risT 2 num tr7 with
      | false =>
        refine iteT ?_
        have h := q4 _ s09
        rw [c8] at h
        exact h
      | true =>
      refine iteF ?_
      rw [c8, Bool.true_and] at q4
      refine ⟨_, rfl, a, _, 8, _, rfl, rfl, SqT.of (s09 _ _ ea), atI_nat (j := 8) gxw, _, rfl, p, xw, tw, 3, _, rfl, TgAt.same s09 _ _ hw, by decide, fun H10 s10 => ⟨_, rfl, ?_⟩⟩
      have s010 := s09.trans s10
      rw [show ((fx.length : Nat) : Int) - 1 + 1 = fx.length by omega]
      cases c9 : risT 3 fx.length tw with
      | false =>
        refine iteT ?_
        have h := q4 _ s010
        rw [c9] at h
        exact h
      | true =>
      refine iteF ?_
      rw [c9, Bool.true_and] at q4
      have htw : tw.isT = true := by cases tw <;> first | rfl | cases c9
      obtain ⟨wa, wxs, wts, rfl, rfl, ew, hwts⟩ := hw.tupOf htw
      have c9' : (decide ((wts.length : Int) ≤ 3) && (wts.all (Tg.within 0 ((fx.length : Int) - 1)) && risI (wts.map Tg.toI))) = true := c9
      rw [Bool.and_eq_true, Bool.and_eq_true] at c9'
      have hwl : (wts.length : Int) ≤ 3 := of_decide_eq_true c9'.1
      obtain ⟨ew1, _⟩ := hwts.ofInts c9'.2.1
      have hwnl : (wts.map Tg.toI).length = wts.length := List.length_map _
      have q5 : ∀ H', Same H H' → Q (.bl (!decide (g ∈ wts.map Tg.toI) && !decide (t ∈ wts.map Tg.toI))) H' := q4
      generalize wts.map Tg.toI = wns at q5 ew1 hwnl
      have ew10 : H10 wa = some (.tup (wns.map V.int)) := by rw [s010 _ _ ew, ew1]
      have ea10 := s010 _ _ ea
      have hcut : cutV xs (some (5 : Int)) (some (7 : Int)) = ([g, t] : List Int).map V.int := by
        unfold cutV
        rw [show ((5 : Int)) = ((5 : Nat) : Int) from rfl, show ((7 : Int)) = ((7 : Nat) : Int) from rfl, HT.sIx_nat, HT.sIx_nat, Nat.min_eq_left (by omega), Nat.min_eq_left (by omega)]
        have hx5 : xs.drop 5 = V.int g :: V.int t :: xs.drop 7 := by
          rw [List.drop_eq_getElem_cons (by omega : 5 < xs.length), List.drop_eq_getElem_cons (by omega : 6 < xs.length)]
          rw [List.getElem?_eq_getElem (by omega)] at gxf gxg
          injection gxf with gxf
          injection gxg with gxg
          rw [gxf, gxg]
        rw [hx5]
        rfl
      refine ⟨_, rfl, a, _, 8, _, rfl, rfl, SqT.of ea10, atI_nat (j := 8) gxw, wa, rfl, ⟨_, SqT.of ew10⟩, fun M nM => ?_⟩
      refine lc_sameV (walk_tup (xs := wns.map V.int)) wns (fun y => decide (y ∈ ([g, t] : List Int))) V.int (by rw [List.length_map]) (by omega) nM (fun H s => SqT.of (s _ _ ew10)) ?_ ?_
      · rintro i y x H11' H11 hy s11 ⟨rfl, hx⟩ Q1 Q0 q1 q0
        rw [List.getElem?_map, hy] at hx
        injection hx with hx
        subst hx
        refine ⟨rfl, ?_⟩
        refine ⟨_, rfl, _, rfl, _, rfl, _, rfl, ?_⟩
        refine slA_same (s11 _ _ ea10) fun t12 H12 s12 e12 => ?_
        rw [hcut] at e12
        refine ⟨t12, _, rfl, .inr (SqT.of e12), rfl, flat_ints _, _, rfl, ?_⟩
        rw [show (if false = true then !inV (V.int y) (([g, t] : List Int).map V.int) else inV (V.int y) (([g, t] : List Int).map V.int)) = decide (y ∈ ([g, t] : List Int)) by rw [if_neg (by decide), mem_inV]]
        refine ite2 (fun c => ?_) (fun c => ?_)
        · exact ⟨_, rfl, q1 c _ s12⟩
        · exact q0 (Bool.eq_false_iff.mpr c) _ s12
      intro H11 s11 eM
      refine ⟨Nat.zero_le _, fun l12 nl12 => ?_⟩
      have s12 := same_new nl12 (.lst [])
      have e12 : (upd H11 l12 (.lst [])) l12 = some (.lst (([] : List Int).map V.int)) := upd_same
      generalize (upd H11 l12 (.lst [])) = H12 at s12 e12
      refine ⟨_, _, .lst (SqL.of (s12 _ _ eM)) (dp_ints _), .lst (SqL.of e12) (dp_ints _), shaped_ints _, shaped_ints _, ?_⟩
      rw [eqv_ints]
      have hfin : decide (wns.filter (fun y => decide (y ∈ ([g, t] : List Int))) = []) = (!decide (g ∈ wns) && !decide (t ∈ wns)) := by
        by_cases hgm : g ∈ wns
        · rw [decide_eq_true hgm, decide_eq_false]
          · rfl
          · intro e
            have : g ∈ wns.filter (fun y => decide (y ∈ ([g, t] : List Int))) := List.mem_filter.mpr ⟨hgm, by simp⟩
            rw [e] at this
            cases this
        · by_cases htm : t ∈ wns
          · rw [decide_eq_true htm, decide_eq_false]
            · simp
            · intro e
              have : t ∈ wns.filter (fun y => decide (y ∈ ([g, t] : List Int))) := List.mem_filter.mpr ⟨htm, by simp⟩
              rw [e] at this
              cases this
          · rw [decide_eq_false hgm, decide_eq_false htm]
            refine decide_eq_true (List.filter_eq_nil_iff.mpr fun y hy => ?_)
            simp only [List.mem_cons, List.not_mem_nil, or_false, decide_eq_true_eq]
            rintro (rfl | rfl)
            · exact hgm hy
            · exact htm hy
      rw [hfin]
      exact q5 _ (s010.trans (s11.trans s12))
    · -- an act
      rw [show decide (V.str z = V.str "deed") = false from decide_eq_false fun e => hdz (by injection e)]
      have hza : z ∈ [("paid" : Str), "void", "undone"] := by
        rcases List.mem_cons.mp ((hmw _).mp cw) with e | e
        · exact absurd e hdz
        · exact e
      rw [if_neg hdz, decide_eq_true hza, Bool.true_and] at q2
      rcases hl with hl6 | hl9
      · rw [show decide (V.int (xs.length : Nat) = V.int 9) = false from decide_eq_false fun e => by injection e with e; omega]
        refine iteF ?_
        have htr : tr = [] := by simpa using hl6
        subst htr
        refine ⟨_, rfl, a, _, 4, _, rfl, rfl, SqT.of ea6, atI_nat (j := 4) gxe, rfl, _, rfl, ?_⟩
        rw [show decide (V.str z = V.str "deed") = false from decide_eq_false fun e => hdz (by injection e)]
        refine iteT ?_
        exact ⟨_, rfl, a, _, 5, _, rfl, rfl, SqT.of ea6, atI_nat (j := 5) gxf, _, rfl, a, _, 0, _, rfl, rfl, SqT.of ea6, atI_nat (j := 0) gxa, _, _, rfl, rfl, p, xf, tf, 0, num - 1, rfl, TgAt.same s06 _ _ hf, fun H7 s7 => q2 _ (s06.trans s7)⟩
      · rw [show decide (V.int (xs.length : Nat) = V.int 9) = true from decide_eq_true (by rw [hlen, hl9]; rfl)]
        refine iteT ?_
        have h := q2 _ s06
        have e : actTailT num (tf :: tr) = false := by
          match tr, hl9 with
          | [], h => simp at h
          | _ :: _, _ => rfl
        rw [e] at h
        exact h
end
end Deed

namespace Deed
open PySem PySem.Spec PyProof.Rows L2 LamX
/-! ### what gives a thing, now or later -/
theorem gName_ap {i : Nat} {v : V} {σ : L2.St} {H : Hp} {Q : L2.St → Hp → Prop} : gName i v σ H Q = Q (σ.set i (some v)) H := rfl
theorem tSeq_ap {t u : TS} {D : Ends} {σ : L2.St} {H : Hp} : tSeq t u D σ H = t { D with nx := u D } σ H := rfl
theorem tAsg_ap {te : TE} {g : TG} {D : Ends} {σ : L2.St} {H : Hp} : tAsg te g D σ H = te σ H (fun x H1 => g x σ H1 D.nx) := rfl
def tupN (m : Nat) (t : Tg) : Prop := ∃ ts, t = .tup ts ∧ ts.length ≤ m
def GE (p : Addr) (te : TE) (σ : L2.St) (H : Hp) (R : Tg → Prop) : Prop := ∀ H1, Kp p H H1 → PenAt H1 p → ∀ Q : VK, (∀ v t H', Kp p H1 H' → PenAt H' p → TgAt p H' v t → R t → Q v H') → te σ H1 Q
def GA (p : Addr) (ta : TA) (σ : L2.St) (H : Hp) (n : Nat) : Prop := ∀ H1, Kp p H H1 → PenAt H1 p → ∀ Q : List V → Hp → Prop, (∀ vs ts H', Kp p H1 H' → PenAt H' p → TgAll p H' vs ts → vs.length = n → Q vs H') → ta σ H1 Q
def GI (p : Addr) (te : TE) (σ : L2.St) (H : Hp) : Prop := ∀ H1, Kp p H H1 → PenAt H1 p → ∀ Q : VK, (∀ i H', Kp p H1 H' → PenAt H' p → Q (.int i) H') → te σ H1 Q
def GO (p : Addr) (to : TO) (σ : L2.St) (H : Hp) : Prop := ∀ H1, Kp p H H1 → PenAt H1 p → ∀ Q : Option Int → Hp → Prop, (∀ o H', Kp p H1 H' → PenAt H' p → Q o H') → to σ H1 Q
section
variable {p : Addr} {σ : L2.St} {H : Hp} {K : PySem.W.Frag} {te tb : TE} {ta : TA} {R : Tg → Prop}
theorem GE.imp {R' : Tg → Prop} (h : GE p te σ H R) (i : ∀ t, R t → R' t) : GE p te σ H R' := fun H1 k P Q q => h H1 k P Q fun v t H' k' P' hT hR => q v t H' k' P' hT (i t hR)
theorem ge_int {i : Int} : GE p (tC (.int i)) σ H (fun t => t = .int i) := fun H1 _ P Q q => q _ _ H1 (Kp.refl _ _) P (.int i) rfl
theorem ge_bl {b : Bool} : GE p (tC (.bl b)) σ H (fun _ => True) := fun H1 _ P Q q => q _ _ H1 (Kp.refl _ _) P (.bl b) trivial
theorem ge_non : GE p (tC .non) σ H (fun _ => True) := fun H1 _ P Q q => q _ _ H1 (Kp.refl _ _) P .non trivial
theorem ge_str {x : Str} : GE p (tC (.str x)) σ H (fun _ => True) := fun H1 _ P Q q => q _ _ H1 (Kp.refl _ _) P (.str x) trivial
theorem ge_neg {r : V → Hp → VK → Prop} {i : Int} (hr : r = rU fun i => .int (-i)) : GE p (tUn r (tC (.int i))) σ H (fun _ => True) := by
  subst hr
  exact fun H1 _ P Q q => ⟨_, rfl, q _ _ H1 (Kp.refl _ _) P (.int _) trivial⟩
theorem ge_gi (h : GI p te σ H) : GE p te σ H (fun _ => True) := fun H1 k P Q q => h H1 k P Q fun i H' k' P' => q _ _ H' k' P' (.int i) trivial
theorem ge_var {i : Nat} {v : V} {t : Tg} (hP : PenAt H p) (hv : σ[i]? = some (some v)) (hT : TgAt p H v t) (hR : R t) : GE p (tVar i) σ H R := fun H1 k P Q q => ⟨v, hv, q _ _ H1 (Kp.refl _ _) P (TgAt.kp k hP _ _ hT) hR⟩
theorem ge_varT {i : Nat} {v : V} {t : Tg} (hP : PenAt H p) (hv : σ[i]? = some (some v)) (hT : TgAt p H v t) : GE p (tVar i) σ H (fun _ => True) := ge_var hP hv hT trivial
theorem ga_nil : GA p tNil σ H 0 := fun H1 _ P Q q => q [] [] H1 (Kp.refl _ _) P .nil rfl
theorem ga_cons {n : Nat} (h1 : GE p te σ H R) (h2 : GA p ta σ H n) : GA p (tCons te ta) σ H (n + 1) := fun H1 k P Q q => h1 H1 k P _ fun v t H2 k2 P2 hT _ => h2 H2 (k.trans k2) P2 _ fun vs ts H3 k3 P3 hts hl => q _ _ H3 (k2.trans k3) P3 (.cons (TgAt.kp k3 P2 _ _ hT) hts) (by rw [List.length_cons, hl])
theorem ge_tup {n : Nat} (h : GA p ta σ H n) (hn : n ≤ 1000 := by decide) : GE p (tTup ta) σ H (tupN n) := fun H1 k P Q q => h H1 k P _ fun vs ts H2 k2 P2 hts hl => ⟨Nat.le_of_lt (small1000 (by omega)), fun a na => q _ _ _ (k2.trans (Kp.new na _)) (P2.new na _) (.tup upd_same (TgAll.kp (Kp.new na _) P2 _ _ hts)) ⟨ts, rfl, by rw [← hts.length, hl]; exact Nat.le_refl _⟩⟩
theorem ge_catA {m n : Nat} (h1 : GE p te σ H (tupN m)) (h2 : GE p tb σ H (tupN n)) (hmn : m + n ≤ 1000 := by decide) : GE p (tOp (rCatA K) te tb) σ H (tupN (m + n)) := fun H1 k P Q q => h1 H1 k P _ fun v t H2 k2 P2 hT hR => h2 H2 (k.trans k2) P2 _ fun v' t' H3 k3 P3 hT' hR' => by
  obtain ⟨ts, rfl, hl⟩ := hR
  obtain ⟨ts', rfl, hl'⟩ := hR'
  have hT3 := TgAt.kp k3 P2 _ _ hT
  cases hT3 with
  | @tup a xs _ ea ha =>
  cases hT' with
  | @tup b ys _ eb hb =>
  have e1 := ha.length
  have e2 := hb.length
  refine catA_same ea eb (by omega) fun c H4 s4 e4 => ?_
  have P4 : PenAt H4 p := by
    obtain ⟨x1, x2, x3, x4, z1, z2⟩ := P3
    exact ⟨x1, x2, x3, x4, s4 _ _ z1, z2⟩
  exact q _ _ H4 (k2.trans (k3.trans (Kp.same s4))) P4 (.tup e4 ((TgAll.same s4 _ _ ha).append (TgAll.same s4 _ _ hb))) ⟨_, rfl, by rw [List.length_append]; omega⟩
theorem ge_slA {m : Nat} {tl th : TO} (h : GE p te σ H (tupN m)) (hl : GO p tl σ H) (hh : GO p th σ H) : GE p (tSl (rSlA K) te tl th) σ H (tupN m) := fun H1 k P Q q => h H1 k P _ fun v t H2 k2 P2 hT hR => hl H2 (k.trans k2) P2 _ fun lo H3 k3 P3 => hh H3 (k.trans (k2.trans k3)) P3 _ fun hi H4 k4 P4 => by
  obtain ⟨ts, rfl, hm⟩ := hR
  have hT4 := TgAt.kp (k3.trans k4) P2 _ _ hT
  cases hT4 with
  | @tup a xs _ ea ha =>
  refine slA_same ea fun c H5 s5 e5 => ?_
  have P5 : PenAt H5 p := by
    obtain ⟨x1, x2, x3, x4, z1, z2⟩ := P4
    exact ⟨x1, x2, x3, x4, s5 _ _ z1, z2⟩
  obtain ⟨ts', hts'⟩ := (TgAll.same s5 _ _ ha).cut lo hi
  refine q _ _ H5 (k2.trans (k3.trans (k4.trans (Kp.same s5)))) P5 (.tup e5 hts') ⟨_, rfl, ?_⟩
  have := hts'.length
  have h9 : (cutV xs lo hi).length ≤ xs.length := cutV_length xs lo hi
  have := ha.length
  omega
theorem go_none : GO p tNoPart σ H := fun H1 _ P Q q => q none H1 (Kp.refl _ _) P
theorem go_some (h : GI p te σ H) : GO p (tPart te) σ H := fun H1 k P Q q => h H1 k P _ fun i H' k' P' => ⟨i, rfl, q _ H' k' P'⟩
theorem gi_int {i : Int} : GI p (tC (.int i)) σ H := fun H1 _ P Q q => q i H1 (Kp.refl _ _) P
theorem gi_neg {r : V → Hp → VK → Prop} {i : Int} (hr : r = rU fun i => .int (-i)) : GI p (tUn r (tC (.int i))) σ H := by
  subst hr
  exact fun H1 _ P Q q => ⟨_, rfl, q _ H1 (Kp.refl _ _) P⟩
theorem gi_var {i : Nat} {n : Int} (hv : σ[i]? = some (some (.int n))) : GI p (tVar i) σ H := fun H1 _ P Q q => ⟨_, hv, q n H1 (Kp.refl _ _) P⟩
theorem gi_add (h1 : GI p te σ H) (h2 : GI p tb σ H) : GI p (tOp (rI0 fun i j => .int (i + j)) te tb) σ H := fun H1 k P Q q => h1 H1 k P _ fun i H2 k2 P2 => h2 H2 (k.trans k2) P2 _ fun j H3 k3 P3 => ⟨i, j, rfl, rfl, q _ H3 (k2.trans k3) P3⟩
theorem gi_sub (h1 : GI p te σ H) (h2 : GI p tb σ H) : GI p (tOp (rI0 fun i j => .int (i - j)) te tb) σ H := fun H1 k P Q q => h1 H1 k P _ fun i H2 k2 P2 => h2 H2 (k.trans k2) P2 _ fun j H3 k3 P3 => ⟨i, j, rfl, rfl, q _ H3 (k2.trans k3) P3⟩
/-- a draw -/
theorem gi_draw {i : Nat} {bd : Int} {E : XK} (hv : σ[i]? = some (some (.ref p))) (h0 : 0 < bd := by decide) (h1 : bd < 1073741824 := by decide) : GI p (tCall spDraw [] E (tCons (tVar i) (tCons (tC (.int bd)) tNil))) σ H := fun H1 k P Q q => ⟨_, hv, p, bd, rfl, P, h0, h1, fun v H2 k2 P2 _ _ => q v H2 k2 P2⟩
/-- the first number of a tuple -/
theorem gi_ix0 (h : GE p te σ H (fun t => ∃ i r, t = .tup (.int i :: r))) : GI p (tOp (rIxT K) te (tC (.int 0))) σ H := fun H1 k P Q q => h H1 k P _ fun v t H2 k2 P2 hT hR => by
  obtain ⟨i, r, rfl⟩ := hR
  cases hT with
  | @tup a xs _ ea ha =>
  cases ha with
  | cons h1 _ =>
  cases h1
  exact ⟨a, _, 0, .int i, rfl, rfl, SqT.of ea, atI_nat (j := 0) rfl, q i H2 k2 P2⟩
/-- list(t) -/
theorem ge_list {m : Nat} (h : GE p te σ H (tupN m)) : GE p (tCB (fun xs H Q => ∃ p ys, xs = [.ref p] ∧ (SqL K H p ys ∨ SqT K H p ys) ∧ ∀ l, H l = none → Q (.ref l) (upd H l (.lst ys))) (tCons te tNil)) σ H (fun _ => True) := fun H1 k P Q q => h H1 k P _ fun v t H2 k2 P2 hT hR => by
  obtain ⟨ts, rfl, hm⟩ := hR
  cases hT with
  | @tup a xs _ ea ha =>
  exact ⟨a, xs, rfl, .inr (SqT.of ea), fun l nl => q _ _ _ (k2.trans (Kp.new nl _)) (P2.new nl _) (.lst (P2.free nl) upd_same) trivial⟩
/-- t * 6 -/
theorem ge_rep {n : Int} (h : GE p te σ H (fun t => ∃ ts, t = .tup ts ∧ ts ≠ [] ∧ ts.length ≤ 1000)) (h2 : 2 ≤ n := by decide) (h3 : n ≤ 1000 := by decide) : GE p (tOp (rRepT K) te (tC (.int n))) σ H (fun _ => True) := fun H1 k P Q q => h H1 k P _ fun v t H2 k2 P2 hT hR => by
  obtain ⟨ts, rfl, hne, hm⟩ := hR
  cases hT with
  | @tup a xs _ ea ha =>
  have hl := ha.length
  refine ⟨a, n, xs, rfl, rfl, SqT.of ea, fun z => hne (List.eq_nil_of_length_eq_zero (by rw [← hl, z]; rfl)), h2, h3, by omega, fun b nb => ?_⟩
  exact q _ _ _ (k2.trans (Kp.new nb _)) (P2.new nb _) (.tup upd_same (TgAll.kp (Kp.new nb _) P2 _ _ (ha.rep _))) trivial
/-- a list of things -/
def ThL (p : Addr) (H : Hp) (L : Addr) (n : Nat) : Prop := L ≠ p ∧ ∃ vs ts, H L = some (.lst vs) ∧ TgAll p H vs ts ∧ vs.length = n
theorem ThL.kp {H' : Hp} {L : Addr} {n : Nat} (h : ThL p H L n) (k : Kp p H H') (P : PenAt H p) : ThL p H' L n := by
  obtain ⟨h1, vs, ts, h2, h3, h4⟩ := h
  exact ⟨h1, vs, ts, k _ _ h1 h2, TgAll.kp k P _ _ h3, h4⟩
theorem gl_lst {n : Nat} {Q : VK} (h : GA p ta σ H n) (P : PenAt H p) (q : ∀ L H', Kp p H H' → PenAt H' p → H L = none → ThL p H' L n → Q (.ref L) H') (hn : n ≤ 1000 := by decide) : tLst ta σ H Q := h H (Kp.refl _ _) P _ fun vs ts H2 k2 P2 hts hl => ⟨Nat.le_of_lt (small1000 (by omega)), fun a na => q _ _ (k2.trans (Kp.new na _)) (P2.new na _) (k2.noneG (P2.free na) na) ⟨P2.free na, vs, ts, upd_same, TgAll.kp (Kp.new na _) P2 _ _ hts, hl⟩⟩
/-- two lists of things put together -/
theorem ThL.cat {L M : Addr} {m n : Nat} {Q : VK} (h1 : ThL p H L m) (h2 : ThL p H M n) (P : PenAt H p) (hmn : m + n ≤ 1000) (q : ∀ N H', Kp p H H' → PenAt H' p → H N = none → ThL p H' N (m + n) → Q (.ref N) H') : rCat (.ref L) (.ref M) H Q := by
  obtain ⟨a1, vs, ts, a2, a3, a4⟩ := h1
  obtain ⟨b1, us, rs, b2, b3, b4⟩ := h2
  refine ⟨L, M, vs, us, rfl, rfl, a2, b2, Nat.le_of_lt (small1000 (by omega)), fun N nN => ?_⟩
  exact q N _ (Kp.new nN _) (P.new nN _) nN ⟨P.free nN, _, _, upd_same, TgAll.kp (Kp.new nN _) P _ _ (a3.append b3), by rw [List.length_append, a4, b4]⟩
/-- one more behind -/
theorem ThL.snoc {L : Addr} {n : Nat} {v : V} {t : Tg} (h : ThL p H L n) (P : PenAt H p) (hT : TgAt p H v t) : ∃ xs, H L = some (.lst xs) ∧ xs.length = n ∧ PenAt (upd H L (.lst (xs ++ [v]))) p ∧ ThL p (upd H L (.lst (xs ++ [v]))) L (n + 1) := by
  obtain ⟨a1, vs, ts, a2, a3, a4⟩ := h
  refine ⟨vs, a2, a4, ?_, a1, _, _, upd_same, (TgAll.relist a2 _ _ a3).append (.cons (TgAt.relist a2 _ _ hT) .nil), by rw [List.length_append, a4]; rfl⟩
  obtain ⟨x1, x2, x3, x4, z1, z2⟩ := P
  exact ⟨x1, x2, x3, x4, by rw [upd_ne fun z => a1 z.symm]; exact z1, z2⟩
end
end Deed

namespace Deed
open PySem PySem.Spec PyProof.Rows L2
/-! an entry that may name what isn't less -/
def EnG (n : Nat) (ds as : List Int) (e : En) : Prop := (0 ≤ e.day ∧ e.day ≤ 9999) ∧ (0 ≤ e.wri ∧ e.wri ≤ 9999) ∧ (0 ≤ e.hand ∧ e.hand ≤ 3) ∧ match e.kd with
  | .deed g t rs ws => (0 ≤ g ∧ g < n) ∧ (0 ≤ t ∧ t < n) ∧ rs.length ≤ 2 ∧ (∀ r ∈ rs, r ∈ ds) ∧ ws.length ≤ 3 ∧ ∀ x ∈ ws, 0 ≤ x ∧ x < n
  | .act x o => (x = "undone" ∨ (x = "paid" ∨ x = "void")) ∧ (o ∈ ds ∨ o ∈ as)
def spEntryG (K : PySem.W.Frag) : Sp := fun vs H Q _ => ∃ (p fk ld la : Addr) (num : Int) (n : Nat) (ds as : List Int), vs = [.ref p, .ref fk, .int num, .ref ld, .ref la] ∧ PenAt H p ∧ FolkAt H fk n ∧ 2 ≤ n ∧ n ≤ 6 ∧ H ld = some (.lst (ds.map V.int)) ∧ ld ≠ p ∧ H la = some (.lst (as.map V.int)) ∧ la ≠ p ∧ ds.Nodup ∧ ds.length ≤ 1000 ∧ as.length ≤ 1000 ∧
  ∀ a (e : En) H', Kp p H H' → PenAt H' p → EntAt H' a e → e.num = num → EnG n ds as e → Q (.ref a) H'
section
variable {P : Program} {w : World} {K : PySem.W.Frag} {mg : Str → Option Value} {base : Heap} {fDr fFe fDy fDe : Addr} {dDr dFe dDy dDe : FuncData}
theorem ok_entryG {f : Addr} {fd : FuncData} {k : Nat} (F : Fun K "_law_entry" "_law_entry" sEntry f fd) (D : DrawD K mg fDr dDr) (DF : FewD K mg fFe dFe) (DY : DayD K mg fDy dDy) (DD : DeedD K mg fDe dDe) (B : Bi mg) : FnOk P w K mg base CX0 (k + 4) f fd pEntry (spEntryG K) := by
  have G : FnOk P w K mg base CX0 (k + 1) fDr dDr ["_law_pen_here", "_law_bound"] spDraw := ok_draw D.F
  have GY : FnOk P w K mg base CX0 (k + 2) fDy dDy ["_law_pen_here"] spDay := ok_day DY.F D
  have GD : FnOk P w K mg base CX0 (k + 3) fDe dDe ["_law_pen_here", "_law_folk_here", "_law_deeds"] (spDeed K) := ok_deed DD.F D DF B
  refine F.ok scEntry (fun vs H Q E h => ?_) (fun cdv A outer s H vs Q E hr h => ?_)
  · obtain ⟨p, fk, ld, la, num, n, ds, as, rfl, _⟩ := h
    rfl
  · obtain ⟨p, fk, ld, la, num, n, ds, as, rfl, hP, hF, hn2, hn6, hld, nld, hla, nla, hnd, hdl, hal, q⟩ := h
    have hr1 : Room (k + 1) _ := hr.mono (by omega)
    have hr2 : Room (k + 2) _ := hr.mono (by omega)
    refine ⟨_, pss_cons (ps_set (i := 5) scEntry.nd rfl (.inl rfl) (pe_tup (pa_cons (pv 2) (pa_cons (pe_call GY hr2 (by rfl) DY.g DY.F.kp DY.b .nil pass0 (pa_cons (pv 0) pa_nil)) (pa_cons (pe_call GY hr2 (by rfl) DY.g DY.F.kp DY.b .nil pass0 (pa_cons (pv 0) pa_nil)) (pa_cons (pe_call G hr1 (by rfl) D.g D.F.kp D.b .nil pass0 (pa_cons (pv 0) (pa_cons pe_int pa_nil))) pa_nil))))))
      (pss_cons (ps_set (i := 6) scEntry.nd rfl (.inl rfl) (pe_call G hr1 (by rfl) D.g D.F.kp D.b .nil pass0 (pa_cons (pv 0) (pa_cons pe_int pa_nil))))
      (pss_cons (ps_if (PW.pt (pw_or (pt_cmpR (op_eqD hr.units) (pv 3) (pe_lst pa_nil) (nomark _)) (pw_or1 (pt_cmpR op_lt (pv 6) pe_int (nomark _)))))
        (pss_one (ps_ret (pe_op op_catT (pe_op op_catT (pv 5) (pe_tup (pa_cons pe_str pa_nil))) (pe_call GD hr (by rfl) DD.g DD.F.kp DD.b .nil pass0 (pa_cons (pv 0) (pa_cons (pv 1) (pa_cons (pv 3) pa_nil))))))) pss_nil)
      (pss_cons (ps_if (PW.pt (pw_or (pt_cmpR (op_eqD hr.units) (pv 4) (pe_lst pa_nil) (nomark _)) (pw_or1 (pt_cmpR op_lt (pv 6) pe_int (nomark _)))))
        (pss_cons (ps_set (i := 7) scEntry.nd rfl (.inl rfl) (pe_ix ix_list (pe_lst (pa_cons pe_str (pa_cons pe_str pa_nil))) (pe_call G hr1 (by rfl) D.g D.F.kp D.b .nil pass0 (pa_cons (pv 0) (pa_cons pe_int pa_nil))) (fun _ _ => rfl)))
        (pss_one (ps_ret (pe_op op_catT (pv 5) (pe_tup (pa_cons (pv 7) (pa_cons (pe_ix ix_list (pv 3) (pe_call G hr1 (by rfl) D.g D.F.kp D.b .nil pass0 (pa_cons (pv 0) (pa_cons (pe_callB call_len_seq (by rfl) B.len PySem.boot_len (pa_cons (pv 3) pa_nil)) pa_nil))) (fun _ _ => rfl)) pa_nil))))))) pss_nil)
      (pss_one (ps_ret (pe_op op_catT (pv 5) (pe_tup (pa_cons pe_str (pa_cons (pe_ix ix_list (pv 4) (pe_call G hr1 (by rfl) D.g D.F.kp D.b .nil pass0 (pa_cons (pv 0) (pa_cons (pe_callB call_len_seq (by rfl) B.len PySem.boot_len (pa_cons (pv 4) pa_nil)) pa_nil))) (fun _ _ => rfl)) pa_nil))))))))), ?_⟩
    -- head
    refine ⟨_, rfl, _, rfl, p, rfl, hP, fun v1 H1 k1 P1 a1 b1 => ?_⟩
    refine ⟨_, rfl, p, rfl, P1, fun v2 H2 k2 P2 a2 b2 => ?_⟩
    refine ⟨_, rfl, p, 4, rfl, P2, by decide, by decide, fun v3 H3 k3 P3 a3 b3 => ?_⟩
    refine ⟨(by show 4 ≤ sizeLine; decide), fun h hh => ?_⟩
    have kh : Kp p H3 (upd H3 h (.tup [.int num, .int v1, .int v2, .int v3])) := Kp.new hh _
    have Ph := P3.new hh (.tup [.int num, .int v1, .int v2, .int v3])
    have eh : (upd H3 h (.tup [.int num, .int v1, .int v2, .int v3])) h = some (.tup [.int num, .int v1, .int v2, .int v3]) := upd_same
    have kA : Kp p H (upd H3 h (.tup [.int num, .int v1, .int v2, .int v3])) := k1.trans (k2.trans (k3.trans kh))
    generalize (upd H3 h (.tup [.int num, .int v1, .int v2, .int v3])) = Hh at kh Ph eh kA
    -- way
    refine ⟨_, rfl, p, 12, rfl, Ph, by decide, by decide, fun way H4 k4 P4 a4 b4 => ?_⟩
    have kB := kA.trans k4
    have e4 := k4.tup Ph _ _ eh
    -- deeds == []
    refine ⟨_, rfl, Nat.zero_le _, fun z hz => ?_⟩
    have kz : Kp p H4 (upd H4 z (.lst [])) := Kp.new hz _
    have Pz := P4.new hz (.lst [])
    have ez : (upd H4 z (.lst [])) z = some (.lst []) := upd_same
    have ehz := kz.tup P4 _ _ e4
    have kC := kB.trans kz
    generalize (upd H4 z (.lst [])) = Hz at kz Pz ez ehz kC
    refine ⟨.list (ds.map .int), .list (([] : List Int).map .int), .lst (SqL.of (kC _ _ nld hld)) (dp_ints ds), .lst (SqL.of ez) (dp_ints []), shaped_ints ds, shaped_ints [], _, rfl, ?_⟩
    rw [eqv_ints]
    refine ite2 (fun c => ?dw1) (fun c => (⟨_, rfl, _, _, rfl, rfl, _, rfl, ite2 (fun c2 => ?dw2) (fun c2 => ?nx)⟩))
    case nx =>
      have hdne : ds ≠ [] := fun e0 => c (decide_eq_true e0)
      have hdpos : 0 < ds.length := List.length_pos_iff.mpr hdne
      refine ⟨_, rfl, Nat.zero_le _, fun y hy => ?_⟩
      have ky : Kp p Hz (upd Hz y (.lst [])) := Kp.new hy _
      have Py := Pz.new hy (.lst [])
      have ey : (upd Hz y (.lst [])) y = some (.lst []) := upd_same
      have ehy := ky.tup Pz _ _ ehz
      have kD := kC.trans ky
      generalize (upd Hz y (.lst [])) = Hy at ky Py ey ehy kD
      refine ⟨.list (as.map .int), .list (([] : List Int).map .int), .lst (SqL.of (kD _ _ nla hla)) (dp_ints as), .lst (SqL.of ey) (dp_ints []), shaped_ints as, shaped_ints [], _, rfl, ?_⟩
      rw [eqv_ints]
      refine ite2 (fun c3 => ?pv1) (fun c3 => (⟨_, rfl, _, _, rfl, rfl, _, rfl, ite2 (fun c4 => ?pv2) (fun c4 => ?un)⟩))
      case un =>
        have hane : as ≠ [] := fun e0 => c3 (decide_eq_true e0)
        have hapos : 0 < as.length := List.length_pos_iff.mpr hane
        have hml : (as.map V.int).length = as.length := List.length_map _
        refine ⟨_, rfl, _, rfl, _, rfl, _, rfl, la, _, rfl, .inl (SqL.of (kD _ _ nla hla)), p, _, rfl, Py, by omega, by omega, fun i H5 k5 P5 a5 b5 => ?_⟩
        rw [hml] at b5
        have hk : i.toNat < as.length := by omega
        refine ⟨la, _, i, .int as[i.toNat], rfl, rfl, SqL.of ((kD.trans k5) _ _ nla hla), at_of (j := i.toNat) (by omega) (by rw [List.getElem?_map, List.getElem?_eq_getElem hk] <;> rfl), (by show 2 ≤ sizeLine; decide), fun u hu => ?_⟩
        have ku : Kp p H5 (upd H5 u (.tup [.str "undone", .int as[i.toNat]])) := Kp.new hu _
        refine ⟨h, u, _, _, rfl, rfl, SqT.of (ku.tup P5 _ _ (k5.tup Py _ _ ehy)), SqT.of upd_same, List.cons_ne_nil _ _, (by show 6 ≤ sizeLine; decide), fun z0 => absurd z0 (List.cons_ne_nil _ _), fun _ t ht => ?_⟩
        refine q t ⟨num, v1, v2, v3, .act "undone" as[i.toNat]⟩ _ (kD.trans (k5.trans (ku.trans (Kp.new ht _)))) ((P5.new hu _).new ht _) upd_same rfl ?_
        exact ⟨⟨a1, b1⟩, ⟨a2, b2⟩, ⟨a3, by show v3 ≤ 3; omega⟩, .inl rfl, .inr (List.getElem_mem hk)⟩
      all_goals
        refine ⟨(by show 2 ≤ sizeLine; decide), fun m hm => ?_⟩
        refine ⟨_, rfl, p, 2, rfl, Py.new hm _, by decide, by decide, fun v5 H5 k5 P5 a5 b5 => ?_⟩
        obtain ⟨_, g5, x, rfl, hx⟩ := pick (xs := [.str "paid", .str "void"]) (fun y => ∃ x : Str, y = .str x ∧ (x = "paid" ∨ x = "void")) a5 b5 (am1 ⟨_, rfl, .inl rfl⟩ (am1 ⟨_, rfl, .inr rfl⟩ am0))
        refine ⟨m, _, v5, _, rfl, rfl, SqL.of (k5 _ _ (Py.free hm) upd_same), g5, ?_⟩
        have kE := kD.trans ((Kp.new hm _).trans k5)
        have eh5 := k5.tup (Py.new hm _) _ _ ((Kp.new (p := p) hm _).tup Py _ _ ehy)
        have hml : (ds.map V.int).length = ds.length := List.length_map _
        refine ⟨_, rfl, _, rfl, _, rfl, _, rfl, _, rfl, ld, _, rfl, .inl (SqL.of (kE _ _ nld hld)), p, _, rfl, P5, by omega, by omega, fun i H6 k6 P6 a6 b6 => ?_⟩
        rw [hml] at b6
        have hk : i.toNat < ds.length := by omega
        refine ⟨ld, _, i, .int ds[i.toNat], rfl, rfl, SqL.of ((kE.trans k6) _ _ nld hld), at_of (j := i.toNat) (by omega) (by rw [List.getElem?_map, List.getElem?_eq_getElem hk] <;> rfl), (by show 2 ≤ sizeLine; decide), fun u hu => ?_⟩
        have ku : Kp p H6 (upd H6 u (.tup [.str x, .int ds[i.toNat]])) := Kp.new hu _
        refine ⟨h, u, _, _, rfl, rfl, SqT.of (ku.tup P6 _ _ (k6.tup P5 _ _ eh5)), SqT.of upd_same, List.cons_ne_nil _ _, (by show 6 ≤ sizeLine; decide), fun z0 => absurd z0 (List.cons_ne_nil _ _), fun _ t ht => ?_⟩
        refine q t ⟨num, v1, v2, v3, .act x ds[i.toNat]⟩ _ (kE.trans (k6.trans (ku.trans (Kp.new ht _)))) ((P6.new hu _).new ht _) upd_same rfl ?_
        exact ⟨⟨a1, b1⟩, ⟨a2, b2⟩, ⟨a3, by show v3 ≤ 3; omega⟩, .inr hx, .inl (List.getElem_mem hk)⟩
    all_goals
      refine ⟨_, rfl, (by show 1 ≤ sizeLine; decide), fun u hu => ?_⟩
      have ku : Kp p Hz (upd Hz u (.tup [.str "deed"])) := Kp.new hu _
      refine ⟨h, u, _, _, rfl, rfl, SqT.of (ku.tup Pz _ _ ehz), SqT.of upd_same, List.cons_ne_nil _ _, (by show 5 ≤ sizeLine; decide), fun z0 => absurd z0 (List.cons_ne_nil _ _), fun _ t ht => ?_⟩
      have Pu := Pz.new hu (.tup [.str "deed"])
      have kt : Kp p (upd Hz u (.tup [.str "deed"])) (upd (upd Hz u (.tup [.str "deed"])) t (.tup ([.int num, .int v1, .int v2, .int v3] ++ [.str "deed"]))) := Kp.new ht _
      have Pt := Pu.new ht (.tup ([.int num, .int v1, .int v2, .int v3] ++ [.str "deed"]))
      have kE := kC.trans (ku.trans kt)
      refine ⟨_, rfl, _, rfl, _, rfl, p, fk, ld, n, ds, rfl, Pt, hF.kp kE hP, hn2, hn6, kE _ _ nld hld, nld, hnd, hdl, fun a r x g tk rs ws H6 k6 P6 ea er ex hg htk hgt hrl hrp hrd hwl hwp hw => ?_⟩
      have et6 := k6.tup Pt _ _ (upd_same (H := upd Hz u (.tup [.str "deed"])) (a := t))
      refine ⟨t, a, _, _, rfl, rfl, SqT.of et6, SqT.of ea, List.cons_ne_nil _ _, (by show 9 ≤ sizeLine; decide), fun z0 => absurd z0 (List.cons_ne_nil _ _), fun _ b hb => ?_⟩
      have kb : Kp p H6 (upd H6 b (.tup (([.int num, .int v1, .int v2, .int v3] ++ [.str "deed"]) ++ [.int g, .int tk, .ref r, .ref x]))) := Kp.new hb _
      refine q b ⟨num, v1, v2, v3, .deed g tk rs ws⟩ _ (kE.trans (k6.trans kb)) (P6.new hb _) ⟨r, x, upd_same, kb.tup P6 _ _ er, kb.tup P6 _ _ ex⟩ rfl ?_
      exact ⟨⟨a1, b1⟩, ⟨a2, b2⟩, ⟨a3, by show v3 ≤ 3; omega⟩, hg, htk, hrl, hrd, hwl, fun y hy => ⟨(hw y hy).1, (hw y hy).2.1⟩⟩
end
open LamX
theorem log_small {i : Int} (h : i.natAbs < 2 ^ 64) : i.natAbs.log2 < 1920 := by
  by_cases h0 : i.natAbs = 0
  · rw [h0]
    decide
  · have := (Nat.log2_lt h0).mpr h
    omega
theorem folk_tg {p : Addr} {H : Hp} {t : Addr} {n : Nat} (h : FolkAt H t n) (hn : n ≤ 300) : ∃ ts, TgAt p H (.ref t) (.tup ts) ∧ ts.length = n ∧ FitsN 3 (.tup ts) ∧ ts.all isPersonT = true := by
  obtain ⟨xs, e, hl, hp⟩ := h
  have key : ∀ xs : List V, (∀ x ∈ xs, PersonAt H x) → ∃ ts, TgAll p H xs ts ∧ (∀ t ∈ ts, FitsN 2 t) ∧ ts.all isPersonT = true := by
    intro xs
    induction xs with
    | nil => exact fun _ => ⟨[], .nil, ⟨fun _ h => (nomatch h), rfl⟩⟩
    | cons x r ih =>
      intro hx
      obtain ⟨ts, h1, h2, h3⟩ := ih fun y hy => hx y (List.mem_cons_of_mem _ hy)
      obtain ⟨a, b, d, rfl, ea, hb0, hb1, hd⟩ := hx x List.mem_cons_self
      obtain ⟨td, htd, hfd, hdd⟩ : ∃ td, TgAt p H d td ∧ FitsN 1 td ∧ diedT b td = true := by
        rcases hd with rfl | ⟨i, rfl, hi0, hi1⟩
        · exact ⟨.non, .non, trivial, rfl⟩
        · exact ⟨.int i, .int i, log_small (by omega), by show (decide (b + 1 ≤ i) && decide (i ≤ 9999)) = true; rw [decide_eq_true (by omega : b + 1 ≤ i), decide_eq_true hi1]; rfl⟩
      refine ⟨.tup [.int b, td] :: ts, .cons (.tup ea (.cons (.int b) (.cons htd .nil))) h1, fun u hu => ?_, ?_⟩
      rotate_left
      · rw [List.all_cons, h3, Bool.and_true]
        show ((decide (-9999 ≤ b) && decide (b ≤ 9999)) && diedT b td) = true
        rw [hdd, decide_eq_true hb0, decide_eq_true (by omega : b ≤ 9999)]
        rfl
      rcases List.mem_cons.mp hu with rfl | hu
      · refine ⟨by show 2 ≤ 300; decide, fun y hy => ?_⟩
        simp only [List.mem_cons, List.not_mem_nil, or_false] at hy
        rcases hy with rfl | rfl
        · exact log_small (by omega)
        · exact hfd
      · exact h2 u hu
  obtain ⟨ts, h1, h2, h3⟩ := key xs hp
  have hl2 := h1.length
  exact ⟨ts, .tup e h1, by omega, ⟨by omega, h2⟩, h3⟩
theorem fits_ints {n : Nat} {ns : List Int} (h : ∀ x ∈ ns, x.natAbs < 2 ^ 64) (hl : ns.length ≤ 300) : FitsN (n + 2) (.tup (ns.map Tg.int)) := by
  refine ⟨by rw [List.length_map]; exact hl, fun t ht => ?_⟩
  obtain ⟨i, hi, rfl⟩ := List.mem_map.mp ht
  exact log_small (h i hi)
theorem ent_tg {p : Addr} {H : Hp} {a : Addr} {e : En} {n : Nat} {ds as : List Int} (h : EntAt H a e) (ok : EnG n ds as e) (hn : n ≤ 6) (hnum : 0 ≤ e.num ∧ e.num ≤ 100) (hds : ∀ d ∈ ds, 0 ≤ d ∧ d ≤ 100) (has : ∀ d ∈ as, 0 ≤ d ∧ d ≤ 100) : ∃ r, TgAt p H (.ref a) (.tup (.int e.num :: r)) ∧ (Tg.int e.num :: r).length ≤ 9 ∧ FitsN 3 (.tup (.int e.num :: r)) := by
  obtain ⟨⟨b1, b2⟩, ⟨b3, b4⟩, ⟨b5, b6⟩, hk⟩ := ok
  have ls : ∀ {i : Int} {n : Nat}, -100000 ≤ i → i ≤ 100000 → FitsN (n + 1) (.int i) := fun h1 h2 => log_small (by omega)
  unfold EntAt at h
  cases hkd : e.kd with
  | deed g t rs ws =>
    rw [hkd] at h hk
    obtain ⟨r, w, h1, h2, h3⟩ := h
    obtain ⟨⟨g0, g1⟩, ⟨t0, t1⟩, hr2, hrd, hw3, hw⟩ := hk
    refine ⟨_, .tup h1 (.cons (.int _) (.cons (.int _) (.cons (.int _) (.cons (.int _) (.cons (.str _) (.cons (.int _) (.cons (.int _) (.cons (.tup h2 (TgAll.ints rs)) (.cons (.tup h3 (TgAll.ints ws)) .nil))))))))), by show 9 ≤ 9; decide, by show 9 ≤ 300; decide, fun y hy => ?_⟩
    simp only [List.mem_cons, List.not_mem_nil, or_false] at hy
    rcases hy with rfl | rfl | rfl | rfl | rfl | rfl | rfl | rfl | rfl
    · exact ls (by omega) (by omega)
    · exact ls (by omega) (by omega)
    · exact ls (by omega) (by omega)
    · exact ls (by omega) (by omega)
    · show ("deed" : Str).length ≤ 300
      decide
    · exact ls (by omega) (by omega)
    · exact ls (by omega) (by omega)
    · exact fits_ints (fun x hx => by have := hds x (hrd x hx); omega) (by omega)
    · exact fits_ints (fun x hx => by have := hw x hx; omega) (by omega)
  | act x o =>
    rw [hkd] at h hk
    have ho : 0 ≤ o ∧ o ≤ 100 := by
      rcases hk.2 with h | h
      · exact hds o h
      · exact has o h
    refine ⟨_, .tup h (.cons (.int _) (.cons (.int _) (.cons (.int _) (.cons (.int _) (.cons (.str _) (.cons (.int _) .nil)))))), by show 6 ≤ 9; decide, by show 6 ≤ 300; decide, fun y hy => ?_⟩
    simp only [List.mem_cons, List.not_mem_nil, or_false] at hy
    rcases hy with rfl | rfl | rfl | rfl | rfl | rfl
    · exact ls (by omega) (by omega)
    · exact ls (by omega) (by omega)
    · exact ls (by omega) (by omega)
    · exact ls (by omega) (by omega)
    · show x.length ≤ 300
      rcases hk.1 with rfl | rfl | rfl <;> decide
    · exact ls (by omega) (by omega)
end Deed

namespace Deed
open PySem PySem.Spec PyProof.Rows L2
section
variable {X : Cx}
/-- x = {k: v for ..}, x an own name -/
theorem ps_setDc {i : Nat} {y : Str} {py : Pos} {kx vx tg iter : Expr} {ifs : List Expr} {scope : Scope} {own : List (Str × Nat)} {pos spos : Pos} {wi : TI} {g : TG} {tt : TT} {tk tv : TE} (cal : X.calm = true) (nd : X.N.Nodup) (yi : X.N[i]? = some y) (yl : X.env.scope.names.lookup y = some .local)
    (sw : swapsWith (.DictComp kx vx [⟨tg, iter, ifs, 0⟩] scope pos) (some (.Name y py)) spos.line X.env = pure true) (pi : PI X tg iter wi) (blk : BlkOk X.N X.env.scope scope own)
    (pg : ∀ (s : Shared) (H : Hp) (C : Addr) (cl : List (Str × Addr)) (fp : List Addr), PG (X.blk s H scope (compEnvC scope cl C X.env) fp) tg g) (pt : ∀ (s : Shared) (H : Hp) (C : Addr) (cl : List (Str × Addr)) (fp : List Addr), PTs (X.blk s H scope (compEnvC scope cl C X.env) fp) ifs tt)
    (pk : ∀ (s : Shared) (H : Hp) (C : Addr) (cl : List (Str × Addr)) (fp : List Addr), PE (X.blk s H scope (compEnvC scope cl C X.env) fp) kx tk) (pw : ∀ (s : Shared) (H : Hp) (C : Addr) (cl : List (Str × Addr)) (fp : List Addr), PE (X.blk s H scope (compEnvC scope cl C X.env) fp) vx tv)
    (fo : ∀ x, foldedSetIterable iter X.env x = pure x := by intro _; rfl) : PS X (.Assign [.Name y py] (.DictComp kx vx [⟨tg, iter, ifs, 0⟩] scope pos) spos) (tAsg (tDc wi g tt tk tv (own.map (·.2))) (gName i)) := by
  refine ⟨fun pins s σ H D I hh => ?_⟩
  rw [exec_Assign_Name_used _ _ _ _ sw]
  refine wpAny_bind (wpAny_standAt (wpAny_bind ?_))
  show wpAny _ X.A (do let _ ← comprehension (.DictComp kx vx [⟨tg, iter, ifs, 0⟩] scope pos) scope X.env (firstIterPos [⟨tg, iter, ifs, 0⟩] pos) newDict false (eval iter X.env) (some (assign (.Name y py) X.env))) _ _ s
  have ht : tDc wi g tt tk tv (own.map (·.2)) σ H (fun x H1 => gName i x σ H1 D.nx) := hh
  refine wpAny_bind (thn (dc_core (Qf := fun _ s' => SP X pins D .next s') cal nd I pi blk pg pt pk pw fo ht fun L C s1 m H1 I1 q nC fp => ?_) fun _ s2 hq => wpAny_pure (wpAny_pure hq))
  show wpAny _ _ (assign (.Name y py) X.env (.ref L)) _ _ _
  refine wpAny_assign_Name (store_ok2 (v := V.ref L) I1 nd yi (.inl yl) rfl (fun s2 I2 ⟨c, sb, hc⟩ => ?_) (.inr yl))
  obtain ⟨f0, f1, f2, f3, f4, f5⟩ := fp
  have nc : C ≠ c := by
    rcases hc with e | e
    · rw [e]
      exact f1
    · exact fun z => f4 y c e z.symm
  refine ⟨m, nC.sameBut sb nc, fun h3 sb3 => ⟨_, H1, ?_, q⟩⟩
  exact I2.turned (t' := s2.toks) (fun b o hb e => (sb3.2 b hb).trans e) f0 f1 f3 f4 f5
theorem swD_true {kx vx : Expr} {gs : List Comprehension} {scope : Scope} {pos py : Pos} {y : Str} {l : Nat} {env : Env} (fk : env.scope.kind = .function) (yl : env.scope.names.lookup y = some .local) (hl : (py.line == pos.line) = true)
    (no : (scope.names.any fun (n, k) => n == y && (k == .local || k == .cell)) = false) : swapsWith (.DictComp kx vx gs scope pos) (some (.Name y py)) l env = pure true := by
  have k1 : env.kindOf y = some .local := yl
  have k2 : env.blockKind = .function := by
    unfold Env.blockKind
    rw [fk]
    rfl
  unfold swapsWith
  simp only [k2, k1, no, Expr.pos, hl]
  rfl
end
end Deed

namespace Deed
open PySem PySem.Spec PyProof.Rows L2 LamX
/-! ### books, of whatever kind -/
theorem within_ints : ∀ {ts : List Tg} {lo hi : Int}, ts.all (Tg.within lo hi) = true → ts = (ts.map Tg.toI).map Tg.int
  | [], _, _, _ => rfl
  | t :: ts, lo, hi, h => by
    rw [List.all_cons, Bool.and_eq_true] at h
    obtain ⟨i, rfl, _⟩ := Tg.within_int h.1
    have := within_ints h.2
    rw [List.map_cons, List.map_cons, ← this]
    rfl
theorem entT_shape {n : Int} {t : Tg} (h : isEntT n t = true) : ∃ num b c d z f r, t = .tup (.int num :: b :: c :: d :: .str z :: f :: r) ∧ ((z = "deed" ∧ ∃ (g : Tg) (rs : List Int) (u : Tg), r = [g, .tup (rs.map Tg.int), u] ∧ rs.length ≤ 2) ∨ (z ≠ "deed" ∧ z ∈ [("paid" : Str), "void", "undone"] ∧ ∃ o, f = .int o ∧ r = [])) := by
  match t, h with
  | .tup (a :: b :: c :: d :: e :: f :: r), h =>
    have h' : (a.within 0 30 && (b.within 0 9999 && (c.within 0 9999 && (d.within 0 3 && tailT n a.toI e (f :: r))))) = true := h
    simp only [Bool.and_eq_true] at h'
    obtain ⟨h1, _, _, _, h5⟩ := h'
    obtain ⟨num, rfl, _⟩ := Tg.within_int h1
    match e, h5 with
    | .str z, h5 =>
      have h5' : (if z = "deed" then deedTailT n num (f :: r) else decide (z ∈ [("paid" : Str), "void", "undone"]) && actTailT num (f :: r)) = true := h5
      refine ⟨num, b, c, d, z, f, r, rfl, ?_⟩
      by_cases hz : z = "deed"
      · rw [if_pos hz] at h5'
        refine .inl ⟨hz, ?_⟩
        match r, h5' with
        | [g, tr, u], h5' =>
          have h6 : (f.within 0 (n - 1) && (g.within 0 (n - 1) && (!decide (f.toI = g.toI) && (risT 2 num tr && (risT 3 n u && (!hasI f.toI u && !hasI g.toI u)))))) = true := h5'
          simp only [Bool.and_eq_true] at h6
          have h7 := h6.2.2.2.1
          match tr, h7 with
          | .tup rs, h7 =>
            have h8 : (decide ((rs.length : Int) ≤ 2) && (rs.all (Tg.within 0 (num - 1)) && risI (rs.map Tg.toI))) = true := h7
            simp only [Bool.and_eq_true] at h8
            have h9 : (rs.length : Int) ≤ 2 := of_decide_eq_true h8.1
            exact ⟨g, rs.map Tg.toI, u, by rw [← within_ints h8.2.1], by rw [List.length_map]; omega⟩
      · rw [if_neg hz, Bool.and_eq_true] at h5'
        refine .inr ⟨hz, of_decide_eq_true h5'.1, ?_⟩
        match r, h5'.2 with
        | [], h6 =>
          have h7 : f.within 0 (num - 1) = true := h6
          obtain ⟨o, rfl, _⟩ := Tg.within_int h7
          exact ⟨o, rfl, rfl⟩
theorem TgAll.int_only {p : Addr} {H : Hp} : ∀ {rs : List Int} {xs : List V}, TgAll p H xs (rs.map Tg.int) → xs = rs.map V.int
  | [], _, h => by
    cases h
    rfl
  | i :: r, _, h => by
    cases h with
    | cons h1 h2 =>
      cases h1
      rw [TgAll.int_only h2]
      rfl
def numT : Tg → Int | .tup (a :: _) => a.toI | _ => 0
def wordT : Tg → Str | .tup (_ :: _ :: _ :: _ :: .str z :: _) => z | _ => ""
def ofT : Tg → Int | .tup (_ :: _ :: _ :: _ :: _ :: f :: _) => f.toI | _ => 0
def restsT : Tg → List Int | .tup (_ :: _ :: _ :: _ :: _ :: _ :: _ :: .tup rs :: _) => rs.map Tg.toI | _ => []
def wdT (ts : List Tg) : List (Key × V) := ts.foldl (fun kvs t => putK kvs (.inl (numT t)) (.str (wordT t))) []
def WdOk (kvs : List (Key × V)) : Prop := ∀ kv ∈ kvs, ∃ x, kv.2 = V.str x
theorem WdOk.put {kvs : List (Key × V)} (h : WdOk kvs) (k : Key) (x : Str) : WdOk (putK kvs k (.str x)) := by
  unfold putK
  split
  · intro kv hkv
    obtain ⟨kv', h1, rfl⟩ := List.mem_map.mp hkv
    split
    · exact ⟨x, rfl⟩
    · exact h kv' h1
  · intro kv hkv
    rcases List.mem_append.mp hkv with h1 | h1
    · exact h kv h1
    · rw [List.mem_singleton.mp h1]
      exact ⟨x, rfl⟩
theorem putK_len {kvs : List (Key × V)} {k : Key} {v : V} : (putK kvs k v).length ≤ kvs.length + 1 := by
  unfold putK
  split
  · rw [List.length_map]
    omega
  · rw [List.length_append]
    exact Nat.le_refl _
theorem wdT_ok : ∀ (ts : List Tg) (kvs : List (Key × V)), WdOk kvs → WdOk (ts.foldl (fun kvs t => putK kvs (.inl (numT t)) (.str (wordT t))) kvs)
  | [], _, h => h
  | t :: ts, kvs, h => wdT_ok ts _ (h.put _ _)
theorem wdT_len : ∀ (ts : List Tg) (kvs : List (Key × V)), (ts.foldl (fun kvs t => putK kvs (.inl (numT t)) (.str (wordT t))) kvs).length ≤ kvs.length + ts.length
  | [], _ => Nat.le_refl _
  | t :: ts, kvs => by
    have h1 := wdT_len ts (putK kvs (.inl (numT t)) (.str (wordT t)))
    have h2 := putK_len (kvs := kvs) (k := .inl (numT t)) (v := .str (wordT t))
    rw [List.foldl_cons, List.length_cons]
    omega
def getW (kvs : List (Key × V)) (r : Int) : V := (valV kvs (.inl r)).getD .non
theorem getW_or {kvs : List (Key × V)} (h : WdOk kvs) (r : Int) : getW kvs r = .non ∨ ∃ x, getW kvs r = .str x := by
  unfold getW valV
  cases hf : kvs.find? fun kv => decide (kv.1 = (Sum.inl r : Key)) with
  | none => exact .inl rfl
  | some kv =>
    obtain ⟨x, hx⟩ := h kv (List.mem_of_find?_eq_some hf)
    exact .inr ⟨x, hx⟩
theorem getW_scal {kvs : List (Key × V)} (h : WdOk kvs) (r : Int) (x : Str) : scal (getW kvs r) (.str x) = true := by
  rcases getW_or h r with e | ⟨y, e⟩ <;> rw [e] <;> rfl
theorem getW_knd {kvs : List (Key × V)} (h : WdOk kvs) (r : Int) (H : Hp) : Knd H (getW kvs r) := by
  rcases getW_or h r with e | ⟨y, e⟩ <;> rw [e]
  · exact .non
  · exact .str y
def fitT (kvs : List (Key × V)) (t : Tg) : Bool :=
  if wordT t = "deed" then (restsT t).all (fun r => decide (getW kvs r = .str "deed"))
  else if wordT t = "undone" then decide (getW kvs (ofT t) ∈ ([("paid" : Str), "void", "undone"] : List Str).map V.str)
  else decide (getW kvs (ofT t) = .str "deed")
def isBookT : Tg → Bool
  | .tup [f, a, .tup es] => isFolkT f && (a.within 0 9999 && (decide (es.length ≤ 16) && (es.all (isEntT (lenT f)) && (decide ((wdT es).length = es.length) && es.all (fitT (wdT es))))))
  | _ => false
section
variable {P : Program} {w : World} {K : PySem.W.Frag} {mg : Str → Option Value} {base : Heap}
abbrev sIsAgeG : Stmt := topS 16
abbrev nIsAgeG : List Str := ["thing"]
abbrev pIsAgeG : List Str := ["thing"]
theorem scIsAgeG : FnScope nIsAgeG pIsAgeG (defScope sIsAgeG) := ⟨rfl, rfl, rfl, by decide +kernel, rfl, by decide +kernel, by decide +kernel⟩
theorem ok_IsAgeG {f : Addr} {fd : FuncData} {k : Nat} (F : Fun K "is_age" "is_age" sIsAgeG f fd) (C_is_within : CallOk P w K mg base k "is_within" pIsWithin spWi) (iLAST_DAY : MgInt mg "LAST_DAY" 9999) : FnOk P w K mg base CX0 (k + 1) f fd pIsAgeG (spB1 (Tg.within 0 9999)) := by
  refine F.ok scIsAgeG (fun vs H Q E h => ?_) (fun cdv A outer s H vs Q E hr h => ?_)
  · obtain ⟨p, v, t, rfl, _⟩ := h
    rfl
  · obtain ⟨p, v, t, rfl, hT, q⟩ := h
    refine ⟨_, pss_one (ps_ret (pe_call C_is_within.ok hr (by rfl) C_is_within.g C_is_within.kp C_is_within.b .nil pass0 (pa_cons (pv 0) (pa_cons pe_int (pa_cons (pe_num (by rfl) iLAST_DAY) pa_nil))))), ?_⟩
    exact ⟨_, rfl, p, v, t, 0, 9999, rfl, hT, q⟩
abbrev sNFit : Stmt := topS 24
abbrev nNFit : List Str := ["words", "entry", "rest"]
abbrev pNFit : List Str := ["words", "entry"]
theorem scNFit : FnScope nNFit pNFit (defScope sNFit) := ⟨rfl, rfl, rfl, by decide +kernel, rfl, by decide +kernel, by decide +kernel⟩
def spNFit : Sp := fun vs H Q _ => ∃ (p wd : Addr) (kvs : List (Key × V)) (v : V) (t : Tg) (n : Int), vs = [.ref wd, v] ∧ H wd = some (.dK kvs) ∧ WdOk kvs ∧ TgAt p H v t ∧ isEntT n t = true ∧ ∀ H', Same H H' → Q (.bl (fitT kvs t)) H'
theorem ok_NFit {f : Addr} {fd : FuncData} {k : Nat} {aC : Addr} (F : Fun K "names_fit" "names_fit" sNFit f fd) (m_all : mg "all" = none) (mW : MgInt mg "WORD" 4) (mR : MgInt mg "RESTS" 7) (mO : MgInt mg "OF" 5) (AW : ActWG K mg aC) : FnOk P w K mg base CX0 (k + 1) f fd pNFit spNFit := by
  refine F.ok scNFit (fun vs H Q E h => ?_) (fun cdv A outer s H vs Q E hr h => ?_)
  · obtain ⟨p, wd, kvs, v, t, n, rfl, _⟩ := h
    rfl
  · obtain ⟨p, wd, kvs, v, t, n, rfl, ewd, hwd, hT, hent, q⟩ := h
    have nd := scNFit.nd
    have hu := hu_of hr
    have gC := AW.1
    refine ⟨_, pss_cons (ps_if (pt_cmpR op_eq (pe_ix ix_tup (pv 1) (pe_num (by rfl) mW) (fun _ _ => rfl)) pe_str (nomark _)) (pss_one (ps_ret (pe_callB (cr_all rfl) (by rfl) m_all (by decide +kernel) (pa_cons (pe_lc (own := [("rest", 2)]) (g := gName 2) (by rfl) nd (pi_tup (pe_ix ix_tup (pv 1) (pe_num (by rfl) mR) (fun _ _ => rfl))) (blkOk_by (own := [("rest", 2)]) (N := nNFit) (sc := defScope sNFit) (by decide +kernel)) (fun _ _ _ _ _ => pg_name (i := 2) nd rfl (Or.inl rfl)) (fun _ _ _ _ _ => pts_nil)
          (fun _ _ _ _ _ => show PE _ _ (tOp rEq (tDGet1 (tVar 0) (tVar 2)) (tC (.str "deed"))) from pe_cmpR op_eq (pe_dget1 hu (pv 0) (pv 2) ⟨rfl, rfl, rfl, rfl⟩) pe_str (nomark _))) pa_nil)))) pss_nil)
      (pss_cons (ps_if (pt_cmpR op_eq (pe_ix ix_tup (pv 1) (pe_num (by rfl) mW) (fun _ _ => rfl)) pe_str (nomark _)) (pss_one (ps_ret (pe_cmpR (op_inTS hr.units) (pe_dget1 hu (pv 0) (pe_ix ix_tup (pv 1) (pe_num (by rfl) mO) (fun _ _ => rfl)) ⟨rfl, rfl, rfl, rfl⟩) (show PE _ _ (tC (.ref aC)) from pe_glob (by rfl) gC rfl) (by rfl)))) pss_nil)
      (pss_one (ps_ret (pe_cmpR op_eq (pe_dget1 hu (pv 0) (pe_ix ix_tup (pv 1) (pe_num (by rfl) mO) (fun _ _ => rfl)) ⟨rfl, rfl, rfl, rfl⟩) pe_str (nomark _))))), ?_⟩
    obtain ⟨num, b, c, d, z, ff, r, rfl, hsh⟩ := entT_shape hent
    obtain ⟨a, xs, ts, rfl, ets, ea, hts⟩ := hT.tupOf rfl
    injection ets with ets
    subst ets
    obtain ⟨xz, gz, hz4⟩ := tup_at hts (i := 4) rfl
    obtain ⟨xf, gf, hf5⟩ := tup_at hts (i := 5) rfl
    cases hz4
    refine ⟨_, rfl, a, xs, 4, _, rfl, rfl, SqT.of ea, atI_nat (j := 4) gz, rfl, _, rfl, ?_⟩
    have q1 : ∀ H', Same H H' → Q (.bl (if z = "deed" then (restsT (.tup (.int num :: b :: c :: d :: .str z :: ff :: r))).all (fun r => decide (getW kvs r = .str "deed")) else if z = "undone" then decide (getW kvs ff.toI ∈ ([("paid" : Str), "void", "undone"] : List Str).map V.str) else decide (getW kvs ff.toI = .str "deed"))) H' := q
    rcases hsh with ⟨rfl, g, rs, u, rfl, hrl⟩ | ⟨hnd, hza, o, rfl, rfl⟩
    · rw [show decide (V.str "deed" = V.str "deed") = true from decide_eq_true rfl]
      refine iteT ?_
      simp only [if_true] at q1
      obtain ⟨xr, gr, hr7⟩ := tup_at hts (i := 7) rfl
      obtain ⟨ra, rxs, rts, rfl, erts, era, hrts⟩ := hr7.tupOf rfl
      injection erts with erts
      subst erts
      have hrx : rxs = rs.map V.int := TgAll.int_only hrts
      subst hrx
      have q2 : ∀ H', Same H H' → Q (.bl (rs.all (fun r => decide (getW kvs r = .str "deed")))) H' := by
        have e : restsT (.tup [.int num, b, c, d, .str "deed", ff, g, .tup (rs.map Tg.int), u]) = rs := by
          show (rs.map Tg.int).map Tg.toI = rs
          rw [List.map_map]
          exact List.map_id'' (fun _ => rfl) rs
        rw [e] at q1
        exact q1
      refine ⟨_, rfl, a, xs, 7, _, rfl, rfl, SqT.of ea, atI_nat (j := 7) gr, ra, rfl, ⟨_, SqT.of era⟩, fun M nM => ?_⟩
      refine lc_sameM (walk_tup (xs := rs.map V.int)) rs (fun y => .bl (decide (getW kvs y = .str "deed"))) (by rw [List.length_map]) (by omega) nM (fun H s => SqT.of (s _ _ era)) ?_ ?_
      · rintro i y x H2' H2 hy s2 ⟨rfl, hx⟩ Q1 q1'
        rw [List.getElem?_map, hy] at hx
        injection hx with hx
        subst hx
        exact ⟨rfl, _, rfl, wd, rfl, .inl ⟨_, .inl (s2 _ _ ewd)⟩, _, rfl, _, DGet.k (k := Sum.inl y) (s2 _ _ ewd), getW_scal hwd y _, q1' _ (same_refl _)⟩
      intro H2 s2 eM
      refine ⟨M, rs.map (fun r => decide (getW kvs r = .str "deed")), rfl, SqL.of (by rw [eM, List.map_map]; rfl), ?_⟩
      rw [all_map_id]
      exact q2 _ s2
    · rw [show decide (V.str z = V.str "deed") = false from decide_eq_false fun e => hnd (by injection e)]
      refine iteF ?_
      rw [if_neg hnd] at q1
      cases hf5
      have q2 := q1 H (same_refl _)
      refine ⟨_, rfl, a, xs, 4, _, rfl, rfl, SqT.of ea, atI_nat (j := 4) gz, rfl, _, rfl, ?_⟩
      by_cases hun : z = "undone"
      · rw [show decide (V.str z = V.str "undone") = true from decide_eq_true (by rw [hun])]
        refine iteT ?_
        rw [if_pos hun] at q2
        refine ⟨_, rfl, wd, rfl, .inl ⟨_, .inl ewd⟩, _, rfl, a, xs, 5, _, rfl, rfl, SqT.of ea, atI_nat (j := 5) gf, _, DGet.k (k := Sum.inl o) ewd, aC, [("paid" : Str), "void", "undone"], rfl, .inr (AW.2 _), getW_knd hwd o _, ?_⟩
        simp only [Bool.false_eq_true, if_false]
        exact q2
      · rw [show decide (V.str z = V.str "undone") = false from decide_eq_false fun e => hun (by injection e)]
        refine iteF ?_
        rw [if_neg hun] at q2
        exact ⟨_, rfl, wd, rfl, .inl ⟨_, .inl ewd⟩, _, rfl, a, xs, 5, _, rfl, rfl, SqT.of ea, atI_nat (j := 5) gf, _, DGet.k (k := Sum.inl o) ewd, getW_scal hwd o _, q2⟩
end
end Deed

namespace Deed
open PySem PySem.Spec PyProof.Rows L2 LamX
section
variable {P : Program} {w : World} {K : PySem.W.Frag} {mg : Str → Option Value} {base : Heap}
abbrev sIsBk : Stmt := topS 25
abbrev nIsBk : List Str := ["thing", "folk", "age", "entries", "words", "entry"]
abbrev pIsBk : List Str := ["thing"]
theorem scIsBk : FnScope nIsBk pIsBk (defScope sIsBk) := ⟨rfl, rfl, rfl, by decide +kernel, rfl, by decide +kernel, by decide +kernel⟩
theorem ent_nw {p : Addr} {H : Hp} {n : Int} {v : V} {t : Tg} (hT : TgAt p H v t) (h : isEntT n t = true) : ∃ a xs, v = .ref a ∧ H a = some (.tup xs) ∧ xs[0]? = some (.int (numT t)) ∧ xs[4]? = some (.str (wordT t)) := by
  obtain ⟨num, b, c, d, z, ff, r, rfl, _⟩ := entT_shape h
  obtain ⟨a, xs, ts, rfl, ets, ea, hts⟩ := hT.tupOf rfl
  injection ets with ets
  subst ets
  obtain ⟨x0, g0, h0⟩ := tup_at hts (i := 0) rfl
  obtain ⟨x4, g4, h4⟩ := tup_at hts (i := 4) rfl
  cases h0
  cases h4
  exact ⟨a, xs, rfl, ea, g0, g4⟩
theorem wdT_more {ts : List Tg} {i : Nat} {t : Tg} (h : ts[i]? = some t) : wdT (ts.take (i + 1)) = putK (wdT (ts.take i)) (.inl (numT t)) (.str (wordT t)) := by
  unfold wdT
  rw [take_more h, List.foldl_append]
  rfl
theorem ok_IsBk {f : Addr} {fd : FuncData} {k : Nat} (F : Fun K "is_book" "is_book" sIsBk f fd) (C_is_folk : CallOk P w K mg base k "is_folk" pIsFolkG (spB1 isFolkT)) (C_is_age : CallOk P w K mg base k "is_age" pIsAgeG (spB1 (Tg.within 0 9999))) (C_is_entry : CallOk P w K mg base k "is_entry" pIsEntG spEntG) (C_names_fit : CallOk P w K mg base k "names_fit" pNFit spNFit) (m_isinstance : mg "isinstance" = none) (m_tuple : mg "tuple" = none) (m_len : mg "len" = none) (m_all : mg "all" = none) (mNu : MgInt mg "NUMBER" 0) (mWd : MgInt mg "WORD" 4) (mE : MgInt mg "MOST_ENTRIES" 16) : FnOk P w K mg base CX0 (k + 1) f fd pIsBk (spB1 isBookT) := by
  refine F.ok scIsBk (fun vs H Q E h => ?_) (fun cdv A outer s H vs Q E hr h => ?_)
  · obtain ⟨p, v, t, rfl, _⟩ := h
    rfl
  · obtain ⟨p, v, t, rfl, hT, q⟩ := h
    have nd := scIsBk.nd
    have hu := hu_of hr
    refine ⟨_, pss_cons (ps_if (PW.pt (pw_or (pt_not (pt_val (pe_callB call_isi (by rfl) m_isinstance (by decide +kernel) (pa_cons (pv 0) (pa_cons (pe_bltn (v := .ty "tuple") (by rfl) m_tuple (by decide +kernel) rfl) pa_nil))))) (pw_or1 (pt_cmpR op_ne (pe_callB call_len_seq (by rfl) m_len (by decide +kernel) (pa_cons (pv 0) pa_nil)) pe_int (nomark _))))) (pss_one (ps_ret pe_bl)) pss_nil)
      (pss_cons (ps_asg (pv 0) (pg_tup (by rfl) (pgs_cons (pg_name (i := 1) nd rfl (.inr rfl)) (pgs_cons (pg_name (i := 2) nd rfl (.inl rfl)) (pgs_cons (pg_name (i := 3) nd rfl (.inl rfl)) pgs_nil)))))
      (pss_cons (ps_if (PW.pt (pw_or (pt_not (pt_val (pe_call C_is_folk.ok hr (by rfl) C_is_folk.g C_is_folk.kp C_is_folk.b .nil pass0 (pa_cons (pv 1) pa_nil)))) (pw_or1 (pt_not (pt_val (pe_call C_is_age.ok hr (by rfl) C_is_age.g C_is_age.kp C_is_age.b .nil pass0 (pa_cons (pv 2) pa_nil))))))) (pss_one (ps_ret pe_bl)) pss_nil)
      (pss_cons (ps_if (PW.pt (pw_or (pt_not (pt_val (pe_callB call_isi (by rfl) m_isinstance (by decide +kernel) (pa_cons (pv 3) (pa_cons (pe_bltn (v := .ty "tuple") (by rfl) m_tuple (by decide +kernel) rfl) pa_nil))))) (pw_or1 (pt_cmpR op_gt (pe_callB call_len_seq (by rfl) m_len (by decide +kernel) (pa_cons (pv 3) pa_nil)) (pe_num (by rfl) mE) (nomark _))))) (pss_one (ps_ret pe_bl)) pss_nil)
      (pss_cons (ps_if (pt_not (pt_val (pe_callB (cr_all rfl) (by rfl) m_all (by decide +kernel) (pa_cons (pe_lc (own := [("entry", 5)]) (g := gName 5) (by rfl) nd (pi_tup (pv 3)) (blkOk_by (own := [("entry", 5)]) (N := nIsBk) (sc := defScope sIsBk) (by decide +kernel)) (fun _ _ _ _ _ => pg_name (i := 5) nd rfl (Or.inl rfl)) (fun _ _ _ _ _ => pts_nil)
          (fun _ _ _ _ _ => pe_call C_is_entry.ok hr (by rfl) C_is_entry.g C_is_entry.kp C_is_entry.b .nil pass0 (pa_cons (pv 1) (pa_cons (pv 5) pa_nil)))) pa_nil)))) (pss_one (ps_ret pe_bl)) pss_nil)
      (pss_cons (ps_set (i := 4) nd rfl (.inr rfl) (pe_dc (own := [("entry", 5)]) (g := gName 5) (by rfl) nd (pi_tup (pv 3)) (blkOk_by (own := [("entry", 5)]) (N := nIsBk) (sc := defScope sIsBk) (by decide +kernel)) (fun _ _ _ _ _ => pg_name (i := 5) nd rfl (Or.inl rfl)) (fun _ _ _ _ _ => pts_nil)
          (fun _ _ _ _ _ => show PE _ _ (tOp (rIxT K) (tVar 5) (tC (.int 0))) from pe_ix ix_tup (pv 5) (pe_num (by rfl) mNu) (fun _ _ => rfl)) (fun _ _ _ _ _ => show PE _ _ (tOp (rIxT K) (tVar 5) (tC (.int 4))) from pe_ix ix_tup (pv 5) (pe_num (by rfl) mWd) (fun _ _ => rfl))))
      (pss_one (ps_ret (pe_and (pe_cmpR op_eq (pe_callB call_lenD (by rfl) m_len PySem.boot_len (pa_cons (pv 4) pa_nil)) (pe_callB call_len_seq (by rfl) m_len PySem.boot_len (pa_cons (pv 3) pa_nil)) (nomark _)) (pe_one (pe_callB (cr_all rfl) (by rfl) m_all (by decide +kernel) (pa_cons (pe_lc (own := [("entry", 5)]) (g := gName 5) (by rfl) nd (pi_tup (pv 3)) (blkOk_by (own := [("entry", 5)]) (N := nIsBk) (sc := defScope sIsBk) (by decide +kernel)) (fun _ _ _ _ _ => pg_name (i := 5) nd rfl (Or.inl rfl)) (fun _ _ _ _ _ => pts_nil)
          (fun _ _ _ _ _ => pe_call C_names_fit.ok hr (by rfl) C_names_fit.g C_names_fit.kp C_names_fit.b .nil pass0 (pa_cons (pv 4) (pa_cons (pv 5) pa_nil)))) pa_nil))))))))))), ?_⟩
    refine ⟨_, rfl, _, _, _, _, t.isT, rfl, .ty "tuple", hT.ty, kit_ty t.kT, _, rfl, ?_⟩
    cases hc : t.isT with
    | false =>
      refine iteT ?_
      have h := q _ (same_refl _)
      have e : isBookT t = false := by cases t <;> first | rfl | cases hc
      rw [e] at h
      exact h
    | true =>
    refine iteF ?_
    obtain ⟨a, xs, ts, rfl, rfl, ea, hts⟩ := hT.tupOf hc
    have hlen := hts.length
    refine ⟨_, rfl, a, _, rfl, .inr (SqT.of ea), rfl, _, rfl, ?_⟩
    by_cases h3 : ts.length = 3
    rotate_left
    · rw [show decide (V.int (xs.length : Nat) = V.int 3) = false from decide_eq_false fun z => h3 (by injection z with z; omega)]
      refine iteT ?_
      have h := q _ (same_refl _)
      have e : isBookT (.tup ts) = false := by
        match ts, h3 with
        | [], _ => rfl
        | [_], _ => rfl
        | [_, _], _ => rfl
        | [_, _, _], h3 => exact absurd rfl h3
        | _ :: _ :: e3 :: _ :: _, _ => cases e3 <;> rfl
      rw [e] at h
      exact h
    rw [show decide (V.int (xs.length : Nat) = V.int 3) = true from decide_eq_true (by rw [hlen, h3]; rfl)]
    refine iteF ?_
    obtain ⟨tf, tg, te, rfl⟩ : ∃ x y u, ts = [x, y, u] := by
      match ts, h3 with
      | [x, y, u], _ => exact ⟨x, y, u, rfl⟩
    match xs, hts with
    | [xf, xg, xe], .cons hf (.cons hg (.cons he .nil)) =>
    refine ⟨_, rfl, a, _, rfl, SqT.of ea, rfl, _, _, rfl, _, _, rfl, _, _, rfl, rfl, ?_⟩
    refine ⟨_, rfl, p, xf, tf, rfl, hf, fun H1 s1 => ⟨_, rfl, ?_⟩⟩
    have bad1 : ∀ H', Same H H' → isFolkT tf = false → Q (.bl false) H' := fun H' s' hb => by
      have h := q _ s'
      have e : isBookT (.tup [tf, tg, te]) = false := by
        cases te with
        | tup es =>
          show (isFolkT tf && _) = false
          rw [hb]
          rfl
        | _ => rfl
      rw [e] at h
      exact h
    cases c1 : isFolkT tf with
    | false => exact iteT (bad1 _ s1 c1)
    | true =>
    refine iteF ?_
    refine ⟨_, rfl, p, xg, tg, rfl, TgAt.same s1 _ _ hg, fun H2 s2 => ⟨_, rfl, ?_⟩⟩
    have s02 := s1.trans s2
    cases c2 : tg.within 0 9999 with
    | false =>
      refine iteT ?_
      have h := q _ s02
      have e : isBookT (.tup [tf, tg, te]) = false := by
        cases te with
        | tup es =>
          show (isFolkT tf && (tg.within 0 9999 && _)) = false
          rw [c1, c2]
          rfl
        | _ => rfl
      rw [e] at h
      exact h
    | true =>
    refine iteF ?_
    have he2 := TgAt.same s02 _ _ he
    refine ⟨_, rfl, _, _, _, _, te.isT, rfl, .ty "tuple", he2.ty, kit_ty te.kT, _, rfl, ?_⟩
    cases hc2 : te.isT with
    | false =>
      refine iteT ?_
      have h := q _ s02
      have e : isBookT (.tup [tf, tg, te]) = false := by cases te <;> first | rfl | cases hc2
      rw [e] at h
      exact h
    | true =>
    refine iteF ?_
    obtain ⟨t2, ys, es, rfl, rfl, et, hes⟩ := he.tupOf hc2
    have q1 : ∀ H', Same H H' → Q (.bl (isFolkT tf && (tg.within 0 9999 && (decide (es.length ≤ 16) && (es.all (isEntT (lenT tf)) && (decide ((wdT es).length = es.length) && es.all (fitT (wdT es)))))))) H' := q
    rw [c1, c2, Bool.true_and, Bool.true_and] at q1
    have hlen2 := hes.length
    refine ⟨_, rfl, t2, _, rfl, .inr (SqT.of (s02 _ _ et)), _, _, rfl, rfl, _, rfl, ?_⟩
    by_cases h16 : es.length ≤ 16
    rotate_left
    · rw [decide_eq_true (show ((ys.length : Nat) : Int) > 16 by omega)]
      refine iteT ?_
      rw [decide_eq_false h16] at q1
      exact q1 _ s02
    rw [decide_eq_false (show ¬ ((ys.length : Nat) : Int) > 16 by omega)]
    refine iteF ?_
    rw [decide_eq_true h16, Bool.true_and] at q1
    have et2 := s02 _ _ et
    refine ⟨_, rfl, t2, rfl, ⟨_, SqT.of et2⟩, fun M nM => ?_⟩
    refine lc_sameM (walk_tup (xs := ys)) es (fun y => .bl (isEntT (lenT tf) y)) hlen2.symm (by omega) nM (fun H s => SqT.of (s _ _ et2)) ?_ ?_
    · rintro i y x H3' H3 hy s3 ⟨rfl, hx⟩ Q1 q1'
      refine ⟨rfl, _, rfl, _, rfl, p, xf, x, tf, y, rfl, TgAt.same (s02.trans s3) _ _ hf, TgAt.same (s02.trans s3) _ _ (hes.at hx hy), fun H4 s4 => ?_⟩
      rw [c1, Bool.true_and]
      exact q1' _ s4
    intro H3 s3 eM
    have s03 := s02.trans s3
    refine ⟨M, es.map (isEntT (lenT tf)), rfl, SqL.of (by rw [eM, List.map_map]; rfl), ?_⟩
    rw [all_map_id]
    refine ⟨_, rfl, ?_⟩
    cases c3 : es.all (isEntT (lenT tf)) with
    | false =>
      refine iteT ?_
      rw [c3, Bool.false_and] at q1
      exact q1 _ s03
    | true =>
    refine iteF ?_
    rw [c3, Bool.true_and] at q1
    have hall := List.all_eq_true.mp c3
    have et3 := s03 _ _ et
    refine ⟨_, rfl, t2, rfl, ⟨_, SqT.of et3⟩, fun W nW => ?_⟩
    refine dc_tup (K := K) (a := t2) (xs := ys) (fun i H' => H' W = some (.dK (wdT (es.take i))) ∧ Same H3 H') ⟨upd_same, same_new nW _⟩ (fun i H' _ h => SqT.of (h.2 _ _ et3)) ?_ ?_
    · rintro i x H' hx ⟨eW, sm⟩
      obtain ⟨y, hy, hxy⟩ := hes.get hx
      obtain ⟨ya, yxs, rfl, eya, g0, g4⟩ := ent_nw (TgAt.same (s03.trans sm) _ _ hxy) (hall y (List.mem_of_getElem? hy))
      have hwl := wdT_len (es.take i) []
      have htl : (es.take i).length ≤ 16 := by rw [List.length_take]; omega
      refine ⟨rfl, ?_⟩
      unfold tYes
      dsimp only
      rw [if_pos rfl]
      refine ⟨_, rfl, ya, yxs, 0, _, rfl, rfl, SqT.of eya, atI_nat (j := 0) g0, _, rfl, ya, yxs, 4, _, rfl, rfl, SqT.of eya, atI_nat (j := 4) g4, _, Sum.inl (numT y), rfl, eW, small1000 (by unfold wdT; simp at hwl; omega), ?_, same_put nW sm _⟩
      rw [upd_same, wdT_more hy]
    rintro H4 ⟨eW, s4⟩
    rw [hlen2, List.take_length] at eW
    have s04 := s03.trans s4
    have et4 := s04 _ _ et
    refine ⟨_, rfl, W, _, rfl, eW, _, rfl, t2, _, rfl, .inr (SqT.of et4), rfl, _, rfl, ?_⟩
    rw [show decide (V.int ((wdT es).length : Int) = V.int ((ys.length : Nat) : Int)) = decide ((wdT es).length = es.length) by
      by_cases e : (wdT es).length = es.length
      · rw [decide_eq_true e, decide_eq_true (by rw [e, hlen2])]
      · rw [decide_eq_false e, decide_eq_false fun z => e (by injection z with z; omega)]]
    cases c4 : decide ((wdT es).length = es.length) with
    | false =>
      refine iteF ?_
      rw [c4, Bool.false_and] at q1
      exact q1 _ s04
    | true =>
    refine iteT ?_
    rw [c4, Bool.true_and] at q1
    refine ⟨_, rfl, t2, rfl, ⟨_, SqT.of et4⟩, fun M2 nM2 => ?_⟩
    refine lc_sameM (walk_tup (xs := ys)) es (fun y => .bl (fitT (wdT es) y)) hlen2.symm (by omega) nM2 (fun H s => SqT.of (s _ _ et4)) ?_ ?_
    · rintro i y x H5' H5 hy s5 ⟨rfl, hx⟩ Q1 q1'
      exact ⟨rfl, _, rfl, _, rfl, p, W, wdT es, x, y, lenT tf, rfl, s5 _ _ eW, wdT_ok es [] (fun _ h => nomatch h), TgAt.same (s04.trans s5) _ _ (hes.at hx hy), hall y (List.mem_of_getElem? hy), fun H6 s6 => q1' _ s6⟩
    intro H5 s5 eM2
    refine ⟨M2, es.map (fitT (wdT es)), rfl, SqL.of (by rw [eM2, List.map_map]; rfl), ?_⟩
    rw [all_map_id]
    exact q1 _ (s04.trans s5)
end
end Deed

namespace Deed
open PySem PySem.Spec PyProof.Rows L2 LamX
def getS (kvs : List (Key × V)) (r : Int) : V := (valV kvs (.inl r)).getD (.str "")
theorem getS_or {kvs : List (Key × V)} (h : WdOk kvs) (r : Int) : (getW kvs r = .non ∧ getS kvs r = .str "") ∨ ∃ x, getW kvs r = .str x ∧ getS kvs r = .str x := by
  unfold getW getS valV
  cases hf : kvs.find? fun kv => decide (kv.1 = (Sum.inl r : Key)) with
  | none => exact .inl ⟨rfl, rfl⟩
  | some kv =>
    obtain ⟨x, hx⟩ := h kv (List.mem_of_find?_eq_some hf)
    exact .inr ⟨x, hx, hx⟩
theorem getS_mem {kvs : List (Key × V)} (h : WdOk kvs) (r : Int) {ws : List Str} (hw : ("" : Str) ∉ ws) : (getS kvs r ∈ ws.map V.str) ↔ (getW kvs r ∈ ws.map V.str) := by
  rcases getS_or h r with ⟨e1, e2⟩ | ⟨x, e1, e2⟩
  · rw [e1, e2]
    constructor
    · intro hm
      obtain ⟨y, hy, e⟩ := List.mem_map.mp hm
      injection e with e
      rw [e] at hy
      exact absurd hy hw
    · intro hm
      obtain ⟨y, hy, e⟩ := List.mem_map.mp hm
      cases e
  · rw [e1, e2]
theorem getS_knd {kvs : List (Key × V)} (h : WdOk kvs) (r : Int) (H : Hp) : Knd H (getS kvs r) := by
  rcases getS_or h r with ⟨_, e⟩ | ⟨x, _, e⟩ <;> rw [e]
  · exact .str ""
  · exact .str x
def namedT (t : Tg) : List Int := if wordT t = "deed" then restsT t else [ofT t]
def wantT (t : Tg) : List Str := if wordT t = "undone" then ["paid", "void", "undone"] else ["deed"]
theorem fit_named {kvs : List (Key × V)} (h : WdOk kvs) (t : Tg) : fitT kvs t = decide ((namedT t).filter (fun y => !decide (getS kvs y ∈ (wantT t).map V.str)) = []) := by
  have key : ∀ (ns : List Int) (ws : List Str), ("" : Str) ∉ ws → decide (ns.filter (fun y => !decide (getS kvs y ∈ ws.map V.str)) = []) = ns.all (fun y => decide (getW kvs y ∈ ws.map V.str)) := fun ns ws hw => by
    rw [Bool.eq_iff_iff, decide_eq_true_iff, List.filter_eq_nil_iff, List.all_eq_true]
    constructor
    · intro hh y hy
      have := hh y hy
      simp only [Bool.not_eq_true, Bool.not_eq_false', decide_eq_true_eq] at this
      exact decide_eq_true ((getS_mem h y hw).mp this)
    · intro hh y hy
      have := of_decide_eq_true (hh y hy)
      simp only [Bool.not_eq_true, Bool.not_eq_false', decide_eq_true_eq]
      exact (getS_mem h y hw).mpr this
  have one : ∀ y, decide (getW kvs y ∈ ([("deed" : Str)] : List Str).map V.str) = decide (getW kvs y = .str "deed") := fun y => by simp
  unfold fitT namedT wantT
  by_cases h1 : wordT t = "deed"
  · have h2 : wordT t ≠ "undone" := fun e => by rw [h1] at e; exact absurd e (by decide)
    rw [if_pos h1, if_pos h1, if_neg h2, key _ _ (by decide)]
    simp only [one]
  · rw [if_neg h1, if_neg h1]
    by_cases h2 : wordT t = "undone"
    · rw [if_pos h2, if_pos h2, key _ _ (by decide)]
      simp
    · rw [if_neg h2, if_neg h2, key _ _ (by decide)]
      simp
theorem mergeK_fold : ∀ (l : List Tg) (kvs : List (Key × V)), mergeK kvs (l.map fun t => ((Sum.inl (numT t) : Key), V.str (wordT t))) = l.foldl (fun kvs t => putK kvs (.inl (numT t)) (.str (wordT t))) kvs
  | [], _ => rfl
  | t :: r, kvs => by
    rw [List.map_cons, List.foldl_cons]
    exact mergeK_fold r _
end Deed

namespace Deed
open PySem PySem.Spec PyProof.Rows L2 LamX
theorem ent_named {p : Addr} {H : Hp} {n : Int} {a : Addr} {xs : List V} {t : Tg} (hT : TgAt p H (.ref a) t) (ea : H a = some (.tup xs)) (h : isEntT n t = true) : (namedT t).length ≤ 2 ∧ ((wordT t = "deed" ∧ ∃ ra, xs[7]? = some (.ref ra) ∧ H ra = some (.tup ((namedT t).map V.int))) ∨ (wordT t ≠ "deed" ∧ cutV xs (some 5) (some 6) = (namedT t).map V.int)) := by
  obtain ⟨num, b, c, d, z, ff, r, rfl, hsh⟩ := entT_shape h
  obtain ⟨a', xs', ts, e1, ets, ea', hts⟩ := hT.tupOf rfl
  injection ets with ets
  subst ets
  injection e1 with e1
  subst e1
  rw [ea] at ea'
  injection ea' with ea'
  injection ea' with ea'
  subst ea'
  rcases hsh with ⟨rfl, g, rs, u, rfl, hrl⟩ | ⟨hnd, hza, o, rfl, rfl⟩
  · obtain ⟨xr, gr, hr7⟩ := tup_at hts (i := 7) rfl
    obtain ⟨ra, rxs, rts, rfl, erts, era, hrts⟩ := hr7.tupOf rfl
    injection erts with erts
    subst erts
    have hrx : rxs = rs.map V.int := TgAll.int_only hrts
    subst hrx
    have e : namedT (.tup [.int num, b, c, d, .str "deed", ff, g, .tup (rs.map Tg.int), u]) = rs := by
      show (rs.map Tg.int).map Tg.toI = rs
      rw [List.map_map]
      exact (List.map_congr_left fun _ _ => rfl).trans (List.map_id _)
    rw [e]
    exact ⟨hrl, .inl ⟨rfl, ra, gr, era⟩⟩
  · have e : namedT (.tup [.int num, b, c, d, .str z, .int o]) = [o] := if_neg hnd
    rw [e]
    refine ⟨by simp, .inr ⟨hnd, ?_⟩⟩
    have hl := hts.length
    obtain ⟨x5, g5, h5⟩ := tup_at hts (i := 5) rfl
    cases h5
    match xs, hl, g5 with
    | [_, _, _, _, _, _], _, g5 =>
      injection g5 with g5
      subst g5
      rfl
end Deed

namespace Deed
open PySem PySem.Spec PyProof.Rows L2 LamX
section
variable {P : Program} {w : World} {K : PySem.W.Frag} {mg : Str → Option Value} {base : Heap}
abbrev sLBk : Stmt := topS 43
abbrev nLBk : List Str := ["_law_thing_here", "_law_words", "_law_one", "_law_named", "_law_wanted", "_law_number"]
abbrev pLBk : List Str := ["_law_thing_here"]
theorem scLBk : FnScope nLBk pLBk (defScope sLBk) := ⟨rfl, rfl, rfl, by decide +kernel, rfl, by decide +kernel, by decide +kernel⟩
theorem ok_LBk {f : Addr} {fd : FuncData} {k : Nat} (F : Fun K "_law_is_book" "_law_is_book" sLBk f fd) (C__law_is_folk : CallOk P w K mg base k "_law_is_folk" pLIsFolk (spB1 isFolkT)) (C__law_in : CallOk P w K mg base k "_law_in" pLIn spWi) (C__law_is_entry : CallOk P w K mg base k "_law_is_entry" pLIsEnt spLEntG) (m_isinstance : mg "isinstance" = none) (m_tuple : mg "tuple" = none) (m_len : mg "len" = none) (m_all : mg "all" = none) (m_dict : mg "dict" = none) : FnOk P w K mg base CX0 (k + 1) f fd pLBk (spB1 isBookT) := by
  refine F.ok scLBk (fun vs H Q E h => ?_) (fun cdv A outer s H vs Q E hr h => ?_)
  · obtain ⟨p, v, t, rfl, _⟩ := h
    rfl
  · obtain ⟨p, v, t, rfl, hT, q⟩ := h
    have nd := scLBk.nd
    have hu := hu_of hr
    refine ⟨_, pss_cons (ps_if (PW.pt (pw_or (pt_not (pt_val (pe_callB call_isi (by rfl) m_isinstance (by decide +kernel) (pa_cons (pv 0) (pa_cons (pe_bltn (v := .ty "tuple") (by rfl) m_tuple (by decide +kernel) rfl) pa_nil))))) (pw_or (pt_cmpR op_ne (pe_callB call_len_seq (by rfl) m_len (by decide +kernel) (pa_cons (pv 0) pa_nil)) pe_int (nomark _)) (pw_or (pt_not (pt_val (pe_call C__law_is_folk.ok hr (by rfl) C__law_is_folk.g C__law_is_folk.kp C__law_is_folk.b .nil pass0 (pa_cons (pe_ix ix_tup (pv 0) pe_int (fun _ _ => rfl)) pa_nil)))) (pw_or1 (pt_not (pt_val (pe_call C__law_in.ok hr (by rfl) C__law_in.g C__law_in.kp C__law_in.b .nil pass0 (pa_cons (pe_ix ix_tup (pv 0) pe_int (fun _ _ => rfl)) (pa_cons pe_int (pa_cons pe_int pa_nil))))))))))) (pss_one (ps_ret pe_bl)) pss_nil)
      (pss_cons (ps_if (PW.pt (pw_or (pt_not (pt_val (pe_callB call_isi (by rfl) m_isinstance (by decide +kernel) (pa_cons (pe_ix ix_tup (pv 0) pe_int (fun _ _ => rfl)) (pa_cons (pe_bltn (v := .ty "tuple") (by rfl) m_tuple (by decide +kernel) rfl) pa_nil))))) (pw_or1 (pt_cmpR op_gt (pe_callB call_len_seq (by rfl) m_len (by decide +kernel) (pa_cons (pe_ix ix_tup (pv 0) pe_int (fun _ _ => rfl)) pa_nil)) pe_int (nomark _))))) (pss_one (ps_ret pe_bl)) pss_nil)
      (pss_cons (ps_if (pt_not (pt_val (pe_callB (cr_all rfl) (by rfl) m_all (by decide +kernel) (pa_cons (pe_lc (own := [("_law_one", 2)]) (g := gName 2) (by rfl) nd (pi_tup (pe_ix ix_tup (pv 0) pe_int (fun _ _ => rfl))) (blkOk_by (own := [("_law_one", 2)]) (N := nLBk) (sc := defScope sLBk) (by decide +kernel)) (fun _ _ _ _ _ => (pg_name (i := 2) nd rfl (.inl rfl))) (fun _ _ _ _ _ => pts_nil)
          (fun _ _ _ _ _ => (pe_call C__law_is_entry.ok hr (by rfl) C__law_is_entry.g C__law_is_entry.kp C__law_is_entry.b .nil pass0 (pa_cons (pe_ix (ix_tupK (K := K) (by rfl)) (pv 0) pe_int (fun _ _ => rfl)) (pa_cons (pv 2) pa_nil))))) pa_nil)))) (pss_one (ps_ret pe_bl)) pss_nil)
      (pss_cons (ps_set (i := 1) nd rfl (.inr rfl) (pe_callTy (call_dictP rfl) (by rfl) m_dict (by decide +kernel) (pa_cons (pe_lc (own := [("_law_one", 2)]) (g := gName 2) (by rfl) nd (pi_tup (pe_ix ix_tup (pv 0) pe_int (fun _ _ => rfl))) (blkOk_by (own := [("_law_one", 2)]) (N := nLBk) (sc := defScope sLBk) (by decide +kernel)) (fun _ _ _ _ _ => (pg_name (i := 2) nd rfl (.inl rfl))) (fun _ _ _ _ _ => pts_nil)
          (fun _ _ _ _ _ => (pe_tup (pa_cons (pe_ix (ix_tupK (K := K) (by rfl)) (pv 2) pe_int (fun _ _ => rfl)) (pa_cons (pe_ix (ix_tupK (K := K) (by rfl)) (pv 2) pe_int (fun _ _ => rfl)) pa_nil))))) pa_nil)))
      (pss_cons (ps_for PassesOwn.never rfl (pi_tup (pe_ix ix_tup (pv 0) pe_int (fun _ _ => rfl))) (pg_name (i := 2) nd rfl (.inl rfl))
        (pss_cons (ps_asg (pe_tup (pa_cons (pe_slice sl_tupA (pv 2) (po_some pe_int) (po_some pe_int)) (pa_cons (pe_tup (pa_cons pe_str pa_nil)) pa_nil))) (pg_tup (by rfl) (pgs_cons (pg_name (i := 3) nd rfl (.inl rfl)) (pgs_cons (pg_name (i := 4) nd rfl (.inr rfl)) pgs_nil))))
      (C8.pss_cut (ps_if (pt_cmpR op_eq (pe_ix ix_tup (pv 2) pe_int (fun _ _ => rfl)) pe_str (nomark _)) (pss_one (ps_set (i := 3) nd rfl (.inl rfl) (pe_ix ix_tup (pv 2) pe_int (fun _ _ => rfl)))) pss_nil)
      (C8.pss_cut (ps_if (pt_cmpR op_eq (pe_ix ix_tup (pv 2) pe_int (fun _ _ => rfl)) pe_str (nomark _)) (pss_one (ps_set (i := 4) nd rfl (.inr rfl) (pe_tup (pa_cons pe_str (pa_cons pe_str (pa_cons pe_str pa_nil)))))) pss_nil)
      (pss_one (ps_if (pt_cmpR (op_neD hr.units) (pe_lc (own := [("_law_number", 5)]) (g := gName 5) (by rfl) nd (pi_tup (pv 3)) (blkOk_by (own := [("_law_number", 5)]) (N := nLBk) (sc := defScope sLBk) (by decide +kernel)) (fun _ _ _ _ _ => (pg_name (i := 5) nd rfl (.inl rfl))) (fun _ _ _ _ _ => (pts_one (pt_cmpR (show OpR _ (compareOp .NotIn) (rInTS K true) from op_notInTS hr.units) (pe_dget2 hu (pv 1) (pv 5) pe_str ⟨rfl, rfl, rfl, rfl⟩) (pv 4) (by rfl))))
          (fun _ _ _ _ _ => (pv 5))) (pe_lst pa_nil) (nomark _)) (pss_one (ps_ret pe_bl)) pss_nil))))))
      (pss_one (ps_ret (pe_cmpR op_eq (pe_callB call_lenD (by rfl) m_len PySem.boot_len (pa_cons (pv 1) pa_nil)) (pe_callB call_len_seq (by rfl) m_len PySem.boot_len (pa_cons (pe_ix ix_tup (pv 0) pe_int (fun _ _ => rfl)) pa_nil)) (nomark _)))))))), ?_⟩
    refine ⟨_, rfl, _, _, _, _, t.isT, rfl, .ty "tuple", hT.ty, kit_ty t.kT, _, rfl, ?_⟩
    cases hc : t.isT with
    | false =>
      refine iteT ?_
      have h := q _ (same_refl _)
      have e : isBookT t = false := by cases t <;> first | rfl | cases hc
      rw [e] at h
      exact h
    | true =>
    refine iteF ?_
    obtain ⟨a, xs, ts, rfl, rfl, ea, hts⟩ := hT.tupOf hc
    have hlen := hts.length
    refine ⟨_, rfl, a, _, rfl, .inr (SqT.of ea), rfl, _, rfl, ?_⟩
    by_cases h3 : ts.length = 3
    rotate_left
    · rw [show decide (V.int (xs.length : Nat) = V.int 3) = false from decide_eq_false fun z => h3 (by injection z with z; omega)]
      refine iteT ?_
      have h := q _ (same_refl _)
      have e : isBookT (.tup ts) = false := by
        match ts, h3 with
        | [], _ => rfl
        | [_], _ => rfl
        | [_, _], _ => rfl
        | [_, _, _], h3 => exact absurd rfl h3
        | _ :: _ :: e3 :: _ :: _, _ => cases e3 <;> rfl
      rw [e] at h
      exact h
    rw [show decide (V.int (xs.length : Nat) = V.int 3) = true from decide_eq_true (by rw [hlen, h3]; rfl)]
    refine iteF ?_
    obtain ⟨tf, tg, te, rfl⟩ : ∃ x y u, ts = [x, y, u] := by
      match ts, h3 with
      | [x, y, u], _ => exact ⟨x, y, u, rfl⟩
    match xs, hts with
    | [xf, xg, xe], .cons hf (.cons hg (.cons he .nil)) =>
    refine ⟨_, rfl, a, _, 0, _, rfl, rfl, SqT.of ea, atI_nat (j := 0) rfl, p, xf, tf, rfl, hf, fun H1 s1 => ⟨_, rfl, ?_⟩⟩
    have bad1 : ∀ H', Same H H' → isFolkT tf = false → Q (.bl false) H' := fun H' s' hb => by
      have h := q _ s'
      have e : isBookT (.tup [tf, tg, te]) = false := by
        cases te with
        | tup es =>
          show (isFolkT tf && _) = false
          rw [hb]
          rfl
        | _ => rfl
      rw [e] at h
      exact h
    cases c1 : isFolkT tf with
    | false => exact iteT (bad1 _ s1 c1)
    | true =>
    refine iteF ?_
    refine ⟨_, rfl, a, _, 1, _, rfl, rfl, SqT.of (s1 _ _ ea), atI_nat (j := 1) rfl, p, xg, tg, 0, 9999, rfl, TgAt.same s1 _ _ hg, fun H2 s2 => ⟨_, rfl, ?_⟩⟩
    have s02 := s1.trans s2
    cases c2 : tg.within 0 9999 with
    | false =>
      refine iteT ?_
      have h := q _ s02
      have e : isBookT (.tup [tf, tg, te]) = false := by
        cases te with
        | tup es =>
          show (isFolkT tf && (tg.within 0 9999 && _)) = false
          rw [c1, c2]
          rfl
        | _ => rfl
      rw [e] at h
      exact h
    | true =>
    refine iteF ?_
    have he2 := TgAt.same s02 _ _ he
    have ea2 := s02 _ _ ea
    refine ⟨_, rfl, a, _, 2, _, rfl, rfl, SqT.of ea2, atI_nat (j := 2) rfl, _, _, _, _, te.isT, rfl, .ty "tuple", he2.ty, kit_ty te.kT, _, rfl, ?_⟩
    cases hc2 : te.isT with
    | false =>
      refine iteT ?_
      have h := q _ s02
      have e : isBookT (.tup [tf, tg, te]) = false := by cases te <;> first | rfl | cases hc2
      rw [e] at h
      exact h
    | true =>
    refine iteF ?_
    obtain ⟨t2, ys, es, rfl, rfl, et, hes⟩ := he.tupOf hc2
    have q1 : ∀ H', Same H H' → Q (.bl (isFolkT tf && (tg.within 0 9999 && (decide (es.length ≤ 16) && (es.all (isEntT (lenT tf)) && (decide ((wdT es).length = es.length) && es.all (fitT (wdT es)))))))) H' := q
    rw [c1, c2, Bool.true_and, Bool.true_and] at q1
    have hlen2 := hes.length
    have et2 := s02 _ _ et
    refine ⟨_, rfl, a, _, 2, _, rfl, rfl, SqT.of ea2, atI_nat (j := 2) rfl, t2, _, rfl, .inr (SqT.of et2), _, _, rfl, rfl, _, rfl, ?_⟩
    by_cases h16 : es.length ≤ 16
    rotate_left
    · rw [decide_eq_true (show ((ys.length : Nat) : Int) > 16 by omega)]
      refine iteT ?_
      rw [decide_eq_false h16] at q1
      exact q1 _ s02
    rw [decide_eq_false (show ¬ ((ys.length : Nat) : Int) > 16 by omega)]
    refine iteF ?_
    rw [decide_eq_true h16, Bool.true_and] at q1
    have hft : tf.isT = true := by
      cases tf <;> first | rfl | cases c1
    obtain ⟨fa, fx, fts, rfl, rfl, ef, hfts⟩ := hf.tupOf hft
    have hfl := hfts.length
    have efl : ((fx.length : Nat) : Int) = lenT (.tup fts) := by rw [hfl]; rfl
    refine ⟨_, rfl, a, _, 2, _, rfl, rfl, SqT.of ea2, atI_nat (j := 2) rfl, t2, rfl, ⟨_, SqT.of et2⟩, fun M nM => ?_⟩
    refine lc_sameM (walk_tup (xs := ys)) es (fun y => .bl (isEntT (lenT (.tup fts)) y)) hlen2.symm (by omega) nM (fun H s => SqT.of (s _ _ et2)) ?_ ?_
    · rintro i y x H3' H3 hy s3 ⟨rfl, hx⟩ Q1 q1'
      refine ⟨rfl, _, rfl, a, _, 0, _, rfl, rfl, SqT.of (s3 _ _ ea2), atI_nat (j := 0) rfl, _, rfl, p, fa, fx, x, y, rfl, (s02.trans s3) _ _ ef, TgAt.same (s02.trans s3) _ _ (hes.at hx hy), fun H4 s4 => ?_⟩
      rw [efl]
      exact q1' _ s4
    intro H3 s3 eM
    have s03 := s02.trans s3
    refine ⟨M, es.map (isEntT (lenT (.tup fts))), rfl, SqL.of (by rw [eM, List.map_map]; rfl), ?_⟩
    rw [all_map_id]
    refine ⟨_, rfl, ?_⟩
    cases c3 : es.all (isEntT (lenT (.tup fts))) with
    | false =>
      refine iteT ?_
      rw [c3, Bool.false_and] at q1
      exact q1 _ s03
    | true =>
    refine iteF ?_
    rw [c3, Bool.true_and] at q1
    have hall := List.all_eq_true.mp c3
    have et3 := s03 _ _ et
    have ea3 := s03 _ _ ea
    refine ⟨_, rfl, a, _, 2, _, rfl, rfl, SqT.of ea3, atI_nat (j := 2) rfl, t2, rfl, ⟨_, SqT.of et3⟩, fun D nD => ?_⟩
    refine lc_sameT (walk_tup (xs := ys)) es (fun _ => true) (fun y => [V.int (numT y), V.str (wordT y)]) hlen2.symm (by omega) nD (fun H s => SqT.of (s _ _ et3)) ?_ ?_
    · rintro i y x H4' H4 hy s4 ⟨rfl, hx⟩ Q1 Q0 q1' _
      obtain ⟨ya, yxs, rfl, eya, g0, g4⟩ := ent_nw (TgAt.same (s03.trans s4) _ _ (hes.at hx hy)) (hall y (List.mem_of_getElem? hy))
      refine ⟨rfl, ?_⟩
      unfold tYes
      dsimp only
      rw [if_pos rfl]
      exact ⟨_, rfl, ya, yxs, 0, _, rfl, rfl, SqT.of eya, atI_nat (j := 0) g0, _, rfl, ya, yxs, 4, _, rfl, rfl, SqT.of eya, atI_nat (j := 4) g4, (by show 2 ≤ sizeLine; decide), fun r nr => q1' rfl r _ (same_new nr _) upd_same⟩
    intro H4 zs s4 eD ez hz
    rw [List.filter_eq_self.mpr fun _ _ => rfl] at ez
    have s04 := s03.trans s4
    refine ⟨D, zs.map (·.1), zs.map (fun z => ((Sum.inl (numT z.2) : Key), V.str (wordT z.2))), rfl, SqL.of (by rw [eD, List.map_map]; rfl), ?_, fun W nW => ?_⟩
    · clear eD ez
      induction zs with
      | nil => exact .nil
      | cons z r ih => exact .cons (SqT.of (hz z (List.mem_cons_self ..))) (ih fun z' h' => hz z' (List.mem_cons_of_mem _ h'))
    have eW0 : mergeK [] (zs.map (fun z => ((Sum.inl (numT z.2) : Key), V.str (wordT z.2)))) = wdT es := by
      rw [← ez]
      have := mergeK_fold (zs.map (·.2)) []
      rw [List.map_map] at this
      exact this
    rw [eW0]
    have s5 := same_new nW (.dK (wdT es))
    have eW : (upd H4 W (.dK (wdT es))) W = some (.dK (wdT es)) := upd_same
    generalize (upd H4 W (.dK (wdT es))) = H5 at s5 eW
    have s05 := s04.trans s5
    have et5 := s05 _ _ et
    have ea5 := s05 _ _ ea
    have hwok : WdOk (wdT es) := wdT_ok es [] (fun _ h => nomatch h)
    refine ⟨_, rfl, a, _, 2, _, rfl, rfl, SqT.of ea5, atI_nat (j := 2) rfl, t2, rfl, ⟨_, SqT.of et5⟩, ?_⟩
    refine for_tup (K := K) (a := t2) (xs := ys) (fun i σ H' => ∃ y2 y3 y4 y5, σ = [some (.ref a), some (.ref W), y2, y3, y4, y5] ∧ Same H5 H' ∧ ∀ y ∈ es.take i, fitT (wdT es) y = true) ⟨_, _, _, _, rfl, same_refl _, fun y h => nomatch h⟩ (fun i σ H' _ h => ?_) ?_ ?_
    · obtain ⟨_, _, _, _, _, sm, _⟩ := h
      exact SqT.of (sm _ _ et5)
    · rintro i x σ H6 hx ⟨y2, y3, y4, y5, rfl, s6, hfit⟩
      obtain ⟨y, hy, hxy⟩ := hes.get hx
      have hent := hall y (List.mem_of_getElem? hy)
      have s06 := s05.trans s6
      obtain ⟨ya, yxs, rfl, eya, g0, g4⟩ := ent_nw (TgAt.same s06 _ _ hxy) hent
      refine ⟨_, rfl, _, rfl, _, rfl, ?_⟩
      refine slA_same eya fun t7 H7 s7 e7 => ?_
      refine ⟨(by show 1 ≤ sizeLine; decide), fun t8 n8 => ?_⟩
      have s8 := same_new n8 (.tup [V.str "deed"])
      have e8 : (upd H7 t8 (.tup [V.str "deed"])) t8 = some (.tup [V.str "deed"]) := upd_same
      generalize (upd H7 t8 (.tup [V.str "deed"])) = H8 at s8 e8
      refine ⟨(by show 2 ≤ sizeLine; decide), fun t9 n9 => ⟨t9, _, rfl, SqT.of upd_same, rfl, ?_⟩⟩
      have s9 := same_new n9 (.tup [V.ref t7, V.ref t8])
      generalize (upd H8 t9 (.tup [V.ref t7, V.ref t8])) = H9 at s9
      have s69 := s7.trans (s8.trans s9)
      have s09 := s06.trans s69
      have eya9 := s69 _ _ eya
      have e79 := (s8.trans s9) _ _ e7
      have e89 := s9 _ _ e8
      obtain ⟨hnl, hnm⟩ := ent_named (TgAt.same s09 _ _ hxy) eya9 hent
      refine ⟨_, _, rfl, _, _, rfl, rfl, ?_⟩
      refine ⟨fun σ H' => ∃ na : Addr, σ = [some (.ref a), some (.ref W), some (.ref ya), some (.ref na), some (.ref t8), y5] ∧ Same H9 H' ∧ H' na = some (.tup ((namedT y).map V.int)), ?_, ?_⟩
      · refine ⟨_, rfl, ya, yxs, 4, _, rfl, rfl, SqT.of eya9, atI_nat (j := 4) g4, rfl, _, rfl, ?_⟩
        rcases hnm with ⟨hd, ra, g7, era⟩ | ⟨hd, hcut⟩
        · rw [hd, show decide (V.str "deed" = V.str "deed") = true from decide_eq_true rfl]
          refine iteT ?_
          exact ⟨_, rfl, ya, yxs, 7, _, rfl, rfl, SqT.of eya9, atI_nat (j := 7) g7, ra, rfl, same_refl _, era⟩
        · rw [show decide (V.str (wordT y) = V.str "deed") = false from decide_eq_false fun e => hd (by injection e)]
          refine iteF ?_
          rw [hcut] at e79
          exact ⟨t7, rfl, same_refl _, e79⟩
      rintro σ H10 ⟨na, rfl, s10, ena⟩
      refine ⟨fun σ H' => ∃ wa : Addr, σ = [some (.ref a), some (.ref W), some (.ref ya), some (.ref na), some (.ref wa), y5] ∧ Same H10 H' ∧ H' wa = some (.tup ((wantT y).map V.str)), ?_, ?_⟩
      · refine ⟨_, rfl, ya, yxs, 4, _, rfl, rfl, SqT.of (s10 _ _ eya9), atI_nat (j := 4) g4, rfl, _, rfl, ?_⟩
        by_cases hu : wordT y = "undone"
        · rw [hu, show decide (V.str "undone" = V.str "undone") = true from decide_eq_true rfl]
          refine iteT ?_
          refine ⟨(by show 3 ≤ sizeLine; decide), fun wa nwa => ⟨wa, rfl, same_new nwa _, ?_⟩⟩
          unfold wantT
          rw [if_pos hu]
          exact upd_same
        · rw [show decide (V.str (wordT y) = V.str "undone") = false from decide_eq_false fun e => hu (by injection e)]
          refine iteF ⟨t8, rfl, same_refl _, ?_⟩
          unfold wantT
          rw [if_neg hu]
          exact s10 _ _ e89
      rintro σ H11 ⟨wa, rfl, s11, ewa⟩
      have s511 := s6.trans (s69.trans (s10.trans s11))
      have eW11 := s511 _ _ eW
      have ena11 := s11 _ _ ena
      refine ⟨_, rfl, na, rfl, ⟨_, SqT.of ena11⟩, fun M2 nM2 => ?_⟩
      refine lc_sameV (walk_tup (xs := (namedT y).map V.int)) (namedT y) (fun r => !decide (getS (wdT es) r ∈ (wantT y).map V.str)) V.int (by rw [List.length_map]) (by omega) nM2 (fun H s => SqT.of (s _ _ ena11)) ?_ ?_
      · rintro j r x H12' H12 hr s12 ⟨rfl, hx⟩ Q1 Q0 q1' q0
        rw [List.getElem?_map, hr] at hx
        injection hx with hx
        subst hx
        refine ⟨rfl, ?_⟩
        refine ⟨_, rfl, W, rfl, .inl ⟨_, .inl (s12 _ _ eW11)⟩, _, rfl, _, DGet.k (k := Sum.inl r) (s12 _ _ eW11), _, rfl, wa, _, rfl, .inr (SqT.of (s12 _ _ ewa)), getS_knd hwok r _, _, rfl, ?_⟩
        rw [if_pos rfl]
        refine ite2 (fun c => ?_) (fun c => ?_)
        · exact ⟨_, rfl, q1' c _ (same_refl _)⟩
        · exact q0 (Bool.eq_false_iff.mpr c) _ (same_refl _)
      intro H12 s12 eM2
      refine ⟨Nat.zero_le _, fun l13 n13 => ?_⟩
      have s13 := same_new n13 (.lst [])
      have e13 : (upd H12 l13 (.lst [])) l13 = some (.lst (([] : List Int).map V.int)) := upd_same
      generalize (upd H12 l13 (.lst [])) = H13 at s13 e13
      refine ⟨_, _, .lst (SqL.of (s13 _ _ eM2)) (dp_ints _), .lst (SqL.of e13) (dp_ints _), shaped_ints _, shaped_ints _, ?_⟩
      rw [eqv_ints, ← fit_named hwok]
      have s513 := s511.trans (s12.trans s13)
      refine ⟨_, rfl, ?_⟩
      cases cf : fitT (wdT es) y with
      | false =>
        refine iteT ?_
        have e : es.all (fitT (wdT es)) = false := List.all_eq_false.mpr ⟨y, List.mem_of_getElem? hy, by rw [cf]; decide⟩
        rw [e, Bool.and_false] at q1
        exact q1 _ (s05.trans s513)
      | true =>
        refine iteF ⟨_, _, _, _, rfl, s513, fun y' h' => ?_⟩
        rw [take_more hy] at h'
        rcases List.mem_append.mp h' with h' | h'
        · exact hfit _ h'
        · rw [List.mem_singleton.mp h']
          exact cf
    · rintro σ H6 ⟨y2, y3, y4, y5, rfl, s6, hfit⟩
      rw [hlen2, List.take_length] at hfit
      rw [List.all_eq_true.mpr hfit, Bool.and_true] at q1
      refine ⟨_, rfl, W, _, rfl, s6 _ _ eW, _, rfl, a, _, 2, _, rfl, rfl, SqT.of (s6 _ _ ea5), atI_nat (j := 2) rfl, t2, _, rfl, .inr (SqT.of (s6 _ _ et5)), rfl, ?_⟩
      rw [show decide (V.int ((wdT es).length : Int) = V.int ((ys.length : Nat) : Int)) = decide ((wdT es).length = es.length) by
        by_cases e : (wdT es).length = es.length
        · rw [decide_eq_true e, decide_eq_true (by rw [e, hlen2])]
        · rw [decide_eq_false e, decide_eq_false fun z => e (by injection z with z; omega)]]
      exact q1 _ (s05.trans s6)
end
end Deed

namespace Deed
open PySem PySem.Spec PyProof.Rows L2 LamX
theorem Same.kpN {p : Addr} {H0 H H' : Hp} (s : Same H0 H) (n : H0 p = none) (k : Kp p H H') : Same H0 H' := fun b o e => k b o (ne_of_none e n) (s b o e)
theorem Same.sqLG {K : PySem.W.Frag} {H H' : Hp} {a : Addr} {xs : List V} (s : Same H H') (h : SqL K H a xs) : SqL K H' a xs := by
  rcases h with (z | ⟨o, z⟩) | z
  · exact .inl (.inl (s _ _ z))
  · exact .inl (.inr ⟨o, s _ _ z⟩)
  · exact .inr z
theorem turns3G (m : Nat) : ∃ tn : Int, (if (if 3 < (m : Int) then 3 else (m : Int)) > 1 then (if 3 < (m : Int) then 3 else (m : Int)) else 1) = tn ∧ 0 ≤ tn ∧ tn ≤ 3 := ⟨_, rfl, by split <;> split <;> omega, by split <;> split <;> omega⟩
theorem FitsN.mono : ∀ {n : Nat} {t : Tg}, FitsN n t → FitsN (n + 1) t
  | 0, _, h => h.elim
  | n + 1, .tup ts, h => ⟨h.1, fun t ht => FitsN.mono (h.2 t ht)⟩
  | n + 1, .str x, h => h
  | n + 1, .int i, h => h
  | n + 1, .non, _ => trivial
  | n + 1, .bl _, _ => trivial
  | n + 1, .lst, _ => trivial
  | n + 1, .dct, _ => trivial
theorem En.toG {n : Nat} {ds as : List Int} {e : En} (h : EnOk n ds as e) : EnG n ds as e := by
  obtain ⟨a, b, c, d⟩ := h
  refine ⟨a, b, c, ?_⟩
  cases hk : e.kd with
  | deed g t rs ws =>
    rw [hk] at d
    obtain ⟨d1, d2, _, d4, _, d6, d7, _, d9⟩ := d
    exact ⟨d1, d2, d4, fun r hr => (d6 r hr).1, d7, fun x hx => ⟨(d9 x hx).1, (d9 x hx).2.1⟩⟩
  | act x o =>
    rw [hk] at d
    obtain ⟨d1, _⟩ := d
    rcases d1 with ⟨z, m⟩ | ⟨z, m⟩
    · exact ⟨.inl z, .inr m⟩
    · exact ⟨.inr z, .inl m⟩
/-- a drawn book as a thing -/
theorem book_tg {p : Addr} {H : Hp} {b fk t : Addr} {n : Nat} {age : Int} {zs : List (Addr × En)} (h : BookAt H b fk t n age zs) : ∃ fts es, TgAt p H (.ref fk) (.tup fts) ∧ fts.length = n ∧ TgAt p H (.ref t) (.tup es) ∧ es.length = zs.length ∧ (∀ e ∈ es, tupN 9 e) ∧ TgAt p H (.ref b) (.tup [.tup fts, .int age, .tup es]) ∧ FitsN 5 (.tup [.tup fts, .int age, .tup es]) := by
  have h6 := h.n6
  obtain ⟨fts, hTf, hfl, hff, _⟩ := folk_tg (p := p) h.folk (by omega)
  have key : ∀ l : List (Addr × En), (∀ z ∈ l, z ∈ zs) → ∃ es, TgAll p H (refs l) es ∧ es.length = l.length ∧ (∀ e ∈ es, tupN 9 e) ∧ ∀ e ∈ es, FitsN 3 e := by
    intro l
    induction l with
    | nil => exact fun _ => ⟨[], .nil, rfl, fun _ h => (nomatch h), fun _ h => (nomatch h)⟩
    | cons z r ih =>
      intro hs
      obtain ⟨es, h1, h2, h3, h4⟩ := ih fun y hy => hs y (List.mem_cons_of_mem _ hy)
      have hz := hs z List.mem_cons_self
      have hze : z.2 ∈ ens zs := List.mem_map.mpr ⟨z, hz, rfl⟩
      obtain ⟨a0, a1⟩ := h.ok.rng z.2 hze
      have rng : ∀ d, d ∈ dn (ens zs) ∨ d ∈ an (ens zs) → 0 ≤ d ∧ d ≤ 100 := fun d hd => by
        obtain ⟨e, he, rfl⟩ : ∃ e ∈ ens zs, e.num = d := by
          rcases hd with hd | hd
          · obtain ⟨e, he, _, h⟩ := mem_dn.mp hd
            exact ⟨e, he, h⟩
          · obtain ⟨e, he, _, h⟩ := mem_an.mp hd
            exact ⟨e, he, h⟩
        have := h.ok.rng e he
        omega
      obtain ⟨er, hT, hl, hf⟩ := ent_tg (p := p) (h.ent z hz) (En.toG (h.ok.ok z.2 hze)) h.n6 (by omega) (fun d hd => rng d (.inl hd)) (fun d hd => rng d (.inr hd))
      refine ⟨_ :: es, .cons hT h1, by rw [List.length_cons, List.length_cons, h2], fun e he => ?_, fun e he => ?_⟩
      · rcases List.mem_cons.mp he with rfl | he
        · exact ⟨_, rfl, hl⟩
        · exact h3 e he
      · rcases List.mem_cons.mp he with rfl | he
        · exact hf
        · exact h4 e he
  obtain ⟨es, g1, g2, g3, g4⟩ := key zs fun _ h => h
  have hlen := h.len
  have hTe : TgAt p H (.ref t) (.tup es) := .tup h.ents g1
  refine ⟨fts, es, hTf, hfl, hTe, g2, g3, .tup h.at_ (.cons hTf (.cons (.int age) (.cons hTe .nil))), by show 3 ≤ 300; decide, fun y hy => ?_⟩
  simp only [List.mem_cons, List.not_mem_nil, or_false] at hy
  rcases hy with rfl | rfl | rfl
  · exact hff.mono
  · exact log_small (by have := h.age0; have := h.age1; omega)
  · exact ⟨by omega, g4⟩
theorem ge_thing {p : Addr} {σ : L2.St} {H : Hp} {m i : Nat} {bd : Int} {E : XK} (hv : σ[i]? = some (some (.ref p))) (h0 : 0 ≤ bd) (h1 : bd < m) : GE p (tCall (spLThing m) [] E (tCons (tVar i) (tCons (tC (.int bd)) tNil))) σ H (fun _ => True) := fun H1 k P Q q => ⟨_, hv, p, bd, rfl, P, h0, h1, fun v H2 k2 P2 ⟨t, ht⟩ => q v t H2 k2 P2 ht trivial⟩
theorem ge_ixv {K : PySem.W.Frag} {p : Addr} {σ : L2.St} {H : Hp} {R : Tg → Prop} {i j : Nat} {v : V} {ts : List Tg} {n : Int} (hP : PenAt H p) (hv : σ[i]? = some (some v)) (hT : TgAt p H v (.tup ts)) (hj : σ[j]? = some (some (.int n))) (h0 : 0 ≤ n) (h1 : n.toNat < ts.length) (hR : ∀ t ∈ ts, R t) : GE p (tOp (rIxT K) (tVar i) (tVar j)) σ H R := fun H1 k P Q q => ⟨v, hv, .int n, hj, by
  have hT1 := TgAt.kp k hP _ _ hT
  cases hT1 with
  | @tup a xs _ ea ha =>
  have hl := ha.length
  have hx : xs[n.toNat]? = some xs[n.toNat] := List.getElem?_eq_getElem (by omega)
  obtain ⟨t, ht, hat⟩ := ha.get hx
  exact ⟨a, xs, n, _, rfl, rfl, SqT.of ea, at_of (j := n.toNat) (by omega) hx, q _ t H1 (Kp.refl _ _) P hat (hR t (List.mem_of_getElem? ht))⟩⟩
section
variable {P : Program} {w : World} {K : PySem.W.Frag} {mg : Str → Option Value} {base : Heap}
abbrev sLaw : Stmt := topS 44
abbrev nLaw : List Str := ["_law_script", "_law_k", "_law_pen_here", "_law_book_here", "_law_folk_here", "_law_age", "_law_entries", "_law_things", "_law_at", "_law_rest", "_law_other", "_law_deeds", "_law_thing_here", "_law_some", "_law_turn", "_law_number"]
abbrev pLaw : List Str := ["_law_script"]
theorem scLaw : FnScope nLaw pLaw (defScope sLaw) := ⟨rfl, rfl, rfl, by decide +kernel, rfl, by decide +kernel, by decide +kernel⟩
def spLaw (K : PySem.W.Frag) : Sp := fun vs H Q _ => ∃ (a : Addr) (ns : List Int), vs = [.ref a] ∧ SqL K H a (ns.map V.int) ∧ ns.length ≤ 63 ∧ ∀ H', Q (.bl true) H'
theorem ok_law {f : Addr} {fd : FuncData} {k : Nat} (F : Fun K "law" "law" sLaw f fd) (C__law_cell_at : CallOk P w K mg base k "_law_cell_at" ["_law_script", "_law_k"] (spCell K)) (C__law_pen : CallOk P w K mg base k "_law_pen" ["_law_cell"] spPen) (C__law_book : CallOk P w K mg base k "_law_book" ["_law_pen_here", "_law_most"] spBook) (C__law_thing : CallOk P w K mg base k "_law_thing" pLThing (spLThing 4)) (C__law_spoilt : CallOk P w K mg base k "_law_spoilt" pLSpoilt (spLSpoilt 5)) (C__law_draw : CDrw P w K mg base k) (C_is_book : CallOk P w K mg base k "is_book" pIsBk (spB1 isBookT)) (C__law_is_book : CallOk P w K mg base k "_law_is_book" pLBk (spB1 isBookT))
    (m_len : mg "len" = none) (m_min : mg "min" = none) (m_max : mg "max" = none) (m_range : mg "range" = none) (m_list : mg "list" = none) (m_tuple : mg "tuple" = none) : FnOk P w K mg base CX0 (k + 1) f fd pLaw (spLaw K) := by
  refine F.ok scLaw (fun vs H Q E h => ?_) (fun cdv A outer s H vs Q E hr h => ?_)
  · obtain ⟨a, ns, rfl, _⟩ := h
    rfl
  · obtain ⟨a, ns, rfl, hS, h63, q⟩ := h
    have nd := scLaw.nd
    have hu := hu_of hr
    refine ⟨_, pss_cons (ps_for PassesOwn.never rfl (pi_range1 rfl m_range (pa_cons (pe_callB (call_max2 rfl) (by rfl) m_max (by decide +kernel) (pa_cons pe_int (pa_cons (pe_callB (call_min2 rfl) (by rfl) m_min (by decide +kernel) (pa_cons (pe_callB call_len_seq (by rfl) m_len (by decide +kernel) (pa_cons (pv 0) pa_nil)) (pa_cons pe_int pa_nil))) pa_nil))) pa_nil)) (pg_name (i := 1) nd rfl (.inl rfl))
        (pss_cons (ps_set (i := 2) nd rfl (.inr rfl) (pe_call C__law_pen.ok hr (by rfl) C__law_pen.g C__law_pen.kp C__law_pen.b .nil pass0 (pa_cons (pe_call C__law_cell_at.ok hr (by rfl) C__law_cell_at.g C__law_cell_at.kp C__law_cell_at.b .nil pass0 (pa_cons (pv 0) (pa_cons (pv 1) pa_nil))) pa_nil)))
      (pss_cons (ps_set (i := 3) nd rfl (.inr rfl) (pe_call C__law_book.ok hr (by rfl) C__law_book.g C__law_book.kp C__law_book.b .nil pass0 (pa_cons (pv 2) (pa_cons pe_int pa_nil))))
      (pss_cons (ps_asg (pv 3) (pg_tup (by rfl) (pgs_cons (pg_name (i := 4) nd rfl (.inr rfl)) (pgs_cons (pg_name (i := 5) nd rfl (.inl rfl)) (pgs_cons (pg_name (i := 6) nd rfl (.inr rfl)) pgs_nil)))))
      (pss_cons (ps_set (i := 7) nd rfl (.inl rfl) (pe_op op_cat (pe_lst (pa_cons (pv 3) (pa_cons (pe_callTy call_list_of (by rfl) m_list (by decide +kernel) (pa_cons (pv 3) pa_nil)) (pa_cons (pe_slice sl_tupA (pv 3) po_none (po_some pe_int)) (pa_cons (pe_op op_catA (pv 3) (pe_tup (pa_cons pe_int pa_nil))) pa_nil))))) (pe_lc (own := [("_law_some", 13)]) (g := gName 13) (by rfl) nd (pi_tup (pe_tup (pa_cons (pe_un un_neg pe_int) (pa_cons pe_int (pa_cons pe_bl pa_nil))))) (blkOk_by (own := [("_law_some", 13)]) (N := nLaw) (sc := defScope sLaw) (by decide +kernel)) (fun _ _ _ _ _ => (pg_name (i := 13) nd rfl (.inl rfl))) (fun _ _ _ _ _ => pts_nil)
          (fun _ _ _ _ _ => (pe_tup (pa_cons (pv 4) (pa_cons (pv 13) (pa_cons (pv 6) pa_nil))))))))
      (pss_cons (ps_set (i := 7) nd rfl (.inl rfl) (pe_op op_cat (pv 7) (pe_lst (pa_cons (pe_tup (pa_cons (pv 4) (pa_cons (pv 5) (pa_cons (pe_callTy call_list_of (by rfl) m_list (by decide +kernel) (pa_cons (pv 6) pa_nil)) pa_nil)))) (pa_cons (pe_tup (pa_cons (pv 4) (pa_cons (pv 5) (pa_cons (pe_op op_catA (pv 6) (pe_slice sl_tupA (pv 6) po_none (po_some pe_int))) pa_nil)))) (pa_cons (pe_call C__law_thing.ok hr (by rfl) C__law_thing.g C__law_thing.kp C__law_thing.b .nil pass0 (pa_cons (pv 2) (pa_cons pe_int pa_nil))) pa_nil))))))
      (pss_cons (ps_set (i := 7) nd rfl (.inl rfl) (pe_op op_cat (pv 7) (pe_lc (own := [("_law_turn", 14)]) (g := gName 14) (by rfl) nd (pi_range1 rfl m_range (pa_cons pe_int pa_nil)) (blkOk_by (own := [("_law_turn", 14)]) (N := nLaw) (sc := defScope sLaw) (by decide +kernel)) (fun _ _ _ _ _ => (pg_name (i := 14) nd rfl (.inl rfl))) (fun _ _ _ _ _ => pts_nil)
          (fun _ _ _ _ _ => (pe_call C__law_spoilt.ok hr (by rfl) C__law_spoilt.g C__law_spoilt.kp C__law_spoilt.b .nil pass0 (pa_cons (pv 2) (pa_cons (pv 3) pa_nil)))))))
      (pss_cons (ps_for PassesOwn.never rfl (pi_range1 rfl m_range (pa_cons (pe_callB call_len_seq (by rfl) m_len (by decide +kernel) (pa_cons (pv 6) pa_nil)) pa_nil)) (pg_name (i := 8) nd rfl (.inl rfl))
        (pss_cons (ps_set (i := 9) nd rfl (.inl rfl) (pe_op op_catA (pe_slice sl_tupA (pv 6) po_none (po_some (pv 8))) (pe_slice sl_tupA (pv 6) (po_some (pe_op op_add (pv 8) pe_int)) po_none)))
      (pss_cons (ps_set (i := 10) nd rfl (.inl rfl) (pe_op op_catA (pe_tup (pa_cons (pe_call C__law_draw.ok hr (by rfl) C__law_draw.g C__law_draw.kp C__law_draw.b .nil pass0 (pa_cons (pv 2) (pa_cons pe_int pa_nil))) pa_nil)) (pe_slice sl_tupA (pe_ix ix_tup (pv 6) (pv 8) (fun _ _ => rfl)) (po_some pe_int) po_none)))
      (pss_one (ps_set (i := 7) nd rfl (.inl rfl) (pe_op op_cat (pv 7) (pe_lst (pa_cons (pe_tup (pa_cons (pv 4) (pa_cons (pv 5) (pa_cons (pv 9) pa_nil)))) (pa_cons (pe_tup (pa_cons (pv 4) (pa_cons (pv 5) (pa_cons (pe_op op_catA (pv 9) (pe_tup (pa_cons (pv 10) pa_nil))) pa_nil)))) (pa_cons (pe_tup (pa_cons (pv 4) (pa_cons (pv 5) (pa_cons (pe_op op_catA (pv 9) (pe_slice sl_tupA (pv 6) (po_some (pv 8)) (po_some (pe_op op_add (pv 8) pe_int)))) pa_nil)))) pa_nil))))))))))
      (pss_cons (ps_set (i := 11) nd rfl (.inl rfl) (pe_callTy call_tuple_of (by rfl) m_tuple (by decide +kernel) (pa_cons (pe_lc (own := [("_law_number", 15)]) (g := gName 15) (by rfl) nd (pi_range1 rfl m_range (pa_cons pe_int pa_nil)) (blkOk_by (own := [("_law_number", 15)]) (N := nLaw) (sc := defScope sLaw) (by decide +kernel)) (fun _ _ _ _ _ => (pg_name (i := 15) nd rfl (.inl rfl))) (fun _ _ _ _ _ => pts_nil)
          (fun _ _ _ _ _ => (pe_tup (pa_cons (pv 15) (pa_cons pe_int (pa_cons pe_int (pa_cons pe_int (pa_cons pe_str (pa_cons pe_int (pa_cons pe_int (pa_cons (pe_tup pa_nil) (pa_cons (pe_tup pa_nil) pa_nil)))))))))))) pa_nil)))
      (pss_cons (ps_set (i := 7) nd rfl (.inl rfl) (pe_op op_cat (pv 7) (pe_lst (pa_cons (pe_tup (pa_cons (pv 4) (pa_cons (pv 5) (pa_cons (pe_slice sl_tupA (pv 11) po_none (po_some pe_int)) pa_nil)))) (pa_cons (pe_tup (pa_cons (pv 4) (pa_cons (pv 5) (pa_cons (pv 11) pa_nil)))) (pa_cons (pe_tup (pa_cons (pe_slice sl_tupA (pv 4) po_none (po_some pe_int)) (pa_cons (pv 5) (pa_cons (pe_slice sl_tupA (pv 11) po_none (po_some pe_int)) pa_nil)))) (pa_cons (pe_tup (pa_cons (pe_slice sl_tupA (pv 4) po_none (po_some pe_int)) (pa_cons (pv 5) (pa_cons (pe_tup pa_nil) pa_nil)))) pa_nil)))))))
      (pss_one (ps_for PassesOwn.never rfl (pi_list (pv 7)) (pg_name (i := 12) nd rfl (.inl rfl))
        (pss_one (ps_if (pt_cmpR op_ne (pe_call C_is_book.ok hr (by rfl) C_is_book.g C_is_book.kp C_is_book.b .nil pass0 (pa_cons (pv 12) pa_nil)) (pe_call C__law_is_book.ok hr (by rfl) C__law_is_book.g C__law_is_book.kp C__law_is_book.b .nil pass0 (pa_cons (pv 12) pa_nil)) (nomark _)) (pss_one (ps_ret pe_bl)) pss_nil))))))))))))))
      (pss_one (ps_ret pe_bl)), ?_⟩
    have hl : (ns.map V.int).length = ns.length := List.length_map _
    refine ⟨_, rfl, a, _, rfl, .inl hS, _, _, rfl, _, _, rfl, ?_⟩
    rw [hl]
    obtain ⟨tn, etn, ht0, ht3⟩ := turns3G ns.length
    rw [etn]
    refine ⟨_, rfl, by omega, by omega, ?_⟩
    refine for_range (lo := 0) (n := tn.toNat) (fun i σ H' => ∃ y1 y2 y3 y4 y5 y6 y7 y8 y9 y10 y11 y12 y13 y14 y15, σ = [some (.ref a), y1, y2, y3, y4, y5, y6, y7, y8, y9, y10, y11, y12, y13, y14, y15] ∧ Same H H') ⟨_, _, _, _, _, _, _, _, _, _, _, _, _, _, _, rfl, same_refl H⟩ ?_ (fun σ H' _ => q H')
    rintro i σ H0 hi ⟨y1, y2, y3, y4, y5, y6, y7, y8, y9, y10, y11, y12, y13, y14, y15, rfl, sN⟩
    refine ⟨_, rfl, _, rfl, a, ns, _, rfl, Same.sqLG sN hS, by omega, fun cv => ?_⟩
    refine ⟨cv, rfl, fun p H1 s1 np P1 => ?_⟩
    refine ⟨_, rfl, p, 16, rfl, P1, by decide, by decide, fun b fk t n age zs H2 k2 P2 hB hzl => ?_⟩
    have s02 : Same H0 H2 := Same.kpN s1 np k2
    obtain ⟨fts, es, hTf, hfl, hTe, hel, he9, hTb, hfb⟩ := book_tg (p := p) hB
    have hn6 := hB.n6
    have hzl16 := hB.len
    have hrl : (refs zs).length = zs.length := List.length_map _
    refine ⟨_, rfl, b, _, rfl, SqT.of hB.at_, rfl, _, _, rfl, _, _, rfl, _, _, rfl, rfl, ?_⟩
    have hfN : tupN 6 (.tup fts) := ⟨_, rfl, by omega⟩
    have heN : tupN 16 (.tup es) := ⟨_, rfl, by omega⟩
    -- the first things
    dsimp only
    rw [tSeq_ap]
    rw [tAsg_ap]
    refine gl_lst (ga_cons (ge_varT P2 rfl hTb) (ga_cons (ge_list (ge_var P2 rfl hTb ⟨_, rfl, (by show 3 ≤ 3; decide)⟩)) (ga_cons (ge_slA (ge_var P2 rfl hTb ⟨_, rfl, (by show 3 ≤ 3; decide)⟩) go_none (go_some gi_int)) (ga_cons (ge_catA (m := 3) (n := 1) (ge_var P2 rfl hTb ⟨_, rfl, (by show 3 ≤ 3; decide)⟩) (ge_tup (ga_cons ge_int ga_nil))) ga_nil)))) P2 fun L3 H3 k3 P3 nL3 hL3 => ?_
    refine ⟨_, rfl, (by show 3 ≤ sizeLine; decide), fun t4 nt4 => ?_⟩
    have k4 : Kp p H3 (upd H3 t4 (.tup [.int (-1), .int 10000, .bl true])) := Kp.new nt4 _
    have P4 := P3.new nt4 (.tup [.int (-1), .int 10000, .bl true])
    have e4 : (upd H3 t4 (.tup [.int (-1), .int 10000, .bl true])) t4 = some (.tup [.int (-1), .int 10000, .bl true]) := upd_same
    refine ⟨t4, rfl, ⟨_, SqT.of e4⟩, fun M nM => ?_⟩
    generalize (upd H3 t4 (.tup [.int (-1), .int 10000, .bl true])) = H4 at k4 P4 e4 nM
    have hns : ∀ x ∈ [V.int (-1), .int 10000, .bl true], ∃ t, ∀ H', TgAt p H' x t := am1 ⟨_, fun _ => .int _⟩ (am1 ⟨_, fun _ => .int _⟩ (am1 ⟨_, fun _ => .bl _⟩ am0))
    have nMp : M ≠ p := P4.free nM
    have k24 := k3.trans k4
    refine lc_tup (K := K) (a := t4) (xs := [.int (-1), .int 10000, .bl true]) (fun i H' => Kp p H4 H' ∧ PenAt H' p ∧ ThL p H' M i) ⟨Kp.new nM _, P4.new nM _, nMp, [], [], upd_same, .nil, rfl⟩ (fun i H' _ h => SqT.of (h.1.tup P4 _ _ e4)) ?_ ?_
    · rintro i x H5 hx ⟨k5, P5, hM5⟩
      obtain ⟨tx, htx⟩ := hns x (List.mem_of_getElem? hx)
      have hi3 : i < 3 := (List.getElem?_eq_some_iff.mp hx).1
      refine ⟨rfl, ?_⟩
      unfold tYes
      dsimp only
      rw [if_pos rfl]
      have k25 := k24.trans k5
      refine (ge_tup (ga_cons (ge_varT P5 rfl (TgAt.kp k25 P2 _ _ hTf)) (ga_cons (ge_varT P5 rfl (htx H5)) (ga_cons (ge_varT P5 rfl (TgAt.kp k25 P2 _ _ hTe)) ga_nil))) : GE p _ _ H5 (tupN 3)) H5 (Kp.refl _ _) P5 _ fun v tv H6 k6 P6 hv _ => ?_
      obtain ⟨xs, ex, hxl, P7, h7⟩ := (hM5.kp k6 P5).snoc P6 hv
      exact ⟨_, ex, small1000 (by omega), (k5.trans k6).over nM _, P7, h7⟩
    rintro H5 ⟨k5, P5, hM5⟩
    have hM5' : ThL p H5 M 3 := hM5
    show rCat _ _ _ _
    refine ThL.cat (hL3.kp (k4.trans k5) P3) hM5' P5 (by decide) fun L6 H6 k6 P6 nL6 hL6 => ?_
    have k26 : Kp p H2 H6 := k24.trans (k5.trans k6)
    -- three more
    show gName 7 _ _ _ _
    rw [gName_ap]
    dsimp only
    rw [tSeq_ap]
    rw [tAsg_ap]
    refine ⟨_, rfl, ?_⟩
    show tLst _ _ _ _
    have hTf6 := TgAt.kp k26 P2 _ _ hTf
    have hTe6 := TgAt.kp k26 P2 _ _ hTe
    refine gl_lst (ga_cons (ge_tup (ga_cons (ge_varT P6 rfl hTf6) (ga_cons (ge_varT P6 rfl (.int age)) (ga_cons (ge_list (ge_var P6 rfl hTe6 heN)) ga_nil)))) (ga_cons (ge_tup (ga_cons (ge_varT P6 rfl hTf6) (ga_cons (ge_varT P6 rfl (.int age)) (ga_cons (ge_catA (m := 16) (n := 16) (ge_var P6 rfl hTe6 heN) (ge_slA (ge_var P6 rfl hTe6 heN) go_none (go_some gi_int))) ga_nil)))) (ga_cons (ge_thing (m := 4) rfl (by decide) (by decide)) ga_nil))) P6 fun L7 H7 k7 P7 nL7 hL7 => ?_
    show rCat _ _ _ _
    refine ThL.cat (hL6.kp k7 P6) hL7 P7 (by decide) fun L8 H8 k8 P8 nL8 hL8 => ?_
    have k28 : Kp p H2 H8 := k26.trans (k7.trans k8)
    -- ten spoilt
    show gName 7 _ _ _ _
    rw [gName_ap]
    dsimp only
    rw [tSeq_ap]
    rw [tAsg_ap]
    refine ⟨_, rfl, _, rfl, by decide, by decide, fun M2 nM2 => ?_⟩
    have nM2p : M2 ≠ p := P8.free nM2
    refine lc_range (lo := 0) (n := 10) (fun i H' => Kp p H8 H' ∧ PenAt H' p ∧ ThL p H' M2 i) ⟨Kp.new nM2 _, P8.new nM2 _, nM2p, [], [], upd_same, .nil, rfl⟩ ?_ ?_
    · rintro i H9 hi9 ⟨k9, P9, hM9⟩
      refine ⟨rfl, ?_⟩
      unfold tYes
      dsimp only
      rw [if_pos rfl]
      refine ⟨_, rfl, _, rfl, p, _, _, rfl, P9, TgAt.kp (k28.trans k9) P2 _ _ hTb, hfb, fun v H10 k10 P10 ⟨tv, hv⟩ => ?_⟩
      obtain ⟨xs, ex, hxl, P11, h11⟩ := (hM9.kp k10 P9).snoc P10 hv
      exact ⟨_, ex, small1000 (by omega), (k9.trans k10).over nM2 _, P11, h11⟩
    rintro H9 ⟨k9, P9, hM9⟩
    have hM9' : ThL p H9 M2 10 := hM9
    show rCat _ _ _ _
    refine ThL.cat (hL8.kp k9 P8) hM9' P9 (by decide) fun L10 H10 k10 P10 nL10 hL10 => ?_
    have k210 : Kp p H2 H10 := k28.trans (k9.trans k10)
    -- an entry left out, another one, twice
    refine ⟨_, rfl, t, refs zs, rfl, .inr (SqT.of (k210.tup P2 _ _ hB.ents)), _, rfl, by show -(2 ^ 62 : Int) ≤ ((refs zs).length : Nat); rw [List.length_map]; omega, by show (((refs zs).length : Nat) : Int) < 2 ^ 62; rw [List.length_map]; omega, ?_⟩
    refine for_range (lo := 0) (n := (((refs zs).length : Nat) : Int).toNat) (fun j σ H' => ∃ L m y1 y8 y9 y10 y11 y12 y13 y14 y15, σ = [some (.ref a), y1, some (.ref p), some (.ref b), some (.ref fk), some (.int age), some (.ref t), some (.ref L), y8, y9, y10, y11, y12, y13, y14, y15] ∧ Kp p H2 H' ∧ PenAt H' p ∧ ThL p H' L m ∧ m ≤ 20 + 3 * j) ⟨_, _, _, _, _, _, _, _, _, _, _, rfl, k210, P10, hL10, by omega⟩ ?_ ?_
    · rintro j σ H11 hj' ⟨L, m, y1, y8, y9, y10, y11, y12, y13, y14, y15, rfl, k11, P11, hL11, hm⟩
      have hj : j < zs.length := by omega
      have hTf11 := TgAt.kp k11 P2 _ _ hTf
      have hTe11 := TgAt.kp k11 P2 _ _ hTe
      show gName 8 _ _ _ _
      rw [gName_ap]
      dsimp only
      rw [tSeq_ap]
      rw [tAsg_ap]
      refine (ge_catA (m := 16) (n := 16) (ge_slA (ge_var P11 rfl hTe11 heN) go_none (go_some (gi_var rfl))) (ge_slA (ge_var P11 rfl hTe11 heN) (go_some (gi_add (gi_var rfl) gi_int)) go_none) : GE p _ _ H11 (tupN (16 + 16))) H11 (Kp.refl _ _) P11 _ fun vr tr H12 k12 P12 hTr hRr => ?_
      have hTe12 := TgAt.kp k12 P11 _ _ hTe11
      show gName 9 _ _ _ _
      rw [gName_ap]
      dsimp only
      rw [tSeq_ap]
      rw [tAsg_ap]
      refine (ge_catA (m := 1) (n := 9) (ge_tup (ga_cons (ge_gi (gi_draw rfl)) ga_nil)) (ge_slA (ge_ixv (n := 0 + (j : Int)) P12 rfl hTe12 rfl (by omega) (by omega) he9) (go_some gi_int) go_none) : GE p _ _ H12 (tupN (1 + 9))) H12 (Kp.refl _ _) P12 _ fun vo to H13 k13 P13 hTo hRo => ?_
      have k1113 := k12.trans k13
      have hTf13 := TgAt.kp k1113 P11 _ _ hTf11
      have hTe13 := TgAt.kp k1113 P11 _ _ hTe11
      have hTr13 := TgAt.kp k13 P12 _ _ hTr
      show gName 10 _ _ _ _
      rw [gName_ap]
      dsimp only
      rw [tAsg_ap]
      refine ⟨_, rfl, ?_⟩
      show tLst _ _ _ _
      refine gl_lst (ga_cons (ge_tup (ga_cons (ge_varT P13 rfl hTf13) (ga_cons (ge_varT P13 rfl (.int age)) (ga_cons (ge_varT P13 rfl hTr13) ga_nil)))) (ga_cons (ge_tup (ga_cons (ge_varT P13 rfl hTf13) (ga_cons (ge_varT P13 rfl (.int age)) (ga_cons (ge_catA (m := 16 + 16) (n := 1) (ge_var P13 rfl hTr13 hRr) (ge_tup (ga_cons (ge_varT P13 rfl hTo) ga_nil))) ga_nil)))) (ga_cons (ge_tup (ga_cons (ge_varT P13 rfl hTf13) (ga_cons (ge_varT P13 rfl (.int age)) (ga_cons (ge_catA (m := 16 + 16) (n := 16) (ge_var P13 rfl hTr13 hRr) (ge_slA (ge_var P13 rfl hTe13 heN) (go_some (gi_var rfl)) (go_some (gi_add (gi_var rfl) gi_int)))) ga_nil)))) ga_nil))) P13 fun L14 H14 k14 P14 nL14 hL14 => ?_
      show rCat _ _ _ _
      refine ThL.cat (hL11.kp (k1113.trans k14) P11) hL14 P14 (by omega) fun L15 H15 k15 P15 nL15 hL15 => ?_
      show gName 7 _ _ _ _
      rw [gName_ap]
      dsimp only
      exact ⟨L15, m + 3, _, _, _, _, _, _, _, _, _, rfl, k11.trans (k1113.trans (k14.trans k15)), P15, hL15, by omega⟩
    rintro σ H11 ⟨L, m, y1, y8, y9, y10, y11, y12, y13, y14, y15, rfl, k11, P11, hL11, hm⟩
    -- many deeds
    refine ⟨_, rfl, by decide, by decide, fun M3 nM3 => ?_⟩
    have nM3p : M3 ≠ p := P11.free nM3
    refine lc_range (lo := 0) (n := 17) (fun i H' => Kp p H11 H' ∧ PenAt H' p ∧ ThL p H' M3 i) ⟨Kp.new nM3 _, P11.new nM3 _, nM3p, [], [], upd_same, .nil, rfl⟩ ?_ ?_
    · rintro i H12 hi12 ⟨k12, P12, hM12⟩
      refine ⟨rfl, ?_⟩
      unfold tYes
      dsimp only
      rw [if_pos rfl]
      refine (ge_tup (ga_cons (ge_gi (gi_var rfl)) (ga_cons ge_int (ga_cons ge_int (ga_cons ge_int (ga_cons ge_str (ga_cons ge_int (ga_cons ge_int (ga_cons (ge_tup ga_nil) (ga_cons (ge_tup ga_nil) ga_nil))))))))) : GE p _ _ H12 (tupN 9)) H12 (Kp.refl _ _) P12 _ fun v tv H13 k13 P13 hv _ => ?_
      obtain ⟨xs, ex, hxl, P14, h14⟩ := (hM12.kp k13 P12).snoc P13 hv
      exact ⟨_, ex, small1000 (by omega), (k12.trans k13).over nM3 _, P14, h14⟩
    rintro H12 ⟨k12, P12, hM12⟩
    have hM12' : ThL p H12 M3 17 := hM12
    obtain ⟨_, vs12, ts12, eM12, hts12, hl12⟩ := hM12'
    refine ⟨M3, _, rfl, .inl ⟨SqL.of eM12, fun t13 nt13 => ?_⟩⟩
    have k13 : Kp p H12 (upd H12 t13 (.tup vs12)) := Kp.new nt13 _
    have P13 := P12.new nt13 (.tup vs12)
    have hTd : TgAt p (upd H12 t13 (.tup vs12)) (.ref t13) (.tup ts12) := .tup upd_same (TgAll.kp k13 P12 _ _ hts12)
    have hdN : tupN 17 (.tup ts12) := ⟨_, rfl, by rw [← hts12.length]; omega⟩
    generalize (upd H12 t13 (.tup vs12)) = H13 at k13 P13 hTd
    have k1113 : Kp p H11 H13 := k12.trans k13
    have k213 := k11.trans k1113
    have hTf13 := TgAt.kp k213 P2 _ _ hTf
    show gName 11 _ _ _ _
    rw [gName_ap]
    dsimp only
    rw [tSeq_ap]
    rw [tAsg_ap]
    refine ⟨_, rfl, ?_⟩
    show tLst _ _ _ _
    refine gl_lst (ga_cons (ge_tup (ga_cons (ge_varT P13 rfl hTf13) (ga_cons (ge_varT P13 rfl (.int age)) (ga_cons (ge_slA (ge_var P13 rfl hTd hdN) go_none (go_some gi_int)) ga_nil)))) (ga_cons (ge_tup (ga_cons (ge_varT P13 rfl hTf13) (ga_cons (ge_varT P13 rfl (.int age)) (ga_cons (ge_varT P13 rfl hTd) ga_nil)))) (ga_cons (ge_tup (ga_cons (ge_slA (ge_var P13 rfl hTf13 hfN) go_none (go_some gi_int)) (ga_cons (ge_varT P13 rfl (.int age)) (ga_cons (ge_slA (ge_var P13 rfl hTd hdN) go_none (go_some gi_int)) ga_nil)))) (ga_cons (ge_tup (ga_cons (ge_slA (ge_var P13 rfl hTf13 hfN) go_none (go_some gi_int)) (ga_cons (ge_varT P13 rfl (.int age)) (ga_cons (ge_tup ga_nil) ga_nil)))) ga_nil)))) P13 fun L14 H14 k14 P14 nL14 hL14 => ?_
    show rCat _ _ _ _
    refine ThL.cat (hL11.kp (k1113.trans k14) P11) hL14 P14 (by omega) fun L15 H15 k15 P15 nL15 hL15 => ?_
    have s015 : Same H0 H15 := Same.kpN s02 np (k213.trans (k14.trans k15))
    obtain ⟨_, vs15, ts15, eL15, hts15, hl15⟩ := hL15
    refine ⟨_, rfl, L15, rfl, ⟨_, SqL.of eL15⟩, ?_⟩
    refine for_list (K := K) (a := L15) (xs := vs15) (fun j σ H' => ∃ y1 y2 y3 y4 y5 y6 y7 y8 y9 y10 y11 y12 y13 y14 y15, σ = [some (.ref a), y1, y2, y3, y4, y5, y6, y7, y8, y9, y10, y11, y12, y13, y14, y15] ∧ Same H15 H') ⟨_, _, _, _, _, _, _, _, _, _, _, _, _, _, _, rfl, same_refl _⟩ (fun j σ H' _ h => ?_) ?_ ?_
    · obtain ⟨_, _, _, _, _, _, _, _, _, _, _, _, _, _, _, _, s16⟩ := h
      exact SqL.of (s16 _ _ eL15)
    · rintro j x σ H16 hx ⟨y1, y2, y3, y4, y5, y6, y7, y8, y9, y10, y11, y12, y13, y14, y15, rfl, s16⟩
      obtain ⟨t', _, hxt⟩ := hts15.get hx
      refine ⟨_, rfl, p, x, t', rfl, TgAt.same s16 _ _ hxt, fun H17 s17 => ⟨_, rfl, p, x, t', rfl, TgAt.same (s16.trans s17) _ _ hxt, fun H18 s18 => ⟨rfl, _, rfl, ?_⟩⟩⟩
      rw [decide_eq_true rfl]
      exact iteF ⟨_, _, _, _, _, _, _, _, _, _, _, _, _, _, _, rfl, s16.trans (s17.trans s18)⟩
    rintro σ H16 ⟨y1, y2, y3, y4, y5, y6, y7, y8, y9, y10, y11, y12, y13, y14, y15, rfl, s16⟩
    exact ⟨_, _, _, _, _, _, _, _, _, _, _, _, _, _, _, rfl, sN.trans (s015.trans s16)⟩
end
end Deed

namespace Deed
open PySem PySem.Spec PyProof.Rows L2 LamX
/-! ### the end: the facts by names -/
def mkD (x : Str) (st : Stmt) : He.DefD := ⟨(x, none), x, x, defArgs st, defBody st, defScope st, [], []⟩
def mkDd (x : Str) (st : Stmt) (dfl : List He.Dv) : He.DefD := ⟨(x, none), x, x, defArgs st, defBody st, defScope st, dfl, []⟩
def fnAll : List He.DefD := [mkD "_law_cell_at" sCell, mkD "_law_pen" sPen, mkD "_law_draw" sDraw, mkD "_law_day" sDay, mkD "_law_folk" sFolk, mkD "_law_few" sFew, mkD "_law_deed" sDeed, mkD "_law_entry" sEntry, mkD "_law_mixed" sMixed, mkD "_law_book" sBook, mkD "_law_thing" sLThing, mkD "_law_spoilt" sLSpoilt, mkD "_law_in" sLIn, mkD "_law_is_folk" sLIsFolk, mkD "_law_are" sLAre, mkD "_law_is_entry" sLIsEnt, mkD "_law_is_book" sLBk, mkD "is_whole" sIsWhole, mkD "is_within" sIsWithin, mkD "is_day" sIsDay, mkD "is_age" sIsAgeG, mkD "is_person" sIsPerson, mkD "is_folk" sIsFolkG, mkD "is_rising" sIsRisG, mkD "is_rising_below" sIsRisB, mkD "is_deed_tail" sIsDeedT, mkD "is_act_tail" sIsActT, mkD "is_entry" sIsEntG, mkD "names_fit" sNFit, mkD "is_book" sIsBk, mkD "law" sLaw]
def faAll : List He.Fa := [.glo "_law_cell_at", .glo "_law_pen", .glo "_law_draw", .glo "_law_day", .glo "_law_folk", .glo "_law_few", .glo "_law_deed", .glo "_law_entry", .glo "_law_mixed", .glo "_law_book", .glo "_law_thing", .glo "_law_spoilt", .glo "_law_in", .glo "_law_is_folk", .glo "_law_are", .glo "_law_is_entry", .glo "_law_is_book", .glo "is_whole", .glo "is_within", .glo "is_day", .glo "is_age", .glo "is_person", .glo "is_folk", .glo "is_rising", .glo "is_rising_below", .glo "is_deed_tail", .glo "is_act_tail", .glo "is_entry", .glo "names_fit", .glo "is_book", .glo "law", .free "range", .free "min", .free "max", .free "tuple", .free "list", .free "len", .free "sorted", .free "int", .free "isinstance", .free "bool", .free "str", .free "all", .free "zip", .free "set", .free "dict", .int "NUMBER" 0, .int "WORD" 4, .int "OF" 5, .int "RESTS" 7, .int "LAST_DAY" 9999, .int "LAST_NUMBER" 30, .int "LAST_HAND" 3, .int "MOST_FOLK" 6, .int "MOST_ENTRIES" 16, .int "MOST_RESTS" 2, .int "MOST_WITNESSES" 3, .glo "ACT_WORDS"]
def tfAll : List He.Defn := []
abbrev tsAll : List He.Tab := []
def exAll (K : PySem.W.Frag) : Bool := He.tupB K "ACT_WORDS" [.str "paid", .str "void", .str "undone"]
abbrev rowR : PySem.W.OpenRow := PySem.W.OpenLaw.row PySem.Challenge.rw_deedsheaf_k02_books_looked_at
abbrev hk : PySem.W.Hook := He.hookX 4 faAll fnAll tsAll tfAll exAll
def ob (s : PySem.W.SharedT) : He.AlX := He.obsX 4 faAll fnAll tsAll tfAll exAll (HandSHeadRun.getT s)
theorem ob_eq (s : PySem.W.SharedT) : ob s = hk.obs s.abs := He.obsX_eq (HandSHeadRun.getT_eq s)
def looseAll : List Str := (["NUMBER", "WORD", "OF", "RESTS", "ACT_WORDS", "LAST_DAY", "LAST_NUMBER", "LAST_HAND", "MOST_FOLK", "MOST_ENTRIES", "MOST_RESTS", "MOST_WITNESSES"] : List Str) ++ (["is_whole", "is_within", "is_day", "is_age", "is_person", "is_folk", "is_rising", "is_rising_below", "is_deed_tail", "is_act_tail", "is_entry", "names_fit"] : List Str) ++ (["is_book", "_law_cell_at", "_law_pen", "_law_draw", "_law_day", "_law_folk", "_law_few", "_law_deed", "_law_entry", "_law_mixed", "_law_book", "_law_thing"] : List Str) ++ (["_law_spoilt", "_law_in", "_law_is_folk", "_law_are", "_law_is_entry", "_law_is_book"] : List Str)
theorem run (w : World) : HandSHeadRun.RunEq rowR (PySem.W.view rowR.prog [44]) hk ob 12000 looseAll w := by
  intro os
  kernel_rfl
theorem funOf {K : PySem.W.Frag} {x : Str} {st : Stmt} {f : Addr} {fd : FuncData} (F : FunD K x x (defArgs st) (defBody st) (defScope st) [] [] f fd) : Fun K x x st f fd := by
  obtain ⟨oc, od, dV, kV, doc, pm, an, cdv, ct, osl, e, lk, hcd, hD, hK⟩ := F.ex
  rcases hD with ⟨_, hD⟩ | ⟨hD, _⟩
  · subst hD
    exact ⟨⟨oc, od, kV, doc, pm, an, cdv, ct, osl, e, lk, hcd⟩, F.kp⟩
  · exact absurd rfl hD
theorem codeAt {K : PySem.W.Frag} {x : Str} {st : Stmt} {p : He.Defn} {fd : FuncData} (F : Fun K x x st (He.fAd K p) fd) : fd.code = .ref (He.cT K p).1 := by
  obtain ⟨oc, od, kV, doc, pm, an, cdv, ct, osl, e, lk, hcd⟩ := F.ex
  obtain ⟨c, ec⟩ := He.codeIn_ref hcd
  have e2 : fd.code = .ref c := by rw [e, ← ec]
  rw [show (He.cT K p).1 = c from He.codeOf_eq lk e2]
  exact e2
theorem facts {l : PySem.W.OpenLaw} {w : World} {K : PySem.W.Frag} {h : Heap} {mg : Str → Option Value} {f : Addr} (X : K.In h) (G : h.Ns mainGlobals mg) (hfa : mg ("law" : Str) = some (.ref f)) (c : He.SaysX faAll fnAll tsAll tfAll exAll w h K) : LawAtS l w K CX0 31 63 "_law_script" mg f h := by
  obtain ⟨d0, F0'⟩ := c.t.d.def_ 0 (d := mkD "_law_cell_at" sCell) rfl
  have g0 := He.glo_ok X G (c.t.d.fact 0 (f := .glo "_law_cell_at") rfl)
  have F0 : Fun K "_law_cell_at" "_law_cell_at" sCell (He.fAd K ("_law_cell_at", none)) d0 := funOf F0'
  have D0 : Df K mg "_law_cell_at" sCell ["_law_script", "_law_k"] _ d0 := ⟨F0, F0.binds (ps := ["_law_script", "_law_k"]) (fun _ _ _ _ _ _ us hl => match us, hl with | [_, _], _ => rfl), g0⟩
  obtain ⟨d1, F1'⟩ := c.t.d.def_ 1 (d := mkD "_law_pen" sPen) rfl
  have g1 := He.glo_ok X G (c.t.d.fact 1 (f := .glo "_law_pen") rfl)
  have F1 : Fun K "_law_pen" "_law_pen" sPen (He.fAd K ("_law_pen", none)) d1 := funOf F1'
  have D1 : Df K mg "_law_pen" sPen ["_law_cell"] _ d1 := ⟨F1, F1.binds (ps := ["_law_cell"]) (fun _ _ _ _ _ _ us hl => match us, hl with | [_], _ => rfl), g1⟩
  obtain ⟨d2, F2'⟩ := c.t.d.def_ 2 (d := mkD "_law_draw" sDraw) rfl
  have g2 := He.glo_ok X G (c.t.d.fact 2 (f := .glo "_law_draw") rfl)
  have F2 : Fun K "_law_draw" "_law_draw" sDraw (He.fAd K ("_law_draw", none)) d2 := funOf F2'
  have D2 : Df K mg "_law_draw" sDraw ["_law_pen_here", "_law_bound"] _ d2 := ⟨F2, F2.binds (ps := ["_law_pen_here", "_law_bound"]) (fun _ _ _ _ _ _ us hl => match us, hl with | [_, _], _ => rfl), g2⟩
  obtain ⟨d3, F3'⟩ := c.t.d.def_ 3 (d := mkD "_law_day" sDay) rfl
  have g3 := He.glo_ok X G (c.t.d.fact 3 (f := .glo "_law_day") rfl)
  have F3 : Fun K "_law_day" "_law_day" sDay (He.fAd K ("_law_day", none)) d3 := funOf F3'
  have D3 : Df K mg "_law_day" sDay ["_law_pen_here"] _ d3 := ⟨F3, F3.binds (ps := ["_law_pen_here"]) (fun _ _ _ _ _ _ us hl => match us, hl with | [_], _ => rfl), g3⟩
  obtain ⟨d4, F4'⟩ := c.t.d.def_ 4 (d := mkD "_law_folk" sFolk) rfl
  have g4 := He.glo_ok X G (c.t.d.fact 4 (f := .glo "_law_folk") rfl)
  have F4 : Fun K "_law_folk" "_law_folk" sFolk (He.fAd K ("_law_folk", none)) d4 := funOf F4'
  have D4 : Df K mg "_law_folk" sFolk ["_law_pen_here", "_law_least"] _ d4 := ⟨F4, F4.binds (ps := ["_law_pen_here", "_law_least"]) (fun _ _ _ _ _ _ us hl => match us, hl with | [_, _], _ => rfl), g4⟩
  obtain ⟨d5, F5'⟩ := c.t.d.def_ 5 (d := mkD "_law_few" sFew) rfl
  have g5 := He.glo_ok X G (c.t.d.fact 5 (f := .glo "_law_few") rfl)
  have F5 : Fun K "_law_few" "_law_few" sFew (He.fAd K ("_law_few", none)) d5 := funOf F5'
  have D5 : Df K mg "_law_few" sFew ["_law_pen_here", "_law_some", "_law_most"] _ d5 := ⟨F5, F5.binds (ps := ["_law_pen_here", "_law_some", "_law_most"]) (fun _ _ _ _ _ _ us hl => match us, hl with | [_, _, _], _ => rfl), g5⟩
  obtain ⟨d6, F6'⟩ := c.t.d.def_ 6 (d := mkD "_law_deed" sDeed) rfl
  have g6 := He.glo_ok X G (c.t.d.fact 6 (f := .glo "_law_deed") rfl)
  have F6 : Fun K "_law_deed" "_law_deed" sDeed (He.fAd K ("_law_deed", none)) d6 := funOf F6'
  have D6 : Df K mg "_law_deed" sDeed ["_law_pen_here", "_law_folk_here", "_law_deeds"] _ d6 := ⟨F6, F6.binds (ps := ["_law_pen_here", "_law_folk_here", "_law_deeds"]) (fun _ _ _ _ _ _ us hl => match us, hl with | [_, _, _], _ => rfl), g6⟩
  obtain ⟨d7, F7'⟩ := c.t.d.def_ 7 (d := mkD "_law_entry" sEntry) rfl
  have g7 := He.glo_ok X G (c.t.d.fact 7 (f := .glo "_law_entry") rfl)
  have F7 : Fun K "_law_entry" "_law_entry" sEntry (He.fAd K ("_law_entry", none)) d7 := funOf F7'
  have D7 : Df K mg "_law_entry" sEntry ["_law_pen_here", "_law_folk_here", "_law_number", "_law_deeds", "_law_acts"] _ d7 := ⟨F7, F7.binds (ps := ["_law_pen_here", "_law_folk_here", "_law_number", "_law_deeds", "_law_acts"]) (fun _ _ _ _ _ _ us hl => match us, hl with | [_, _, _, _, _], _ => rfl), g7⟩
  obtain ⟨d8, F8'⟩ := c.t.d.def_ 8 (d := mkD "_law_mixed" sMixed) rfl
  have g8 := He.glo_ok X G (c.t.d.fact 8 (f := .glo "_law_mixed") rfl)
  have F8 : Fun K "_law_mixed" "_law_mixed" sMixed (He.fAd K ("_law_mixed", none)) d8 := funOf F8'
  have D8 : Df K mg "_law_mixed" sMixed ["_law_pen_here", "_law_some"] _ d8 := ⟨F8, F8.binds (ps := ["_law_pen_here", "_law_some"]) (fun _ _ _ _ _ _ us hl => match us, hl with | [_, _], _ => rfl), g8⟩
  obtain ⟨d9, F9'⟩ := c.t.d.def_ 9 (d := mkD "_law_book" sBook) rfl
  have g9 := He.glo_ok X G (c.t.d.fact 9 (f := .glo "_law_book") rfl)
  have F9 : Fun K "_law_book" "_law_book" sBook (He.fAd K ("_law_book", none)) d9 := funOf F9'
  have D9 : Df K mg "_law_book" sBook ["_law_pen_here", "_law_most"] _ d9 := ⟨F9, F9.binds (ps := ["_law_pen_here", "_law_most"]) (fun _ _ _ _ _ _ us hl => match us, hl with | [_, _], _ => rfl), g9⟩
  obtain ⟨d10, F10'⟩ := c.t.d.def_ 10 (d := mkD "_law_thing" sLThing) rfl
  have g10 := He.glo_ok X G (c.t.d.fact 10 (f := .glo "_law_thing") rfl)
  have F10 : Fun K "_law_thing" "_law_thing" sLThing (He.fAd K ("_law_thing", none)) d10 := funOf F10'
  have D10 : Df K mg "_law_thing" sLThing ["_law_pen_here", "_law_deep"] _ d10 := ⟨F10, F10.binds (ps := ["_law_pen_here", "_law_deep"]) (fun _ _ _ _ _ _ us hl => match us, hl with | [_, _], _ => rfl), g10⟩
  obtain ⟨d11, F11'⟩ := c.t.d.def_ 11 (d := mkD "_law_spoilt" sLSpoilt) rfl
  have g11 := He.glo_ok X G (c.t.d.fact 11 (f := .glo "_law_spoilt") rfl)
  have F11 : Fun K "_law_spoilt" "_law_spoilt" sLSpoilt (He.fAd K ("_law_spoilt", none)) d11 := funOf F11'
  have D11 : Df K mg "_law_spoilt" sLSpoilt ["_law_pen_here", "_law_thing_here"] _ d11 := ⟨F11, F11.binds (ps := ["_law_pen_here", "_law_thing_here"]) (fun _ _ _ _ _ _ us hl => match us, hl with | [_, _], _ => rfl), g11⟩
  obtain ⟨d12, F12'⟩ := c.t.d.def_ 12 (d := mkD "_law_in" sLIn) rfl
  have g12 := He.glo_ok X G (c.t.d.fact 12 (f := .glo "_law_in") rfl)
  have F12 : Fun K "_law_in" "_law_in" sLIn (He.fAd K ("_law_in", none)) d12 := funOf F12'
  have D12 : Df K mg "_law_in" sLIn ["_law_thing_here", "_law_low", "_law_high"] _ d12 := ⟨F12, F12.binds (ps := ["_law_thing_here", "_law_low", "_law_high"]) (fun _ _ _ _ _ _ us hl => match us, hl with | [_, _, _], _ => rfl), g12⟩
  obtain ⟨d13, F13'⟩ := c.t.d.def_ 13 (d := mkD "_law_is_folk" sLIsFolk) rfl
  have g13 := He.glo_ok X G (c.t.d.fact 13 (f := .glo "_law_is_folk") rfl)
  have F13 : Fun K "_law_is_folk" "_law_is_folk" sLIsFolk (He.fAd K ("_law_is_folk", none)) d13 := funOf F13'
  have D13 : Df K mg "_law_is_folk" sLIsFolk ["_law_thing_here"] _ d13 := ⟨F13, F13.binds (ps := ["_law_thing_here"]) (fun _ _ _ _ _ _ us hl => match us, hl with | [_], _ => rfl), g13⟩
  obtain ⟨d14, F14'⟩ := c.t.d.def_ 14 (d := mkD "_law_are" sLAre) rfl
  have g14 := He.glo_ok X G (c.t.d.fact 14 (f := .glo "_law_are") rfl)
  have F14 : Fun K "_law_are" "_law_are" sLAre (He.fAd K ("_law_are", none)) d14 := funOf F14'
  have D14 : Df K mg "_law_are" sLAre ["_law_thing_here", "_law_most", "_law_high"] _ d14 := ⟨F14, F14.binds (ps := ["_law_thing_here", "_law_most", "_law_high"]) (fun _ _ _ _ _ _ us hl => match us, hl with | [_, _, _], _ => rfl), g14⟩
  obtain ⟨d15, F15'⟩ := c.t.d.def_ 15 (d := mkD "_law_is_entry" sLIsEnt) rfl
  have g15 := He.glo_ok X G (c.t.d.fact 15 (f := .glo "_law_is_entry") rfl)
  have F15 : Fun K "_law_is_entry" "_law_is_entry" sLIsEnt (He.fAd K ("_law_is_entry", none)) d15 := funOf F15'
  have D15 : Df K mg "_law_is_entry" sLIsEnt ["_law_folk_here", "_law_thing_here"] _ d15 := ⟨F15, F15.binds (ps := ["_law_folk_here", "_law_thing_here"]) (fun _ _ _ _ _ _ us hl => match us, hl with | [_, _], _ => rfl), g15⟩
  obtain ⟨d16, F16'⟩ := c.t.d.def_ 16 (d := mkD "_law_is_book" sLBk) rfl
  have g16 := He.glo_ok X G (c.t.d.fact 16 (f := .glo "_law_is_book") rfl)
  have F16 : Fun K "_law_is_book" "_law_is_book" sLBk (He.fAd K ("_law_is_book", none)) d16 := funOf F16'
  have D16 : Df K mg "_law_is_book" sLBk ["_law_thing_here"] _ d16 := ⟨F16, F16.binds (ps := ["_law_thing_here"]) (fun _ _ _ _ _ _ us hl => match us, hl with | [_], _ => rfl), g16⟩
  obtain ⟨d17, F17'⟩ := c.t.d.def_ 17 (d := mkD "is_whole" sIsWhole) rfl
  have g17 := He.glo_ok X G (c.t.d.fact 17 (f := .glo "is_whole") rfl)
  have F17 : Fun K "is_whole" "is_whole" sIsWhole (He.fAd K ("is_whole", none)) d17 := funOf F17'
  have D17 : Df K mg "is_whole" sIsWhole ["thing"] _ d17 := ⟨F17, F17.binds (ps := ["thing"]) (fun _ _ _ _ _ _ us hl => match us, hl with | [_], _ => rfl), g17⟩
  obtain ⟨d18, F18'⟩ := c.t.d.def_ 18 (d := mkD "is_within" sIsWithin) rfl
  have g18 := He.glo_ok X G (c.t.d.fact 18 (f := .glo "is_within") rfl)
  have F18 : Fun K "is_within" "is_within" sIsWithin (He.fAd K ("is_within", none)) d18 := funOf F18'
  have D18 : Df K mg "is_within" sIsWithin ["thing", "low", "high"] _ d18 := ⟨F18, F18.binds (ps := ["thing", "low", "high"]) (fun _ _ _ _ _ _ us hl => match us, hl with | [_, _, _], _ => rfl), g18⟩
  obtain ⟨d19, F19'⟩ := c.t.d.def_ 19 (d := mkD "is_day" sIsDay) rfl
  have g19 := He.glo_ok X G (c.t.d.fact 19 (f := .glo "is_day") rfl)
  have F19 : Fun K "is_day" "is_day" sIsDay (He.fAd K ("is_day", none)) d19 := funOf F19'
  have D19 : Df K mg "is_day" sIsDay ["thing"] _ d19 := ⟨F19, F19.binds (ps := ["thing"]) (fun _ _ _ _ _ _ us hl => match us, hl with | [_], _ => rfl), g19⟩
  obtain ⟨d20, F20'⟩ := c.t.d.def_ 20 (d := mkD "is_age" sIsAgeG) rfl
  have g20 := He.glo_ok X G (c.t.d.fact 20 (f := .glo "is_age") rfl)
  have F20 : Fun K "is_age" "is_age" sIsAgeG (He.fAd K ("is_age", none)) d20 := funOf F20'
  have D20 : Df K mg "is_age" sIsAgeG ["thing"] _ d20 := ⟨F20, F20.binds (ps := ["thing"]) (fun _ _ _ _ _ _ us hl => match us, hl with | [_], _ => rfl), g20⟩
  obtain ⟨d21, F21'⟩ := c.t.d.def_ 21 (d := mkD "is_person" sIsPerson) rfl
  have g21 := He.glo_ok X G (c.t.d.fact 21 (f := .glo "is_person") rfl)
  have F21 : Fun K "is_person" "is_person" sIsPerson (He.fAd K ("is_person", none)) d21 := funOf F21'
  have D21 : Df K mg "is_person" sIsPerson ["thing"] _ d21 := ⟨F21, F21.binds (ps := ["thing"]) (fun _ _ _ _ _ _ us hl => match us, hl with | [_], _ => rfl), g21⟩
  obtain ⟨d22, F22'⟩ := c.t.d.def_ 22 (d := mkD "is_folk" sIsFolkG) rfl
  have g22 := He.glo_ok X G (c.t.d.fact 22 (f := .glo "is_folk") rfl)
  have F22 : Fun K "is_folk" "is_folk" sIsFolkG (He.fAd K ("is_folk", none)) d22 := funOf F22'
  have D22 : Df K mg "is_folk" sIsFolkG ["thing"] _ d22 := ⟨F22, F22.binds (ps := ["thing"]) (fun _ _ _ _ _ _ us hl => match us, hl with | [_], _ => rfl), g22⟩
  obtain ⟨d23, F23'⟩ := c.t.d.def_ 23 (d := mkD "is_rising" sIsRisG) rfl
  have g23 := He.glo_ok X G (c.t.d.fact 23 (f := .glo "is_rising") rfl)
  have F23 : Fun K "is_rising" "is_rising" sIsRisG (He.fAd K ("is_rising", none)) d23 := funOf F23'
  have D23 : Df K mg "is_rising" sIsRisG ["things"] _ d23 := ⟨F23, F23.binds (ps := ["things"]) (fun _ _ _ _ _ _ us hl => match us, hl with | [_], _ => rfl), g23⟩
  obtain ⟨d24, F24'⟩ := c.t.d.def_ 24 (d := mkD "is_rising_below" sIsRisB) rfl
  have g24 := He.glo_ok X G (c.t.d.fact 24 (f := .glo "is_rising_below") rfl)
  have F24 : Fun K "is_rising_below" "is_rising_below" sIsRisB (He.fAd K ("is_rising_below", none)) d24 := funOf F24'
  have D24 : Df K mg "is_rising_below" sIsRisB ["thing", "most", "limit"] _ d24 := ⟨F24, F24.binds (ps := ["thing", "most", "limit"]) (fun _ _ _ _ _ _ us hl => match us, hl with | [_, _, _], _ => rfl), g24⟩
  obtain ⟨d25, F25'⟩ := c.t.d.def_ 25 (d := mkD "is_deed_tail" sIsDeedT) rfl
  have g25 := He.glo_ok X G (c.t.d.fact 25 (f := .glo "is_deed_tail") rfl)
  have F25 : Fun K "is_deed_tail" "is_deed_tail" sIsDeedT (He.fAd K ("is_deed_tail", none)) d25 := funOf F25'
  have D25 : Df K mg "is_deed_tail" sIsDeedT ["folk", "number", "tail"] _ d25 := ⟨F25, F25.binds (ps := ["folk", "number", "tail"]) (fun _ _ _ _ _ _ us hl => match us, hl with | [_, _, _], _ => rfl), g25⟩
  obtain ⟨d26, F26'⟩ := c.t.d.def_ 26 (d := mkD "is_act_tail" sIsActT) rfl
  have g26 := He.glo_ok X G (c.t.d.fact 26 (f := .glo "is_act_tail") rfl)
  have F26 : Fun K "is_act_tail" "is_act_tail" sIsActT (He.fAd K ("is_act_tail", none)) d26 := funOf F26'
  have D26 : Df K mg "is_act_tail" sIsActT ["number", "tail"] _ d26 := ⟨F26, F26.binds (ps := ["number", "tail"]) (fun _ _ _ _ _ _ us hl => match us, hl with | [_, _], _ => rfl), g26⟩
  obtain ⟨d27, F27'⟩ := c.t.d.def_ 27 (d := mkD "is_entry" sIsEntG) rfl
  have g27 := He.glo_ok X G (c.t.d.fact 27 (f := .glo "is_entry") rfl)
  have F27 : Fun K "is_entry" "is_entry" sIsEntG (He.fAd K ("is_entry", none)) d27 := funOf F27'
  have D27 : Df K mg "is_entry" sIsEntG ["folk", "thing"] _ d27 := ⟨F27, F27.binds (ps := ["folk", "thing"]) (fun _ _ _ _ _ _ us hl => match us, hl with | [_, _], _ => rfl), g27⟩
  obtain ⟨d28, F28'⟩ := c.t.d.def_ 28 (d := mkD "names_fit" sNFit) rfl
  have g28 := He.glo_ok X G (c.t.d.fact 28 (f := .glo "names_fit") rfl)
  have F28 : Fun K "names_fit" "names_fit" sNFit (He.fAd K ("names_fit", none)) d28 := funOf F28'
  have D28 : Df K mg "names_fit" sNFit ["words", "entry"] _ d28 := ⟨F28, F28.binds (ps := ["words", "entry"]) (fun _ _ _ _ _ _ us hl => match us, hl with | [_, _], _ => rfl), g28⟩
  obtain ⟨d29, F29'⟩ := c.t.d.def_ 29 (d := mkD "is_book" sIsBk) rfl
  have g29 := He.glo_ok X G (c.t.d.fact 29 (f := .glo "is_book") rfl)
  have F29 : Fun K "is_book" "is_book" sIsBk (He.fAd K ("is_book", none)) d29 := funOf F29'
  have D29 : Df K mg "is_book" sIsBk ["thing"] _ d29 := ⟨F29, F29.binds (ps := ["thing"]) (fun _ _ _ _ _ _ us hl => match us, hl with | [_], _ => rfl), g29⟩
  obtain ⟨d30, F30'⟩ := c.t.d.def_ 30 (d := mkD "law" sLaw) rfl
  have g30 := He.glo_ok X G (c.t.d.fact 30 (f := .glo "law") rfl)
  have F30 : Fun K "law" "law" sLaw (He.fAd K ("law", none)) d30 := funOf F30'
  have m_range := He.free_ok X G (c.t.d.fact 31 (f := .free "range") rfl)
  have m_min := He.free_ok X G (c.t.d.fact 32 (f := .free "min") rfl)
  have m_max := He.free_ok X G (c.t.d.fact 33 (f := .free "max") rfl)
  have m_tuple := He.free_ok X G (c.t.d.fact 34 (f := .free "tuple") rfl)
  have m_list := He.free_ok X G (c.t.d.fact 35 (f := .free "list") rfl)
  have m_len := He.free_ok X G (c.t.d.fact 36 (f := .free "len") rfl)
  have m_sorted := He.free_ok X G (c.t.d.fact 37 (f := .free "sorted") rfl)
  have m_int := He.free_ok X G (c.t.d.fact 38 (f := .free "int") rfl)
  have m_isinstance := He.free_ok X G (c.t.d.fact 39 (f := .free "isinstance") rfl)
  have m_bool := He.free_ok X G (c.t.d.fact 40 (f := .free "bool") rfl)
  have m_str := He.free_ok X G (c.t.d.fact 41 (f := .free "str") rfl)
  have m_all := He.free_ok X G (c.t.d.fact 42 (f := .free "all") rfl)
  have m_zip := He.free_ok X G (c.t.d.fact 43 (f := .free "zip") rfl)
  have m_set := He.free_ok X G (c.t.d.fact 44 (f := .free "set") rfl)
  have m_dict := He.free_ok X G (c.t.d.fact 45 (f := .free "dict") rfl)
  have i_NUMBER : MgInt mg "NUMBER" 0 := He.int_ok X G (c.t.d.fact 46 (f := .int "NUMBER" 0) rfl)
  have i_WORD : MgInt mg "WORD" 4 := He.int_ok X G (c.t.d.fact 47 (f := .int "WORD" 4) rfl)
  have i_OF : MgInt mg "OF" 5 := He.int_ok X G (c.t.d.fact 48 (f := .int "OF" 5) rfl)
  have i_RESTS : MgInt mg "RESTS" 7 := He.int_ok X G (c.t.d.fact 49 (f := .int "RESTS" 7) rfl)
  have i_LAST_DAY : MgInt mg "LAST_DAY" 9999 := He.int_ok X G (c.t.d.fact 50 (f := .int "LAST_DAY" 9999) rfl)
  have i_LAST_NUMBER : MgInt mg "LAST_NUMBER" 30 := He.int_ok X G (c.t.d.fact 51 (f := .int "LAST_NUMBER" 30) rfl)
  have i_LAST_HAND : MgInt mg "LAST_HAND" 3 := He.int_ok X G (c.t.d.fact 52 (f := .int "LAST_HAND" 3) rfl)
  have i_MOST_FOLK : MgInt mg "MOST_FOLK" 6 := He.int_ok X G (c.t.d.fact 53 (f := .int "MOST_FOLK" 6) rfl)
  have i_MOST_ENTRIES : MgInt mg "MOST_ENTRIES" 16 := He.int_ok X G (c.t.d.fact 54 (f := .int "MOST_ENTRIES" 16) rfl)
  have i_MOST_RESTS : MgInt mg "MOST_RESTS" 2 := He.int_ok X G (c.t.d.fact 55 (f := .int "MOST_RESTS" 2) rfl)
  have i_MOST_WITNESSES : MgInt mg "MOST_WITNESSES" 3 := He.int_ok X G (c.t.d.fact 56 (f := .int "MOST_WITNESSES" 3) rfl)
  have e := hfa.symm.trans g30
  cases e
  have b := FunD.bindsA (ps := ["_law_script"]) F30' fun _ _ _ _ _ _ us hl => match us, hl with | [_], _ => rfl
  have B : Bi mg := ⟨m_range, m_min, m_max, m_tuple, m_list, m_len, m_sorted, m_int⟩
  have gAW := He.glo_ok X G (c.t.d.fact 57 (f := .glo "ACT_WORDS") rfl)
  have AW : ActWG K mg _ := ⟨gAW, fun H => He.tupB_ok c.more H⟩
  refine ⟨d30, tfAll.map (He.cT K), spLaw K, fun p hp => ?_, fun p hp => ?_, fun p hp => ?_, fun s v => b s [v] rfl, fun H a ns hl _ hH hS => ?_, fun base hK hG hTB => ?_⟩
  · obtain ⟨q, hq, rfl⟩ := List.mem_map.mp hp
    exact c.empty q hq
  · obtain ⟨q, hq, rfl⟩ := List.mem_map.mp hp
    exact c.out q hq
  · obtain ⟨q, hq, rfl⟩ := List.mem_map.mp hp
    exact PySem.W.codeHd_of_K X (c.hd q hq)
  · exact ⟨a, ns, rfl, hS, hl, fun _ => rfl⟩
  · let cDr : ∀ k, CDrw l.prog w K mg base (k + 1) := fun k => D2.call (ok_draw D2.F)
    let cTh3 : CallOk l.prog w K mg base 5 "_law_thing" _ (spLThing 3) := D10.call (ok_LThing (k := 1) D10 (fun n => (cDr n).mono (by omega)) m_range m_tuple 3)
    let cTh4 : CallOk l.prog w K mg base 6 "_law_thing" _ (spLThing 4) := D10.call (ok_LThing (k := 1) D10 (fun n => (cDr n).mono (by omega)) m_range m_tuple 4)
    let cSp : CallOk l.prog w K mg base 11 "_law_spoilt" _ (spLSpoilt 5) := D11.call (ok_LSpoilt (k := 5) D11 (fun n => (cDr n).mono (by omega)) (fun n => cTh3.mono (by omega)) m_isinstance m_tuple m_len m_list m_int m_str 5)
    let cWh : CallOk l.prog w K mg base 10 "is_whole" _ _ := D17.call (ok_IsWhole (k := 9) D17.F m_isinstance m_int m_bool)
    let cWi : CallOk l.prog w K mg base 11 "is_within" _ _ := D18.call (ok_IsWithin (k := 10) D18.F cWh)
    let cDa : CallOk l.prog w K mg base 12 "is_day" _ _ := D19.call (ok_IsDay (k := 11) D19.F cWi i_LAST_DAY)
    let cAg : CallOk l.prog w K mg base 12 "is_age" _ _ := D20.call (ok_IsAgeG (k := 11) D20.F cWi i_LAST_DAY)
    let cPe : CallOk l.prog w K mg base 12 "is_person" _ _ := D21.call (ok_IsPerson (k := 11) D21.F cWi m_isinstance m_tuple m_len i_LAST_DAY)
    let cFo : CallOk l.prog w K mg base 13 "is_folk" _ _ := D22.call (ok_IsFolkG (k := 12) D22.F cPe m_isinstance m_tuple m_len m_all i_MOST_FOLK)
    let cRi : CallOk l.prog w K mg base 11 "is_rising" _ _ := D23.call (ok_IsRisG (k := 10) D23.F m_zip m_all)
    let cRb : CallOk l.prog w K mg base 12 "is_rising_below" _ _ := D24.call (ok_IsRisB (k := 11) D24.F cWi cRi m_isinstance m_tuple m_len m_all)
    let cDt : CallOk l.prog w K mg base 13 "is_deed_tail" _ _ := D25.call (ok_IsDeedT (k := 12) D25.F (cWi.mono (by decide)) cRb m_len i_MOST_RESTS i_MOST_WITNESSES)
    let cAt : CallOk l.prog w K mg base 13 "is_act_tail" _ _ := D26.call (ok_IsActT (k := 12) D26.F (cWi.mono (by decide)) m_len)
    let cEn : CallOk l.prog w K mg base 14 "is_entry" _ _ := D27.call (ok_IsEntG (k := 13) D27.F cFo (cWi.mono (by decide)) (cDa.mono (by decide)) cDt cAt m_isinstance m_tuple m_len i_OF i_LAST_NUMBER i_LAST_HAND AW)
    let cNf : CallOk l.prog w K mg base 14 "names_fit" _ _ := D28.call (ok_NFit (k := 13) D28.F m_all i_WORD i_RESTS i_OF AW)
    let cBk : CallOk l.prog w K mg base 15 "is_book" _ _ := D29.call (ok_IsBk (k := 14) D29.F (cFo.mono (by decide)) (cAg.mono (by decide)) cEn cNf m_isinstance m_tuple m_len m_all i_NUMBER i_WORD i_MOST_ENTRIES)
    let cLi : CallOk l.prog w K mg base 10 "_law_in" _ _ := D12.call (ok_LIn (k := 9) D12.F m_isinstance m_int m_bool)
    let cLf : CallOk l.prog w K mg base 11 "_law_is_folk" _ _ := D13.call (ok_LIsFolk (k := 10) D13.F cLi m_isinstance m_tuple m_len)
    let cLa : CallOk l.prog w K mg base 11 "_law_are" _ _ := D14.call (ok_LAre (k := 10) D14.F cLi m_isinstance m_tuple m_len m_all m_list m_sorted m_set)
    let cLe : CallOk l.prog w K mg base 12 "_law_is_entry" _ _ := D15.call (ok_LIsEnt (k := 11) D15.F (cLi.mono (by decide)) cLa m_isinstance m_tuple m_len m_str)
    let cLb : CallOk l.prog w K mg base 13 "_law_is_book" _ _ := D16.call (ok_LBk (k := 12) D16.F (cLf.mono (by decide)) (cLi.mono (by decide)) cLe m_isinstance m_tuple m_len m_all m_dict)
    let cBo : CallOk l.prog w K mg base 10 "_law_book" _ spBook := D9.call (ok_book (k := 5) D9.F D2 D5 D3 D6 D7 D4 D8 B)
    exact ok_law (k := 30) F30 (D0.call (ok_cell D0.F m_len)) (D1.call (ok_pen D1.F m_int)) (cBo.mono (by decide)) (cTh4.mono (by decide)) (cSp.mono (by decide)) (cDr 29) (cBk.mono (by decide)) (cLb.mono (by decide)) m_len m_min m_max m_range m_list m_tuple
end Deed
open PySem PySem.W PySem.Calls PyProof.Rows
theorem PySem.Challenge.cw_deedsheaf_k02_books_looked_at_holds : PySem.Challenge.rw_deedsheaf_k02_books_looked_at.Holds := by
  w_on; o_law
  refine HandSHeadRun.head_any (r := OpenLaw.row PySem.Challenge.rw_deedsheaf_k02_books_looked_at) (q := view (OpenLaw.row PySem.Challenge.rw_deedsheaf_k02_books_looked_at).prog [44]) (H := Deed.hk) (ob := Deed.ob) (M := 12000) (loose := Deed.looseAll) (d := HandSHeadRun.topDef (OpenLaw.row PySem.Challenge.rw_deedsheaf_k02_books_looked_at).prog 44) (kwd := []) Deed.ob_eq
    (by kernel_rfl) (fun s => by kernel_rfl) Deed.run (by kernel_rfl) (by kernel_rfl) (by kernel_rfl) (by rfl) (by first | assumption | decide +kernel) (by decide +kernel) ⟨rfl, rfl, rfl, rfl, rfl, by decide +kernel⟩ ?hw ?hc
  case hw => w_witness2
  case hc =>
    refine LamX.walk_ofTsE (l := PySem.Challenge.rw_deedsheaf_k02_books_looked_at) (n := 63) (k := 31) (x := "_law_script") (CX := fun _ => L2.CX0) rfl (by decide) (by kernel_rfl) ⟨rfl, by decide, by decide⟩ ?F (fun _ _ _ _ _ z => z)
    intro w mg fa h Y G hmg0
    obtain ⟨K, KX, c⟩ := Y
    have hmg : mg ("law" : PySem.Str) = some (.ref fa) := by
      have e : (HandSHeadRun.topDef (OpenLaw.row PySem.Challenge.rw_deedsheaf_k02_books_looked_at).prog 44).name = ("law" : PySem.Str) := by kernel_rfl
      rw [← e]
      exact hmg0
    exact ⟨K, KX, Deed.facts KX G hmg c⟩
