import PyProof.Rows.All
import Wide.All
import OpenK.AllK
import Wide.FinOn
import KE.SortKeyHeap
import KE.KLam
import HandS.ForMost
import HandS.ForExc
import HandS.Flow
import HandS.Style
import HandS.SortInts
import HandS.SortKw
import HandS.TupAny
import HandS.TupMul
import HandS.Lambda
import HandS.EndTab
import HandS.Head2
import HandS.HeadEnd
import HandS.HeadHook4
import HandS.HeadWalk
import HandS.Walk
import HandS.IsInst
import HandS.Defaults
import HandS.More
import HandS.DictComp
import HandS.ListItems
import HandS.SetFor
import HandS.Strs
import HandS.Zip
import HandS.TupSets
import KE.SortData
import KE.GoesMore
import HandS.Conv
import HandS.WordsDict
import HandS.MakeKw
import HandS.Codes
import KE.KIndexOf
import HandS.TryMany
import HandS.WordsExc
import KE.KExcSuper
import HandS.ClsMeth
import HandS.Nested
import HandS.ExcInit
import PyProof.ReprRoads
import PyProof.Rows.StrJoinMade
import PyProof.StrLawsRepr
import HandS.ExcField
import PySem.Challenge.RW_deedsheaf_k73_scribes_alike_and_apart
import HandS.FStr
import PyProof.InstSpecial
import PyProof.Conv_bool
import KE.KFmtOwn
import HandS.Records
import HandS.Small
import HandS.OwnEq
import PyProof.InstNe
import KE.DataCmp
set_option Elab.async false
set_option linter.all false
set_option maxRecDepth 100000
set_option maxHeartbeats 0
set_option pp.maxSteps 1200

namespace Deed
open PySem PySem.Spec PyProof.Rows L2
def topS (i : Nat) : Stmt := PySem.Challenge.pw_deedsheaf_k73_scribes_alike_and_apart.main.body.getD i (.Pass ⟨0, 0, 0, 0⟩)
/-! ### heaps: all but the pen at p is as it was -/
def Kp (p : Addr) (H H' : Hp) : Prop := ∀ b o, b ≠ p → H b = some o → H' b = some o
theorem Kp.refl (p : Addr) (H : Hp) : Kp p H H := fun _ _ _ h => h
theorem Kp.trans {p : Addr} {H H1 H2 : Hp} (a : Kp p H H1) (b : Kp p H1 H2) : Kp p H H2 := fun c o n h => b c o n (a c o n h)
theorem Kp.new {p q : Addr} {H : Hp} (n : H q = none) (o : HO) : Kp p H (upd H q o) := fun b u _ e => by
  rw [upd_ne (ne_of_none e n)]
  exact e
theorem Kp.put {p : Addr} {H : Hp} (o : HO) : Kp p H (upd H p o) := fun b u n e => by
  rw [upd_ne n]
  exact e
theorem Kp.same {p : Addr} {H H' : Hp} (h : Same H H') : Kp p H H' := fun b o _ e => h b o e
/-- the pen: four whole numbers, the last one a rest -/
def PenAt (H : Hp) (p : Addr) : Prop := ∃ a f c e : Int, H p = some (.lst [.int a, .int f, .int c, .int e]) ∧ 0 ≤ e ∧ e < 1000000007
theorem PenAt.new {p q : Addr} {H : Hp} (h : PenAt H p) (n : H q = none) (o : HO) : PenAt (upd H q o) p := by
  obtain ⟨a, f, c, e, h1, h2⟩ := h
  refine ⟨a, f, c, e, ?_, h2⟩
  rw [upd_ne (ne_of_none h1 n)]
  exact h1
theorem PenAt.ne {p q : Addr} {H : Hp} {o : HO} (h : PenAt H p) (e : H q = some o) (no : ∀ xs, o ≠ .lst xs) : q ≠ p := fun z => by
  obtain ⟨a, f, c, e', h1, _⟩ := h
  rw [z, h1] at e
  exact no _ (Option.some.inj e).symm
theorem PenAt.free {p q : Addr} {H : Hp} (h : PenAt H p) (n : H q = none) : q ≠ p := fun z => by
  obtain ⟨a, f, c, e', h1, _⟩ := h
  rw [z, h1] at n
  cases n
section
variable {P : Program} {w : World} {K : PySem.W.Frag} {mg : Str → Option Value} {base : Heap}
/-! ### the script's cell -/
abbrev sCell : Stmt := topS 55
theorem scCell : FnScope ["_law_script", "_law_k"] ["_law_script", "_law_k"] (defScope sCell) := ⟨rfl, rfl, rfl, by decide +kernel, rfl, by decide +kernel, by decide +kernel⟩
def spCell (K : PySem.W.Frag) : Sp := fun vs H Q _ => ∃ (a : Addr) (ns : List Int) (k : Int), vs = [.ref a, .int k] ∧ SqL K H a (ns.map V.int) ∧ 0 ≤ k ∧ ∀ v : Int, Q (.int v) H
theorem ok_cell {f : Addr} {fd : FuncData} {k : Nat} (F : Fun K "_law_cell_at" "_law_cell_at" sCell f fd) (ml : mg "len" = none) : FnOk P w K mg base CX0 (k + 1) f fd ["_law_script", "_law_k"] (spCell K) := by
  refine F.ok scCell (fun vs H Q E h => ?_) (fun cdv A outer s H vs Q E hr h => ?_)
  · obtain ⟨a, ns, k, rfl, _⟩ := h
    rfl
  · obtain ⟨a, ns, k, rfl, hS, h0, q⟩ := h
    refine ⟨_, pss_cons (ps_if (pt_cmpR op_lt (pv 1) (pe_callB call_len_seq (by rfl) ml PySem.boot_len (pa_cons (pv 0) pa_nil)) (nomark _)) (pss_one (ps_ret (pe_ix ix_list (pv 0) (pv 1) (fun _ _ => rfl)))) pss_nil)
      (pss_one (ps_ret pe_int)), ?_⟩
    have hl : (ns.map V.int).length = ns.length := List.length_map _
    refine ⟨_, rfl, _, rfl, a, _, rfl, .inl hS, _, _, rfl, rfl, _, rfl, ?_⟩
    refine ite2 (fun c => ?_) (fun c => ?_)
    · have c' : k < (((ns.map V.int).length : Nat) : Int) := of_decide_eq_true c
      rw [hl] at c'
      have hk : k.toNat < ns.length := by omega
      have ek : k = ((k.toNat : Nat) : Int) := by omega
      refine ⟨_, rfl, _, rfl, a, _, _, .int ns[k.toNat], rfl, rfl, hS, ?_, q _⟩
      exact at_of ek (by rw [List.getElem?_map, List.getElem?_eq_getElem hk] <;> rfl)
    · exact q 0
/-! ### the pen -/
abbrev sPen : Stmt := topS 54
theorem scPen : FnScope ["_law_cell"] ["_law_cell"] (defScope sPen) := ⟨rfl, rfl, rfl, by decide +kernel, rfl, by decide +kernel, by decide +kernel⟩
def spPen : Sp := fun vs H Q _ => ∃ (c : Int), vs = [.int c] ∧ ∀ p H', Same H H' → H p = none → PenAt H' p → Q (.ref p) H'
theorem ok_pen {f : Addr} {fd : FuncData} {k : Nat} (F : Fun K "_law_pen" "_law_pen" sPen f fd) (mi : mg "int" = none) : FnOk P w K mg base CX0 (k + 1) f fd ["_law_cell"] spPen := by
  refine F.ok scPen (fun vs H Q E h => ?_) (fun cdv A outer s H vs Q E hr h => ?_)
  · obtain ⟨c, rfl, _⟩ := h
    rfl
  · obtain ⟨c, rfl, q⟩ := h
    refine ⟨_, pss_one (ps_ret (pe_lst (pa_cons (pv 0) (pa_cons (pe_callTy call_int1 (by rfl) mi (by decide +kernel) (pa_cons (pe_cmpR op_ge (pv 0) (pe_op op_pow pe_int pe_int) (nomark _)) pa_nil)) (pa_cons pe_int (pa_cons (pe_op op_mod (pv 0) pe_int) pa_nil)))))), ?_⟩
    refine ⟨_, rfl, _, rfl, _, _, rfl, rfl, ⟨by decide, by decide, by decide⟩, _, _, rfl, rfl, .inr ⟨_, rfl, ?_⟩⟩
    refine ⟨_, rfl, _, _, rfl, rfl, (by show (0 : Int) < 1000000007; decide), (by show 4 ≤ sizeLine; decide), fun p hp => ?_⟩
    refine q p _ (fun b o e => ?_) hp ⟨_, _, _, _, upd_same, Int.emod_nonneg _ (by decide), Int.emod_lt_of_pos _ (by decide)⟩
    rw [upd_ne (ne_of_none e hp)]
    exact e
/-! ### a draw -/
abbrev sDraw : Stmt := topS 56
theorem scDraw : FnScope ["_law_pen_here", "_law_bound", "_law_found", "_law_stir"] ["_law_pen_here", "_law_bound"] (defScope sDraw) := ⟨rfl, rfl, rfl, by decide +kernel, rfl, by decide +kernel, by decide +kernel⟩
def spDraw : Sp := fun vs H Q _ => ∃ (p : Addr) (b : Int), vs = [.ref p, .int b] ∧ PenAt H p ∧ 0 < b ∧ b < 1073741824 ∧ ∀ v H', Kp p H H' → PenAt H' p → 0 ≤ v → v < b → Q (.int v) H'
theorem ok_draw {f : Addr} {fd : FuncData} {k : Nat} (F : Fun K "_law_draw" "_law_draw" sDraw f fd) : FnOk P w K mg base CX0 (k + 1) f fd ["_law_pen_here", "_law_bound"] spDraw := by
  refine F.ok scDraw (fun vs H Q E h => ?_) (fun cdv A outer s H vs Q E hr h => ?_)
  · obtain ⟨p, b, rfl, _⟩ := h
    rfl
  · obtain ⟨p, b, rfl, ⟨x, y, c, e, hp, he0, he1⟩, hb0, hb1, q⟩ := h
    refine ⟨_, pss_cons (ps_if (PW.pt (pw_and (pt_cmpR op_eq (pe_ix ix_list (pv 0) pe_int (fun _ _ => rfl)) pe_int (nomark _)) (pw_and1 (pt_cmpR op_gt (pe_ix ix_list (pv 0) pe_int (fun _ _ => rfl)) pe_int (nomark _)))))
        (pss_cons (ps_set (i := 2) scDraw.nd rfl (.inl rfl) (pe_op op_mod (pe_ix ix_list (pv 0) pe_int (fun _ _ => rfl)) (pv 1)))
        (pss_cons (ps_asg (pe_op op_fdiv (pe_ix ix_list (pv 0) pe_int (fun _ _ => rfl)) (pv 1)) (pg_sub (pv 0) pe_int set_list))
        (pss_one (ps_ret (pv 2))))) pss_nil)
      (pss_cons (ps_asg (pe_op op_add (pe_ix ix_list (pv 0) pe_int (fun _ _ => rfl)) pe_int) (pg_sub (pv 0) pe_int set_list))
      (pss_cons (ps_set (i := 3) scDraw.nd rfl (.inl rfl) (pe_op op_mod (pe_op op_mul (pe_op op_add (pe_ix ix_list (pv 0) pe_int (fun _ _ => rfl)) pe_int) (pe_op op_add pe_int (pe_op op_mul pe_int (pe_ix ix_list (pv 0) pe_int (fun _ _ => rfl))))) pe_int))
      (pss_cons (ps_set (i := 3) scDraw.nd rfl (.inl rfl) (pe_op op_mod (pe_op op_add (pe_op op_add (pe_op op_mul (pv 3) (pv 3)) (pe_op op_mul pe_int (pe_ix ix_list (pv 0) pe_int (fun _ _ => rfl)))) pe_int) pe_int))
      (pss_one (ps_ret (pe_op op_mod (pe_op op_fdiv (pe_op op_mod (pe_op op_mul (pv 3) pe_int) pe_int) pe_int) (pv 1))))))), ?_⟩
    have i0 : ∀ u : V, ∀ r : List V, atI (u :: r) 0 = some u := fun u r => atI_nat (j := 0) rfl
    have i1 : ∀ u v : V, ∀ r : List V, atI (u :: v :: r) 1 = some v := fun u v r => atI_nat (j := 1) rfl
    have i2 : ∀ u v w : V, ∀ r : List V, atI (u :: v :: w :: r) 2 = some w := fun u v w r => atI_nat (j := 2) rfl
    have i3 : ∀ u v w z : V, ∀ r : List V, atI (u :: v :: w :: z :: r) 3 = some z := fun u v w z r => atI_nat (j := 3) rfl
    have hS : SqL K H p [.int x, .int y, .int c, .int e] := SqL.of hp
    refine ⟨_, rfl, p, _, _, _, rfl, rfl, hS, i1 _ _ _, rfl, _, rfl, ?_⟩
    refine ite2 (fun c1 => ?_) (fun c1 => ?slow1)
    refine ⟨_, rfl, p, _, _, _, rfl, rfl, hS, i0 _ _, _, _, rfl, rfl, _, rfl, ?_⟩
    refine ite2 (fun c2 => ?_) (fun c2 => ?slow2)
    · refine ⟨_, rfl, p, _, _, _, rfl, rfl, hS, i0 _ _, _, rfl, _, _, rfl, rfl, hb0, ?_⟩
      refine ⟨_, rfl, p, _, _, _, rfl, rfl, hS, i0 _ _, _, rfl, _, _, rfl, rfl, ⟨hb0, hb1⟩, _, rfl, p, _, 0, 0, rfl, rfl, hp, rfl, ?_⟩
      exact ⟨_, rfl, q _ _ (Kp.put _) ⟨_, _, _, _, upd_same, he0, he1⟩ (Int.emod_nonneg _ (by omega)) (Int.emod_lt_of_pos _ hb0)⟩
    all_goals
      refine ⟨_, rfl, p, _, _, _, rfl, rfl, hS, i2 _ _ _ _, _, _, rfl, rfl, _, rfl, p, _, 2, 2, rfl, rfl, hp, rfl, ?_⟩
      have hp1 : (upd H p (.lst [.int x, .int y, .int (c + 1), .int e])) p = some (.lst [.int x, .int y, .int (c + 1), .int e]) := upd_same
      have hS1 : SqL K (upd H p (.lst [.int x, .int y, .int (c + 1), .int e])) p [.int x, .int y, .int (c + 1), .int e] := SqL.of hp1
      refine ⟨_, rfl, p, _, _, _, rfl, rfl, hS1, i3 _ _ _ _ _, _, _, rfl, rfl, _, rfl, p, _, _, _, rfl, rfl, hS1, i2 _ _ _ _, _, _, rfl, rfl, .inl ⟨by decide, by decide⟩, _, _, rfl, rfl, _, _, rfl, rfl, .inl ⟨by omega, by omega⟩, _, _, rfl, rfl, (by show (0 : Int) < 2147483647; decide), ?_⟩
      have r1 := Int.emod_nonneg ((e + 17) * (69621 + 2 * (c + 1))) (b := 2147483647) (by decide)
      have r2 := Int.emod_lt_of_pos ((e + 17) * (69621 + 2 * (c + 1))) (b := 2147483647) (by decide)
      generalize (e + 17) * (69621 + 2 * (c + 1)) % 2147483647 = st at r1 r2
      refine ⟨_, rfl, _, rfl, _, _, rfl, rfl, .inl ⟨by omega, by omega⟩, _, rfl, p, _, _, _, rfl, rfl, hS1, i2 _ _ _ _, _, _, rfl, rfl, .inl ⟨by decide, by decide⟩, _, _, rfl, rfl, _, _, rfl, rfl, _, _, rfl, rfl, (by show (0 : Int) < 2147483629; decide), ?_⟩
      refine ⟨_, rfl, _, _, rfl, rfl, .inr ⟨by decide, by decide⟩, _, _, rfl, rfl, (by show (0 : Int) < 2147483647; decide), _, _, rfl, rfl, ⟨by decide, by decide⟩, _, rfl, _, _, rfl, rfl, hb0, ?_⟩
      exact q _ _ (Kp.put _) ⟨_, _, _, _, upd_same, he0, he1⟩ (Int.emod_nonneg _ (by omega)) (Int.emod_lt_of_pos _ hb0)
end
end Deed

namespace SupX
open PySem PySem.Spec PyProof.Rows L2
/-! ### what the written part says of a class whose __init__ says super().__init__, by a truth -/
def oexcB (K : PySem.W.Frag) (C : Addr) : Bool := (match K.lookup C with
  | some ⟨.type t, _, .cls cd, sl⟩ => decide (t = "type") && (match cd.mro, sl.toList with
    | .ref C' :: bm, [_, _, _, _, some (.builtin n), _] => decide (C' = C) && (decide (n = "ValueError.__new__") && (!cd.hasDel && (cd.hasDict && PySem.HandSPX.refsVE bm)))
    | _, _ => false)
  | _ => false) && (decide (PySem.W.findIn K (.ref C) "__setattr__" = some (some (.builtin "object.__setattr__"))) && (decide (PySem.W.subIn K (.ref C) (.type "BaseException") = some true) && (decide (PySem.W.typeIn K (.ref C) = some (.type "type")) && PySem.W.keepIn K (.ref C))))
abbrev FnS : Type := Option (Str × Str × Arguments × FuncBody × Scope × Addr × List Str × Addr)
/-- a function with cells: their names -/
def fnS (K : PySem.W.Frag) (f : Addr) : FnS := match K.lookup f with
  | some ⟨_, _, .func fd, _⟩ => some (fd.name, fd.qualname, fd.params, fd.body, fd.scope, fd.globals, fd.closure.map (·.1), fd.builtins)
  | _ => none
/-- its one cell, its code -/
def clA (K : PySem.W.Frag) (f : Addr) : Addr := match K.lookup f with
  | some ⟨_, _, .func fd, _⟩ => (match fd.closure with
    | (_, c) :: _ => c
    | _ => 0)
  | _ => 0
def cdA (K : PySem.W.Frag) (f : Addr) : Addr := match K.lookup f with
  | some ⟨_, _, .func fd, _⟩ => (match fd.code with
    | .ref c => c
    | _ => 0)
  | _ => 0
def fnB (K : PySem.W.Frag) (f : Addr) : Bool := match K.lookup f with
  | some ⟨_, _, .func fd, _⟩ => (match fd.defaults, fd.kwdefaults, fd.annotations, fd.code with
    | .none, .none, none, .ref _ => true
    | _, _, _, _ => false)
  | _ => false
def cellB (K : PySem.W.Frag) (cc C : Addr) : Bool := match K.lookup cc with
  | some ⟨_, _, .cell (some v), _⟩ => decide (v = .ref C)
  | _ => false
def fileB (P : Program) (K : PySem.W.Frag) (c : Addr) : Bool := match K.lookup c with
  | some ⟨_, _, .fields vs, _⟩ => (match (vs[2]? : Option Value) with
    | some (.str file _) => (P.main.file : Str) == file
    | _ => false)
  | _ => false
def supB (P : Program) (K : PySem.W.Frag) (x qual fld : Str) : Bool :=
  oexcB K (He.ga K x) && (decide (PySem.W.ks_superIn K (He.ga K x) (He.ga K x) "__init__" = some (some (.builtin "ValueError.__init__"))) && (decide (PySem.W.mroIn K (He.ga K x) (.ref (He.ga K x)) = some true) && (decide (PySem.W.subIn K (.ref (He.ga K x)) (.type "ValueError") = some true) &&
  (decide (PySem.W.nsIn K PySem.cStatics "thirdparty.any" = some none) && (cellB K (clA K (He.fAd K (x, some "__init__"))) (He.ga K x) && (fnB K (He.fAd K (x, some "__init__")) && (fileB P K (cdA K (He.fAd K (x, some "__init__"))) && (PySem.W.codeIn K (.ref (cdA K (He.fAd K (x, some "__init__")))) qual &&
  (decide (PySem.W.findIn K (.ref (He.ga K x)) "__init__" = some (some (.ref (He.fAd K (x, some "__init__"))))) && (decide (PySem.W.typeIn K (.ref (He.fAd K (x, some "__init__"))) = some (.type "function")) && decide (PySem.W.findIn K (.ref (He.ga K x)) fld = some none)))))))))))
end SupX

namespace Deed
open PySem PySem.Spec PyProof.Rows L2 LamX
/-! ### the end: the facts by names -/
def mkD (x : Str) (st : Stmt) : He.DefD := ⟨(x, none), x, x, defArgs st, defBody st, defScope st, [], []⟩
def mkDd (x : Str) (st : Stmt) (dfl : List He.Dv) : He.DefD := ⟨(x, none), x, x, defArgs st, defBody st, defScope st, dfl, []⟩
def fnAll : List He.DefD := [mkD "_law_cell_at" (topS 55), mkD "_law_pen" (topS 54), mkD "_law_draw" (topS 56), mkD "_law_day" (topS 64), mkD "_law_folk" (topS 57), mkD "_law_mixed" (topS 63), mkD "_law_few" (topS 65), mkD "_law_deed" (topS 66), mkD "_law_act" (topS 67), mkD "is_whole" (topS 14), mkD "is_within" (topS 15), mkD "is_day" (topS 16), mkD "is_age" (topS 17), mkD "is_person" (topS 18), mkD "is_folk" (topS 19), mkD "is_rising" (topS 20), mkD "is_rising_below" (topS 21), mkD "is_deed_tail" (topS 22), mkD "is_act_tail" (topS 23), mkD "is_entry" (topS 24), mkD "names_fit" (topS 25), mkD "entries_rising" (topS 26), mkD "named_in" (topS 43), mkD "with_entry" (topS 44), mkD "without_entry" (topS 45), mkD "by_numbers" (topS 51), mkD "_law_thing" (topS 69), mkD "_law_spoilt" (topS 70), mkD "_law_named" (topS 59), mkD "_law_due_of" (topS 71), mkD "_law_new_entry" (topS 68), mkD "_law_due_out" (topS 60), mkD "_law_said" (topS 58), mkD "_law_due_less" (topS 61), mkD "_law_less" (topS 62), mkD "_law_due_in" (topS 72), mkD "_law_by_number" (topS 73), mkD "_law_with" (topS 74), mkD "_law_step" (topS 75), mkD "law" (topS 76), ⟨("Scribe", some "__init__"), "__init__", "Scribe.__init__", defArgs (L2.inClass (topS 52) 0), defBody (L2.inClass (topS 52) 0), defScope (L2.inClass (topS 52) 0), [], []⟩, ⟨("Scribe", some "turn_to"), "turn_to", "Scribe.turn_to", defArgs (L2.inClass (topS 52) 1), defBody (L2.inClass (topS 52) 1), defScope (L2.inClass (topS 52) 1), [], []⟩, ⟨("Scribe", some "write"), "write", "Scribe.write", defArgs (L2.inClass (topS 52) 2), defBody (L2.inClass (topS 52) 2), defScope (L2.inClass (topS 52) 2), [], []⟩, ⟨("Scribe", some "tear"), "tear", "Scribe.tear", defArgs (L2.inClass (topS 52) 3), defBody (L2.inClass (topS 52) 3), defScope (L2.inClass (topS 52) 3), [], []⟩, ⟨("Scribe", some "undo"), "undo", "Scribe.undo", defArgs (L2.inClass (topS 52) 4), defBody (L2.inClass (topS 52) 4), defScope (L2.inClass (topS 52) 4), [], []⟩, ⟨("Scribe", some "book"), "book", "Scribe.book", defArgs (L2.inClass (topS 52) 5), defBody (L2.inClass (topS 52) 5), defScope (L2.inClass (topS 52) 5), [], []⟩, ⟨("Scribe", some "twin"), "twin", "Scribe.twin", defArgs (L2.inClass (topS 52) 7), defBody (L2.inClass (topS 52) 7), defScope (L2.inClass (topS 52) 7), [], []⟩, ⟨("Scribe", some "__eq__"), "__eq__", "Scribe.__eq__", defArgs (L2.inClass (topS 52) 9), defBody (L2.inClass (topS 52) 9), defScope (L2.inClass (topS 52) 9), [], []⟩]
def faAll : List He.Fa := [.glo "_law_cell_at", .glo "_law_pen", .glo "_law_draw", .glo "_law_day", .glo "_law_folk", .glo "_law_mixed", .glo "_law_few", .glo "_law_deed", .glo "_law_act", .glo "is_whole", .glo "is_within", .glo "is_day", .glo "is_age", .glo "is_person", .glo "is_folk", .glo "is_rising", .glo "is_rising_below", .glo "is_deed_tail", .glo "is_act_tail", .glo "is_entry", .glo "names_fit", .glo "entries_rising", .glo "named_in", .glo "with_entry", .glo "without_entry", .glo "by_numbers", .glo "_law_thing", .glo "_law_spoilt", .glo "_law_named", .glo "_law_due_of", .glo "_law_new_entry", .glo "_law_due_out", .glo "_law_said", .glo "_law_due_less", .glo "_law_less", .glo "_law_due_in", .glo "_law_by_number", .glo "_law_with", .glo "_law_step", .glo "law", .free "range", .free "min", .free "max", .free "tuple", .free "list", .free "len", .free "sorted", .free "int", .free "isinstance", .free "bool", .free "dict", .free "any", .free "all", .free "zip", .free "str", .free "super", .free "repr", .free "enumerate", .int "NUMBER" 0, .int "WORD" 4, .int "OF" 5, .int "RESTS" 7, .int "LAST_DAY" 9999, .int "LAST_NUMBER" 30, .int "LAST_HAND" 3, .int "MOST_FOLK" 6, .int "MOST_ENTRIES" 16, .int "MOST_RESTS" 2, .int "MOST_WITNESSES" 3, .glo "ACT_WORDS", .glo "Scribe", .glo "NoEntry", .glo "Twice", .glo "NoName", .glo "TooMany", .glo "Missing", .glo "Named", .glo "NothingDone", .glo "NoFolk", .glo "NoAge", .exc "NoEntry", .exc "NoName", .exc "TooMany", .exc "Missing", .exc "NothingDone", .exc "NoFolk", .exc "NoAge", .exm "NoEntry" "NoEntry" true, .exm "Twice" "NoEntry" false, .exm "Twice" "Twice" true, .exm "NoName" "NoEntry" false, .exm "NoName" "Twice" false, .exm "NoName" "NoName" true, .exm "TooMany" "NoEntry" false, .exm "TooMany" "Twice" false, .exm "TooMany" "NoName" false, .exm "TooMany" "TooMany" true, .exm "Missing" "NoEntry" false, .exm "Missing" "Twice" false, .exm "Missing" "NoName" false, .exm "Missing" "TooMany" false, .exm "Missing" "Missing" true, .exm "Named" "NoEntry" false, .exm "Named" "Twice" false, .exm "Named" "NoName" false, .exm "Named" "TooMany" false, .exm "Named" "Missing" false, .exm "Named" "Named" true, .exm "NothingDone" "NoEntry" false, .exm "NothingDone" "Twice" false, .exm "NothingDone" "NoName" false, .exm "NothingDone" "TooMany" false, .exm "NothingDone" "Missing" false, .exm "NothingDone" "Named" false, .exm "NothingDone" "NothingDone" true, .exm "NoFolk" "NoFolk" true, .exm "NoAge" "NoAge" true, .cls "Scribe", .noat "Scribe" "kept", .noat "Scribe" "earlier", .mkr "Scribe", .meth "Scribe" "turn_to", .meth "Scribe" "write", .meth "Scribe" "tear", .meth "Scribe" "undo", .meth "Scribe" "book", .meth "Scribe" "twin"]
def tfAll : List He.Defn := [("entries_rising", none), ("_law_step", none), ("law", none)]
abbrev tsAll : List He.Tab := []
def exAll (K : PySem.W.Frag) : Bool := He.tupB K "ACT_WORDS" [.str "paid", .str "void", .str "undone"] && (xfB K (He.ga K "Twice") && (xfB K (He.ga K "Named") && (decide ((He.cT K ("entries_rising", none)).2 ≠ (He.cT K ("_law_step", none)).2) && (decide ((He.cT K ("entries_rising", none)).2 ≠ (He.cT K ("law", none)).2) && (decide ((He.cT K ("_law_step", none)).2 ≠ (He.cT K ("law", none)).2) && ((decide (PySem.W.findIn K (.ref (He.ga K "Scribe")) "__eq__" = some (some (.ref (He.fAd K ("Scribe", some "__eq__"))))) && PySem.W.isFn K (.ref (He.fAd K ("Scribe", some "__eq__")))) && (decide (PySem.W.findIn K (.ref (He.ga K "Scribe")) "__ne__" = some (some (.builtin "object.__ne__"))) && (decide (PySem.W.mroIn K (He.ga K "Scribe") (.type "object") = some true) && (decide (PySem.W.findIn K (.ref (He.ga K "Scribe")) "__class__" = some (some (.builtin "object.__class__"))) && (decide (PySem.W.specialIn K (.builtin "object.__class__") "__get__" = some (some (.builtin "getset_descriptor.__get__"))) && (decide (PySem.W.takesIn K (.builtin "object.__class__") = some true) && (decide (PySem.W.kitOne K (.ref (He.ga K "Scribe")) (.ref (He.ga K "Scribe")) = some true) && (((["NoneType", "bool", "int", "str", "list", "tuple", "dict"] : List String).all fun x => decide (PySem.W.kitOne K (.type x) (.ref (He.ga K "Scribe")) = some false)) && (SupX.supB PySem.Challenge.rw_deedsheaf_k73_scribes_alike_and_apart.prog K "Twice" "Twice.__init__" "at" && (SupX.supB PySem.Challenge.rw_deedsheaf_k73_scribes_alike_and_apart.prog K "Named" "Named.__init__" "by")))))))))))))))
abbrev rowR : PySem.W.OpenRow := PySem.W.OpenLaw.row PySem.Challenge.rw_deedsheaf_k73_scribes_alike_and_apart
abbrev twV : SupX.FnS × SupX.FnS := (some ("__init__", "Twice.__init__", defArgs (L2.inClass (topS 40) 0), FuncBody.stmts (defBody (L2.inClass (topS 40) 0)), defScope (L2.inClass (topS 40) 0), mainGlobals, [("__class__" : Str)], builtinsNs), some ("__init__", "Named.__init__", defArgs (L2.inClass (topS 41) 0), FuncBody.stmts (defBody (L2.inClass (topS 41) 0)), defScope (L2.inClass (topS 41) 0), mainGlobals, [("__class__" : Str)], builtinsNs))
def two (K : PySem.W.Frag) : SupX.FnS × SupX.FnS := (SupX.fnS K (He.fAd K ("Twice", some "__init__")), SupX.fnS K (He.fAd K ("Named", some "__init__")))
def kOf (g : Addr → Option Obj) : PySem.W.Frag := He.frT g (PySem.cStatics :: He.asD g 5)
theorem says_as {fa : List He.Fa} {fn : List He.DefD} {ts : List He.Tab} {tf : List He.Defn} {ex : PySem.W.Frag → Bool} {w : World} {h : Heap} {K : PySem.W.Frag} (hn : ∀ a o, h.get? a = some o → He.emptyTab o = true → K.lookup a = none) (e1 : He.obsT fa fn ts K = He.valT fn ts w) (e2 : (ex K && He.tabsB h.get? tf K) = true) : He.SaysX fa fn ts tf ex w h K := by
  obtain ⟨h1, h2⟩ := He.ba e2
  have key := fun p hp => He.ba (List.all_eq_true.mp h2 p hp)
  refine ⟨e1, h1, fun p hp => (key p hp).1, fun p hp => ?_, fun p hp => ?_⟩
  · have h3 := (key p hp).2
    split at h3
    · rename_i o q
      exact hn _ _ q h3
    · cases h3
  · have h3 := (key p hp).2
    split at h3
    · rename_i o q
      rw [q, He.emptyTab_eq h3]
    · cases h3
def hk : PySem.W.Hook where
  α := (He.AlT × Bool) × (SupX.FnS × SupX.FnS)
  obs := fun s => ((He.obsT faAll fnAll tsAll (kOf s.heap.get?), exAll (kOf s.heap.get?) && He.tabsB s.heap.get? tfAll (kOf s.heap.get?)), two (kOf s.heap.get?))
  val := fun w => ((He.valT fnAll tsAll w, true), twV)
  says := fun w h => ∃ K : PySem.W.Frag, K.In h ∧ He.SaysX faAll fnAll tsAll tfAll exAll w h K ∧ two K = twV
  of := fun _ _ e => ⟨_, He.frT_in, says_as (fun _ _ q z => He.frT_none q z) (congrArg (fun z : (He.AlT × Bool) × (SupX.FnS × SupX.FnS) => z.1.1) e) (congrArg (fun z : (He.AlT × Bool) × (SupX.FnS × SupX.FnS) => z.1.2) e), congrArg (fun z : (He.AlT × Bool) × (SupX.FnS × SupX.FnS) => z.2) e⟩
  keeps := fun _ _ _ ⟨K, hK, c, e⟩ k => ⟨K, PySem.W.Frag.In.keeps hK k, ⟨c.t, c.more, c.hd, c.out, fun p hp => k _ _ (c.empty p hp)⟩, e⟩
def ob (s : PySem.W.SharedT) : (He.AlT × Bool) × (SupX.FnS × SupX.FnS) := ((He.obsT faAll fnAll tsAll (kOf (HandSHeadRun.getT s)), exAll (kOf (HandSHeadRun.getT s)) && He.tabsB (HandSHeadRun.getT s) tfAll (kOf (HandSHeadRun.getT s))), two (kOf (HandSHeadRun.getT s)))
theorem ob_eq (s : PySem.W.SharedT) : ob s = hk.obs s.abs := by
  have e : HandSHeadRun.getT s = s.abs.heap.get? := funext (HandSHeadRun.getT_eq s)
  unfold ob
  rw [e] <;> rfl
def looseAll : List Str := (["_wall", "NUMBER", "WORD", "OF", "RESTS", "ACT_WORDS", "LAST_DAY", "LAST_NUMBER", "LAST_HAND", "MOST_FOLK", "MOST_ENTRIES", "MOST_RESTS"] : List Str) ++ (["MOST_WITNESSES", "is_whole", "is_within", "is_day", "is_age", "is_person", "is_folk", "is_rising", "is_rising_below", "is_deed_tail", "is_act_tail", "is_entry"] : List Str) ++ (["names_fit", "entries_rising", "deed_entries", "act_entries", "deeds_of", "acts_of", "SheafError", "NoEntry", "NoName", "TooMany", "Missing", "NoFolk"] : List Str) ++ (["NoAge", "NothingDone", "Twice", "Named", "named_in", "with_entry", "without_entry", "person_text", "part_text", "book_text", "by_numbers", "Scribe"] : List Str) ++ (["_law_pen", "_law_cell_at", "_law_draw", "_law_folk", "_law_said", "_law_named", "_law_due_out", "_law_due_less", "_law_less", "_law_mixed", "_law_day", "_law_few"] : List Str) ++ (["_law_deed", "_law_act", "_law_new_entry", "_law_thing", "_law_spoilt", "_law_due_of", "_law_due_in", "_law_by_number", "_law_with", "_law_step"] : List Str)
theorem run (w : World) : HandSHeadRun.RunEq rowR (PySem.W.view rowR.prog [76]) hk ob 12000 looseAll w := by
  intro os
  kernel_rfl
end Deed

namespace Deed
open PySem PySem.Spec PyProof.Rows L2
/-- a def of the top: where it stands, how its arguments come, its name -/
structure Df (K : PySem.W.Frag) (mg : Str → Option Value) (x : Str) (st : Stmt) (ps : List Str) (f : Addr) (fd : FuncData) : Prop where
  F : Fun K x x st f fd
  b : Binds K fd ps []
  g : mg x = some (.ref f)
theorem am0 {φ : V → Prop} : ∀ y ∈ ([] : List V), φ y := fun _ h => nomatch h
theorem am1 {φ : V → Prop} {x : V} {xs : List V} (h : φ x) (r : ∀ y ∈ xs, φ y) : ∀ y ∈ x :: xs, φ y := fun y hy => (List.mem_cons.mp hy).elim (fun e => e ▸ h) (r y)
/-- an item of a written list at an open place -/
theorem pick {xs : List V} {i : Int} (φ : V → Prop) (h0 : 0 ≤ i) (h1 : i < (xs.length : Int)) (hx : ∀ x ∈ xs, φ x) : ∃ v, atI xs i = some v ∧ φ v := by
  have hk : i.toNat < xs.length := by omega
  exact ⟨xs[i.toNat], at_of (j := i.toNat) (by omega) (List.getElem?_eq_getElem hk), hx _ (List.getElem_mem hk)⟩
/-- an int within bounds -/
def Within (lo hi : Int) (x : V) : Prop := ∃ n : Int, x = .int n ∧ lo ≤ n ∧ n ≤ hi
section
variable {P : Program} {w : World} {K : PySem.W.Frag} {mg : Str → Option Value} {base : Heap} {fDr : Addr} {dDr : FuncData}
abbrev DrawD (K : PySem.W.Frag) (mg : Str → Option Value) := Df K mg "_law_draw" sDraw ["_law_pen_here", "_law_bound"]
/-- a person at x -/
def PersonAt (H : Hp) (x : V) : Prop := ∃ (a : Addr) (b : Int) (d : V), x = .ref a ∧ H a = some (.tup [.int b, d]) ∧ -9999 ≤ b ∧ b ≤ 9998 ∧ (d = .non ∨ ∃ i : Int, d = .int i ∧ b < i ∧ i ≤ 9999)
theorem PersonAt.kp {p : Addr} {H H' : Hp} {x : V} (h : PersonAt H x) (k : Kp p H H') (P : PenAt H p) : PersonAt H' x := by
  obtain ⟨a, b, d, e, h1, r⟩ := h
  exact ⟨a, b, d, e, k _ _ (P.ne h1 fun _ z => by cases z) h1, r⟩
def FolkAt (H : Hp) (t : Addr) (n : Nat) : Prop := ∃ xs : List V, H t = some (.tup xs) ∧ xs.length = n ∧ ∀ x ∈ xs, PersonAt H x
theorem FolkAt.kp {p : Addr} {H H' : Hp} {t : Addr} {n : Nat} (h : FolkAt H t n) (k : Kp p H H') (P : PenAt H p) : FolkAt H' t n := by
  obtain ⟨xs, h1, h2, h3⟩ := h
  exact ⟨xs, k _ _ (P.ne h1 fun _ z => by cases z) h1, h2, fun x hx => (h3 x hx).kp k P⟩
end
end Deed

namespace Deed
open PySem PySem.Spec PyProof.Rows L2
theorem seqIx {i : Int} {n : Nat} (h0 : 0 ≤ i) (h1 : i < n) : seqIndex? i n = some i.toNat := seqIndex_of h0 h1
theorem rising_of {l : List Int} (hn : l.Nodup) (hp : l.Pairwise (· ≤ ·)) : l.Pairwise (· < ·) := by
  induction l with
  | nil => exact .nil
  | cons x r ih =>
    have h1 := List.nodup_cons.mp hn
    have h2 := List.pairwise_cons.mp hp
    refine List.pairwise_cons.mpr ⟨fun y hy => ?_, ih h1.2 h2.2⟩
    have h3 := h2.1 y hy
    have h4 : x ≠ y := fun e => h1.1 (e ▸ hy)
    omega
theorem perm_erase {α : Type} {l : List α} {k : Nat} {y : α} (h : l[k]? = some y) : (y :: l.eraseIdx k).Perm l := by
  induction l generalizing k with
  | nil => simp at h
  | cons a r ih =>
    cases k with
    | zero =>
      have e : a = y := by simpa using h
      subst e
      exact List.Perm.refl _
    | succ k =>
      have h' : r[k]? = some y := by simpa using h
      show (y :: a :: r.eraseIdx k).Perm (a :: r)
      exact (List.Perm.swap a y _).trans ((ih h').cons a)
theorem erase_map {α β : Type} (f : α → β) : ∀ (l : List α) (k : Nat), (l.map f).eraseIdx k = (l.eraseIdx k).map f
  | [], _ => rfl
  | _ :: _, 0 => rfl
  | a :: r, k + 1 => congrArg (List.cons (f a)) (erase_map f r k)
end Deed

namespace Deed
open PySem PySem.Spec PyProof.Rows L2
/-! ### lists of ints compared -/
theorem dp_ints {K : PySem.W.Frag} {H : Hp} : ∀ ns : List Int, DpAll K H (ns.map V.int) (ns.map PyData.int)
  | [] => .nil
  | n :: r => .cons (.int n) (dp_ints r)
theorem lay_ints : ∀ ns : List Int, PyData.canLayAll0 (ns.map PyData.int) = true
  | [] => by simp [PyData.canLayAll0]
  | n :: r => by simp [PyData.canLayAll0, PyData.canLay0, lay_ints r]
theorem depth_ints : ∀ ns : List Int, PyData.depthAll (ns.map PyData.int) ≤ 1
  | [] => by simp [PyData.depthAll]
  | n :: r => by
    have h := depth_ints r
    simp only [List.map_cons, PyData.depthAll, PyData.depth]
    omega
theorem shaped_ints (ns : List Int) : SeqAt.shaped (.list (ns.map PyData.int)) = true := by
  have h1 := depth_ints ns
  have h2 : PyData.depth (.list (ns.map PyData.int)) ≤ 64 := by
    simp only [PyData.depth]
    omega
  show (PyData.canLay0 (.list (ns.map PyData.int)) && decide (PyData.depth (.list (ns.map PyData.int)) ≤ 64)) = true
  rw [Bool.and_eq_true]
  exact ⟨by simp only [PyData.canLay0]; exact lay_ints ns, decide_eq_true h2⟩
theorem eqvAll_ints : ∀ ns ms : List Int, PyData.eqvAll (ns.map PyData.int) (ms.map PyData.int) = decide (ns = ms)
  | [], [] => by simp [PyData.eqvAll]
  | [], _ :: _ => by simp [PyData.eqvAll]
  | _ :: _, [] => by simp [PyData.eqvAll]
  | n :: r, m :: q => by
    simp only [List.map_cons, PyData.eqvAll, PyData.eqv, eqvAll_ints r q]
    by_cases h : n = m
    · subst h
      simp
    · simp [h]
theorem eqv_ints (ns ms : List Int) : PyData.eqv (.list (ns.map PyData.int)) (.list (ms.map PyData.int)) = decide (ns = ms) := by
  simp only [PyData.eqv]
  exact eqvAll_ints ns ms
theorem mem_inV {n : Int} {ns : List Int} : inV (.int n) (ns.map V.int) = decide (n ∈ ns) := by
  induction ns with
  | nil => simp [inV]
  | cons m r ih =>
    have e : inV (.int n) ((m :: r).map V.int) = (eqV (.int m) (.int n) || inV (.int n) (r.map V.int)) := by simp [inV]
    have e2 : eqV (.int m) (.int n) = decide (m = n) := by
      first | rfl | simp [eqV] | (unfold eqV; simp)
    rw [e, ih, e2]
    by_cases h : m = n
    · subst h
      simp
    · have h' : ¬ n = m := fun z => h z.symm
      simp [h, h']
theorem flat_ints (ns : List Int) : (ns.map V.int).all flatV = true := by
  induction ns with
  | nil => rfl
  | cons n r ih =>
    rw [List.map_cons, List.all_cons, ih]
    rfl
/-! ### entries -/
inductive Kd where
  | deed (g t : Int) (rs ws : List Int)
  | act (x : Str) (o : Int)
structure En where
  num : Int
  day : Int
  wri : Int
  hand : Int
  kd : Kd
def En.isDeed (e : En) : Bool := match e.kd with
  | .deed _ _ _ _ => true
  | .act _ _ => false
/-- the entry e at the address a -/
def EntAt (H : Hp) (a : Addr) (e : En) : Prop := match e.kd with
  | .deed g t rs ws => ∃ r w : Addr, H a = some (.tup [.int e.num, .int e.day, .int e.wri, .int e.hand, .str "deed", .int g, .int t, .ref r, .ref w]) ∧ H r = some (.tup (rs.map V.int)) ∧ H w = some (.tup (ws.map V.int))
  | .act x o => H a = some (.tup [.int e.num, .int e.day, .int e.wri, .int e.hand, .str x, .int o])
/-- all that isn't a list is kept -/
def KpT (H H' : Hp) : Prop := ∀ b xs, H b = some (.tup xs) → H' b = some (.tup xs)
theorem Kp.tup {p : Addr} {H H' : Hp} (k : Kp p H H') (P : PenAt H p) : KpT H H' := fun b xs e => k _ _ (P.ne e fun _ z => by cases z) e
theorem Same.tup {H H' : Hp} (k : Same H H') : KpT H H' := fun b xs e => k _ _ e
theorem KpT.trans {H H1 H2 : Hp} (a : KpT H H1) (b : KpT H1 H2) : KpT H H2 := fun c o h => b c o (a c o h)
theorem EntAt.kp {H H' : Hp} {a : Addr} {e : En} (h : EntAt H a e) (k : KpT H H') : EntAt H' a e := by
  unfold EntAt at h ⊢
  cases hk : e.kd with
  | deed g t rs ws =>
    rw [hk] at h
    obtain ⟨r, w, h1, h2, h3⟩ := h
    exact ⟨r, w, k _ _ h1, k _ _ h2, k _ _ h3⟩
  | act x o =>
    rw [hk] at h
    exact k _ _ h
def EnOk (n : Nat) (ds as : List Int) (e : En) : Prop := (0 ≤ e.day ∧ e.day ≤ 9999) ∧ (0 ≤ e.wri ∧ e.wri ≤ 9999) ∧ (0 ≤ e.hand ∧ e.hand ≤ 3) ∧ match e.kd with
  | .deed g t rs ws => (0 ≤ g ∧ g < n) ∧ (0 ≤ t ∧ t < n) ∧ g ≠ t ∧ rs.length ≤ 2 ∧ rs.Pairwise (· < ·) ∧ (∀ r ∈ rs, r ∈ ds ∧ r < e.num) ∧ ws.length ≤ 3 ∧ ws.Pairwise (· < ·) ∧ ∀ x ∈ ws, 0 ≤ x ∧ x < n ∧ x ≠ g ∧ x ≠ t
  | .act x o => ((x = "undone" ∧ o ∈ as) ∨ ((x = "paid" ∨ x = "void") ∧ o ∈ ds)) ∧ o < e.num
theorem EnOk.mono {n : Nat} {ds as ds' as' : List Int} {e : En} (h : EnOk n ds as e) (h1 : ∀ x ∈ ds, x ∈ ds') (h2 : ∀ x ∈ as, x ∈ as') : EnOk n ds' as' e := by
  unfold EnOk at h ⊢
  obtain ⟨a, b, c, d⟩ := h
  refine ⟨a, b, c, ?_⟩
  cases hk : e.kd with
  | deed g t rs ws =>
    rw [hk] at d
    obtain ⟨d1, d2, d3, d4, d5, d6, d7⟩ := d
    exact ⟨d1, d2, d3, d4, d5, fun r hr => ⟨h1 _ (d6 r hr).1, (d6 r hr).2⟩, d7⟩
  | act x o =>
    rw [hk] at d
    obtain ⟨d1, d2⟩ := d
    refine ⟨?_, d2⟩
    rcases d1 with ⟨z, m⟩ | ⟨z, m⟩
    · exact .inl ⟨z, h2 _ m⟩
    · exact .inr ⟨z, h1 _ m⟩
/-- the built-ins' names are the built-ins' -/
structure Bi (mg : Str → Option Value) : Prop where
  range : mg "range" = none
  min : mg "min" = none
  max : mg "max" = none
  tuple : mg "tuple" = none
  list : mg "list" = none
  len : mg "len" = none
  sorted : mg "sorted" = none
  int : mg "int" = none
end Deed

namespace Deed
open PySem PySem.Spec PyProof.Rows L2
def rLenS (K : PySem.W.Frag) : List V → Hp → VK → Prop := fun xs H Q => ∃ p ys, xs = [.ref p] ∧ (SqL K H p ys ∨ SqT K H p ys) ∧ Q (.int ys.length) H
section
variable {P : Program} {w : World} {K : PySem.W.Frag} {mg : Str → Option Value} {base : Heap} {fDr : Addr} {dDr : FuncData}
/-! ### in another order -/
abbrev sMixed : Stmt := topS 63
abbrev nMixed : List Str := ["_law_pen_here", "_law_some", "_law_left", "_law_k"]
theorem scMixed : FnScope nMixed ["_law_pen_here", "_law_some"] (defScope sMixed) := ⟨rfl, rfl, rfl, by decide +kernel, rfl, by decide +kernel, by decide +kernel⟩
def spMixed (K : PySem.W.Frag) : Sp := fun vs H Q _ => ∃ (p a : Addr) (xs : List V), vs = [.ref p, .ref a] ∧ PenAt H p ∧ (SqL K H a xs ∨ SqT K H a xs) ∧ xs.length ≤ 1000 ∧
  ∀ l (ys : List V) H', Kp p H H' → PenAt H' p → H l = none → H' l = some (.lst ys) → ys.Perm xs → Q (.ref l) H'
theorem ok_mixed {f : Addr} {fd : FuncData} {k : Nat} (F : Fun K "_law_mixed" "_law_mixed" sMixed f fd) (D : DrawD K mg fDr dDr) (B : Bi mg) : FnOk P w K mg base CX0 (k + 2) f fd ["_law_pen_here", "_law_some"] (spMixed K) := by
  have G : FnOk P w K mg base CX0 (k + 1) fDr dDr ["_law_pen_here", "_law_bound"] spDraw := ok_draw D.F
  refine F.ok scMixed (fun vs H Q E h => ?_) (fun cdv A outer s H vs Q E hr h => ?_)
  · obtain ⟨p, a, xs, rfl, _⟩ := h
    rfl
  · obtain ⟨p, a, xs, rfl, hP, hS, hxl, q⟩ := h
    refine ⟨_, pss_cons (ps_set (i := 2) scMixed.nd rfl (.inr rfl) (pe_callTy call_list_of (by rfl) B.list (by decide +kernel) (pa_cons (pv 1) pa_nil)))
      (pss_one (ps_ret (pe_lc (own := [("_law_k", 3)]) (g := gName 3) (by rfl) scMixed.nd (pi_range1 (by rfl) B.range (pa_cons (pe_callB call_len_seq (by rfl) B.len PySem.boot_len (pa_cons (pv 2) pa_nil)) pa_nil)) (blkOk_by (own := [("_law_k", 3)]) (N := nMixed) (sc := defScope sMixed) (by decide +kernel)) (fun _ _ _ _ _ => pg_name (i := 3) scMixed.nd rfl (Or.inl rfl)) (fun _ _ _ _ _ => pts_nil)
        (fun _ _ _ _ _ => show PE _ _ (tBM K "list" rPopAt (tVar 2) (tCons (tCall spDraw [] E0 (tCons (tVar 0) (tCons (tCB (rLenS K) (tCons (tVar 2) tNil)) tNil))) tNil)) from pe_bm PySem.F.plainAttrs_list PySem.F.slot_list_pop PySem.F.type_list_pop mt_popAt (pv 2) (pa_cons (pe_call G hr (by rfl) D.g D.F.kp D.b .nil pass0 (pa_cons (pv 0) (pa_cons (pe_callB call_len_seq (by rfl) B.len PySem.boot_len (pa_cons (pv 2) pa_nil)) pa_nil))) pa_nil))))), ?_⟩
    refine ⟨_, rfl, a, _, rfl, hS, fun l hl => ?_⟩
    have nl : l ≠ p := hP.free hl
    have el : (upd H l (.lst xs)) l = some (.lst xs) := upd_same
    refine ⟨_, rfl, l, xs, rfl, .inl (SqL.of el), _, rfl, by omega, by omega, fun o no => ?_⟩
    have no' : o ≠ p := (hP.new hl _).free no
    have nlo : l ≠ o := fun z => by
      rw [← z, el] at no
      cases no
    have hno : H o = none := by
      rw [upd_ne nlo.symm] at no
      exact no
    refine lc_range (lo := 0) (n := ((xs.length : Nat) : Int).toNat) (fun i H' => ∃ ys ls : List V, H' o = some (.lst ys) ∧ H' l = some (.lst ls) ∧ Kp p H H' ∧ PenAt H' p ∧ ys.length = i ∧ (ys ++ ls).Perm xs)
      ⟨[], xs, upd_same, by rw [upd_ne nlo]; exact el, (Kp.new hl _).trans (Kp.new no _), (hP.new hl _).new no _, rfl, List.Perm.refl _⟩ ?_ ?_
    · rintro i H' hi ⟨ys, ls, e1, e2, k', P', hyl, hpm⟩
      have hll : ls.length = xs.length - i := by
        have := hpm.length_eq
        rw [List.length_append] at this
        omega
      refine ⟨rfl, ?_⟩
      unfold tYes
      dsimp only
      rw [if_pos rfl]
      refine ⟨_, rfl, .inl ⟨rfl, _, SqL.of e2⟩, _, rfl, _, rfl, l, ls, rfl, .inl (SqL.of e2), p, _, rfl, P', by omega, by omega, fun v2 H2 k2 P2 a2 b2 => ?_⟩
      have e1' := k2 _ _ no' e1
      have e2' := k2 _ _ nl e2
      have hk : v2.toNat < ls.length := by omega
      refine ⟨l, _, v2, v2.toNat, ls[v2.toNat], rfl, rfl, e2', by omega, by omega, seqIx a2 (by omega), List.getElem?_eq_getElem hk, ?_⟩
      refine ⟨ys, by rw [upd_ne nlo.symm]; exact e1', small1000 (by omega), ys ++ [ls[v2.toNat]], ls.eraseIdx v2.toNat, upd_same, by rw [upd_ne nlo, upd_same], fun b z n1 e => ?_, ?_, ?_, ?_⟩
      · rw [upd_ne (ne_of_none e hno), upd_ne (ne_of_none e hl)]
        exact (k'.trans k2) _ _ n1 e
      · obtain ⟨x1, x2, x3, x4, z1, z2⟩ := P2
        exact ⟨x1, x2, x3, x4, by rw [upd_ne no'.symm, upd_ne nl.symm]; exact z1, z2⟩
      · rw [List.length_append, hyl]
        rfl
      · have h1 : (ls[v2.toNat] :: ls.eraseIdx v2.toNat).Perm ls := perm_erase (List.getElem?_eq_getElem hk)
        refine List.Perm.trans ?_ hpm
        rw [List.append_assoc]
        exact List.Perm.append_left ys h1
    · rintro H' ⟨ys, ls, e1, e2, k', P', hyl, hpm⟩
      refine q o ys H' k' P' hno e1 ?_
      have h0 : ls = [] := by
        have := hpm.length_eq
        rw [List.length_append] at this
        exact List.length_eq_zero_iff.mp (by omega)
      rw [h0, List.append_nil] at hpm
      exact hpm
end
end Deed

namespace Deed
open PySem PySem.Spec PyProof.Rows L2
theorem perm_pairs {α β : Type} (f : α → β) {ys xs : List β} (h : ys.Perm xs) : ∀ zs : List α, xs = zs.map f → ∃ zs' : List α, ys = zs'.map f ∧ zs'.Perm zs := by
  induction h with
  | nil =>
    intro zs e
    cases zs with
    | nil => exact ⟨[], rfl, List.Perm.refl _⟩
    | cons z r => cases e
  | cons x _ ih =>
    intro zs e
    cases zs with
    | nil => cases e
    | cons z r =>
      rw [List.map_cons] at e
      injection e with e1 e2
      obtain ⟨zs', h1, h2⟩ := ih r e2
      exact ⟨z :: zs', by rw [List.map_cons, ← h1, e1], h2.cons z⟩
  | swap x y l =>
    intro zs e
    match zs, e with
    | [], e => cases e
    | [_], e => cases e
    | a :: b :: r, e =>
      rw [List.map_cons, List.map_cons] at e
      injection e with e1 e2
      injection e2 with e2 e3
      exact ⟨b :: a :: r, by rw [List.map_cons, List.map_cons, ← e1, ← e2, ← e3], List.Perm.swap _ _ _⟩
  | trans _ _ ih1 ih2 =>
    intro zs e
    obtain ⟨z1, h1, h2⟩ := ih2 zs e
    obtain ⟨z2, h3, h4⟩ := ih1 z1 h1
    exact ⟨z2, h3, h4.trans h2⟩
def dn (es : List En) : List Int := (es.filter (·.isDeed)).map (·.num)
def an (es : List En) : List Int := (es.filter (fun e => !e.isDeed)).map (·.num)
theorem dn_snoc (es : List En) (e : En) : dn (es ++ [e]) = dn es ++ (if e.isDeed then [e.num] else []) := by
  unfold dn
  rw [List.filter_append, List.map_append]
  cases h : e.isDeed <;> simp [List.filter, h]
theorem an_snoc (es : List En) (e : En) : an (es ++ [e]) = an es ++ (if e.isDeed then [] else [e.num]) := by
  unfold an
  rw [List.filter_append, List.map_append]
  cases h : e.isDeed <;> simp [List.filter, h]
theorem dn_sub (es : List En) : ∀ x ∈ dn es, x ∈ es.map (·.num) := fun x hx => by
  obtain ⟨e, he, rfl⟩ := List.mem_map.mp hx
  exact List.mem_map.mpr ⟨e, (List.mem_filter.mp he).1, rfl⟩
theorem an_sub (es : List En) : ∀ x ∈ an es, x ∈ es.map (·.num) := fun x hx => by
  obtain ⟨e, he, rfl⟩ := List.mem_map.mp hx
  exact List.mem_map.mpr ⟨e, (List.mem_filter.mp he).1, rfl⟩
theorem dn_nodup {es : List En} (h : (es.map (fun e => e.num)).Nodup) : (dn es).Nodup := by
  have h1 : (es.filter (fun e => e.isDeed)).Sublist es := List.filter_sublist
  exact (h1.map (fun e => e.num)).nodup h
theorem dn_len (es : List En) : (dn es).length ≤ es.length := by
  unfold dn
  rw [List.length_map]
  exact List.length_filter_le _ _
theorem an_len (es : List En) : (an es).length ≤ es.length := by
  unfold an
  rw [List.length_map]
  exact List.length_filter_le _ _
theorem mem_dn {es : List En} {x : Int} : x ∈ dn es ↔ ∃ e ∈ es, e.isDeed = true ∧ e.num = x := by
  unfold dn
  simp only [List.mem_map, List.mem_filter]
  constructor
  · rintro ⟨e, ⟨h1, h2⟩, h3⟩
    exact ⟨e, h1, h2, h3⟩
  · rintro ⟨e, h1, h2, h3⟩
    exact ⟨e, ⟨h1, h2⟩, h3⟩
theorem mem_an {es : List En} {x : Int} : x ∈ an es ↔ ∃ e ∈ es, e.isDeed = false ∧ e.num = x := by
  unfold an
  simp only [List.mem_map, List.mem_filter, Bool.not_eq_true']
  constructor
  · rintro ⟨e, ⟨h1, h2⟩, h3⟩
    exact ⟨e, h1, h2, h3⟩
  · rintro ⟨e, h1, h2, h3⟩
    exact ⟨e, ⟨h1, h2⟩, h3⟩
/-- entries of a book of n folk -/
structure BkOk (n : Nat) (es : List En) : Prop where
  nd : (es.map (·.num)).Nodup
  rng : ∀ e ∈ es, 0 ≤ e.num ∧ e.num ≤ 30
  ok : ∀ e ∈ es, EnOk n (dn es) (an es) e
theorem BkOk.perm {n : Nat} {es es' : List En} (h : BkOk n es) (p : es'.Perm es) : BkOk n es' := by
  refine ⟨(p.map _).nodup_iff.mpr h.nd, fun e he => h.rng e (p.mem_iff.mp he), fun e he => (h.ok e (p.mem_iff.mp he)).mono (fun x hx => ?_) fun x hx => ?_⟩
  · obtain ⟨e', h1, h2⟩ := mem_dn.mp hx
    exact mem_dn.mpr ⟨e', p.mem_iff.mpr h1, h2⟩
  · obtain ⟨e', h1, h2⟩ := mem_an.mp hx
    exact mem_an.mpr ⟨e', p.mem_iff.mpr h1, h2⟩
def En.word (e : En) : Str := match e.kd with
  | .deed _ _ _ _ => "deed"
  | .act x _ => x
theorem EnOk.word {n : Nat} {ds as : List Int} {e : En} (h : EnOk n ds as e) : e.word = "deed" ↔ e.isDeed = true := by
  unfold En.word En.isDeed
  cases hk : e.kd with
  | deed g t rs ws => simp
  | act x o =>
    have h4 := h.2.2.2
    rw [hk] at h4
    simp only [Bool.false_eq_true, iff_false]
    rcases h4.1 with ⟨z, _⟩ | ⟨z | z, _⟩ <;> rw [z] <;> decide
/-- the first places of an entry -/
theorem EntAt.tup {H : Hp} {a : Addr} {e : En} (h : EntAt H a e) : ∃ xs, H a = some (.tup xs) ∧ atI xs 0 = some (.int e.num) ∧ atI xs 1 = some (.int e.day) ∧ atI xs 2 = some (.int e.wri) ∧ atI xs 3 = some (.int e.hand) ∧ atI xs 4 = some (.str e.word) := by
  unfold EntAt at h
  unfold En.word
  cases hk : e.kd with
  | deed g t rs ws =>
    rw [hk] at h
    obtain ⟨r, w, h1, _⟩ := h
    exact ⟨_, h1, atI_nat (j := 0) rfl, atI_nat (j := 1) rfl, atI_nat (j := 2) rfl, atI_nat (j := 3) rfl, atI_nat (j := 4) rfl⟩
  | act x o =>
    rw [hk] at h
    exact ⟨_, h, atI_nat (j := 0) rfl, atI_nat (j := 1) rfl, atI_nat (j := 2) rfl, atI_nat (j := 3) rfl, atI_nat (j := 4) rfl⟩
theorem FolkAt.kpT {H H' : Hp} {t : Addr} {n : Nat} (h : FolkAt H t n) (k : KpT H H') : FolkAt H' t n := by
  obtain ⟨xs, h1, h2, h3⟩ := h
  refine ⟨xs, k _ _ h1, h2, fun x hx => ?_⟩
  obtain ⟨a, b, d, e, h4, r⟩ := h3 x hx
  exact ⟨a, b, d, e, k _ _ h4, r⟩
theorem KpT.lst {H : Hp} {l : Addr} {xs : List V} (e : H l = some (.lst xs)) (o : HO) : KpT H (upd H l o) := fun b ys h => by
  have nb : b ≠ l := fun z => by
    rw [z, e] at h
    cases h
  rw [upd_ne nb]
  exact h
theorem KpT.refl (H : Hp) : KpT H H := fun _ _ h => h
theorem Kp.over {p l : Addr} {H H' : Hp} (k : Kp p H H') (n : H l = none) (o : HO) : Kp p H (upd H' l o) := fun b u n1 e => by
  rw [upd_ne (ne_of_none e n)]
  exact k _ _ n1 e
theorem PenAt.put {p l : Addr} {H : Hp} (h : PenAt H p) (n : l ≠ p) (o : HO) : PenAt (upd H l o) p := by
  obtain ⟨x1, x2, x3, x4, z1, z2⟩ := h
  exact ⟨x1, x2, x3, x4, by rw [upd_ne n.symm]; exact z1, z2⟩
abbrev refs (zs : List (Addr × En)) : List V := zs.map fun z => .ref z.1
abbrev ens (zs : List (Addr × En)) : List En := zs.map (·.2)
/-- a book at b -/
structure BookAt (H : Hp) (b fk t : Addr) (n : Nat) (age : Int) (zs : List (Addr × En)) : Prop where
  at_ : H b = some (.tup [.ref fk, .int age, .ref t])
  folk : FolkAt H fk n
  n2 : 2 ≤ n
  n6 : n ≤ 6
  age0 : 0 ≤ age
  age1 : age ≤ 9999
  ents : H t = some (.tup (refs zs))
  ent : ∀ z ∈ zs, EntAt H z.1 z.2
  ok : BkOk n (ens zs)
  len : zs.length ≤ 16
theorem BookAt.kp {H H' : Hp} {b fk t : Addr} {n : Nat} {age : Int} {zs : List (Addr × En)} (h : BookAt H b fk t n age zs) (k : KpT H H') : BookAt H' b fk t n age zs :=
  ⟨k _ _ h.at_, h.folk.kpT k, h.n2, h.n6, h.age0, h.age1, k _ _ h.ents, fun z hz => (h.ent z hz).kp k, h.ok, h.len⟩
end Deed

namespace Deed
open PySem PySem.Spec PySem.W PyProof.Rows L2 LamX
/-! ### sorted(e, key=lambda x: x[0]) of a list or tuple of tuples -/
section
variable {prog : Program} {w : World} {A : Around} {E : Value → Shared → Prop} {s : Shared}
theorem collectT {l : Addr} {vs : List Value} {Q : List Value → Shared → Prop} (ht : s.heap.IsTuple l vs.toArray) (hsz : vs.length ≤ sizeLine)
    (h : Q vs { s with heap := (s.heap.push (seqObj "list" #[] 0)).update s.heap.objs.size (Obj.mapSeq (· ++ vs.toArray)) }) : wpAny (model prog w) A (collect (.ref l)) Q E s := by
  obtain ⟨ob, g0, gc, ep, gd⟩ := id ht
  have g1 : (s.heap.push (seqObj "list" #[] 0)).get? l = some ob := Heap.get?_push_of_some _ g0
  unfold collect
  refine wpAny_bind (m := _) (wpAny_runValue (codeAny_builtin entry_proto_collect' ?_))
  show wpAny _ _ (do again (.builtin "list.__iadd__" ⟨[← newList [], Value.ref l], []⟩)) _ _ s
  refine wpAny_bind (wpAny_newList (wpAny_pure ⟨Code.quiet_builtin _ (by decide +kernel), (codeAny_builtin entry_list_iadd' ?_)⟩))
  show wpAny _ _ (Builtin.List.listExtendWith (.ref s.heap.objs.size) (Value.ref l) (.ref s.heap.objs.size)) _ _ { s with heap := s.heap.push (seqObj "list" #[] 0) }
  unfold Builtin.List.listExtendWith
  refine wpAny_bind (wpAny_typeOf (T := "tuple") ⟨ob, g1, gc⟩ ?_)
  have tt : (Value.type "tuple" == Value.type "tuple") = true := by rfl
  rw [if_pos (by simp [tt])]
  refine wpAny_bind (listItems_at g1 gd ?_)
  refine wpAny_bind (listItems_at (n := 0) (xs := #[]) (Heap.get?_push_size _ rfl) rfl ?_)
  rw [if_neg (fun z => by simp at z)]
  refine wpAny_bind (listUpdate_at (n := 0) (xs := #[]) (Heap.get?_push_size _ rfl) rfl ?_ (Nat.zero_le _) (by show (#[] ++ vs.toArray).size ≤ sizeLine + 1; simp only [Array.size_append, List.size_toArray, List.length_nil]; omega))
  refine wpAny_pure (?_)
  show wpAny (model prog w) A (do let o ← load s.heap.objs.size; match o.data with | .seq xs _ => pure xs.toList | _ => unsupported "internal:collect") Q E { s with heap := (s.heap.push (seqObj "list" #[] 0)).update s.heap.objs.size (Obj.mapSeq (· ++ vs.toArray)) }
  refine wpAny_bind (wpAny_load (get?_update_seq (Heap.get?_push_size _ rfl) _) (?_))
  show wpAny _ _ (pure (((#[] : Array Value) ++ vs.toArray).toList)) Q E _
  rw [show (((#[] : Array Value) ++ vs.toArray).toList) = vs by simp]
  exact wpAny_pure h
theorem collectS {l : Addr} {vs : List Value} {Q : List Value → Shared → Prop} (hl : s.heap.IsList l vs.toArray ∨ s.heap.IsTuple l vs.toArray) (hsz : vs.length ≤ sizeLine)
    (h : Q vs { s with heap := (s.heap.push (seqObj "list" #[] 0)).update s.heap.objs.size (Obj.mapSeq (· ++ vs.toArray)) }) : wpAny (model prog w) A (collect (.ref l)) Q E s := by
  rcases hl with hl | hl
  · exact collect_list hl h hsz
  · exact collectT hl hsz h
/-- sorted(e, key=f), e a list or a tuple, the keys ints -/
theorem sortedK {β : Type} {l f : Addr} {vs : List Value} {bs : List β} {R : Value → β → Prop} {Q : Value → Shared → Prop} (k : β → Int) (hl : s.heap.IsList l vs.toArray ∨ s.heap.IsTuple l vs.toArray) (e : EachIs R vs bs) (hL : bs.length ≤ sizeLine) (hu : A.units + 66 < cLine)
    (turn : ∀ (v : Value) (x : β), R v x → x ∈ bs → ∀ (h : Heap) (tk : Nat), (∀ b o, s.heap.get? b = some o → h.get? b = some o) →
      wpAny (model prog w) A.in1.in1 (call (.ref f) [v]) (KeyPure (.int (k x)) { s with heap := h, toks := tk }) (fun _ _ => False) { s with heap := h, toks := tk })
    (h : ∀ out c h' tk, (∀ b o, s.heap.get? b = some o → h'.get? b = some o) → h'.get? (s.heap.objs.size + 1) = some (seqObj "list" (List.toArray out) c) → out.length = bs.length → EachIs R out (bs.mergeSort (dataLe false fun x => .int (k x))) →
      Q (.ref (s.heap.objs.size + 1)) { s with heap := h', toks := tk }) :
    wpAny (model prog w) A (call (.builtin "sorted") [.ref l] [(Str.ofString "key", .ref f)]) Q E s := by
  have hv : vs.length ≤ sizeLine := by rw [e.length]; exact hL
  have up : ∀ {g : Heap}, KeepsBut (s.heap.objs.size + 1) (copyHeap s.heap vs) g → ∀ b o, s.heap.get? b = some o → g.get? b = some o := fun kp b o z =>
    kp b o (Nat.ne_of_lt (Nat.lt_succ_of_lt (Heap.lt_size z))) (copyHeap_old z)
  have ez : ((s.heap.push (seqObj "list" #[] 0)).update s.heap.objs.size (Obj.mapSeq (· ++ vs.toArray))).objs.size = s.heap.objs.size + 1 := by rw [Heap.size_update, size_push']
  refine call_function_entry_kw kind_sorted plain_sorted entry_sorted (ksk_s1 _ _) ?_
  unfold Builtin.«sorted»
  refine wpAny_bind (m := checkCount "sorted" 1 1 _) (wpAny_pure (?_))
  refine wpAny_bind (collectS hl hv ?_)
  refine wpAny_bind (wpAny_newList (?_) hv)
  show wpAny _ _ _ _ _ { s with heap := copyHeap s.heap vs }
  rw [ez]
  refine wpAny_bind (wpAny_holding (wpAny_call_entry_kw slot_list_sort ⟨_, copyHeap_at s.heap vs, rfl⟩ entry_list_sort (?body) (ksk_l1 _ _)))
  case body =>
    show wpAny (model prog w) A.in1.in1 (Builtin.«list.sort» ⟨[.ref (s.heap.objs.size + 1)], [(Str.ofString "key", .ref f)]⟩) _ _ _
    rw [ksk_t1]
    refine keyH_tree (kz := bs.map fun x => PyData.int (k x)) (s := { s with heap := copyHeap s.heap vs }) (copyHeap_at s.heap vs) (by rw [List.length_map]; exact e.length.symm) hv (AllAlike.of fun _ _ => by simp [alike]) ?srt (fun d hd => ?dep)
      (keyH_turns (k := fun x => PyData.int (k x)) (s := { s with heap := copyHeap s.heap vs }) e fun v x hR hx h tk kp => turn v x hR hx h tk (up kp)) fun h' tk out c kp hD ko => ?fin
    case srt => exact Sortable.others fun _ => ⟨(fun z => nomatch z), (fun _ z => nomatch z)⟩
    case dep =>
      obtain ⟨x, _, rfl⟩ := List.mem_map.mp hd
      show A.units + 1 + 1 + PyData.depth (.int (k x)) < cLine
      simp only [PyData.depth]
      omega
    case fin =>
      exact ⟨_, rfl, wpAny_pure ⟨_, rfl, h out c h' tk (up kp) hD ((ko.length (by rw [List.length_map]; exact e.length.symm)).trans e.length) (keyedOut_each (fun x => PyData.int (k x)) ko e)⟩⟩
/-- the call of the lambda -/
theorem lam_key {f c' t : Addr} {x q : Str} {params : Arguments} {ix : Expr} {scope : Scope} {cl : List (Str × Addr)} {pm ctv : Value} {p1 p3 : Pos} {items : Array Value} {kk : Int} {u : Tok} {mg : Str → Option Value}
    (of : s.heap.get? f = some (kla_obj "<lambda>" q params (.Subscript (.Name x p1) ix p3) scope cl pm c' ctv)) (hcd : s.heap.CodeRec (.ref c') q) (hroom : A.depth < recursionLimit) (lim : s.heap.NoLimit) (ns : s.heap.Ns mainGlobals mg)
    (hk : scope.kind = .function) (hco : scope.isCoroutine = false) (hgen : scope.isGenerator = false) (hcell : ∀ y ∈ scope.names, y.2 ≠ .cell) (hloc : scope.names.lookup x = some .local)
    (hbind : ∀ v : Value, bindArgs (kla_fn "<lambda>" q params (.Subscript (.Name x p1) ix p3) scope cl pm (.ref c') ctv) ⟨[v], []⟩ = pure [(x, v)])
    (hix : ∀ (env : Env) (A : Around) (E : Value → Shared → Prop) (s' : Shared) (Q : Value → Shared → Prop), env.scope = scope → env.globals = mainGlobals → s'.heap.Ns mainGlobals mg → (∀ u tk, Q (.int 0 u) { s' with toks := tk }) → wpAny (model prog w) A (eval ix env) Q E s')
    (hpl : PlainIx ix) (hd : (x == ("__debug__" : Str)) = false) (ht : s.heap.IsTuple t items) (hx : items[0]? = some (.int kk u)) :
    wpAny (model prog w) A (call (.ref f) [.ref t]) (KeyPure (.int kk) s) (fun _ _ => False) s := by
  refine wpAny_call (kla_callFunE hroom of rfl hco hgen rfl hcd ?_)
  rw [hbind]
  refine wpAny_pure (wpAny_newFunctionEnv hcell (fun y hy => ?_) (fun h₁ hns hsb => ⟨lim.fresh _ hsb, ?_⟩) hk)
  · rw [List.mem_singleton.mp hy]
    exact hloc
  have kp : ∀ b o, s.heap.get? b = some o → h₁.get? b = some o := fun b o z => hsb.extBut b o (Nat.ne_of_lt (Heap.lt_size z)) (Heap.get?_push_of_some _ z)
  refine kla_codeExpr (Subscript_ (wpAny_Name (wpAny_loadName_local hk hloc hns (v := .ref t) (by simp) ?_) hd))
  refine hix _ _ _ _ _ rfl rfl (ns.keeps kp) fun u' tk' => ?_
  have ht1 : h₁.IsTuple t items := by
    obtain ⟨o, z1, z2, z3⟩ := ht
    exact ⟨o, kp _ _ z1, z2, z3⟩
  have hsz : 0 < items.size := by
    rcases Nat.eq_zero_or_pos items.size with z | z
    · rw [Array.getElem?_eq_none (by omega)] at hx
      cases hx
    · exact z
  refine subscriptTail_builtinR (x := .int kk u) (ht1.typeIs) slot_tuple_getitem.lookup (getItem_tuple (j := 0) (Q := fun r s' => r = .int kk u ∧ KeyPure (.int kk) s r s') ht1 (by decide) (by decide) (seqIndex_of (by decide) (by omega)) hx ⟨rfl, ?_⟩) (hpl _ _)
  exact ⟨h₁, _, rfl, kp, .int _ _⟩
end
end Deed

namespace Deed
open PySem PySem.Spec PySem.W PyProof.Rows L2 LamX
theorem each_vals {xs : List V} {us : List Value} (r : Vals xs us) : EachIs (fun u y => RelV y u) us xs := by
  induction r with
  | nil => exact .nil
  | cons h _ ih => exact .cons h ih
theorem vals_each {xs : List V} {us : List Value} (r : EachIs (fun u y => RelV y u) us xs) : Vals xs us := by
  induction r with
  | nil => exact .nil
  | cons h _ ih => exact .cons h ih
/-- sorted(e, key=lambda x: x[0]): some arrangement by the keys, at a new address; a table may have grown -/
def tSortK (K : PySem.W.Frag) (T : List (Addr × Str)) (te : TA) : TE := fun σ H Q => te σ H fun vs H1 => ∃ (a : Addr) (xs : List V) (ks : V → Int), vs = [.ref a] ∧ (SqL K H1 a xs ∨ SqT K H1 a xs) ∧ (∀ y ∈ xs, ∃ t r, y = .ref t ∧ H1 t = some (.tup (.int (ks y) :: r))) ∧ Tabs T H1 ∧
  ∀ p ys H2, ExtN H1 H2 → Tabs T H2 → H2 p = none → ys.Perm xs → ys.Pairwise (fun u v => ks u ≤ ks v) → Q (.ref p) (upd H2 p (.lst ys))
section
variable {X : Cx}
theorem pe_sortK {T : List (Addr × Str)} {c P : Addr} {k : Nat} {e ix : Expr} {te : TA} {x : Str} {params : Arguments} {scope : Scope} {p p1 p3 lpos kpos pos : Pos}
    (hg : Gl X "sorted") (hm : X.mg "sorted" = none) (ha : PA X [e] te) (hr : Room (k + 1) X.A) (TB : TabB X.base X.mg c P) (hcode : X.env.code = .ref c) (hmT : (P, X.env.qual ++ "<lambda>") ∈ T) (hu : ∀ p ∈ T, p.1 = P → p.2 = X.env.qual ++ "<lambda>")
    (hdef : defaultsOf params X.env = ([], [])) (hfree : ∀ y ∈ scope.names, y.2 ≠ .free)
    (hk : scope.kind = .function) (hco : scope.isCoroutine = false) (hgen : scope.isGenerator = false) (hcell : ∀ y ∈ scope.names, y.2 ≠ .cell) (hloc : scope.names.lookup x = some .local)
    (hbind : ∀ (q : Str) (cl : List (Str × Addr)) (pm cv ctv v : Value), bindArgs (kla_fn "<lambda>" q params (.Subscript (.Name x p1) ix p3) scope cl pm cv ctv) ⟨[v], []⟩ = pure [(x, v)])
    (hix : ∀ (env : Env) (A : Around) (E : Value → Shared → Prop) (s' : Shared) (Q : Value → Shared → Prop), env.scope = scope → env.globals = mainGlobals → s'.heap.Ns mainGlobals X.mg → (∀ u tk, Q (.int 0 u) { s' with toks := tk }) → wpAny (model X.prog X.w) A (eval ix env) Q E s')
    (hpl : PlainIx ix) (hd : (x == ("__debug__" : Str)) = false)
    (h1 : backTo pos (starEach [e] X.env) = (false, eval e X.env) :: backTo pos (starEach [] X.env) := by rfl) (h2 : (backTo pos (starEach [e] X.env)).any (·.1) = false := by rfl) :
    PE X (.Call (.Name "sorted" p) [e] [⟨some "key", .Lambda params (.Subscript (.Name x p1) ix p3) scope lpos, kpos⟩] pos) (tSortK X.K T te) := by
  refine ⟨fun pins s σ H Q I h => ?_⟩
  refine wpAny_Call_Name_kw (ld_blt I hg hm (show bootBuiltins "sorted" = some (.builtin "sorted") by decide +kernel) ?_)
  refine callWith_kw (thn (ha.run pos pins s σ H _ I h) fun us s1 ⟨vs, H1, I1, r1, q1⟩ => ?_) h1 h2 rfl rfl
  obtain ⟨a, xs, ks, rfl, hS, hxs, hT, q⟩ := q1
  obtain rfl := Vals.ref1 r1
  show wpAny _ _ (evalAll [(do let v ← eval (.Lambda params (.Subscript (.Name x p1) ix p3) scope lpos) X.env; standAt pos; pure v)]) _ _ s1
  refine wpAny_evalAll_cons (wpAny_bind (lam_make2 I1 TB hcode hmT hu hT hdef (fun y hy e => absurd e (hfree y hy)) fun f c' pm ctv H2 s2 I2 eN T2 hf hfn hfr hco' => wpAny_bind (wpAny_standAt (wpAny_pure (wpAny_evalAll_nil ?_)))))
  have seqs : ∃ its, Vals xs its ∧ xs.length ≤ sizeLine ∧ (s2.heap.IsList a its.toArray ∨ s2.heap.IsTuple a its.toArray) := by
    rcases hS with hS | hS
    · have hS2 : SqL X.K H2 a xs := by
        rcases hS with (z | ⟨o, z⟩) | z
        · exact .inl (.inl (eN _ _ z fun ps z' => by cases z'))
        · exact .inl (.inr ⟨o, eN _ _ z fun ps z' => by cases z'⟩)
        · exact .inr z
      obtain ⟨its, rv, hl, hz⟩ := I2.list hS2
      exact ⟨its, rv, hz, .inl hl.isList⟩
    · have hS2 : SqT X.K H2 a xs := by
        rcases hS with (z | ⟨o, z⟩) | z
        · exact .inl (.inl (eN _ _ z fun ps z' => by cases z'))
        · exact .inl (.inr ⟨o, eN _ _ z fun ps z' => by cases z'⟩)
        · exact .inr z
      obtain ⟨its, rv, hl, hz⟩ := I2.tuple hS2
      exact ⟨its, rv, hz, .inr hl⟩
  obtain ⟨its, rv, hz, hl⟩ := seqs
  have hun := hr.un
  have hdp := hr.dp
  show wpAny (model X.prog X.w) X.A (call (.builtin "sorted") [.ref a] [(Str.ofString "key", .ref f)]) _ _ s2
  refine sortedK (R := fun u y => RelV y u) ks hl (each_vals rv) hz (by omega) (fun u y hR hy h tk kp => ?_) fun out ep h' tk kp hD hlen eo => ?_
  · obtain ⟨t, r, rfl, ht⟩ := hxs y hy
    obtain rfl : u = Value.ref t := hR
    have ht2 := eN _ _ ht fun ps z' => by cases z'
    obtain ⟨_, its2, r2, o, ho, hc, n, hd2⟩ := I2.hok _ _ ht2
    obtain ⟨oc, vs, tt, c1, c2, c3⟩ := (I2.hok c' _ hco').1
    cases r2 with
    | cons ru r3 =>
      obtain ⟨tu, rfl⟩ := ru
      refine lam_key (u := tu) (s := { s2 with heap := h, toks := tk }) (kp _ _ hf) ⟨c', oc, vs, tt, rfl, kp _ _ c1, c2, c3⟩ ?_ (I2.nolimit.keeps kp) ((I2.mod.glob.keeps I2.bk).keeps kp) hk hco hgen hcell hloc (fun v => hbind _ _ _ _ _ v) hix hpl hd ⟨o, kp _ _ ho, hc, n, hd2⟩ (by simp)
      show X.A.depth < recursionLimit
      omega
  · rw [dataLe_int] at eo
    have hp : (xs.mergeSort fun a b => decide (ks a ≤ ks b)).Perm xs := List.mergeSort_perm _ _
    have hs : (xs.mergeSort fun a b => decide (ks a ≤ ks b)).Pairwise (fun u v => ks u ≤ ks v) := by
      have := List.pairwise_mergeSort (le := fun a b => decide (ks a ≤ ks b)) (fun a b c h1 h2 => by simp only [decide_eq_true_eq] at *; omega) (fun a b => by simp only [Bool.or_eq_true, decide_eq_true_eq]; omega) xs
      exact this.imp fun h => of_decide_eq_true h
    refine ⟨.ref _, _, I2.laid (t' := tk) kp (Nat.le_succ _) (show ObjOk X.prog X.w _ h' _ (.lst (xs.mergeSort fun a b => decide (ks a ≤ ks b))) from ⟨by rw [hp.length_eq]; exact hz, out, ep, vals_each eo, hD⟩), rfl, q _ _ H2 eN T2 (I2.hok.fresh (Nat.le_succ _)) hp hs⟩
end
end Deed

namespace Deed
open PySem PySem.Spec PyProof.Rows L2 LamX
/-! ### a def whose code object's table is told -/
theorem okC {P : Program} {w : World} {K : PySem.W.Frag} {mg : Str → Option Value} {base : Heap} {x qual : Str} {st : Stmt} {f c : Addr} {fd : FuncData} {N ps : List Str} {k : Nat} {sp : Sp} (F : Fun K x qual st f fd) (hc : fd.code = .ref c) (S : FnScope N ps (defScope st)) (len : ∀ vs H Q E, sp vs H Q E → vs.length = ps.length)
    (hbody : ∀ (A : Around) (outer : List Env) (s : Shared) (H : Hp) (vs : List V) (Q : VK) (E : XK), Room k (A.deeper (envOfC qual (defScope st) s.heap.objs.size f (.ref c))) → sp vs H Q E →
      ∃ t, PSs (cxOf CX0 P w K mg base N qual (defScope st) f (.ref c) A outer s H E).nox (defBody st) t ∧ t { nx := fun _ H' => Q .non H', rt := Q } (start N vs) H) : FnOk P w K mg base CX0 (k + 1) f fd ps sp := by
  obtain ⟨oc, od, kV, doc, pm, an, cdv, ct, osl, rfl, lk, hcd⟩ := F.ex
  have e : cdv = .ref c := hc
  subst e
  refine fn_of lk hcd S len fun A outer s H vs Q E hr hsp => ?_
  obtain ⟨t, h, q⟩ := hbody A outer s H vs Q E hr hsp
  exact ⟨t, h.nox, q⟩
/-- the number that stands ahead in the tuple at v -/
def keyAt (H : Hp) (v : V) : Int := match v with
  | .ref t => (match H t with
    | some (.tup (.int n :: _)) => n
    | _ => 0)
  | _ => 0
theorem EntAt.key {H : Hp} {a : Addr} {e : En} (h : EntAt H a e) : ∃ r, H a = some (.tup (.int e.num :: r)) ∧ keyAt H (.ref a) = e.num := by
  have fin : ∀ r, H a = some (.tup (.int e.num :: r)) → keyAt H (.ref a) = e.num := fun r z => by
    show (match H a with | some (.tup (.int n :: _)) => n | _ => 0) = e.num
    rw [z]
  unfold EntAt at h
  cases hk : e.kd with
  | deed g t rs ws =>
    rw [hk] at h
    obtain ⟨r, w, h1, _⟩ := h
    exact ⟨_, h1, fin _ h1⟩
  | act x o =>
    rw [hk] at h
    exact ⟨_, h, fin _ h⟩
/-- what isn't tracked, or a table -/
def Fresh (H : Hp) (p : Addr) : Prop := ∀ o, H p = some o → ∃ ps, o = .tbl ps
theorem Fresh.of {H H' : Hp} {p : Addr} (e : ExtN H H') (n : H' p = none) : Fresh H p := fun o z => by
  by_cases h : ∃ ps, o = .tbl ps
  · exact h
  · rw [e p o z fun ps q => h ⟨ps, q⟩] at n
    cases n
theorem Fresh.ne {H : Hp} {p b : Addr} {o : HO} (f : Fresh H p) (e : H b = some o) (h : ∀ ps, o ≠ .tbl ps) : b ≠ p := fun z => by
  rw [z] at e
  obtain ⟨ps, q⟩ := f o e
  exact h ps q
theorem Fresh.up {H H' : Hp} {p : Addr} (e : ExtN H H') (f : Fresh H' p) : Fresh H p := fun o z => by
  by_cases h : ∃ ps, o = .tbl ps
  · exact h
  · exact f o (e p o z fun ps q => h ⟨ps, q⟩)
theorem ExtN.tup {H H' : Hp} (e : ExtN H H') : KpT H H' := fun b xs z => e _ _ z fun ps q => by cases q
theorem ExtN.new {H : Hp} {p : Addr} (n : H p = none) (o : HO) : ExtN H (upd H p o) := .of fun b u e => by
  rw [upd_ne (ne_of_none e n)]
  exact e
theorem Tabs.new {T : List (Addr × Str)} {H : Hp} (t : Tabs T H) {p : Addr} (n : H p = none) (o : HO) : Tabs T (upd H p o) := t.ext fun b u e => by
  rw [upd_ne (ne_of_none e n)]
  exact e
/-- a tracked list is written: the tables stay -/
theorem Tabs.put {T : List (Addr × Str)} {H : Hp} (t : Tabs T H) {p : Addr} {xs : List V} (e : H p = some (.lst xs)) (o : HO) : Tabs T (upd H p o) := fun q hq => by
  obtain ⟨ps, h1, h2, h3⟩ := t q hq
  have n1 : q.1 ≠ p := fun z => by
    rw [z, e] at h1
    cases h1
  refine ⟨ps, by rw [upd_ne n1]; exact h1, h2, fun pos cv hc => ?_⟩
  obtain ⟨c, e1, e2⟩ := h3 pos cv hc
  refine ⟨c, e1, ?_⟩
  have n2 : c ≠ p := fun z => by
    rw [z, e] at e2
    unfold CodeO at e2
    cases e2
  rw [upd_ne n2]
  exact e2
theorem srt_num {H : Hp} {zs : List (Addr × En)} (he : ∀ z ∈ zs, EntAt H z.1 z.2) (nd : ((ens zs).map (·.num)).Nodup) (h : (refs zs).Pairwise (fun u v => keyAt H u ≤ keyAt H v)) : zs.Pairwise (fun a b => a.2.num < b.2.num) := by
  induction zs with
  | nil => exact .nil
  | cons z r ih =>
    have h1 := List.pairwise_cons.mp h
    have nd' : (z.2.num :: (ens r).map (·.num)).Nodup := nd
    have h2 := List.nodup_cons.mp nd'
    refine List.pairwise_cons.mpr ⟨fun y hy => ?_, ih (fun y hy => he y (List.mem_cons_of_mem _ hy)) h2.2 h1.2⟩
    have h3 := h1.1 (.ref y.1) (List.mem_map.mpr ⟨y, hy, rfl⟩)
    obtain ⟨_, _, k1⟩ := (he z List.mem_cons_self).key
    obtain ⟨_, _, k2⟩ := (he y (List.mem_cons_of_mem _ hy)).key
    rw [k1, k2] at h3
    have h4 : z.2.num ≠ y.2.num := fun q => h2.1 (List.mem_map.mpr ⟨y.2, List.mem_map.mpr ⟨y, hy, rfl⟩, q.symm⟩)
    omega
section
variable {P : Program} {w : World} {K : PySem.W.Frag} {mg : Str → Option Value} {base : Heap} {fRi : Addr} {dRi : FuncData} {T : List (Addr × Str)}
/-- an int of the module's top -/
def MgInt (mg : Str → Option Value) (x : Str) (i : Int) : Prop := ∃ t, mg x = some (.int i t)
theorem pe_num {X : Cx} {x : Str} {i : Int} {pos : Pos} (hg : Gl X x) (h : MgInt X.mg x i) (hd : (x == ("__debug__" : Str)) = false := by decide) : PE X (.Name x pos) (tC (.int i)) := by
  obtain ⟨t, h⟩ := h
  exact pe_glob hg h ⟨t, rfl⟩ hd
/-! ### the entries by their numbers -/
abbrev sRising : Stmt := topS 26
theorem scRising : FnScope ["book"] ["book"] (defScope sRising) := ⟨rfl, rfl, rfl, by decide +kernel, rfl, by decide +kernel, by decide +kernel⟩
/-- the book's text of the lambda's name -/
def qRis : Str := "entries_rising.<locals>.<lambda>"
def spRising (T : List (Addr × Str)) : Sp := fun vs H Q _ => ∃ (b fk t : Addr) (n : Nat) (age : Int) (zs : List (Addr × En)), vs = [.ref b] ∧ BookAt H b fk t n age zs ∧ Tabs T H ∧
  ∀ (p : Addr) (zs' : List (Addr × En)) (H' : Hp), ExtN H H' → Tabs T H' → Fresh H p → H' p = some (.lst (refs zs')) → zs'.Perm zs → zs'.Pairwise (fun a b => a.2.num < b.2.num) → Q (.ref p) H'
theorem ok_rising {f c tb : Addr} {fd : FuncData} {k : Nat} (F : Fun K "entries_rising" "entries_rising" sRising f fd) (hc : fd.code = .ref c) (TB : TabB base mg c tb) (ms : mg "sorted" = none) (mN : MgInt mg "NUMBER" 0) (hmT : (tb, qRis) ∈ T) (hu : ∀ p ∈ T, p.1 = tb → p.2 = qRis) :
    FnOk P w K mg base CX0 (k + 2) f fd ["book"] (spRising T) := by
  refine okC F hc scRising (fun vs H Q E h => ?_) (fun A outer s H vs Q E hr h => ?_)
  · obtain ⟨b, fk, t, n, age, zs, rfl, _⟩ := h
    rfl
  · obtain ⟨b, fk, t, n, age, zs, rfl, hB, hT, q⟩ := h
    refine ⟨_, pss_one (ps_ret (pe_sortK (T := T) (c := c) (P := tb) (k := k) (by rfl) ms (pa_cons (pe_ix ix_tup (pv 0) pe_int (fun _ _ => rfl)) pa_nil) hr TB rfl hmT hu rfl (by decide +kernel) rfl rfl rfl (by decide +kernel) rfl (fun _ _ _ _ _ _ => rfl) (fun env A E s' Q he hg hn hq => ?ix) (fun _ _ => rfl) (by decide))), ?_⟩
    case ix =>
      obtain ⟨tk, hN⟩ := mN
      refine Calls.Name_function_global (by rw [he]) (by unfold Env.kindOf; rw [he]; rfl) (Calls.loadGlobal_global (by rw [hg]; exact hn) hN (hq tk s'.toks))
    refine ⟨_, rfl, b, _, 2, _, rfl, rfl, SqT.of hB.at_, atI_nat (j := 2) rfl, t, refs zs, keyAt H, rfl, .inr (SqT.of hB.ents), fun y hy => ?_, hT, fun p ys H2 eN T2 np pm so => ?_⟩
    · obtain ⟨z, hz, rfl⟩ := List.mem_map.mp hy
      obtain ⟨r, h1, h2⟩ := (hB.ent z hz).key
      exact ⟨z.1, r, rfl, by rw [h2]; exact h1⟩
    · obtain ⟨zs', rfl, hp⟩ := perm_pairs (fun z : Addr × En => V.ref z.1) pm zs rfl
      refine q p zs' _ (eN.trans (ExtN.new np _)) (Tabs.new T2 np _) (Fresh.of eN np) upd_same hp (srt_num (fun z hz => hB.ent z (hp.mem_iff.mp hz)) (((hp.map _).map _).nodup_iff.mpr hB.ok.nd) so)
end
end Deed

namespace Deed
open PySem PySem.Spec PyProof.Rows L2 LamX
theorem take_more {α : Type} {l : List α} {i : Nat} {x : α} (h : l[i]? = some x) : l.take (i + 1) = l.take i ++ [x] := by
  rw [List.take_add_one, h]
  rfl
theorem ref_at {zs : List (Addr × En)} {i : Nat} {x : V} (h : (refs zs)[i]? = some x) : ∃ z, zs[i]? = some z ∧ x = .ref z.1 := by
  rw [List.getElem?_map] at h
  cases e : zs[i]? with
  | none => rw [e] at h; cases h
  | some z =>
    rw [e] at h
    exact ⟨z, rfl, (Option.some.inj h).symm⟩
section
variable {P : Program} {w : World} {K : PySem.W.Frag} {mg : Str → Option Value} {base : Heap} {fRi fDe : Addr} {dRi dDe : FuncData} {T : List (Addr × Str)}
/-- what entries_rising needs -/
structure RisD (K : PySem.W.Frag) (mg : Str → Option Value) (base : Heap) (T : List (Addr × Str)) (f : Addr) (fd : FuncData) : Prop where
  D : Df K mg "entries_rising" sRising ["book"] f fd
  hc : ∃ c tb, fd.code = .ref c ∧ TabB base mg c tb ∧ (tb, qRis) ∈ T ∧ ∀ p ∈ T, p.1 = tb → p.2 = qRis
  ms : mg "sorted" = none
  mN : MgInt mg "NUMBER" 0
theorem RisD.ok {k : Nat} {f : Addr} {fd : FuncData} (R : RisD K mg base T f fd) : FnOk P w K mg base CX0 (k + 2) f fd ["book"] (spRising T) := by
  obtain ⟨c, tb, h1, h2, h3, h4⟩ := R.hc
  exact ok_rising R.D.F h1 h2 R.ms R.mN h3 h4
/-- the entries that φ picks, by their numbers -/
def spPick (φ : En → Bool) (T : List (Addr × Str)) : Sp := fun vs H Q _ => ∃ (b fk t : Addr) (n : Nat) (age : Int) (zs : List (Addr × En)), vs = [.ref b] ∧ BookAt H b fk t n age zs ∧ Tabs T H ∧
  ∀ (p : Addr) (zs' : List (Addr × En)) (H' : Hp), ExtN H H' → Tabs T H' → Fresh H p → H' p = some (.lst (refs (zs'.filter fun z => φ z.2))) → zs'.Perm zs → zs'.Pairwise (fun a b => a.2.num < b.2.num) → Q (.ref p) H'
/-! ### their numbers -/
/-- the numbers of what φ picks, rising -/
def spNums (φ : En → Bool) (T : List (Addr × Str)) : Sp := fun vs H Q _ => ∃ (b fk t : Addr) (n : Nat) (age : Int) (zs : List (Addr × En)), vs = [.ref b] ∧ BookAt H b fk t n age zs ∧ Tabs T H ∧
  ∀ (p : Addr) (zs' : List (Addr × En)) (H' : Hp), ExtN H H' → Tabs T H' → Fresh H p → H' p = some (.lst (((zs'.filter fun z => φ z.2).map fun z => z.2.num).map V.int)) → zs'.Perm zs → zs'.Pairwise (fun a b => a.2.num < b.2.num) → Q (.ref p) H'
end
end Deed

namespace Deed
open PySem PySem.Spec PyProof.Rows L2 LamX
/-! ### rules whose reading names K; a def that may be called; comprehensions at large -/
theorem ix_tupK {X : Cx} {K : PySem.W.Frag} (h : X.K = K) : IxR X (rIxT K) := h ▸ ix_tup
theorem ix_listK {X : Cx} {K : PySem.W.Frag} (h : X.K = K) : IxR X (rIxL K) := h ▸ ix_list
theorem in_seqK {X : Cx} {K : PySem.W.Frag} (h : X.K = K) : OpR X (compareOp .In) (rIn K false) := h ▸ op_in_seq
theorem notIn_seqK {X : Cx} {K : PySem.W.Frag} (h : X.K = K) : OpR X (compareOp .NotIn) (rIn K true) := h ▸ op_notIn_seq
theorem len_seqK {X : Cx} {K : PySem.W.Frag} (h : X.K = K) : CallR X (.builtin "len") (rLenS K) := h ▸ call_len_seq
structure CallOk (P : Program) (w : World) (K : PySem.W.Frag) (mg : Str → Option Value) (base : Heap) (L : Nat) (x : Str) (ps : List Str) (sp : Sp) where
  f : Addr
  fd : FuncData
  g : mg x = some (.ref f)
  kp : PySem.W.keepIn K (.ref f) = true
  b : Binds K fd ps []
  ok : FnOk P w K mg base CX0 L f fd ps sp
def CallOk.mono {P : Program} {w : World} {K : PySem.W.Frag} {mg : Str → Option Value} {base : Heap} {L L' : Nat} {x : Str} {ps : List Str} {sp : Sp} (c : CallOk P w K mg base L x ps sp) (h : L ≤ L') : CallOk P w K mg base L' x ps sp := ⟨c.f, c.fd, c.g, c.kp, c.b, c.ok.mono h⟩
def Df.call {P : Program} {w : World} {K : PySem.W.Frag} {mg : Str → Option Value} {base : Heap} {L : Nat} {x : Str} {st : Stmt} {ps : List Str} {f : Addr} {fd : FuncData} {sp : Sp} (D : Df K mg x st ps f fd) (G : FnOk P w K mg base CX0 L f fd ps sp) : CallOk P w K mg base L x ps sp := ⟨f, fd, D.g, D.F.kp, D.b, G⟩
theorem nodup_len : ∀ {l m : List Int}, l.Nodup → (∀ x ∈ l, x ∈ m) → l.length ≤ m.length
  | [], m, _, _ => Nat.zero_le _
  | a :: r, m, h, hs => by
    rw [List.nodup_cons] at h
    have ha := hs a List.mem_cons_self
    have h1 := nodup_len (l := r) (m := m.erase a) h.2 fun x hx => by
      have hne : x ≠ a := fun z => h.1 (z ▸ hx)
      exact (List.mem_erase_of_ne hne).mpr (hs x (List.mem_cons_of_mem _ hx))
    rw [List.length_erase_of_mem ha] at h1
    have := List.length_pos_of_mem ha
    rw [List.length_cons]
    omega
theorem none_back {H H' : Hp} {p : Addr} (s : Same H H') (n : H' p = none) : H p = none := by
  cases h : H p with
  | none => rfl
  | some o => rw [s _ _ h] at n; cases n
theorem same_refl (H : Hp) : Same H H := fun _ _ e => e
theorem take_filter {α : Type} {p : α → Bool} {ys : List α} {i : Nat} {y : α} (h : ys[i]? = some y) : (ys.take (i + 1)).filter p = (ys.take i).filter p ++ (if p y then [y] else []) := by
  rw [take_more h, List.filter_append]
  congr 1
  cases hp : p y <;> simp [hp]
section
variable {J : It} {n : Nat} {G : Hp → Prop} {Y : Nat → Hp → V → Hp → Prop} {g : TG} {tt : TT} {te : TE} {vs : List Nat} {σ : L2.St} {H1 : Hp} {D : Addr} {Qd : Hp → Prop} {α : Type}
abbrev LcGoal (J : It) (g : TG) (tt : TT) (te : TE) (vs : List Nat) (σ : L2.St) (H1 : Hp) (D : Addr) (Qd : Hp → Prop) : Prop :=
  ∃ W : Nat → Nat → Hp → Prop, (∃ m, W 0 m (upd H1 D (.lst []))) ∧ ∀ i m H, W i m H →
      (J.stop i H ∧ Qd H) ∨ (J.go i H ∧ ∃ Nx : Hp → Prop, (∀ H', Nx H' → ∃ m', m' < m ∧ W (i + 1) m' H') ∧ ∀ x H', J.yld i H x H' → g x (wipe σ vs) H' fun σ2 H2 => wipe σ2 vs = wipe σ vs ∧ tt σ2 H2 fun b H3 =>
        if b = true then te σ2 H3 fun y H4 => ∃ acc, H4 D = some (.lst acc) ∧ acc.length < sizeLine ∧ Nx (upd H4 D (.lst (acc ++ [y]))) else Nx H3)
/-- at large: St a step of the heap, In what holds of it, E what holds of an item -/
theorem lc_gen (w : Walk J n G Y) (ys : List α) (p : α → Bool) (In : Hp → Prop) (Sp1 : Hp → Hp → Prop) (E : Hp → α → V → Prop) (hn : ys.length = n) (hlen : ys.length ≤ 1000) (h0 : In (upd H1 D (.lst []))) (hG : ∀ H, In H → G H)
    (hSt : ∀ H H', In H → Sp1 H H' → In H' ∧ ∀ xs, H D = some (.lst xs) → H' D = some (.lst xs)) (hPut : ∀ H xs l, In H → H D = some (.lst xs) → In (upd H D (.lst l)))
    (hE : ∀ H H' y u, In H → Sp1 H H' → E H y u → E H' y u) (hEp : ∀ H xs l y u, In H → H D = some (.lst xs) → E H y u → E (upd H D (.lst l)) y u)
    (hs : ∀ i y x H H', ys[i]? = some y → In H → Y i H x H' → ∀ (Q1 : V → Hp → Prop) (Q0 : Hp → Prop), (p y = true → ∀ u H4, Sp1 H H4 → E H4 y u → Q1 u H4) → (p y = false → ∀ H3, Sp1 H H3 → Q0 H3) →
      g x (wipe σ vs) H' fun σ2 H2 => wipe σ2 vs = wipe σ vs ∧ tt σ2 H2 fun b H3 => if b = true then te σ2 H3 Q1 else Q0 H3)
    (hd : ∀ H (zs : List (V × α)), In H → H D = some (.lst (zs.map (·.1))) → zs.map (·.2) = ys.filter p → (∀ z ∈ zs, E H z.2 z.1) → Qd H) : LcGoal J g tt te vs σ H1 D Qd := by
  refine lc_it w (fun i H => In H ∧ ∃ zs : List (V × α), H D = some (.lst (zs.map (·.1))) ∧ zs.map (·.2) = (ys.take i).filter p ∧ ∀ z ∈ zs, E H z.2 z.1) ⟨h0, [], upd_same, rfl, fun _ h => nomatch h⟩ (fun i H _ h => hG H h.1) ?_ ?_
  · rintro i x H H' hi ⟨hI, zs, eD, ez, hz⟩ hY
    rw [← hn] at hi
    have hy : ys[i]? = some ys[i] := List.getElem?_eq_getElem hi
    have hzl : zs.length ≤ 1000 := by
      have h1 := congrArg List.length ez
      rw [List.length_map] at h1
      have h2 := List.length_filter_le p (ys.take i)
      rw [List.length_take] at h2
      omega
    refine hs i ys[i] x H H' hy hI hY _ _ (fun hp u H4 s4 e4 => ?_) (fun hp H3 s3 => ?_)
    · obtain ⟨I4, k4⟩ := hSt _ _ hI s4
      have eD4 := k4 _ eD
      refine ⟨_, eD4, small1000 (by rw [List.length_map]; omega), hPut _ _ _ I4 eD4, zs ++ [(u, ys[i])], ?_, ?_, fun z hzz => ?_⟩
      · rw [upd_same, List.map_append]
        rfl
      · rw [List.map_append, ez, take_filter hy, hp]
        rfl
      · rcases List.mem_append.mp hzz with h | h
        · exact hEp _ _ _ _ _ I4 eD4 (hE _ _ _ _ hI s4 (hz z h))
        · rw [List.mem_singleton.mp h]
          exact hEp _ _ _ _ _ I4 eD4 e4
    · obtain ⟨I3, k3⟩ := hSt _ _ hI s3
      refine ⟨I3, zs, k3 _ eD, ?_, fun z hzz => hE _ _ _ _ hI s3 (hz z hzz)⟩
      rw [ez, take_filter hy, hp]
      simp
  · rintro H ⟨hI, zs, eD, ez, hz⟩
    rw [← hn, List.take_length] at ez
    exact hd H zs hI eD ez hz
theorem same_put {H H1 : Hp} {D : Addr} (nD : H1 D = none) (s : Same H1 H) (o : HO) : Same H1 (upd H D o) := fun b u e => by
  rw [upd_ne (ne_of_none e nD)]
  exact s _ _ e
theorem same_new {H : Hp} {p : Addr} (n : H p = none) (o : HO) : Same H (upd H p o) := fun b u e => by rw [upd_ne (ne_of_none e n)]; exact e
/-- values; nothing but the new list is otherwise -/
theorem lc_sameV (w : Walk J n G Y) (ys : List α) (p : α → Bool) (v : α → V) (hn : ys.length = n) (hlen : ys.length ≤ 1000) (nD : H1 D = none) (hG : ∀ H, Same H1 H → G H)
    (hs : ∀ i y x H H', ys[i]? = some y → Same H1 H → Y i H x H' → ∀ (Q1 : V → Hp → Prop) (Q0 : Hp → Prop), (p y = true → ∀ H4, Same H H4 → Q1 (v y) H4) → (p y = false → ∀ H3, Same H H3 → Q0 H3) →
      g x (wipe σ vs) H' fun σ2 H2 => wipe σ2 vs = wipe σ vs ∧ tt σ2 H2 fun b H3 => if b = true then te σ2 H3 Q1 else Q0 H3)
    (hd : ∀ H, Same H1 H → H D = some (.lst ((ys.filter p).map v)) → Qd H) : LcGoal J g tt te vs σ H1 D Qd := by
  refine lc_gen w ys p (fun H => Same H1 H) Same (fun _ y u => u = v y) hn hlen (same_new nD _) hG (fun H H' h1 h2 => ⟨h1.trans h2, fun xs e => h2 _ _ e⟩) (fun H xs l h1 _ => same_put nD h1 _) (fun _ _ _ _ _ _ e => e) (fun _ _ _ _ _ _ _ e => e) (fun i y x H H' hy h1 hY Q1 Q0 q1 q0 => ?_) (fun H zs h1 e ez hz => ?_)
  · exact hs i y x H H' hy h1 hY Q1 Q0 (fun hp H4 s4 => q1 hp _ H4 s4 rfl) q0
  · refine hd H h1 ?_
    rw [e, ← ez, List.map_map]
    congr 2
    exact List.map_congr_left fun z hzz => hz z hzz
theorem lc_sameM (w : Walk J n G Y) (ys : List α) (v : α → V) (hn : ys.length = n) (hlen : ys.length ≤ 1000) (nD : H1 D = none) (hG : ∀ H, Same H1 H → G H)
    (hs : ∀ i y x H H', ys[i]? = some y → Same H1 H → Y i H x H' → ∀ (Q1 : V → Hp → Prop), (∀ H4, Same H H4 → Q1 (v y) H4) → g x (wipe σ vs) H' fun σ2 H2 => wipe σ2 vs = wipe σ vs ∧ te σ2 H2 Q1)
    (hd : ∀ H, Same H1 H → H D = some (.lst (ys.map v)) → Qd H) : LcGoal J g tYes te vs σ H1 D Qd := by
  refine lc_sameV w ys (fun _ => true) v hn hlen nD hG (fun i y x H H' hy h1 hY Q1 Q0 q1 q0 => ?_) (fun H h1 e => hd H h1 (by rw [e, List.filter_eq_self.mpr fun _ _ => rfl]))
  exact hs i y x H H' hy h1 hY Q1 (fun H4 s4 => q1 rfl H4 s4)
/-- new tuples -/
theorem lc_sameT (w : Walk J n G Y) (ys : List α) (p : α → Bool) (v : α → List V) (hn : ys.length = n) (hlen : ys.length ≤ 1000) (nD : H1 D = none) (hG : ∀ H, Same H1 H → G H)
    (hs : ∀ i y x H H', ys[i]? = some y → Same H1 H → Y i H x H' → ∀ (Q1 : V → Hp → Prop) (Q0 : Hp → Prop), (p y = true → ∀ t H4, Same H H4 → H4 t = some (.tup (v y)) → Q1 (.ref t) H4) → (p y = false → ∀ H3, Same H H3 → Q0 H3) →
      g x (wipe σ vs) H' fun σ2 H2 => wipe σ2 vs = wipe σ vs ∧ tt σ2 H2 fun b H3 => if b = true then te σ2 H3 Q1 else Q0 H3)
    (hd : ∀ H (zs : List (Addr × α)), Same H1 H → H D = some (.lst (zs.map fun z => .ref z.1)) → zs.map (·.2) = ys.filter p → (∀ z ∈ zs, H z.1 = some (.tup (v z.2))) → Qd H) : LcGoal J g tt te vs σ H1 D Qd := by
  refine lc_gen w ys p (fun H => Same H1 H) Same (fun H y u => ∃ t, u = .ref t ∧ H t = some (.tup (v y))) hn hlen (same_new nD _) hG (fun H H' h1 h2 => ⟨h1.trans h2, fun xs e => h2 _ _ e⟩) (fun H xs l h1 _ => same_put nD h1 _) (fun H H' y u _ h2 e => ?_) (fun H xs l y u h1 h2 e => ?_) (fun i y x H H' hy h1 hY Q1 Q0 q1 q0 => ?_) (fun H zs h1 e ez hz => ?_)
  · obtain ⟨t, e1, e2⟩ := e
    exact ⟨t, e1, h2 _ _ e2⟩
  · obtain ⟨t, e1, e2⟩ := e
    refine ⟨t, e1, ?_⟩
    rw [upd_ne fun z => by rw [z, h2] at e2; cases e2]
    exact e2
  · exact hs i y x H H' hy h1 hY Q1 Q0 (fun hp t H4 s4 e4 => q1 hp _ H4 s4 ⟨t, rfl, e4⟩) q0
  · have key : ∀ zs : List (V × α), (∀ z ∈ zs, ∃ t, z.1 = .ref t ∧ H t = some (.tup (v z.2))) → ∃ ws : List (Addr × α), zs.map (·.1) = ws.map (fun z => V.ref z.1) ∧ ws.map (·.2) = zs.map (·.2) ∧ ∀ z ∈ ws, H z.1 = some (.tup (v z.2)) := by
      intro zs
      induction zs with
      | nil => exact fun _ => ⟨[], rfl, rfl, fun _ h => nomatch h⟩
      | cons z r ih =>
        intro h
        obtain ⟨ws, a1, a2, a3⟩ := ih fun x hx => h x (List.mem_cons_of_mem _ hx)
        obtain ⟨t, e1, e2⟩ := h z List.mem_cons_self
        refine ⟨(t, z.2) :: ws, ?_, ?_, fun x hx => ?_⟩
        · rw [List.map_cons, List.map_cons, a1, e1]
        · rw [List.map_cons, List.map_cons, a2]
        · rcases List.mem_cons.mp hx with h | h
          · rw [h]
            exact e2
          · exact a3 x h
    obtain ⟨ws, a1, a2, a3⟩ := key zs hz
    exact hd H ws h1 (by rw [e, a1]) (by rw [a2, ez]) a3
end
end Deed

namespace Deed
open PySem PySem.Spec PyProof.Rows L2 LamX
theorem cutTake {α : Type} (f : α → V) (l : List α) {v : Int} (h : 0 ≤ v) : cutV (l.map f) none (some v) = (l.take v.toNat).map f := by
  unfold cutV
  obtain ⟨n, rfl⟩ : ∃ n : Nat, v = n := ⟨v.toNat, by omega⟩
  rw [HT.sIx_none, HT.sIx_nat, List.drop_zero, List.length_map, Int.toNat_natCast, Nat.sub_zero, ← List.map_take]
  congr 1
  rw [List.take_eq_take_iff]
  omega
theorem cutDrop {α : Type} (f : α → V) (l : List α) (m : Nat) : cutV (l.map f) (some (m : Int)) none = (l.drop m).map f := by
  unfold cutV
  rw [HT.sIx_none, HT.sIx_nat, List.length_map, ← List.map_drop, ← List.map_take]
  congr 1
  by_cases h : m ≤ l.length
  · rw [Nat.min_eq_left h, List.take_of_length_le (by rw [List.length_drop]; omega)]
  · rw [Nat.min_eq_right (by omega), List.drop_of_length_le (by omega), List.drop_of_length_le (by omega), List.take_nil]
section
variable {P : Program} {w : World} {K : PySem.W.Frag} {mg : Str → Option Value} {base : Heap}
abbrev CDraw (P : Program) (w : World) (K : PySem.W.Frag) (mg : Str → Option Value) (base : Heap) (k : Nat) := CallOk P w K mg base k "_law_draw" ["_law_pen_here", "_law_bound"] spDraw
abbrev sDay : Stmt := topS 64
abbrev nDay : List Str := ["_law_pen_here"]
abbrev pDay : List Str := ["_law_pen_here"]
theorem scDay : FnScope nDay pDay (defScope sDay) := ⟨rfl, rfl, rfl, by decide +kernel, rfl, by decide +kernel, by decide +kernel⟩
def spDay : Sp := fun vs H Q _ => ∃ (p : Addr), vs = [.ref p] ∧ PenAt H p ∧ ∀ v H', Kp p H H' → PenAt H' p → 0 ≤ v → v ≤ 9999 → Q (.int v) H'
theorem ok_day {f : Addr} {fd : FuncData} {k : Nat} (F : Fun K "_law_day" "_law_day" sDay f fd) (C__law_draw : CDraw P w K mg base k) : FnOk P w K mg base CX0 (k + 1) f fd pDay spDay := by
  refine F.ok scDay (fun vs H Q E h => ?_) (fun cdv A outer s H vs Q E hr h => ?_)
  · obtain ⟨p, rfl, _⟩ := h
    rfl
  · obtain ⟨p, rfl, hP, q⟩ := h
    refine ⟨_, pss_one (ps_ret (pe_ix ix_list (pe_lst (pa_cons (pe_call C__law_draw.ok hr (by rfl) C__law_draw.g C__law_draw.kp C__law_draw.b .nil pass0 (pa_cons (pv 0) (pa_cons pe_int pa_nil))) (pa_cons (pe_call C__law_draw.ok hr (by rfl) C__law_draw.g C__law_draw.kp C__law_draw.b .nil pass0 (pa_cons (pv 0) (pa_cons pe_int pa_nil))) (pa_cons (pe_call C__law_draw.ok hr (by rfl) C__law_draw.g C__law_draw.kp C__law_draw.b .nil pass0 (pa_cons (pv 0) (pa_cons pe_int pa_nil))) pa_nil)))) (pe_op op_fdiv (pe_call C__law_draw.ok hr (by rfl) C__law_draw.g C__law_draw.kp C__law_draw.b .nil pass0 (pa_cons (pv 0) (pa_cons pe_int pa_nil))) pe_int) (fun _ _ => rfl))), ?_⟩
    refine ⟨_, rfl, p, 7, rfl, hP, by decide, by decide, fun v1 H1 k1 P1 a1 b1 => ?_⟩
    refine ⟨_, rfl, p, 40, rfl, P1, by decide, by decide, fun v2 H2 k2 P2 a2 b2 => ?_⟩
    refine ⟨_, rfl, p, 10000, rfl, P2, by decide, by decide, fun v3 H3 k3 P3 a3 b3 => ?_⟩
    refine ⟨(by show 3 ≤ sizeLine; decide), fun l nl => ?_⟩
    refine ⟨_, rfl, p, 6, rfl, P3.new nl _, by decide, by decide, fun v4 H4 k4 P4 a4 b4 => ?_⟩
    refine ⟨_, _, rfl, rfl, ⟨by decide, by decide⟩, ?_⟩
    obtain ⟨_, g5, n5, rfl, a5, b5⟩ := pick (i := v4 / 2) (xs := [.int v1, .int v2, .int v3]) (Within 0 9999) (by omega) (by show v4 / 2 < 3; omega) (am1 ⟨_, rfl, by omega, by omega⟩ (am1 ⟨_, rfl, by omega, by omega⟩ (am1 ⟨_, rfl, by omega, by omega⟩ am0)))
    refine ⟨l, _, _, _, rfl, rfl, SqL.of (k4 _ _ (P3.free nl) upd_same), g5, ?_⟩
    exact q n5 _ (k1.trans (k2.trans (k3.trans ((Kp.new nl _).trans k4)))) P4 a5 b5
abbrev sFolk : Stmt := topS 57
abbrev nFolk : List Str := ["_law_pen_here", "_law_least", "_law_found", "_law_k", "_law_born", "_law_died"]
abbrev pFolk : List Str := ["_law_pen_here", "_law_least"]
theorem scFolk : FnScope nFolk pFolk (defScope sFolk) := ⟨rfl, rfl, rfl, by decide +kernel, rfl, by decide +kernel, by decide +kernel⟩
def spFolk : Sp := fun vs H Q _ => ∃ (p : Addr) (least : Int), vs = [.ref p, .int least] ∧ PenAt H p ∧ 1 ≤ least ∧ least ≤ 6 ∧ ∀ t (n : Nat) H', Kp p H H' → PenAt H' p → FolkAt H' t n → least ≤ n → n ≤ 6 → Q (.ref t) H'
theorem ok_folk {f : Addr} {fd : FuncData} {k : Nat} (F : Fun K "_law_folk" "_law_folk" sFolk f fd) (C__law_draw : CDraw P w K mg base k) (m_range : mg "range" = none) (m_min : mg "min" = none) (m_tuple : mg "tuple" = none) : FnOk P w K mg base CX0 (k + 1) f fd pFolk spFolk := by
  refine F.ok scFolk (fun vs H Q E h => ?_) (fun cdv A outer s H vs Q E hr h => ?_)
  · obtain ⟨p, l, rfl, _⟩ := h
    rfl
  · obtain ⟨p, least, rfl, hP, hl1, hl6, q⟩ := h
    have nd := scFolk.nd
    refine ⟨_, pss_cons (ps_set (i := 2) nd rfl (.inl rfl) (pe_lst pa_nil))
      (pss_cons (ps_for PassesOwn.never rfl (pi_range1 rfl m_range (pa_cons (pe_op op_add (pv 1) (pe_call C__law_draw.ok hr (by rfl) C__law_draw.g C__law_draw.kp C__law_draw.b .nil pass0 (pa_cons (pv 0) (pa_cons (pe_op op_sub pe_int (pv 1)) pa_nil)))) pa_nil)) (pg_name (i := 3) nd rfl (.inl rfl))
        (pss_cons (ps_set (i := 4) nd rfl (.inl rfl) (pe_ix ix_list (pe_lst (pa_cons (pe_op op_sub pe_int (pe_call C__law_draw.ok hr (by rfl) C__law_draw.g C__law_draw.kp C__law_draw.b .nil pass0 (pa_cons (pv 0) (pa_cons pe_int pa_nil)))) (pa_cons (pe_call C__law_draw.ok hr (by rfl) C__law_draw.g C__law_draw.kp C__law_draw.b .nil pass0 (pa_cons (pv 0) (pa_cons pe_int pa_nil))) (pa_cons (pe_op op_sub (pe_call C__law_draw.ok hr (by rfl) C__law_draw.g C__law_draw.kp C__law_draw.b .nil pass0 (pa_cons (pv 0) (pa_cons pe_int pa_nil))) pe_int) pa_nil)))) (pe_op op_fdiv (pe_call C__law_draw.ok hr (by rfl) C__law_draw.g C__law_draw.kp C__law_draw.b .nil pass0 (pa_cons (pv 0) (pa_cons pe_int pa_nil))) pe_int) (fun _ _ => rfl)))
      (pss_cons (ps_set (i := 5) nd rfl (.inl rfl) (pe_callB (call_min2 rfl) (by rfl) m_min (by decide +kernel) (pa_cons pe_int (pa_cons (pe_op op_add (pe_op op_add (pv 4) pe_int) (pe_ix ix_list (pe_lst (pa_cons (pe_call C__law_draw.ok hr (by rfl) C__law_draw.g C__law_draw.kp C__law_draw.b .nil pass0 (pa_cons (pv 0) (pa_cons pe_int pa_nil))) (pa_cons (pe_call C__law_draw.ok hr (by rfl) C__law_draw.g C__law_draw.kp C__law_draw.b .nil pass0 (pa_cons (pv 0) (pa_cons pe_int pa_nil))) pa_nil))) (pe_call C__law_draw.ok hr (by rfl) C__law_draw.g C__law_draw.kp C__law_draw.b .nil pass0 (pa_cons (pv 0) (pa_cons pe_int pa_nil))) (fun _ _ => rfl))) pa_nil))))
      (pss_one (ps_expr (pe_bm PySem.F.plainAttrs_list PySem.F.slot_list_append PySem.F.type_list_append mt_append (pv 2) (pa_cons (pe_tup (pa_cons (pv 4) (pa_cons (pe_ix ix_list (pe_lst (pa_cons pe_non (pa_cons (pv 5) pa_nil))) (pe_call C__law_draw.ok hr (by rfl) C__law_draw.g C__law_draw.kp C__law_draw.b .nil pass0 (pa_cons (pv 0) (pa_cons pe_int pa_nil))) (fun _ _ => rfl)) pa_nil))) pa_nil)))))))
      (pss_one (ps_ret (pe_callTy call_tuple_of (by rfl) m_tuple (by decide +kernel) (pa_cons (pv 2) pa_nil))))), ?_⟩
    refine ⟨Nat.zero_le _, fun l hl => ?_⟩
    have Pl : PenAt (upd H l (.lst [])) p := hP.new hl _
    have nl : l ≠ p := hP.free hl
    refine ⟨_, rfl, _, rfl, _, rfl, _, _, rfl, rfl, p, 7 - least, rfl, Pl, by omega, by omega, fun v1 H1 k1 P1 a1 b1 => ?_⟩
    refine ⟨_, _, rfl, rfl, _, rfl, by omega, by omega, ?_⟩
    refine for_range (lo := 0) (n := (least + v1).toNat) (fun i σ H' => ∃ y3 y4 y5 xs, σ = [some (.ref p), some (.int least), some (.ref l), y3, y4, y5] ∧ Kp p H H' ∧ PenAt H' p ∧ H' l = some (.lst xs) ∧ xs.length = i ∧ ∀ x ∈ xs, PersonAt H' x)
      ⟨none, none, none, [], rfl, (Kp.new hl _).trans k1, P1, k1 _ _ nl upd_same, rfl, am0⟩ ?_ ?_
    · rintro i σ H' hi ⟨y3, y4, y5, xs, rfl, k', P', el, ln, ps⟩
      refine ⟨_, rfl, p, 40, rfl, P', by decide, by decide, fun v2 H2 k2 P2 a2 b2 => ⟨_, _, rfl, rfl, ?_⟩⟩
      refine ⟨_, rfl, p, 9, rfl, P2, by decide, by decide, fun v2' H2' k2' P2' a2' b2' => ?_⟩
      refine ⟨_, rfl, p, 9000, rfl, P2', by decide, by decide, fun v3 H3 k3 P3 a3 b3 => ⟨_, _, rfl, rfl, ?_⟩⟩
      refine ⟨(by show 3 ≤ sizeLine; decide), fun m hm => ?_⟩
      refine ⟨_, rfl, p, 5, rfl, P3.new hm _, by decide, by decide, fun v4 H4 k4 P4 a4 b4 => ?_⟩
      refine ⟨_, _, rfl, rfl, ⟨by decide, by decide⟩, ?_⟩
      obtain ⟨_, g5, n5, rfl, a5, b5⟩ := pick (i := v4 / 2) (xs := [.int (0 - v2), .int v2', .int (v3 - 4000)]) (Within (-9999) 9998) (by omega) (by show v4 / 2 < 3; omega) (am1 ⟨_, rfl, by omega, by omega⟩ (am1 ⟨_, rfl, by omega, by omega⟩ (am1 ⟨_, rfl, by omega, by omega⟩ am0)))
      refine ⟨m, _, _, _, rfl, rfl, SqL.of (k4 _ _ (P3.free hm) upd_same), g5, ?_⟩
      have kA : Kp p H' H4 := k2.trans (k2'.trans (k3.trans ((Kp.new hm _).trans k4)))
      refine ⟨_, rfl, _, _, rfl, rfl, ?_⟩
      refine ⟨_, rfl, p, 60, rfl, P4, by decide, by decide, fun v6 H6 k6 P6 a6 b6 => ?_⟩
      refine ⟨_, rfl, p, 9999, rfl, P6, by decide, by decide, fun v7 H7 k7 P7 a7 b7 => ?_⟩
      refine ⟨(by show 2 ≤ sizeLine; decide), fun m2 hm2 => ?_⟩
      refine ⟨_, rfl, p, 2, rfl, P7.new hm2 _, by decide, by decide, fun v8 H8 k8 P8 a8 b8 => ?_⟩
      obtain ⟨_, g9, n9, rfl, a9, b9⟩ := pick (xs := [.int v6, .int v7]) (Within 0 9998) a8 b8 (am1 ⟨_, rfl, by omega, by omega⟩ (am1 ⟨_, rfl, by omega, by omega⟩ am0))
      refine ⟨m2, _, v8, _, rfl, rfl, SqL.of (k8 _ _ (P7.free hm2) upd_same), g9, _, _, rfl, rfl, _, _, rfl, ?_⟩
      have kB : Kp p H4 H8 := k6.trans (k7.trans ((Kp.new hm2 _).trans k8))
      have hd : n5 < (if n5 + 1 + n9 < 9999 then n5 + 1 + n9 else 9999) ∧ (if n5 + 1 + n9 < 9999 then n5 + 1 + n9 else 9999) ≤ 9999 := by
        split <;> omega
      generalize (if n5 + 1 + n9 < 9999 then n5 + 1 + n9 else 9999) = dd at hd
      have kC := kA.trans kB
      have el8 := kC _ _ nl el
      refine ⟨_, rfl, .inl ⟨rfl, _, SqL.of el8⟩, _, rfl, _, rfl, (by show 2 ≤ sizeLine; decide), fun m3 hm3 => ?_⟩
      refine ⟨_, rfl, p, 2, rfl, P8.new hm3 _, by decide, by decide, fun v10 H10 k10 P10 a10 b10 => ?_⟩
      obtain ⟨vd, g11, hvd⟩ := pick (xs := [.non, .int dd]) (fun d => d = .non ∨ ∃ i : Int, d = .int i ∧ n5 < i ∧ i ≤ 9999) a10 b10 (am1 (.inl rfl) (am1 (.inr ⟨_, rfl, hd⟩) am0))
      refine ⟨m3, _, v10, _, rfl, rfl, SqL.of (k10 _ _ (P8.free hm3) upd_same), g11, (by show 2 ≤ sizeLine; decide), fun t ht => ?_⟩
      have kD := (kC.trans ((Kp.new hm3 _).trans k10)).trans (Kp.new (p := p) ht (.tup [.int n5, vd]))
      have elD := kD _ _ nl el
      have PD : PenAt (upd H10 t (.tup [.int n5, vd])) p := P10.new ht _
      refine ⟨l, _, _, rfl, rfl, elD, small1000 (by omega), ?_⟩
      have kE : ∀ b o, b ≠ p → b ≠ l → H' b = some o → (upd (upd H10 t (.tup [.int n5, vd])) l (.lst (xs ++ [.ref t]))) b = some o := fun b o n1 n2 e => by
        rw [upd_ne n2]
        exact kD _ _ n1 e
      have ntl : t ≠ l := fun z => by
        have := (kC.trans ((Kp.new hm3 _).trans k10)) _ _ nl el
        rw [z, this] at ht
        cases ht
      refine ⟨_, _, _, xs ++ [.ref t], rfl, fun b o n1 e => ?_, ?_, upd_same, ?_, fun x hx => ?_⟩
      · by_cases hb : b = l
        · rw [hb, hl] at e
          cases e
        · exact kE b o n1 hb (k' _ _ n1 e)
      · obtain ⟨x1, x2, x3, x4, e1, e2⟩ := PD
        exact ⟨x1, x2, x3, x4, by rw [upd_ne nl.symm]; exact e1, e2⟩
      · rw [List.length_append, ln]
        rfl
      · rcases List.mem_append.mp hx with hx | hx
        · obtain ⟨a, b, d, e, h1, r⟩ := ps x hx
          exact ⟨a, b, d, e, kE _ _ (P'.ne h1 fun _ z => by cases z) (fun z => by rw [z, el] at h1; cases h1) h1, r⟩
        · rw [List.mem_singleton.mp hx]
          exact ⟨t, n5, vd, rfl, by rw [upd_ne ntl, upd_same], by omega, by omega, hvd⟩
    · rintro σ H' ⟨y3, y4, y5, xs, rfl, k', P', el, ln, ps⟩
      refine ⟨_, rfl, l, xs, rfl, .inl ⟨SqL.of el, fun t ht => ?_⟩⟩
      have kF : Kp p H' (upd H' t (.tup xs)) := Kp.new ht _
      exact q t (least + v1).toNat _ (k'.trans kF) (P'.new ht _) ⟨xs, upd_same, ln, fun x hx => (ps x hx).kp kF P'⟩ (by omega) (by omega)
abbrev sFew : Stmt := topS 65
abbrev nFew : List Str := ["_law_pen_here", "_law_some", "_law_most", "_law_left"]
abbrev pFew : List Str := ["_law_pen_here", "_law_some", "_law_most"]
theorem scFew : FnScope nFew pFew (defScope sFew) := ⟨rfl, rfl, rfl, by decide +kernel, rfl, by decide +kernel, by decide +kernel⟩
def spFew (K : PySem.W.Frag) : Sp := fun vs H Q _ => ∃ (p a : Addr) (most : Int) (ns : List Int), vs = [.ref p, .ref a, .int most] ∧ PenAt H p ∧ SqL K H a (ns.map V.int) ∧ 0 ≤ most ∧ most ≤ 1000 ∧ ns.length ≤ 1000 ∧
  ∀ t (rs ls : List Int) H', Kp p H H' → PenAt H' p → H' t = some (.tup (rs.map V.int)) → (rs ++ ls).Perm ns → rs.Pairwise (· ≤ ·) → rs.length ≤ most → Q (.ref t) H'
theorem ok_few {f : Addr} {fd : FuncData} {k : Nat} (F : Fun K "_law_few" "_law_few" sFew f fd) (C__law_draw : CDraw P w K mg base k) (C__law_mixed : CallOk P w K mg base k "_law_mixed" ["_law_pen_here", "_law_some"] (spMixed K)) (m_tuple : mg "tuple" = none) (m_sorted : mg "sorted" = none) : FnOk P w K mg base CX0 (k + 1) f fd pFew (spFew K) := by
  refine F.ok scFew (fun vs H Q E h => ?_) (fun cdv A outer s H vs Q E hr h => ?_)
  · obtain ⟨p, a, most, ns, rfl, _⟩ := h
    rfl
  · obtain ⟨p, a, most, ns, rfl, hP, hS, hm0, hm1, hln, q⟩ := h
    have nd := scFew.nd
    refine ⟨_, pss_cons (ps_set (i := 3) nd rfl (.inl rfl) (pe_call C__law_mixed.ok hr (by rfl) C__law_mixed.g C__law_mixed.kp C__law_mixed.b .nil pass0 (pa_cons (pv 0) (pa_cons (pv 1) pa_nil))))
      (pss_one (ps_ret (pe_callTy call_tuple_of (by rfl) m_tuple (by decide +kernel) (pa_cons (pe_callB cr_sortedI (by rfl) m_sorted (by decide +kernel) (pa_cons (pe_slice sl_list (pv 3) po_none (po_some (pe_call C__law_draw.ok hr (by rfl) C__law_draw.g C__law_draw.kp C__law_draw.b .nil pass0 (pa_cons (pv 0) (pa_cons (pe_op op_add (pv 2) pe_int) pa_nil))))) pa_nil)) pa_nil)))), ?_⟩
    refine ⟨_, rfl, _, rfl, p, a, _, rfl, hP, .inl hS, by rw [List.length_map]; exact hln, fun l ys H1 k1 P1 nl el pm => ?_⟩
    obtain ⟨ms, rfl, pm2⟩ := perm_pairs V.int pm ns rfl
    have nlp : l ≠ p := hP.free nl
    refine ⟨_, rfl, _, rfl, _, rfl, _, _, rfl, rfl, p, most + 1, rfl, P1, by omega, by omega, fun v H2 k2 P2 a2 b2 => ?_⟩
    have el2 := k2 _ _ nlp el
    refine ⟨_, rfl, l, _, rfl, SqL.of el2, fun s1 ns1 => ?_⟩
    rw [cutTake _ _ a2]
    have P3 := P2.new ns1 (.lst ((ms.take v.toNat).map V.int))
    have k3 : Kp p H2 _ := Kp.new ns1 (.lst ((ms.take v.toNat).map V.int))
    refine ⟨s1, _, rfl, SqL.of upd_same, fun rs m pm3 up nm => ?_⟩
    refine ⟨m, _, rfl, .inl ⟨SqL.of upd_same, fun t nt => ?_⟩⟩
    refine q t rs (ms.drop v.toNat) _ (k1.trans (k2.trans (k3.trans ((Kp.new nm _).trans (Kp.new nt _))))) ((P3.new nm _).new nt _) upd_same ?_ up ?_
    · refine (List.Perm.append_right _ pm3).trans ?_
      rw [List.take_append_drop]
      exact pm2
    · rw [pm3.length_eq, List.length_take]
      omega
end
end Deed

namespace Deed
open PySem PySem.Spec PyProof.Rows L2 LamX
section
variable {P : Program} {w : World} {K : PySem.W.Frag} {mg : Str → Option Value} {base : Heap}
def rgI (n : Nat) : List Int := (List.range n).map fun i : Nat => (i : Int)
theorem rgV_ints (n : Nat) : rgV 0 (n : Int) = (rgI n).map V.int := by
  unfold rgV rgI
  rw [List.map_map]
  simp
theorem rgI_len (n : Nat) : (rgI n).length = n := by unfold rgI; simp
abbrev sDeed : Stmt := topS 66
abbrev nDeed : List Str := ["_law_pen_here", "_law_number", "_law_folk_here", "_law_deeds", "_law_both", "_law_giver", "_law_taker", "_law_head"]
abbrev pDeed : List Str := ["_law_pen_here", "_law_number", "_law_folk_here", "_law_deeds"]
theorem scDeed : FnScope nDeed pDeed (defScope sDeed) := ⟨rfl, rfl, rfl, by decide +kernel, rfl, by decide +kernel, by decide +kernel⟩
def spDeed (K : PySem.W.Frag) : Sp := fun vs H Q _ => ∃ (p fk ld : Addr) (num : Int) (n : Nat) (ds : List Int), vs = [.ref p, .int num, .ref fk, .ref ld] ∧ PenAt H p ∧ FolkAt H fk n ∧ 2 ≤ n ∧ n ≤ 6 ∧ H ld = some (.lst (ds.map V.int)) ∧ ld ≠ p ∧ ds.Nodup ∧ ds.length ≤ 1000 ∧ (∀ d ∈ ds, d < num) ∧
  ∀ a (e : En) H', Kp p H H' → PenAt H' p → EntAt H' a e → e.num = num → e.isDeed = true → (∀ as, EnOk n ds as e) → Q (.ref a) H'
theorem ok_deed {f : Addr} {fd : FuncData} {k : Nat} (F : Fun K "_law_deed" "_law_deed" sDeed f fd) (C__law_draw : CDraw P w K mg base k) (C__law_day : CallOk P w K mg base k "_law_day" pDay spDay) (C__law_mixed : CallOk P w K mg base k "_law_mixed" ["_law_pen_here", "_law_some"] (spMixed K)) (C__law_few : CallOk P w K mg base k "_law_few" pFew (spFew K)) (m_list : mg "list" = none) (m_range : mg "range" = none) (m_len : mg "len" = none) : FnOk P w K mg base CX0 (k + 1) f fd pDeed (spDeed K) := by
  refine F.ok scDeed (fun vs H Q E h => ?_) (fun cdv A outer s H vs Q E hr h => ?_)
  · obtain ⟨p, fk, ld, num, n, ds, rfl, _⟩ := h
    rfl
  · obtain ⟨p, fk, ld, num, n, ds, rfl, hP, hF, h2, h6, eld, nld, hnd, hdl, hdn, q⟩ := h
    have nd := scDeed.nd
    refine ⟨_, pss_cons (ps_set (i := 4) nd rfl (.inl rfl) (pe_call C__law_mixed.ok hr (by rfl) C__law_mixed.g C__law_mixed.kp C__law_mixed.b .nil pass0 (pa_cons (pv 0) (pa_cons (pe_listRg (by rfl) (by rfl) m_list (prg_1 (by rfl) m_range (pe_callB call_len_seq (by rfl) m_len (by decide +kernel) (pa_cons (pv 2) pa_nil)))) pa_nil))))
      (pss_cons (ps_par (i := 5) (j := 6) (by rfl) nd rfl rfl (by decide) rfl rfl (pa_cons (pe_ix ix_list (pv 4) pe_int (fun _ _ => rfl)) (pa_cons (pe_ix ix_list (pv 4) pe_int (fun _ _ => rfl)) pa_nil)) (by rfl))
      (pss_cons (ps_set (i := 7) nd rfl (.inl rfl) (pe_tup (pa_cons (pv 1) (pa_cons (pe_call C__law_day.ok hr (by rfl) C__law_day.g C__law_day.kp C__law_day.b .nil pass0 (pa_cons (pv 0) pa_nil)) (pa_cons (pe_call C__law_day.ok hr (by rfl) C__law_day.g C__law_day.kp C__law_day.b .nil pass0 (pa_cons (pv 0) pa_nil)) (pa_cons (pe_call C__law_draw.ok hr (by rfl) C__law_draw.g C__law_draw.kp C__law_draw.b .nil pass0 (pa_cons (pv 0) (pa_cons pe_int pa_nil))) (pa_cons pe_str (pa_cons (pv 5) (pa_cons (pv 6) pa_nil)))))))))
      (pss_one (ps_ret (pe_op op_catT (pv 7) (pe_tup (pa_cons (pe_call C__law_few.ok hr (by rfl) C__law_few.g C__law_few.kp C__law_few.b .nil pass0 (pa_cons (pv 0) (pa_cons (pv 3) (pa_cons pe_int pa_nil)))) (pa_cons (pe_call C__law_few.ok hr (by rfl) C__law_few.g C__law_few.kp C__law_few.b .nil pass0 (pa_cons (pv 0) (pa_cons (pe_slice sl_list (pv 4) (po_some pe_int) po_none) (pa_cons pe_int pa_nil)))) pa_nil)))))))), ?_⟩
    obtain ⟨xs, ef, hxl, _⟩ := id hF
    refine ⟨_, rfl, _, rfl, fk, _, rfl, .inr (SqT.of ef), _, rfl, ?_, fun l1 nl1 => ?_⟩
    · unfold RgOk
      rw [hxl]
      refine ⟨by omega, by omega, by omega, by omega, ?_⟩
      exact Nat.le_of_lt (small1000 (by omega))
    rw [hxl, rgV_ints]
    have k1 : Kp p H _ := Kp.new nl1 (.lst ((rgI n).map V.int))
    have P1 := hP.new nl1 (.lst ((rgI n).map V.int))
    have el1 : (upd H l1 (.lst ((rgI n).map V.int))) l1 = some (.lst ((rgI n).map V.int)) := upd_same
    generalize upd H l1 (.lst ((rgI n).map V.int)) = H1 at k1 P1 el1
    refine ⟨p, l1, _, rfl, P1, .inl (SqL.of el1), by rw [List.length_map, rgI_len]; omega, fun l ys H2 k2 P2 nl el pm => ?_⟩
    obtain ⟨ms, rfl, pm2⟩ := perm_pairs V.int pm _ rfl
    have hml : ms.length = n := by rw [pm2.length_eq, rgI_len]
    have hmr : ∀ x ∈ ms, 0 ≤ x ∧ x < n := fun x hx => by
      have hx := pm2.mem_iff.mp hx
      unfold rgI at hx
      obtain ⟨i, hi, rfl⟩ := List.mem_map.mp hx
      have := List.mem_range.mp hi
      omega
    have hmn : ms.Nodup := pm2.nodup_iff.mpr (by
      have h := List.nodup_range (n := n)
      unfold rgI
      exact List.Pairwise.map _ (fun a b h z => h (by omega)) h)
    have nlp : l ≠ p := P1.free nl
    obtain ⟨g, t, r, rfl⟩ : ∃ g t r, ms = g :: t :: r := by
      match ms, hml with
      | [], h => exact absurd h (by simp; omega)
      | [_], h => exact absurd h (by simp; omega)
      | a :: b :: c, _ => exact ⟨a, b, c, rfl⟩
    refine ⟨_, rfl, l, _, _, _, rfl, rfl, SqL.of el, (atI_nat (j := 0) rfl), _, rfl, l, _, _, _, rfl, rfl, SqL.of el, (atI_nat (j := 1) rfl), _, _, rfl, ?_⟩
    refine ⟨_, rfl, _, rfl, p, rfl, P2, fun v1 H3 k3 P3 a1 b1 => ?_⟩
    refine ⟨_, rfl, p, rfl, P3, fun v2 H4 k4 P4 a2 b2 => ?_⟩
    refine ⟨_, rfl, p, 4, rfl, P4, by decide, by decide, fun v3 H5 k5 P5 a3 b3 => ?_⟩
    refine ⟨_, rfl, _, rfl, (by show 7 ≤ sizeLine; decide), fun th nth => ?_⟩
    have k6 : Kp p H5 _ := Kp.new nth (.tup [.int num, .int v1, .int v2, .int v3, .str "deed", .int g, .int t])
    have P6 := P5.new nth (.tup [.int num, .int v1, .int v2, .int v3, .str "deed", .int g, .int t])
    have eth : (upd H5 th (.tup [.int num, .int v1, .int v2, .int v3, .str "deed", .int g, .int t])) th = some (.tup [.int num, .int v1, .int v2, .int v3, .str "deed", .int g, .int t]) := upd_same
    generalize upd H5 th (.tup [.int num, .int v1, .int v2, .int v3, .str "deed", .int g, .int t]) = H6 at k6 P6 eth
    have k26 : Kp p H2 H6 := k3.trans (k4.trans (k5.trans k6))
    have k06 : Kp p H H6 := k1.trans (k2.trans k26)
    refine ⟨_, rfl, _, rfl, _, rfl, p, ld, 2, ds, rfl, P6, SqL.of (k06 _ _ nld eld), by decide, by decide, hdl, fun tr rs ls H7 k7 P7 etr pr upr hrl => ?_⟩
    have el7 := k7 _ _ nlp (k26 _ _ nlp el)
    refine ⟨_, rfl, _, rfl, _, rfl, l, _, rfl, SqL.of el7, fun s1 ns1 => ?_⟩
    rw [show cutV ((g :: t :: r).map V.int) (some 2) none = r.map V.int from cutDrop V.int (g :: t :: r) 2]
    have k8 : Kp p H7 _ := Kp.new ns1 (.lst (r.map V.int))
    have P8 := P7.new ns1 (.lst (r.map V.int))
    have es1 : (upd H7 s1 (.lst (r.map V.int))) s1 = some (.lst (r.map V.int)) := upd_same
    generalize upd H7 s1 (.lst (r.map V.int)) = H8 at k8 P8 es1
    have hrn : r.length ≤ 1000 := by
      have : (g :: t :: r).length = n := hml
      simp at this
      omega
    refine ⟨p, s1, 3, r, rfl, P8, SqL.of es1, by decide, by decide, hrn, fun tw ws ls2 H9 k9 P9 etw pw upw hwl => ?_⟩
    refine ⟨(by show 2 ≤ sizeLine; decide), fun t4 nt4 => ?_⟩
    have k10 : Kp p H9 _ := Kp.new nt4 (.tup [.ref tr, .ref tw])
    have P10 := P9.new nt4 (.tup [.ref tr, .ref tw])
    have et4 : (upd H9 t4 (.tup [.ref tr, .ref tw])) t4 = some (.tup [.ref tr, .ref tw]) := upd_same
    generalize upd H9 t4 (.tup [.ref tr, .ref tw]) = H10 at k10 P10 et4
    have k79 : Kp p H7 H10 := k8.trans (k9.trans k10)
    have eth10 := (k7.trans k79).tup P6 _ _ eth
    refine ⟨th, t4, _, _, rfl, rfl, SqT.of eth10, SqT.of et4, List.cons_ne_nil _ _, (by show 9 ≤ sizeLine; decide), fun z0 => absurd z0 (List.cons_ne_nil _ _), fun _ b hb => ?_⟩
    have kb : Kp p H10 (upd H10 b (.tup ([.int num, .int v1, .int v2, .int v3, .str "deed", .int g, .int t] ++ [.ref tr, .ref tw]))) := Kp.new hb _
    have etr10 := kb.tup P10 _ _ (k79.tup P7 _ _ etr)
    have etw10 := kb.tup P10 _ _ (k10.tup P9 _ _ etw)
    have hg := hmr g (by simp)
    have ht := hmr t (by simp)
    rw [List.nodup_cons, List.nodup_cons] at hmn
    have hwr : ∀ y ∈ ws, y ∈ r := fun y hy => pw.mem_iff.mp (List.mem_append_left _ hy)
    have hrd : ∀ y ∈ rs, y ∈ ds := fun y hy => pr.mem_iff.mp (List.mem_append_left _ hy)
    refine q b ⟨num, v1, v2, v3, .deed g t rs ws⟩ _ (k06.trans (k7.trans (k79.trans kb))) (P10.new hb _) ⟨tr, tw, upd_same, etr10, etw10⟩ rfl rfl fun as => ?_
    refine ⟨⟨a1, b1⟩, ⟨a2, b2⟩, ⟨a3, by show v3 ≤ 3; omega⟩, hg, ht, fun z => hmn.1 (z ▸ List.mem_cons_self), by omega, rising_of ?_ upr, fun y hy => ⟨hrd y hy, hdn _ (hrd y hy)⟩, by omega, rising_of ?_ upw, fun y hy => ?_⟩
    · exact (List.nodup_append.mp (pr.nodup_iff.mpr hnd)).1
    · exact (List.nodup_append.mp (pw.nodup_iff.mpr hmn.2.2)).1
    · have hy := hwr y hy
      have h1 := hmr y (by simp [hy])
      exact ⟨h1.1, h1.2, fun z => hmn.1 (z ▸ List.mem_cons_of_mem _ hy), fun z => hmn.2.1 (z ▸ hy)⟩
abbrev sAct : Stmt := topS 67
abbrev nAct : List Str := ["_law_pen_here", "_law_number", "_law_deeds", "_law_acts", "_law_word", "_law_some"]
abbrev pAct : List Str := ["_law_pen_here", "_law_number", "_law_deeds", "_law_acts"]
theorem scAct : FnScope nAct pAct (defScope sAct) := ⟨rfl, rfl, rfl, by decide +kernel, rfl, by decide +kernel, by decide +kernel⟩
def spAct (K : PySem.W.Frag) : Sp := fun vs H Q _ => ∃ (p ld la : Addr) (num : Int) (ds as : List Int), vs = [.ref p, .int num, .ref ld, .ref la] ∧ PenAt H p ∧ H ld = some (.lst (ds.map V.int)) ∧ ld ≠ p ∧ H la = some (.lst (as.map V.int)) ∧ la ≠ p ∧ ds ≠ [] ∧ ds.length ≤ 1000 ∧ as.length ≤ 1000 ∧ (∀ d ∈ ds, d < num) ∧ (∀ d ∈ as, d < num) ∧
  ∀ a (e : En) H', Kp p H H' → PenAt H' p → EntAt H' a e → e.num = num → e.isDeed = false → (∀ n, EnOk n ds as e) → Q (.ref a) H'
theorem ok_act {f : Addr} {fd : FuncData} {k : Nat} (F : Fun K "_law_act" "_law_act" sAct f fd) (C__law_draw : CDraw P w K mg base k) (C__law_day : CallOk P w K mg base k "_law_day" pDay spDay) (m_len : mg "len" = none) : FnOk P w K mg base CX0 (k + 1) f fd pAct (spAct K) := by
  refine F.ok scAct (fun vs H Q E h => ?_) (fun cdv A outer s H vs Q E hr h => ?_)
  · obtain ⟨p, ld, la, num, ds, as, rfl, _⟩ := h
    rfl
  · obtain ⟨p, ld, la, num, ds, as, rfl, hP, eld, nld, ela, nla, hne, hdl, hal, hdn, han, q⟩ := h
    have nd := scAct.nd
    refine ⟨_, pss_cons (ps_set (i := 4) nd rfl (.inl rfl) (pe_ix ix_list (pe_lst (pa_cons pe_str (pa_cons pe_str (pa_cons pe_str pa_nil)))) (pe_call C__law_draw.ok hr (by rfl) C__law_draw.g C__law_draw.kp C__law_draw.b .nil pass0 (pa_cons (pv 0) (pa_cons pe_int pa_nil))) (fun _ _ => rfl)))
      (pss_cons (ps_set (i := 5) nd rfl (.inl rfl) (pv 2))
      (pss_cons (ps_if (pt_cmpR op_eq (pv 4) pe_str (nomark _)) (pss_one (ps_set (i := 5) nd rfl (.inl rfl) (pv 3))) pss_nil)
      (pss_cons (ps_if (pt_cmpR (op_eqD hr.units) (pv 5) (pe_lst pa_nil) (nomark _)) (pss_one (ps_par (i := 4) (j := 5) (by rfl) nd rfl rfl (by decide) rfl rfl (pa_cons pe_str (pa_cons (pv 2) pa_nil)) (by rfl))) pss_nil)
      (pss_one (ps_ret (pe_tup (pa_cons (pv 1) (pa_cons (pe_call C__law_day.ok hr (by rfl) C__law_day.g C__law_day.kp C__law_day.b .nil pass0 (pa_cons (pv 0) pa_nil)) (pa_cons (pe_call C__law_day.ok hr (by rfl) C__law_day.g C__law_day.kp C__law_day.b .nil pass0 (pa_cons (pv 0) pa_nil)) (pa_cons (pe_call C__law_draw.ok hr (by rfl) C__law_draw.g C__law_draw.kp C__law_draw.b .nil pass0 (pa_cons (pv 0) (pa_cons pe_int pa_nil))) (pa_cons (pv 4) (pa_cons (pe_ix ix_list (pv 5) (pe_call C__law_draw.ok hr (by rfl) C__law_draw.g C__law_draw.kp C__law_draw.b .nil pass0 (pa_cons (pv 0) (pa_cons (pe_callB call_len_seq (by rfl) m_len (by decide +kernel) (pa_cons (pv 5) pa_nil)) pa_nil))) (fun _ _ => rfl)) pa_nil)))))))))))), ?_⟩
    refine ⟨(by show 3 ≤ sizeLine; decide), fun l1 nl1 => ?_⟩
    refine ⟨_, rfl, p, 3, rfl, hP.new nl1 _, by decide, by decide, fun v0 H1 k1 P1 a0 b0 => ?_⟩
    obtain ⟨_, gx, x, rfl, hx⟩ := pick (xs := [.str "paid", .str "void", .str "undone"]) (fun v => ∃ x : Str, v = .str x ∧ (x = "paid" ∨ x = "void" ∨ x = "undone")) a0 b0 (am1 ⟨_, rfl, .inl rfl⟩ (am1 ⟨_, rfl, .inr (.inl rfl)⟩ (am1 ⟨_, rfl, .inr (.inr rfl)⟩ am0)))
    have k01 : Kp p H H1 := (Kp.new nl1 _).trans k1
    refine ⟨l1, _, _, _, rfl, rfl, SqL.of (k1 _ _ (hP.free nl1) upd_same), gx, ?_⟩
    have eld1 := k01 _ _ nld eld
    have ela1 := k01 _ _ nla ela
    refine ⟨_, rfl, ?_⟩
    refine ⟨_, rfl, rfl, _, rfl, ?_⟩
    refine (Classical.em (x = ("undone" : Str))).elim (fun hu => ?U) (fun hu => ?NU)
    case' U =>
      rw [decide_eq_true (show V.str x = V.str "undone" by rw [hu])]
      refine iteT ?_
      refine ⟨_, rfl, ?_⟩
      refine ⟨_, rfl, Nat.zero_le _, fun l2 nl2 => ?_⟩
      have s2 := same_new nl2 (.lst [])
      have el2 : (upd H1 l2 (.lst [])) l2 = some (.lst (([] : List Int).map V.int)) := upd_same
      generalize upd H1 l2 (.lst []) = H2 at s2 el2
      refine ⟨.list (as.map PyData.int), .list (([] : List Int).map PyData.int), .lst (SqL.of (s2 _ _ ela1)) (dp_ints _), .lst (SqL.of el2) (dp_ints _), shaped_ints _, shaped_ints _, _, rfl, ?_⟩
      rw [eqv_ints]
      refine (Classical.em (as = [])).elim (fun ha => ?A1) (fun ha => ?B1)
      case' A1 =>
        rw [decide_eq_true ha]
        refine iteT ?_
        refine ⟨_, rfl, _, _, rfl, ?A⟩
      case' B1 =>
        rw [decide_eq_false ha]
        refine iteF ?B
    case' NU =>
      rw [decide_eq_false (show ¬ V.str x = V.str "undone" from fun z => hu (by injection z))]
      refine iteF ?_
      refine ⟨_, rfl, Nat.zero_le _, fun l2 nl2 => ?_⟩
      have s2 := same_new nl2 (.lst [])
      have el2 : (upd H1 l2 (.lst [])) l2 = some (.lst (([] : List Int).map V.int)) := upd_same
      generalize upd H1 l2 (.lst []) = H2 at s2 el2
      refine ⟨.list (ds.map PyData.int), .list (([] : List Int).map PyData.int), .lst (SqL.of (s2 _ _ eld1)) (dp_ints _), .lst (SqL.of el2) (dp_ints _), shaped_ints _, shaped_ints _, _, rfl, ?_⟩
      rw [eqv_ints, decide_eq_false hne]
      refine iteF ?C
    case' A1 =>
      obtain ⟨xw, ss, sa, es, nsa, hss, hsl, hcase, exw⟩ : ∃ (xw : Str) (ss : List Int) (sa : Addr), H2 sa = some (.lst (ss.map V.int)) ∧ sa ≠ p ∧ ss ≠ [] ∧ ss.length ≤ 1000 ∧ (∀ o ∈ ss, (((xw = "undone" ∧ o ∈ as) ∨ ((xw = "paid" ∨ xw = "void") ∧ o ∈ ds)) ∧ o < num)) ∧ (xw = "paid" ∧ sa = ld) :=
        ⟨"paid", ds, ld, s2 _ _ eld1, nld, hne, hdl, fun o ho => ⟨.inr ⟨.inl rfl, ho⟩, hdn o ho⟩, rfl, rfl⟩
      obtain ⟨rfl, rfl⟩ := exw
    case' B1 =>
      obtain ⟨xw, ss, sa, es, nsa, hss, hsl, hcase, exw⟩ : ∃ (xw : Str) (ss : List Int) (sa : Addr), H2 sa = some (.lst (ss.map V.int)) ∧ sa ≠ p ∧ ss ≠ [] ∧ ss.length ≤ 1000 ∧ (∀ o ∈ ss, (((xw = "undone" ∧ o ∈ as) ∨ ((xw = "paid" ∨ xw = "void") ∧ o ∈ ds)) ∧ o < num)) ∧ (xw = x ∧ sa = la) :=
        ⟨x, as, la, s2 _ _ ela1, nla, ha, hal, fun o ho => ⟨.inl ⟨hu, ho⟩, han o ho⟩, rfl, rfl⟩
      obtain ⟨rfl, rfl⟩ := exw
    case' NU =>
      obtain ⟨xw, ss, sa, es, nsa, hss, hsl, hcase, exw⟩ : ∃ (xw : Str) (ss : List Int) (sa : Addr), H2 sa = some (.lst (ss.map V.int)) ∧ sa ≠ p ∧ ss ≠ [] ∧ ss.length ≤ 1000 ∧ (∀ o ∈ ss, (((xw = "undone" ∧ o ∈ as) ∨ ((xw = "paid" ∨ xw = "void") ∧ o ∈ ds)) ∧ o < num)) ∧ (xw = x ∧ sa = ld) :=
        ⟨x, ds, ld, s2 _ _ eld1, nld, hne, hdl, fun o ho => ⟨.inr ⟨(by rcases hx with h | h | h; exact .inl h; exact .inr h; exact absurd h hu), ho⟩, hdn o ho⟩, rfl, rfl⟩
      obtain ⟨rfl, rfl⟩ := exw
    all_goals
      have P2 : PenAt H2 p := by
        obtain ⟨x1, x2, x3, x4, z1, z2⟩ := P1
        exact ⟨x1, x2, x3, x4, s2 _ _ z1, z2⟩
      have k02 : Kp p H H2 := k01.trans (Kp.same s2)
      refine ⟨_, rfl, _, rfl, p, rfl, P2, fun v1 H3 k3 P3 a1 b1 => ?_⟩
      refine ⟨_, rfl, p, rfl, P3, fun v2 H4 k4 P4 a2 b2 => ?_⟩
      refine ⟨_, rfl, p, 4, rfl, P4, by decide, by decide, fun v3 H5 k5 P5 a3 b3 => ?_⟩
      have k25 : Kp p H2 H5 := k3.trans (k4.trans k5)
      have es5 := k25 _ _ nsa es
      have hlpos : 0 < ss.length := List.length_pos_iff.mpr hss
      refine ⟨_, rfl, _, rfl, _, rfl, _, rfl, _, _, rfl, .inl (SqL.of es5), p, _, rfl, P5, by rw [List.length_map]; omega, by rw [List.length_map]; omega, fun v4 H6 k6 P6 a4 b4 => ?_⟩
      rw [List.length_map] at b4
      have hk : v4.toNat < ss.length := by omega
      refine ⟨_, _, _, .int ss[v4.toNat], rfl, rfl, SqL.of (k6 _ _ nsa es5), at_of (j := v4.toNat) (by omega) (by rw [List.getElem?_map, List.getElem?_eq_getElem hk]; rfl), (by show 6 ≤ sizeLine; decide), fun t3 nt3 => ?_⟩
      exact q t3 ⟨num, v1, v2, v3, .act _ ss[v4.toNat]⟩ _ (k02.trans (k25.trans (k6.trans (Kp.new nt3 _)))) (P6.new nt3 _) upd_same rfl rfl fun n => ⟨⟨a1, b1⟩, ⟨a2, b2⟩, ⟨a3, by show v3 ≤ 3; omega⟩, hcase _ (List.getElem_mem hk)⟩
end
end Deed

namespace Deed
open PySem PySem.Spec PyProof.Rows L2 LamX
theorem okE_snoc {n : Nat} {es : List En} {e : En} {num : Int} (hok : BkOk n es) (hlt : ∀ x ∈ es, x.num < num) (hnum : e.num = num) (h0 : 0 ≤ num) (h1 : num ≤ 30) (hEn : EnOk n (dn es) (an es) e) : BkOk n (es ++ [e]) := by
  have hd : ∀ x ∈ dn es, x ∈ dn (es ++ [e]) := fun x hx => by rw [dn_snoc]; exact List.mem_append_left _ hx
  have ha : ∀ x ∈ an es, x ∈ an (es ++ [e]) := fun x hx => by rw [an_snoc]; exact List.mem_append_left _ hx
  refine ⟨?_, fun e' he' => ?_, fun e' he' => ?_⟩
  · rw [List.map_append]
    refine List.nodup_append.mpr ⟨hok.nd, List.pairwise_singleton _ _, fun x hx y hy => ?_⟩
    obtain ⟨e', he', rfl⟩ := List.mem_map.mp hx
    have hy' : y = e.num := by simpa using hy
    rw [hy', hnum]
    exact Int.ne_of_lt (hlt e' he')
  · rcases List.mem_append.mp he' with he' | he'
    · exact hok.rng e' he'
    · rw [List.mem_singleton.mp he', hnum]
      omega
  · rcases List.mem_append.mp he' with he' | he'
    · exact (hok.ok e' he').mono hd ha
    · rw [List.mem_singleton.mp he']
      exact hEn.mono hd ha
theorem Kp.none {p q : Addr} {H H' : Hp} (k : Kp p H H') (n : q ≠ p) (h : H' q = none) : H q = none := by
  cases z : H q with
  | none => rfl
  | some o => rw [k _ _ n z] at h; cases h
section
variable {P : Program} {w : World} {K : PySem.W.Frag} {mg : Str → Option Value} {base : Heap}
def spBook : Sp := fun vs H Q _ => ∃ (p : Addr) (most : Int), vs = [.ref p, .int most] ∧ PenAt H p ∧ 0 ≤ most ∧ most ≤ 16 ∧
  ∀ b fk t n age zs H', Kp p H H' → PenAt H' p → BookAt H' b fk t n age zs → (zs.length : Int) ≤ most → Q (.ref b) H'
end
end Deed

namespace Deed
open PySem PySem.Spec PyProof.Rows L2 LamX
section
variable {P : Program} {w : World} {K : PySem.W.Frag} {mg : Str → Option Value} {base : Heap} {fRi fDe : Addr} {dRi dDe : FuncData} {T : List (Addr × Str)}
abbrev sDeedE : Stmt := topS 27
theorem scDeedE : FnScope ["book", "entry"] ["book"] (defScope sDeedE) := ⟨rfl, rfl, rfl, by decide +kernel, rfl, by decide +kernel, by decide +kernel⟩
theorem ok_deedE {f : Addr} {fd : FuncData} {k : Nat} (F : Fun K "deed_entries" "deed_entries" sDeedE f fd) (R : RisD K mg base T fRi dRi) (mW : MgInt mg "WORD" 4) : FnOk P w K mg base CX0 (k + 3) f fd ["book"] (spPick (·.isDeed) T) := by
  have GR : FnOk P w K mg base CX0 (k + 2) fRi dRi ["book"] (spRising T) := R.ok
  refine F.ok scDeedE (fun vs H Q E h => ?_) (fun cdv A outer s H vs Q E hr h => ?_)
  · obtain ⟨b, fk, t, n, age, zs, rfl, _⟩ := h
    rfl
  · obtain ⟨b, fk, t, n, age, zs, rfl, hB, hT, q⟩ := h
    refine ⟨_, pss_one (ps_ret (pe_lc (own := [("entry", 1)]) (g := gName 1) (by rfl) scDeedE.nd (pi_list (pe_call GR hr (by rfl) R.D.g R.D.F.kp R.D.b .nil pass0 (pa_cons (pv 0) pa_nil))) (blkOk_by (own := [("entry", 1)]) (N := ["book", "entry"]) (sc := defScope sDeedE) (by decide +kernel)) (fun _ _ _ _ _ => pg_name (i := 1) scDeedE.nd rfl (Or.inl rfl))
      (fun _ _ _ _ _ => pts_one (pt_cmpR op_eq (show PE _ _ (tOp (rIxT K) (tVar 1) (tC (.int 4))) from pe_ix ix_tup (pv 1) (pe_num (by rfl) mW) (fun _ _ => rfl)) pe_str (nomark _))) (fun _ _ _ _ _ => pv 1))), ?_⟩
    refine ⟨_, rfl, b, fk, t, n, age, zs, rfl, hB, hT, fun p zs' H1 eN T1 fr ep pm so => ?_⟩
    have hent : ∀ z ∈ zs', EntAt H1 z.1 z.2 := fun z hz => (hB.ent z (pm.mem_iff.mp hz)).kp (ExtN.tup eN)
    refine ⟨p, rfl, ⟨_, SqL.of ep⟩, fun D nD => ?_⟩
    have npD : p ≠ D := ne_of_none ep nD
    refine lc_list (K := K) (a := p) (xs := refs zs') (fun i H' => H' D = some (.lst (refs ((zs'.take i).filter fun z => z.2.isDeed))) ∧ Same H1 H') ⟨upd_same, fun b o e => by rw [upd_ne (ne_of_none e nD)]; exact e⟩ (fun i H' _ h => SqL.of (h.2 _ _ ep)) ?_ ?_
    · rintro i x H' hx ⟨eD, sm⟩
      obtain ⟨z, hz, rfl⟩ := ref_at hx
      have hzm : z ∈ zs' := List.mem_of_getElem? hz
      obtain ⟨xs, ex, _, _, _, _, g4⟩ := ((hent z hzm).kp (Same.tup sm)).tup
      refine ⟨rfl, _, rfl, z.1, xs, 4, _, rfl, rfl, SqT.of ex, g4, rfl, _, rfl, ?_⟩
      have wd := (hB.ok.ok z.2 (List.mem_map.mpr ⟨z, pm.mem_iff.mp hzm, rfl⟩)).word
      have et := take_more hz
      refine ite2 (fun c => ?_) (fun c => ?_)
      · have hd : z.2.isDeed = true := wd.mp (by
          have := of_decide_eq_true c
          injection this)
        refine ⟨_, rfl, _, eD, small1000 ?_, ?_, fun b o e => ?_⟩
        · have h1 := List.length_filter_le (fun z : Addr × En => z.2.isDeed) (zs'.take i)
          have h2 := pm.length_eq
          have h3 := hB.len
          rw [List.length_map]
          rw [List.length_take] at h1
          omega
        · rw [upd_same, et, List.filter_append]
          simp [hd, refs]
        · have nb : b ≠ D := ne_of_none e nD
          rw [upd_ne nb]
          exact sm _ _ e
      · have hd : z.2.isDeed = false := by
          cases hh : z.2.isDeed with
          | false => rfl
          | true =>
            refine absurd (decide_eq_true ?_) c
            rw [wd.mpr hh]
        refine ⟨?_, sm⟩
        rw [eD, et, List.filter_append]
        simp [hd]
    · rintro H' ⟨eD, sm⟩
      have el : zs'.take (refs zs').length = zs' := List.take_of_length_le (by rw [List.length_map]; exact Nat.le_refl _)
      rw [el] at eD
      exact q D zs' H' (eN.trans (.of sm)) (T1.ext sm) (Fresh.of eN nD) eD pm so
end
end Deed

namespace Deed
open PySem PySem.Spec PyProof.Rows L2 LamX
section
variable {P : Program} {w : World} {K : PySem.W.Frag} {mg : Str → Option Value} {base : Heap} {fRi fDe : Addr} {dRi dDe : FuncData} {T : List (Addr × Str)}
abbrev sActE : Stmt := topS 28
theorem scActE : FnScope ["book", "entry"] ["book"] (defScope sActE) := ⟨rfl, rfl, rfl, by decide +kernel, rfl, by decide +kernel, by decide +kernel⟩
theorem ok_actE {f : Addr} {fd : FuncData} {k : Nat} (F : Fun K "act_entries" "act_entries" sActE f fd) (R : RisD K mg base T fRi dRi) (mW : MgInt mg "WORD" 4) : FnOk P w K mg base CX0 (k + 3) f fd ["book"] (spPick (fun e => !e.isDeed) T) := by
  have GR : FnOk P w K mg base CX0 (k + 2) fRi dRi ["book"] (spRising T) := R.ok
  refine F.ok scActE (fun vs H Q E h => ?_) (fun cdv A outer s H vs Q E hr h => ?_)
  · obtain ⟨b, fk, t, n, age, zs, rfl, _⟩ := h
    rfl
  · obtain ⟨b, fk, t, n, age, zs, rfl, hB, hT, q⟩ := h
    refine ⟨_, pss_one (ps_ret (pe_lc (own := [("entry", 1)]) (g := gName 1) (by rfl) scActE.nd (pi_list (pe_call GR hr (by rfl) R.D.g R.D.F.kp R.D.b .nil pass0 (pa_cons (pv 0) pa_nil))) (blkOk_by (own := [("entry", 1)]) (N := ["book", "entry"]) (sc := defScope sActE) (by decide +kernel)) (fun _ _ _ _ _ => pg_name (i := 1) scActE.nd rfl (Or.inl rfl))
      (fun _ _ _ _ _ => pts_one (pt_cmpR op_ne (show PE _ _ (tOp (rIxT K) (tVar 1) (tC (.int 4))) from pe_ix ix_tup (pv 1) (pe_num (by rfl) mW) (fun _ _ => rfl)) pe_str (nomark _))) (fun _ _ _ _ _ => pv 1))), ?_⟩
    refine ⟨_, rfl, b, fk, t, n, age, zs, rfl, hB, hT, fun p zs' H1 eN T1 fr ep pm so => ?_⟩
    have hent : ∀ z ∈ zs', EntAt H1 z.1 z.2 := fun z hz => (hB.ent z (pm.mem_iff.mp hz)).kp (ExtN.tup eN)
    refine ⟨p, rfl, ⟨_, SqL.of ep⟩, fun D nD => ?_⟩
    have npD : p ≠ D := ne_of_none ep nD
    refine lc_list (K := K) (a := p) (xs := refs zs') (fun i H' => H' D = some (.lst (refs ((zs'.take i).filter fun z => !z.2.isDeed))) ∧ Same H1 H') ⟨upd_same, fun b o e => by rw [upd_ne (ne_of_none e nD)]; exact e⟩ (fun i H' _ h => SqL.of (h.2 _ _ ep)) ?_ ?_
    · rintro i x H' hx ⟨eD, sm⟩
      obtain ⟨z, hz, rfl⟩ := ref_at hx
      have hzm : z ∈ zs' := List.mem_of_getElem? hz
      obtain ⟨xs, ex, _, _, _, _, g4⟩ := ((hent z hzm).kp (Same.tup sm)).tup
      refine ⟨rfl, _, rfl, z.1, xs, 4, _, rfl, rfl, SqT.of ex, g4, rfl, _, rfl, ?_⟩
      have wd := (hB.ok.ok z.2 (List.mem_map.mpr ⟨z, pm.mem_iff.mp hzm, rfl⟩)).word
      have et := take_more hz
      refine ite2 (fun c => ?_) (fun c => ?_)
      · have hd : z.2.isDeed = false := by
          cases hh : z.2.isDeed with
          | false => rfl
          | true =>
            have c' : (!decide (V.str z.2.word = V.str "deed")) = true := c
            rw [wd.mpr hh] at c'
            simp at c'
        refine ⟨_, rfl, _, eD, small1000 ?_, ?_, fun b o e => ?_⟩
        · have h1 := List.length_filter_le (fun z : Addr × En => !z.2.isDeed) (zs'.take i)
          have h2 := pm.length_eq
          have h3 := hB.len
          rw [List.length_map]
          rw [List.length_take] at h1
          omega
        · rw [upd_same, et, List.filter_append]
          simp [hd, refs]
        · have nb : b ≠ D := ne_of_none e nD
          rw [upd_ne nb]
          exact sm _ _ e
      · have hd : z.2.isDeed = true := by
          cases hh : z.2.isDeed with
          | true => rfl
          | false =>
            refine absurd ?_ c
            show (!decide (V.str z.2.word = V.str "deed")) = true
            have : ¬ (V.str z.2.word = V.str "deed") := fun q => by
              injection q with q
              rw [wd.mp q] at hh
              cases hh
            rw [decide_eq_false this]
            rfl
        refine ⟨?_, sm⟩
        rw [eD, et, List.filter_append]
        simp [hd]
    · rintro H' ⟨eD, sm⟩
      have el : zs'.take (refs zs').length = zs' := List.take_of_length_le (by rw [List.length_map]; exact Nat.le_refl _)
      rw [el] at eD
      exact q D zs' H' (eN.trans (.of sm)) (T1.ext sm) (Fresh.of eN nD) eD pm so
end
end Deed

namespace Deed
open PySem PySem.Spec PyProof.Rows L2 LamX
section
variable {P : Program} {w : World} {K : PySem.W.Frag} {mg : Str → Option Value} {base : Heap} {fRi fDe : Addr} {dRi dDe : FuncData} {T : List (Addr × Str)}
abbrev sDeedsOf : Stmt := topS 29
theorem scDeedsOf : FnScope ["book", "entry"] ["book"] (defScope sDeedsOf) := ⟨rfl, rfl, rfl, by decide +kernel, rfl, by decide +kernel, by decide +kernel⟩
theorem ok_DeedsOf {f : Addr} {fd : FuncData} {k : Nat} (F : Fun K "deeds_of" "deeds_of" sDeedsOf f fd) (DE : Df K mg "deed_entries" sDeedE ["book"] fDe dDe) (GE : FnOk P w K mg base CX0 (k + 3) fDe dDe ["book"] (spPick (·.isDeed) T)) (mN : MgInt mg "NUMBER" 0) : FnOk P w K mg base CX0 (k + 4) f fd ["book"] (spNums (·.isDeed) T) := by
  refine F.ok scDeedsOf (fun vs H Q E h => ?_) (fun cdv A outer s H vs Q E hr h => ?_)
  · obtain ⟨b, fk, t, n, age, zs, rfl, _⟩ := h
    rfl
  · obtain ⟨b, fk, t, n, age, zs, rfl, hB, hT, q⟩ := h
    refine ⟨_, pss_one (ps_ret (pe_lc (own := [("entry", 1)]) (g := gName 1) (by rfl) scDeedsOf.nd (pi_list (pe_call GE hr (by rfl) DE.g DE.F.kp DE.b .nil pass0 (pa_cons (pv 0) pa_nil))) (blkOk_by (own := [("entry", 1)]) (N := ["book", "entry"]) (sc := defScope sDeedsOf) (by decide +kernel)) (fun _ _ _ _ _ => pg_name (i := 1) scDeedsOf.nd rfl (Or.inl rfl))
      (fun _ _ _ _ _ => pts_nil) (fun _ _ _ _ _ => show PE _ _ (tOp (rIxT K) (tVar 1) (tC (.int 0))) from pe_ix ix_tup (pv 1) (pe_num (by rfl) mN) (fun _ _ => rfl)))), ?_⟩
    refine ⟨_, rfl, b, fk, t, n, age, zs, rfl, hB, hT, fun p zs' H1 eN T1 fr ep pm so => ?_⟩
    have hent : ∀ z ∈ zs', EntAt H1 z.1 z.2 := fun z hz => (hB.ent z (pm.mem_iff.mp hz)).kp (ExtN.tup eN)
    refine ⟨p, rfl, ⟨_, SqL.of ep⟩, fun D nD => ?_⟩
    refine lc_list (K := K) (a := p) (xs := refs (zs'.filter fun z => (·.isDeed) z.2)) (fun i H' => H' D = some (.lst ((((zs'.filter fun z => (·.isDeed) z.2).take i).map fun z => z.2.num).map V.int)) ∧ Same H1 H') ⟨upd_same, fun b o e => by rw [upd_ne (ne_of_none e nD)]; exact e⟩ (fun i H' _ h => SqL.of (h.2 _ _ ep)) ?_ ?_
    · rintro i x H' hx ⟨eD, sm⟩
      obtain ⟨z, hz, rfl⟩ := ref_at hx
      have hzm : z ∈ zs' := (List.mem_filter.mp (List.mem_of_getElem? hz)).1
      obtain ⟨xs, ex, g0, _⟩ := ((hent z hzm).kp (Same.tup sm)).tup
      refine ⟨rfl, ?_⟩
      unfold tYes
      dsimp only
      rw [if_pos rfl]
      refine ⟨_, rfl, z.1, xs, 0, _, rfl, rfl, SqT.of ex, g0, _, eD, small1000 ?_, ?_, fun b o e => ?_⟩
      · have h1 := List.length_filter_le (fun z : Addr × En => (·.isDeed) z.2) zs'
        have h2 := pm.length_eq
        have h3 := hB.len
        rw [List.length_map, List.length_map, List.length_take]
        omega
      · rw [upd_same, take_more hz, List.map_append, List.map_append]
        rfl
      · have nb : b ≠ D := ne_of_none e nD
        rw [upd_ne nb]
        exact sm _ _ e
    · rintro H' ⟨eD, sm⟩
      have el : (zs'.filter fun z => (·.isDeed) z.2).take (refs (zs'.filter fun z => (·.isDeed) z.2)).length = zs'.filter fun z => (·.isDeed) z.2 := List.take_of_length_le (by rw [List.length_map]; exact Nat.le_refl _)
      rw [el] at eD
      exact q D zs' H' (eN.trans (.of sm)) (T1.ext sm) (Fresh.of eN nD) eD pm so
end
end Deed

namespace Deed
open PySem PySem.Spec PyProof.Rows L2 LamX
section
variable {P : Program} {w : World} {K : PySem.W.Frag} {mg : Str → Option Value} {base : Heap} {fRi fDe : Addr} {dRi dDe : FuncData} {T : List (Addr × Str)}
abbrev sActsOf : Stmt := topS 30
theorem scActsOf : FnScope ["book", "entry"] ["book"] (defScope sActsOf) := ⟨rfl, rfl, rfl, by decide +kernel, rfl, by decide +kernel, by decide +kernel⟩
theorem ok_ActsOf {f : Addr} {fd : FuncData} {k : Nat} (F : Fun K "acts_of" "acts_of" sActsOf f fd) (DE : Df K mg "act_entries" sActE ["book"] fDe dDe) (GE : FnOk P w K mg base CX0 (k + 3) fDe dDe ["book"] (spPick (fun e => !e.isDeed) T)) (mN : MgInt mg "NUMBER" 0) : FnOk P w K mg base CX0 (k + 4) f fd ["book"] (spNums (fun e => !e.isDeed) T) := by
  refine F.ok scActsOf (fun vs H Q E h => ?_) (fun cdv A outer s H vs Q E hr h => ?_)
  · obtain ⟨b, fk, t, n, age, zs, rfl, _⟩ := h
    rfl
  · obtain ⟨b, fk, t, n, age, zs, rfl, hB, hT, q⟩ := h
    refine ⟨_, pss_one (ps_ret (pe_lc (own := [("entry", 1)]) (g := gName 1) (by rfl) scActsOf.nd (pi_list (pe_call GE hr (by rfl) DE.g DE.F.kp DE.b .nil pass0 (pa_cons (pv 0) pa_nil))) (blkOk_by (own := [("entry", 1)]) (N := ["book", "entry"]) (sc := defScope sActsOf) (by decide +kernel)) (fun _ _ _ _ _ => pg_name (i := 1) scActsOf.nd rfl (Or.inl rfl))
      (fun _ _ _ _ _ => pts_nil) (fun _ _ _ _ _ => show PE _ _ (tOp (rIxT K) (tVar 1) (tC (.int 0))) from pe_ix ix_tup (pv 1) (pe_num (by rfl) mN) (fun _ _ => rfl)))), ?_⟩
    refine ⟨_, rfl, b, fk, t, n, age, zs, rfl, hB, hT, fun p zs' H1 eN T1 fr ep pm so => ?_⟩
    have hent : ∀ z ∈ zs', EntAt H1 z.1 z.2 := fun z hz => (hB.ent z (pm.mem_iff.mp hz)).kp (ExtN.tup eN)
    refine ⟨p, rfl, ⟨_, SqL.of ep⟩, fun D nD => ?_⟩
    refine lc_list (K := K) (a := p) (xs := refs (zs'.filter fun z => (fun e => !e.isDeed) z.2)) (fun i H' => H' D = some (.lst ((((zs'.filter fun z => (fun e => !e.isDeed) z.2).take i).map fun z => z.2.num).map V.int)) ∧ Same H1 H') ⟨upd_same, fun b o e => by rw [upd_ne (ne_of_none e nD)]; exact e⟩ (fun i H' _ h => SqL.of (h.2 _ _ ep)) ?_ ?_
    · rintro i x H' hx ⟨eD, sm⟩
      obtain ⟨z, hz, rfl⟩ := ref_at hx
      have hzm : z ∈ zs' := (List.mem_filter.mp (List.mem_of_getElem? hz)).1
      obtain ⟨xs, ex, g0, _⟩ := ((hent z hzm).kp (Same.tup sm)).tup
      refine ⟨rfl, ?_⟩
      unfold tYes
      dsimp only
      rw [if_pos rfl]
      refine ⟨_, rfl, z.1, xs, 0, _, rfl, rfl, SqT.of ex, g0, _, eD, small1000 ?_, ?_, fun b o e => ?_⟩
      · have h1 := List.length_filter_le (fun z : Addr × En => (fun e => !e.isDeed) z.2) zs'
        have h2 := pm.length_eq
        have h3 := hB.len
        rw [List.length_map, List.length_map, List.length_take]
        omega
      · rw [upd_same, take_more hz, List.map_append, List.map_append]
        rfl
      · have nb : b ≠ D := ne_of_none e nD
        rw [upd_ne nb]
        exact sm _ _ e
    · rintro H' ⟨eD, sm⟩
      have el : (zs'.filter fun z => (fun e => !e.isDeed) z.2).take (refs (zs'.filter fun z => (fun e => !e.isDeed) z.2)).length = zs'.filter fun z => (fun e => !e.isDeed) z.2 := List.take_of_length_le (by rw [List.length_map]; exact Nat.le_refl _)
      rw [el] at eD
      exact q D zs' H' (eN.trans (.of sm)) (T1.ext sm) (Fresh.of eN nD) eD pm so
end
end Deed

namespace Deed
open PySem PySem.Spec PyProof.Rows L2 LamX
theorem Tabs.kp {T : List (Addr × Str)} {H H' : Hp} {p : Addr} (t : Tabs T H) (k : Kp p H H') (P : PenAt H p) : Tabs T H' := fun q hq => by
  obtain ⟨ps, h1, h2, h3⟩ := t q hq
  refine ⟨ps, k _ _ (P.ne h1 fun _ z => by cases z) h1, h2, fun pos cv hc => ?_⟩
  obtain ⟨c, e1, e2⟩ := h3 pos cv hc
  exact ⟨c, e1, k _ _ (P.ne e2 fun _ z => by unfold CodeO at z; cases z) e2⟩
theorem ExtN.sqL {K : PySem.W.Frag} {H H' : Hp} {a : Addr} {xs : List V} (e : ExtN H H') (h : SqL K H a xs) : SqL K H' a xs := by
  rcases h with (z | ⟨o, z⟩) | z
  · exact .inl (.inl (e _ _ z fun ps z' => by cases z'))
  · exact .inl (.inr ⟨o, e _ _ z fun ps z' => by cases z'⟩)
  · exact .inr z
theorem ExtN.pen {H H' : Hp} {p : Addr} (e : ExtN H H') (h : PenAt H p) : PenAt H' p := by
  obtain ⟨x1, x2, x3, x4, z1, z2⟩ := h
  exact ⟨x1, x2, x3, x4, e _ _ z1 fun ps z => (by cases z), z2⟩
/-- with a pen that is new -/
theorem ExtN.kp {H H1 H2 : Hp} {p : Addr} (e : ExtN H H1) (n : H p = none) (k : Kp p H1 H2) : ExtN H H2 := fun b o z h => k b o (ne_of_none z n) (e b o z h)
theorem ExtN.put {H H' : Hp} {p : Addr} (e : ExtN H H') (f : Fresh H p) (o : HO) : ExtN H (upd H' p o) := fun b u z h => by
  rw [upd_ne (f.ne z h)]
  exact e b u z h
theorem rising_one : ∀ {l m : List Int}, l.Pairwise (· < ·) → m.Pairwise (· < ·) → (∀ x, x ∈ l ↔ x ∈ m) → l = m
  | [], [], _, _, _ => rfl
  | [], y :: m, _, _, h => absurd ((h y).mpr List.mem_cons_self) (by simp)
  | x :: l, [], _, _, h => absurd ((h x).mp List.mem_cons_self) (by simp)
  | x :: l, y :: m, h1, h2, h => by
    have a1 := List.pairwise_cons.mp h1
    have a2 := List.pairwise_cons.mp h2
    have exy : x = y := by
      have m1 := (h x).mp List.mem_cons_self
      have m2 := (h y).mpr List.mem_cons_self
      rcases List.mem_cons.mp m1 with e | e
      · exact e
      · rcases List.mem_cons.mp m2 with e' | e'
        · exact e'.symm
        · have := a1.1 y e'
          have := a2.1 x e
          omega
    subst exy
    congr 1
    refine rising_one a1.2 a2.2 fun z => ?_
    constructor
    · intro hz
      rcases List.mem_cons.mp ((h z).mp (List.mem_cons_of_mem _ hz)) with e | e
      · have := a1.1 z hz
        omega
      · exact e
    · intro hz
      rcases List.mem_cons.mp ((h z).mpr (List.mem_cons_of_mem _ hz)) with e | e
      · have := a2.1 z hz
        omega
      · exact e
/-- the picked numbers of an arrangement by numbers -/
def picked (φ : En → Bool) (zs : List (Addr × En)) : List Int := (zs.filter fun z => φ z.2).map fun z => z.2.num
theorem picked_up {φ : En → Bool} {zs : List (Addr × En)} (h : zs.Pairwise (fun a b => a.2.num < b.2.num)) : (picked φ zs).Pairwise (· < ·) := by
  unfold picked
  exact List.pairwise_map.mpr (h.filter _)
theorem mem_picked {φ : En → Bool} {zs : List (Addr × En)} {x : Int} : x ∈ picked φ zs ↔ ∃ z ∈ zs, φ z.2 = true ∧ z.2.num = x := by
  unfold picked
  simp only [List.mem_map, List.mem_filter]
  constructor
  · rintro ⟨z, ⟨h1, h2⟩, h3⟩
    exact ⟨z, h1, h2, h3⟩
  · rintro ⟨z, h1, h2, h3⟩
    exact ⟨z, ⟨h1, h2⟩, h3⟩
theorem picked_len (φ : En → Bool) (zs : List (Addr × En)) : (picked φ zs).length ≤ zs.length := by
  unfold picked
  rw [List.length_map]
  exact List.length_filter_le _ _
/-- two arrangements of the same entries -/
theorem picked_one {φ : En → Bool} {zs zs' : List (Addr × En)} (h : zs.Pairwise (fun a b => a.2.num < b.2.num)) (h' : zs'.Pairwise (fun a b => a.2.num < b.2.num)) (e : ∀ x, x ∈ ens zs ↔ x ∈ ens zs') : picked φ zs = picked φ zs' := by
  refine rising_one (picked_up h) (picked_up h') fun x => ?_
  rw [mem_picked, mem_picked]
  constructor
  · rintro ⟨z, h1, h2, h3⟩
    obtain ⟨z', h4, h5⟩ := List.mem_map.mp ((e z.2).mp (List.mem_map.mpr ⟨z, h1, rfl⟩))
    exact ⟨z', h4, by rw [h5]; exact h2, by rw [h5]; exact h3⟩
  · rintro ⟨z, h1, h2, h3⟩
    obtain ⟨z', h4, h5⟩ := List.mem_map.mp ((e z.2).mpr (List.mem_map.mpr ⟨z, h1, rfl⟩))
    exact ⟨z', h4, by rw [h5]; exact h2, by rw [h5]; exact h3⟩
theorem ens_perm {zs zs' : List (Addr × En)} (h : zs'.Perm zs) : ∀ x, x ∈ ens zs' ↔ x ∈ ens zs := fun x => (h.map _).mem_iff
end Deed

namespace Deed
open PySem PySem.Spec PyProof.Rows L2 LamX
/-! ### acts in force: the mathematics -/
def En.of (e : En) : Int := match e.kd with
  | .deed _ _ _ _ => -1
  | .act _ o => o
def isOpen (d k : Int) (e : En) : Bool := decide (e.day ≤ d) && decide (e.wri ≤ k)
/-- an entry of the word x that is of the number n -/
def isOn (x : Str) (n : Int) (e : En) : Bool := decide (e.word = x) && decide (e.of = n)
def frcF (es : List En) (d k : Int) : Nat → En → Bool
  | 0, _ => false
  | f + 1, e => isOpen d k e && es.all fun u => !(isOn "undone" e.num u && frcF es d k f u)
def frc (es : List En) (d k : Int) (e : En) : Bool := frcF es d k (31 - e.num).toNat e
theorem EnOk.of_lt {n : Nat} {ds as : List Int} {e : En} (h : EnOk n ds as e) (hd : e.isDeed = false) : e.of < e.num ∧ ((e.word = "undone" ∧ e.of ∈ as) ∨ ((e.word = "paid" ∨ e.word = "void") ∧ e.of ∈ ds)) := by
  unfold En.isDeed at hd
  unfold En.of En.word
  cases hk : e.kd with
  | deed g t rs ws =>
    rw [hk] at hd
    cases hd
  | act x o =>
    have h4 := h.2.2.2
    rw [hk] at h4
    exact ⟨h4.2, h4.1⟩
theorem isOn_act {n : Nat} {ds as : List Int} {e : En} {x : Str} {m : Int} (h : EnOk n ds as e) (hx : x ≠ "deed") (ho : isOn x m e = true) : e.isDeed = false ∧ e.word = x ∧ e.of = m := by
  unfold isOn at ho
  rw [Bool.and_eq_true] at ho
  have h1 := of_decide_eq_true ho.1
  have h2 := of_decide_eq_true ho.2
  refine ⟨?_, h1, h2⟩
  cases hd : e.isDeed with
  | false => rfl
  | true => exact absurd ((h.word.mpr hd).symm.trans h1) (fun z => hx z.symm)
theorem frcF_one {n : Nat} {es : List En} (hB : BkOk n es) (d k : Int) : ∀ (f g : Nat) (e : En), e ∈ es → (31 - e.num).toNat ≤ f → (31 - e.num).toNat ≤ g → frcF es d k f e = frcF es d k g e := by
  intro f
  induction f with
  | zero =>
    intro g e he hf _
    have := hB.rng e he
    omega
  | succ f ih =>
    intro g e he hf hg
    have re := hB.rng e he
    cases g with
    | zero => omega
    | succ g =>
      show (isOpen d k e && es.all fun u => !(isOn "undone" e.num u && frcF es d k f u)) = (isOpen d k e && es.all fun u => !(isOn "undone" e.num u && frcF es d k g u))
      congr 1
      have key : ∀ u ∈ es, (isOn "undone" e.num u && frcF es d k f u) = (isOn "undone" e.num u && frcF es d k g u) := fun u hu => by
        cases ho : isOn "undone" e.num u with
        | false => rfl
        | true =>
          obtain ⟨h1, h2, h3⟩ := isOn_act (hB.ok u hu) (by decide) ho
          have lt := ((hB.ok u hu).of_lt h1).1
          rw [ih g u hu (by omega) (by omega)]
      rw [Bool.eq_iff_iff, List.all_eq_true, List.all_eq_true]
      constructor
      · intro h u hu
        rw [← key u hu]
        exact h u hu
      · intro h u hu
        rw [key u hu]
        exact h u hu
theorem frcF_eq {n : Nat} {es : List En} (hB : BkOk n es) (d k : Int) {f : Nat} {e : En} (he : e ∈ es) (hf : (31 - e.num).toNat ≤ f) : frcF es d k f e = frc es d k e := frcF_one hB d k _ _ e he hf (Nat.le_refl _)
/-- in force: open, and no undone of it in force -/
theorem frc_eq {n : Nat} {es : List En} (hB : BkOk n es) (d k : Int) {e : En} (he : e ∈ es) : frc es d k e = (isOpen d k e && es.all fun u => !(isOn "undone" e.num u && frc es d k u)) := by
  have re := hB.rng e he
  rw [← frcF_eq hB d k (f := 31) he (by omega)]
  show (isOpen d k e && es.all fun u => !(isOn "undone" e.num u && frcF es d k 30 u)) = _
  congr 1
  have key : ∀ u ∈ es, (isOn "undone" e.num u && frcF es d k 30 u) = (isOn "undone" e.num u && frc es d k u) := fun u hu => by
    cases ho : isOn "undone" e.num u with
    | false => rfl
    | true =>
      obtain ⟨h1, h2, h3⟩ := isOn_act (hB.ok u hu) (by decide) ho
      have lt := ((hB.ok u hu).of_lt h1).1
      rw [frcF_eq hB d k hu (by omega)]
  rw [Bool.eq_iff_iff, List.all_eq_true, List.all_eq_true]
  constructor
  · intro h u hu
    rw [← key u hu]
    exact h u hu
  · intro h u hu
    rw [key u hu]
    exact h u hu
theorem frc_open {n : Nat} {es : List En} (hB : BkOk n es) {d k : Int} {e : En} (he : e ∈ es) (h : frc es d k e = true) : isOpen d k e = true := by
  rw [frc_eq hB d k he, Bool.and_eq_true] at h
  exact h.1
theorem num_inj {n : Nat} {es : List En} (hB : BkOk n es) {e e' : En} (he : e ∈ es) (he' : e' ∈ es) (h : e.num = e'.num) : e = e' := by
  obtain ⟨i1, hi1, ei1⟩ := List.mem_iff_getElem.mp he
  obtain ⟨i2, hi2, ei2⟩ := List.mem_iff_getElem.mp he'
  have h1 : (es.map (·.num))[i1]? = some e.num := by rw [List.getElem?_map, List.getElem?_eq_getElem hi1, ei1]; rfl
  have h2 : (es.map (·.num))[i2]? = some e.num := by rw [List.getElem?_map, List.getElem?_eq_getElem hi2, ei2, h]; rfl
  have h3 := nd_ix hB.nd h1 h2
  subst h3
  rw [← ei1, ← ei2]
end Deed

namespace Deed
open PySem PySem.Spec PyProof.Rows L2 LamX
/-! ### the law's own book of entries -/
abbrev dks (zs : List (Addr × En)) : List (Key × V) := zs.map fun z => (Sum.inl z.2.num, V.ref z.1)
structure EdAt (H : Hp) (ed : Addr) (n : Nat) (zs : List (Addr × En)) : Prop where
  at_ : H ed = some (.dK (dks zs))
  ent : ∀ z ∈ zs, EntAt H z.1 z.2
  ok : BkOk n (ens zs)
  len : zs.length ≤ 16
theorem EdAt.same {H H' : Hp} {ed : Addr} {n : Nat} {zs : List (Addr × En)} (h : EdAt H ed n zs) (s : Same H H') : EdAt H' ed n zs := ⟨s _ _ h.at_, fun z hz => (h.ent z hz).kp (Same.tup s), h.ok, h.len⟩
theorem valV_dks {zs : List (Addr × En)} (nd : ((ens zs).map (·.num)).Nodup) {z : Addr × En} (hz : z ∈ zs) : valV (dks zs) (.inl z.2.num) = some (.ref z.1) := by
  induction zs with
  | nil => cases hz
  | cons y r ih =>
    have nd' : (y.2.num :: (ens r).map (·.num)).Nodup := nd
    have h2 := List.nodup_cons.mp nd'
    show Option.map (·.2) (List.find? (fun kv => decide (kv.1 = (Sum.inl z.2.num : Key))) ((Sum.inl y.2.num, V.ref y.1) :: dks r)) = _
    rw [List.find?_cons]
    rcases List.mem_cons.mp hz with rfl | hz
    · simp
    · have hne : ¬ (Sum.inl y.2.num : Key) = Sum.inl z.2.num := fun q => by
        injection q with q
        exact h2.1 (List.mem_map.mpr ⟨z.2, List.mem_map.mpr ⟨z, hz, rfl⟩, q.symm⟩)
      rw [decide_eq_false hne]
      exact ih h2.2 hz
theorem EdAt.get {H : Hp} {ed : Addr} {n : Nat} {zs : List (Addr × En)} (h : EdAt H ed n zs) {z : Addr × En} (hz : z ∈ zs) : DGet H ed (.int z.2.num) (some (.ref z.1)) := by
  have := DGet.k (k := Sum.inl z.2.num) h.at_
  rw [valV_dks h.ok.nd hz] at this
  exact this
theorem mem_inS {x : Str} {ws : List Str} : inV (.str x) (ws.map V.str) = decide (x ∈ ws) := by
  induction ws with
  | nil => simp [inV]
  | cons m r ih =>
    have e : inV (.str x) ((m :: r).map V.str) = (eqV (.str m) (.str x) || inV (.str x) (r.map V.str)) := by simp [inV]
    have e2 : eqV (.str m) (.str x) = decide (m = x) := by
      first | rfl | simp [eqV] | (unfold eqV; simp)
    rw [e, ih, e2]
    by_cases h : m = x
    · subst h
      simp
    · have h' : ¬ x = m := fun z => h z.symm
      simp [h, h']
theorem flat_strs (ws : List Str) : (ws.map V.str).all flatV = true := by
  induction ws with
  | nil => rfl
  | cons n r ih =>
    rw [List.map_cons, List.all_cons, ih]
    rfl
theorem EntAt.five {H : Hp} {a : Addr} {e : En} (h : EntAt H a e) (hd : e.isDeed = false) : ∃ xs, H a = some (.tup xs) ∧ atI xs 5 = some (.int e.of) := by
  unfold EntAt at h
  unfold En.isDeed at hd
  unfold En.of
  cases hk : e.kd with
  | deed g t rs ws =>
    rw [hk] at hd
    cases hd
  | act x o =>
    rw [hk] at h
    exact ⟨_, h, atI_nat (j := 5) rfl⟩
theorem putK_new {kvs : List (Key × V)} {k : Key} {v : V} (h : k ∉ kvs.map (·.1)) : putK kvs k v = kvs ++ [(k, v)] := by
  unfold putK
  rw [if_neg]
  intro z
  obtain ⟨kv, h1, h2⟩ := List.any_eq_true.mp z
  exact h (List.mem_map.mpr ⟨kv, h1, of_decide_eq_true h2⟩)
theorem mergeK_new : ∀ (more kvs : List (Key × V)), ((kvs ++ more).map (·.1)).Nodup → mergeK kvs more = kvs ++ more
  | [], kvs, _ => (List.append_nil kvs).symm
  | (k, v) :: r, kvs, h => by
    show mergeK (putK kvs k v) r = kvs ++ (k, v) :: r
    have hk : k ∉ kvs.map (·.1) := fun z => by
      rw [List.map_append, List.nodup_append] at h
      exact h.2.2 k z k List.mem_cons_self rfl
    rw [putK_new hk, mergeK_new r (kvs ++ [(k, v)]) (by rw [List.append_assoc]; exact h), List.append_assoc]
    rfl
theorem dks_nodup {zs : List (Addr × En)} (h : ((ens zs).map (·.num)).Nodup) : ((dks zs).map (·.1)).Nodup := by
  have e : (dks zs).map (·.1) = ((ens zs).map (·.num)).map (Sum.inl : Int → Key) := by
    simp [dks, ens, List.map_map, Function.comp_def]
  rw [e]
  exact List.pairwise_map.mpr (h.imp fun hne e => hne (Sum.inl.inj e))
theorem paired_mono {α β : Type} {F G : α → β → Prop} {l : List α} {m : List β} (h : Paired F l m) (i : ∀ a b, F a b → G a b) : Paired G l m := by
  induction h with
  | nil => exact .nil
  | cons a _ ih => exact .cons (i _ _ a) ih
/-- a lesser number stands ahead -/
theorem mem_before {ys : List (Addr × En)} {i : Nat} {z v : Addr × En} (up : ys.Pairwise (fun a b => a.2.num < b.2.num)) (hz : ys[i]? = some z) (hv : v ∈ ys) (h : v.2.num < z.2.num) : v ∈ ys.take i := by
  obtain ⟨j, hj, ej⟩ := List.mem_iff_getElem.mp hv
  obtain ⟨hi, ei⟩ := List.getElem?_eq_some_iff.mp hz
  have hji : j < i := by
    rcases Nat.lt_or_ge j i with q1 | q1
    · exact q1
    · rcases Nat.eq_or_lt_of_le q1 with q2 | q2
      · subst q2
        rw [ei] at ej
        rw [ej] at h
        omega
      · have := List.pairwise_iff_getElem.mp up i j hi hj q2
        rw [ei, ej] at this
        omega
  exact List.mem_take_iff_getElem.mpr ⟨j, by omega, ej⟩
theorem not_before {ys : List (Addr × En)} {i : Nat} {z v : Addr × En} (up : ys.Pairwise (fun a b => a.2.num < b.2.num)) (hz : ys[i]? = some z) (hv : v ∈ ys.take i) : v.2.num < z.2.num := by
  obtain ⟨hi, ei⟩ := List.getElem?_eq_some_iff.mp hz
  obtain ⟨j, hj, ej⟩ := List.mem_take_iff_getElem.mp hv
  have := List.pairwise_iff_getElem.mp up j i (by omega) hi (by omega)
  rw [ei, ej] at this
  exact this
end Deed

namespace Deed
open PySem PySem.Spec PyProof.Rows L2 LamX
section
variable {P : Program} {w : World} {K : PySem.W.Frag} {mg : Str → Option Value} {base : Heap} {T : List (Addr × Str)} {fW fI fY fA : Addr} {dW dI dY dA : FuncData}
/-! ### whole numbers, days: where they are such -/
abbrev sWhole : Stmt := topS 14
theorem scWhole : FnScope ["thing"] ["thing"] (defScope sWhole) := ⟨rfl, rfl, rfl, by decide +kernel, rfl, by decide +kernel, by decide +kernel⟩
def spWholeI : Sp := fun vs H Q _ => ∃ i : Int, vs = [.int i] ∧ Q (.bl true) H
theorem ok_wholeI {f : Addr} {fd : FuncData} {k : Nat} (F : Fun K "is_whole" "is_whole" sWhole f fd) (mi : mg "isinstance" = none) (mn : mg "int" = none) (mb : mg "bool" = none) : FnOk P w K mg base CX0 (k + 1) f fd ["thing"] spWholeI := by
  refine F.ok scWhole (fun vs H Q E h => ?_) (fun cdv A outer s H vs Q E hr h => ?_)
  · obtain ⟨i, rfl, _⟩ := h
    rfl
  · obtain ⟨i, rfl, q⟩ := h
    refine ⟨_, pss_one (ps_ret (pe_and (pe_callB call_isi (by rfl) mi (by decide +kernel) (pa_cons (pv 0) (pa_cons (pe_bltn (v := .ty "int") (by rfl) mn (by decide +kernel) rfl) pa_nil))) (pe_one (pe_not (pe_callB call_isi (by rfl) mi (by decide +kernel) (pa_cons (pv 0) (pa_cons (pe_bltn (v := .ty "bool") (by rfl) mb (by decide +kernel) rfl) pa_nil))))))), ?_⟩
    refine ⟨_, rfl, _, _, _, _, true, rfl, .ty "int", .base (.int i), kit_ty (by decide +kernel), _, rfl, ?_⟩
    refine iteT ?_
    exact ⟨_, rfl, _, _, _, _, false, rfl, .ty "bool", .base (.int i), kit_ty (by decide +kernel), _, rfl, q⟩
abbrev sWithin : Stmt := topS 15
theorem scWithin : FnScope ["thing", "low", "high"] ["thing", "low", "high"] (defScope sWithin) := ⟨rfl, rfl, rfl, by decide +kernel, rfl, by decide +kernel, by decide +kernel⟩
def spWithinI : Sp := fun vs H Q _ => ∃ i lo hi : Int, vs = [.int i, .int lo, .int hi] ∧ lo ≤ i ∧ i ≤ hi ∧ Q (.bl true) H
theorem ok_withinI {f : Addr} {fd : FuncData} {k : Nat} (F : Fun K "is_within" "is_within" sWithin f fd) (DW : Df K mg "is_whole" sWhole ["thing"] fW dW) (mi : mg "isinstance" = none) (mn : mg "int" = none) (mb : mg "bool" = none) : FnOk P w K mg base CX0 (k + 2) f fd ["thing", "low", "high"] spWithinI := by
  have GW : FnOk P w K mg base CX0 (k + 1) fW dW ["thing"] spWholeI := ok_wholeI DW.F mi mn mb
  refine F.ok scWithin (fun vs H Q E h => ?_) (fun cdv A outer s H vs Q E hr h => ?_)
  · obtain ⟨i, lo, hi, rfl, _⟩ := h
    rfl
  · obtain ⟨i, lo, hi, rfl, h1, h2, q⟩ := h
    refine ⟨_, pss_one (ps_ret (pe_and (pe_call GW hr (by rfl) DW.g DW.F.kp DW.b .nil pass0 (pa_cons (pv 0) pa_nil)) (pe_one (pe_chain op_le op_le (pv 1) (pv 0) (pv 2))))), ?_⟩
    refine ⟨_, rfl, i, rfl, true, rfl, ?_⟩
    refine iteT ?_
    refine ⟨_, rfl, _, rfl, _, _, rfl, rfl, _, rfl, ?_⟩
    rw [decide_eq_true h1]
    refine iteT ?_
    refine ⟨_, rfl, _, _, rfl, rfl, ?_⟩
    dsimp only
    rw [decide_eq_true h2]
    exact q
abbrev sIsDay : Stmt := topS 16
theorem scIsDay : FnScope ["thing"] ["thing"] (defScope sIsDay) := ⟨rfl, rfl, rfl, by decide +kernel, rfl, by decide +kernel, by decide +kernel⟩
def spDayI : Sp := fun vs H Q _ => ∃ i : Int, vs = [.int i] ∧ 0 ≤ i ∧ i ≤ 9999 ∧ Q (.bl true) H
theorem ok_dayI {f : Addr} {fd : FuncData} {k : Nat} (F : Fun K "is_day" "is_day" sIsDay f fd) (DI : Df K mg "is_within" sWithin ["thing", "low", "high"] fI dI) (DW : Df K mg "is_whole" sWhole ["thing"] fW dW) (mi : mg "isinstance" = none) (mn : mg "int" = none) (mb : mg "bool" = none) (mL : MgInt mg "LAST_DAY" 9999) : FnOk P w K mg base CX0 (k + 3) f fd ["thing"] spDayI := by
  have GI : FnOk P w K mg base CX0 (k + 2) fI dI ["thing", "low", "high"] spWithinI := ok_withinI DI.F DW mi mn mb
  refine F.ok scIsDay (fun vs H Q E h => ?_) (fun cdv A outer s H vs Q E hr h => ?_)
  · obtain ⟨i, rfl, _⟩ := h
    rfl
  · obtain ⟨i, rfl, h0, h1, q⟩ := h
    refine ⟨_, pss_one (ps_ret (pe_call GI hr (by rfl) DI.g DI.F.kp DI.b .nil pass0 (pa_cons (pv 0) (pa_cons pe_int (pa_cons (pe_num (by rfl) mL) pa_nil))))), ?_⟩
    exact ⟨_, rfl, i, 0, 9999, rfl, h0, h1, q⟩
def spCkDay : Sp := fun vs H Q _ => ∃ i : Int, vs = [.int i] ∧ 0 ≤ i ∧ i ≤ 9999 ∧ Q .non H
end
end Deed

namespace Deed
open PySem PySem.Spec PyProof.Rows L2 LamX
section
variable {P : Program} {w : World} {K : PySem.W.Frag} {mg : Str → Option Value} {base : Heap} {T : List (Addr × Str)} {fAe fOn : Addr} {dAe dOn : FuncData}
/-! ### the open acts -/
abbrev nOpenA : List Str := ["book", "d", "k", "act"]
/-- the open acts, by their numbers -/
structure OpenActs (n : Nat) (es : List En) (d k : Int) (ys : List (Addr × En)) : Prop where
  mem : ∀ z ∈ ys, z.2 ∈ es ∧ z.2.isDeed = false ∧ isOpen d k z.2 = true
  all : ∀ u ∈ es, u.isDeed = false → isOpen d k u = true → ∃ z ∈ ys, z.2 = u
  up : ys.Pairwise (fun a b => a.2.num < b.2.num)
  len : ys.length ≤ 16
def spOpenA (T : List (Addr × Str)) : Sp := fun vs H Q _ => ∃ (b fk t : Addr) (n : Nat) (age : Int) (zs : List (Addr × En)) (d k : Int), vs = [.ref b, .int d, .int k] ∧ BookAt H b fk t n age zs ∧ Tabs T H ∧
  ∀ (p : Addr) (ys : List (Addr × En)) (H' : Hp), ExtN H H' → Tabs T H' → Fresh H p → H' p = some (.lst (refs ys)) → (∀ z ∈ ys, EntAt H' z.1 z.2) → OpenActs n (ens zs) d k ys → Q (.ref p) H'
def t_openA (K : PySem.W.Frag) : TT := tAnd (tTest (tOp (rI0 fun i j => .bl (decide (i ≤ j))) (tOp (rIxT K) (tVar 3) (tC (.int 2))) (tVar 2))) (tTest (tOp (rI0 fun i j => .bl (decide (i ≤ j))) (tOp (rIxT K) (tVar 3) (tC (.int 1))) (tVar 1)))
/-! ### acts of a word upon a number -/
abbrev nActsOn : List Str := ["acts", "word", "number", "act"]
abbrev pActsOn : List Str := ["acts", "word", "number"]
def spActsOn : Sp := fun vs H Q _ => ∃ (la : Addr) (x : Str) (m : Int) (ys : List (Addr × En)), vs = [.ref la, .str x, .int m] ∧ H la = some (.lst (refs ys)) ∧ (∀ z ∈ ys, EntAt H z.1 z.2 ∧ z.2.isDeed = false) ∧ ys.length ≤ 1000 ∧
  ∀ p H', Same H H' → H p = none → H' p = some (.lst (((ys.filter fun z => isOn x m z.2).map fun z => z.2.num).map V.int)) → Q (.ref p) H'
def t_on (K : PySem.W.Frag) : TT := tAnd (tTest (tOp rEq (tOp (rIxT K) (tVar 3) (tC (.int 4))) (tVar 1))) (tTest (tOp rEq (tOp (rIxT K) (tVar 3) (tC (.int 5))) (tVar 2)))
/-! ### those in force -/
abbrev nForced : List Str := ["acts", "forced", "act"]
def spForced : Sp := fun vs H Q _ => ∃ (la : Addr) (n : Nat) (es : List En) (d k : Int) (ys : List (Addr × En)), vs = [.ref la] ∧ H la = some (.lst (refs ys)) ∧ (∀ z ∈ ys, EntAt H z.1 z.2) ∧ BkOk n es ∧ OpenActs n es d k ys ∧
  ∀ p H', Same H H' → H p = none → H' p = some (.lst (refs (ys.reverse.filter fun z => frc es d k z.2))) → Q (.ref p) H'
end
end Deed

namespace Deed
open PySem PySem.Spec PyProof.Rows L2 LamX
/-! ### what a deed is: the mathematics -/
def En.rests (e : En) : List Int := match e.kd with
  | .deed _ _ rs _ => rs
  | .act _ _ => []
/-- some act of the word upon the number is in force -/
def anyF (es : List En) (d k : Int) (x : Str) (m : Int) : Bool := es.any fun u => isOn x m u && frc es d k u
def carries (x : Str) : Bool := decide (x ∈ ([("stands" : Str), "paid"] : List Str))
/-- by what its rests are -/
def wordBy (es : List En) (d k : Int) (e : En) (lost : Bool) : Str :=
  if k < e.wri then "unknown" else if d < e.day then "ahead" else if anyF es d k "void" e.num = true then "void" else if lost = true then "fallen" else if anyF es d k "paid" e.num = true then "paid" else "stands"
def isD (m : Int) (e : En) : Bool := e.isDeed && decide (e.num = m)
def stF (es : List En) (d k : Int) : Nat → En → Str
  | 0, _ => "unknown"
  | f + 1, e => wordBy es d k e (e.rests.any fun r => es.any fun u => isD r u && !carries (stF es d k f u))
def st (es : List En) (d k : Int) (e : En) : Str := stF es d k (e.num.toNat + 1) e
theorem EnOk.rest {n : Nat} {ds as : List Int} {e : En} (h : EnOk n ds as e) : ∀ r ∈ e.rests, r ∈ ds ∧ r < e.num := by
  intro r hr
  unfold En.rests at hr
  cases hk : e.kd with
  | deed g t rs ws =>
    rw [hk] at hr
    have h4 := h.2.2.2
    rw [hk] at h4
    exact h4.2.2.2.2.2.1 r hr
  | act x o =>
    rw [hk] at hr
    cases hr
theorem any_congr {α : Type} {l : List α} {p q : α → Bool} (h : ∀ x ∈ l, p x = q x) : l.any p = l.any q := by
  induction l with
  | nil => rfl
  | cons a r ih =>
    rw [List.any_cons, List.any_cons, h a List.mem_cons_self, ih fun x hx => h x (List.mem_cons_of_mem _ hx)]
theorem stF_one {n : Nat} {es : List En} (hB : BkOk n es) (d k : Int) : ∀ (f g : Nat) (e : En), e ∈ es → e.num.toNat + 1 ≤ f → e.num.toNat + 1 ≤ g → stF es d k f e = stF es d k g e := by
  intro f
  induction f with
  | zero =>
    intro g e he hf _
    omega
  | succ f ih =>
    intro g e he hf hg
    cases g with
    | zero => omega
    | succ g =>
      show wordBy es d k e _ = wordBy es d k e _
      congr 1
      refine any_congr fun r hr => any_congr fun u hu => ?_
      cases hd : isD r u with
      | false => rfl
      | true =>
        unfold isD at hd
        rw [Bool.and_eq_true] at hd
        have hn := of_decide_eq_true hd.2
        have lt := ((hB.ok e he).rest r hr).2
        have r1 := hB.rng e he
        have r2 := hB.rng u hu
        rw [ih g u hu (by omega) (by omega)]
theorem st_eq {n : Nat} {es : List En} (hB : BkOk n es) (d k : Int) {e : En} (he : e ∈ es) : st es d k e = wordBy es d k e (e.rests.any fun r => es.any fun u => isD r u && !carries (st es d k u)) := by
  show wordBy es d k e _ = wordBy es d k e _
  congr 1
  refine any_congr fun r hr => any_congr fun u hu => ?_
  cases hd : isD r u with
  | false => rfl
  | true =>
    unfold isD at hd
    rw [Bool.and_eq_true] at hd
    have hn := of_decide_eq_true hd.2
    have lt := ((hB.ok e he).rest r hr).2
    have r1 := hB.rng e he
    have r2 := hB.rng u hu
    rw [stF_one hB d k e.num.toNat (u.num.toNat + 1) u hu (by omega) (by omega)]
    rfl
/-- a rest is lost just where that very deed carries nothing -/
theorem lost_one {n : Nat} {es : List En} (hB : BkOk n es) (d k : Int) {r : Int} {u : En} (hu : u ∈ es) (hd : u.isDeed = true) (hn : u.num = r) : (es.any fun u => isD r u && !carries (st es d k u)) = !carries (st es d k u) := by
  rw [Bool.eq_iff_iff, List.any_eq_true]
  constructor
  · rintro ⟨u', hu', h⟩
    rw [Bool.and_eq_true] at h
    unfold isD at h
    rw [Bool.and_eq_true] at h
    have := num_inj hB hu' hu ((of_decide_eq_true h.1.2).trans hn.symm)
    rw [← this]
    exact h.2
  · intro h
    refine ⟨u, hu, ?_⟩
    unfold isD
    rw [hd, decide_eq_true hn, h]
    rfl
theorem dn_at {es : List En} {r : Int} (h : r ∈ dn es) : ∃ u ∈ es, u.isDeed = true ∧ u.num = r := mem_dn.mp h
/-- the words of deeds, as a dict's pairs -/
abbrev wds (es : List En) (d k : Int) (ys : List (Addr × En)) : List (Key × V) := ys.map fun z => (Sum.inl z.2.num, V.str (st es d k z.2))
theorem valV_map {α : Type} {f : α → Int} {g : α → V} {l : List α} (nd : (l.map f).Nodup) {z : α} (hz : z ∈ l) : valV (l.map fun z => ((Sum.inl (f z) : Key), g z)) (.inl (f z)) = some (g z) := by
  induction l with
  | nil => cases hz
  | cons y r ih =>
    have h2 := List.nodup_cons.mp (show (f y :: r.map f).Nodup from nd)
    show Option.map (·.2) (List.find? (fun kv => decide (kv.1 = (Sum.inl (f z) : Key))) ((Sum.inl (f y), g y) :: r.map fun z => ((Sum.inl (f z) : Key), g z))) = _
    rw [List.find?_cons]
    rcases List.mem_cons.mp hz with rfl | hz
    · simp
    · have hne : ¬ (Sum.inl (f y) : Key) = Sum.inl (f z) := fun q => by
        injection q with q
        exact h2.1 (List.mem_map.mpr ⟨z, hz, q.symm⟩)
      rw [decide_eq_false hne]
      exact ih h2.2 hz
theorem EntAt.seven {H : Hp} {a : Addr} {e : En} (h : EntAt H a e) (hd : e.isDeed = true) : ∃ xs r, H a = some (.tup xs) ∧ atI xs 7 = some (.ref r) ∧ H r = some (.tup (e.rests.map V.int)) := by
  unfold EntAt at h
  unfold En.isDeed at hd
  unfold En.rests
  cases hk : e.kd with
  | deed g t rs ws =>
    rw [hk] at h
    obtain ⟨r, w, h1, h2, _⟩ := h
    exact ⟨_, r, h1, atI_nat (j := 7) rfl, h2⟩
  | act x o =>
    rw [hk] at hd
    cases hd
end Deed

namespace Deed
open PySem PySem.Spec PyProof.Rows L2 LamX
/-- the acts in force, in whatever order -/
structure ForcedAt (es : List En) (d k : Int) (fs : List (Addr × En)) : Prop where
  mem : ∀ z ∈ fs, z.2 ∈ es ∧ z.2.isDeed = false ∧ frc es d k z.2 = true
  all : ∀ u ∈ es, u.isDeed = false → frc es d k u = true → ∃ z ∈ fs, z.2 = u
  len : fs.length ≤ 16
theorem ForcedAt.any {n : Nat} {es : List En} {d k : Int} {fs : List (Addr × En)} (h : ForcedAt es d k fs) (hB : BkOk n es) (x : Str) (hx : x ≠ "deed") (m : Int) : (!((((fs.filter fun z => isOn x m z.2).map fun z => z.2.num).map V.int).isEmpty)) = anyF es d k x m := by
  unfold anyF
  rw [Bool.eq_iff_iff, List.any_eq_true]
  constructor
  · intro hh
    have hne : ¬ (((fs.filter fun z => isOn x m z.2).map fun z => z.2.num).map V.int) = [] := fun z => by
      rw [z] at hh
      cases hh
    have hne2 : fs.filter (fun z => isOn x m z.2) ≠ [] := fun z => hne (by rw [z]; rfl)
    obtain ⟨z, hz⟩ := List.exists_mem_of_ne_nil _ hne2
    obtain ⟨h1, h2⟩ := List.mem_filter.mp hz
    exact ⟨z.2, (h.mem z h1).1, by rw [h2, (h.mem z h1).2.2]; rfl⟩
  · rintro ⟨u, hu, hh⟩
    rw [Bool.and_eq_true] at hh
    obtain ⟨hd, _, _⟩ := isOn_act (hB.ok u hu) hx hh.1
    obtain ⟨z, hz, rfl⟩ := h.all u hu hd hh.2
    have hm : z ∈ fs.filter fun z => isOn x m z.2 := List.mem_filter.mpr ⟨hz, hh.1⟩
    cases hl : fs.filter (fun z => isOn x m z.2) with
    | nil => rw [hl] at hm; cases hm
    | cons a r => rfl
section
variable {P : Program} {w : World} {K : PySem.W.Frag} {mg : Str → Option Value} {base : Heap} {T : List (Addr × Str)} {fOn : Addr} {dOn : FuncData}
/-- the words that carry, of the module's top -/
def CarryAt (K : PySem.W.Frag) (mg : Str → Option Value) : Prop := ∃ a : Addr, mg "CARRYING" = some (.ref a) ∧ ∀ H : Hp, SqT K H a [.str "stands", .str "paid"]
abbrev nWordOf : List Str := ["deed", "forced", "words", "d", "k", "rest"]
abbrev pWordOf : List Str := ["deed", "forced", "words", "d", "k"]
def spWordOf : Sp := fun vs H Q _ => ∃ (a fo wd : Addr) (e : En) (n : Nat) (es : List En) (d k : Int) (fs : List (Addr × En)) (kvs : List (Key × V)), vs = [.ref a, .ref fo, .ref wd, .int d, .int k] ∧ EntAt H a e ∧ e ∈ es ∧ e.isDeed = true ∧ BkOk n es ∧ H fo = some (.lst (refs fs)) ∧ (∀ z ∈ fs, EntAt H z.1 z.2) ∧ ForcedAt es d k fs ∧
  H wd = some (.dK kvs) ∧ (∀ r ∈ e.rests, ∃ u ∈ es, u.isDeed = true ∧ u.num = r ∧ valV kvs (.inl r) = some (.str (st es d k u))) ∧ ∀ H', Same H H' → Q (.str (st es d k e)) H'
end
end Deed

namespace Deed
open PySem PySem.Spec PyProof.Rows L2 LamX
/-- the deeds of zs by their numbers -/
def DeedsUp (zs ys : List (Addr × En)) : Prop := ys.Pairwise (fun a b => a.2.num < b.2.num) ∧ (∀ x, x ∈ ens ys ↔ x ∈ ens zs ∧ x.isDeed = true) ∧ ys.length ≤ 16
theorem DeedsUp.nodup {zs ys : List (Addr × En)} (h : DeedsUp zs ys) : ((ens ys).map (·.num)).Nodup := by
  have h1 := h.1
  refine List.pairwise_map.mpr (List.pairwise_map.mpr (h1.imp fun hh => ?_))
  omega
theorem wds_one {zs ys ys' : List (Addr × En)} (h : DeedsUp zs ys) (h' : DeedsUp zs ys') : ens ys = ens ys' := by
  have key : ∀ (l m : List En), l.Pairwise (fun a b => a.num < b.num) → m.Pairwise (fun a b => a.num < b.num) → (∀ x, x ∈ l ↔ x ∈ m) → l = m := by
    intro l
    induction l with
    | nil =>
      intro m _ _ hh
      cases m with
      | nil => rfl
      | cons y r => exact absurd ((hh y).mpr List.mem_cons_self) (by simp)
    | cons x l ih =>
      intro m h1 h2 hh
      cases m with
      | nil => exact absurd ((hh x).mp List.mem_cons_self) (by simp)
      | cons y m =>
        have a1 := List.pairwise_cons.mp h1
        have a2 := List.pairwise_cons.mp h2
        have exy : x = y := by
          rcases List.mem_cons.mp ((hh x).mp List.mem_cons_self) with e | e
          · exact e
          · rcases List.mem_cons.mp ((hh y).mpr List.mem_cons_self) with e' | e'
            · exact e'.symm
            · have := a1.1 y e'
              have := a2.1 x e
              omega
        subst exy
        congr 1
        refine ih m a1.2 a2.2 fun z => ?_
        constructor
        · intro hz
          rcases List.mem_cons.mp ((hh z).mp (List.mem_cons_of_mem _ hz)) with e | e
          · have := a1.1 z hz
            rw [e] at this
            omega
          · exact e
        · intro hz
          rcases List.mem_cons.mp ((hh z).mpr (List.mem_cons_of_mem _ hz)) with e | e
          · have := a2.1 z hz
            rw [e] at this
            omega
          · exact e
  refine key _ _ (List.pairwise_map.mpr h.1) (List.pairwise_map.mpr h'.1) fun x => ?_
  rw [h.2.1 x, h'.2.1 x]
/-- the words of deeds, by entries alone -/
abbrev wdE (es : List En) (d k : Int) (ys : List En) : List (Key × V) := ys.map fun e => (Sum.inl e.num, V.str (st es d k e))
section
variable {P : Program} {w : World} {K : PySem.W.Frag} {mg : Str → Option Value} {base : Heap} {T : List (Addr × Str)} {fCD fOA fFo fDE fWo fCk fAl : Addr} {dCD dOA dFo dDE dWo dCk dAl : FuncData}
abbrev nAllSt : List Str := ["book", "d", "k", "forced", "words", "entry"]
abbrev pAllSt : List Str := ["book", "d", "k"]
def spAllSt (T : List (Addr × Str)) : Sp := fun vs H Q _ => ∃ (b fk t : Addr) (n : Nat) (age : Int) (zs : List (Addr × En)) (d k : Int), vs = [.ref b, .int d, .int k] ∧ BookAt H b fk t n age zs ∧ Tabs T H ∧ (0 ≤ d ∧ d ≤ 9999) ∧ (0 ≤ k ∧ k ≤ 9999) ∧
  ∀ (p : Addr) (ys : List (Addr × En)) (H' : Hp), ExtN H H' → Tabs T H' → Fresh H p → H' p = some (.dK (wdE (ens zs) d k (ens ys))) → DeedsUp zs ys → Q (.ref p) H'
end
end Deed

namespace Deed
open PySem PySem.Spec PyProof.Rows L2 LamX
/-! ### list(d.values()) -/
def tListVals (te : TE) : TE := fun σ H Q => te σ H fun x H1 => ∃ (d : Addr) (kvs : List (Key × V)), x = .ref d ∧ H1 d = some (.dK kvs) ∧ ∀ p, H1 p = none → Q (.ref p) (upd H1 p (.lst (kvs.map (·.2))))
theorem vals_snd {kvs : List (Key × V)} {vs : List (Key × Value)} (kv : KV kvs vs) : Vals (kvs.map (·.2)) (vs.map (·.2)) := by
  have kv' : Paired (fun (p : Key × V) (q : Key × Value) => p.1 = q.1 ∧ RelV p.2 q.2) kvs vs := kv
  induction kv' with
  | nil => exact .nil
  | cons h _ ih => exact .cons h.2 (ih (by assumption))
section
variable {X : Cx} {e : Expr} {te : TE} {p apos cpos pos : Pos}
theorem pe_listVals (hc : X.calm = true) (he : PE X e te) (hg : Gl X "list") (hm : X.mg "list" = none) (hbase : attributeBase e "values" X.env (eval e X.env) = eval e X.env := by rfl) (hline : (apos.endLine == cpos.line) = true := by rfl)
    (hs : starEach [.Call (.Attribute e "values" apos) [] [] cpos] X.env = (false, eval (.Call (.Attribute e "values" apos) [] [] cpos) X.env) :: starEach [] X.env := by rfl) :
    PE X (.Call (.Name "list" p) [.Call (.Attribute e "values" apos) [] [] cpos] [] pos) (tListVals te) := by
  refine ⟨fun pins s σ H Q I hq => ?_⟩
  refine wpAny_Call_Name_kw (ld_blt I hg hm (show bootBuiltins "list" = some (.type "list") by decide +kernel) ?_)
  refine PyProof.Rows.callWith_type1 (?_) hs rfl
  rw [hs]
  show wpAny _ _ (spliced ((false, eval (.Call (.Attribute e "values" apos) [] [] cpos) X.env) :: backTo pos (starEach [] X.env))) _ _ s
  refine Calls.spliced_cons (?_)
  refine wpAny_Call_method (T := "dict") (id := "dict.values") hbase rfl hline F.plainAttrs_dict F.slot_dict_values F.type_dict_values (thn (he.run pins s σ H _ I hq) fun u s1 ⟨x, H1, I1, rx, d, kvs, ex, hd, q⟩ => ?_)
  subst ex
  obtain rfl : u = Value.ref d := rx
  obtain ⟨hz, hs0, vs, kv, hdo⟩ := I1.hok d _ hd
  obtain ⟨ep, hat⟩ := hdo.dictAt
  have lk : kvs.length = vs.length := Paired.length kv
  have I2 : Inv X pins σ H1 { s1 with heap := s1.heap.push { cls := .type "dict_values", data := .fields #[.ref d] } } := I1.kept (t' := s1.toks) fun b ob q => Heap.get?_push_of_some _ q
  refine ⟨hdo.typeIs, hdo.mapOf.noDict, ?_⟩
  show wpAny _ _ (callWith cpos (.builtin "dict.values") [.ref d] [] []) _ X.xe s1
  refine method_meetsIn F.slot_dict_values F.entry_dict_values rfl (PySem.evalArgs_none ⟨rfl, hdo.typeIs, F.args_dict_values_1 _, _, meets_dict_values (mixKind X.prog X.w) d hs0, ⟨vs, hdo⟩, ?_⟩)
  refine Calls.spliced_nil (?_)
  refine PySem.W.kdl_call (PySem.W.kdl_values (knd := mixKind X.prog X.w) (kvs := vs) (ep := ep)) (I1.ok.hd hc) ⟨⟨_, Heap.get?_push_size _ rfl, rfl, rfl⟩, hat.push _⟩ (by omega) fun h' tk acc c hk hS hit => ?_
  have ea : acc.toList = vs.map (·.2) := by
    apply List.ext_getElem?
    intro i
    rw [List.getElem?_map]
    by_cases hi : i < vs.length
    · have h1 : i < acc.size := by rw [hit.1]; exact hi
      obtain ⟨k, hk'⟩ := hit.2 i acc[i] (Array.getElem?_eq_getElem h1)
      rw [hk', Array.getElem?_toList, Array.getElem?_eq_getElem h1]
      rfl
    · have h1 : acc.size ≤ i := by rw [hit.1]; omega
      have h2 : vs[i]? = none := List.getElem?_eq_none (by omega)
      rw [h2, Array.getElem?_toList, Array.getElem?_eq_none h1]
      rfl
  have hv := vals_snd kv
  rw [← ea] at hv
  exact ⟨.ref _, _, I2.laid (t' := tk) hk (Nat.le_refl _) (show ObjOk X.prog X.w _ h' _ (.lst (kvs.map (·.2))) from ⟨by rw [List.length_map]; exact hz, acc.toList, c, hv, by rw [Array.toArray_toList]; exact hS⟩), rfl, q _ (I2.hok.fresh (Nat.le_refl _))⟩
end
end Deed

namespace Deed
open PySem PySem.Spec PyProof.Rows L2
/-! ### set(xs), xs a list of ints -/
abbrev eSet (w : World) : Obj := { cls := .type "set", dict := none, data := .set #[] 0 (.fresh 0 0 (!w.params.followText "set-order")) }
section
variable {P : Program} {w : World} {A : Around} {E : Value → Shared → Prop} {s : Shared}
set_option maxHeartbeats 8000000 in
theorem call_setL {l : Addr} {items : Array Value} (ns : List Int) {Q : Value → Shared → Prop} (nh : A.handled = none) (il : s.heap.IsList l items) (ia : IntsAre items.toList ns) (bd : ns.length + 1 < scanBound)
    (fin : ∀ (h' : Heap) (tk c : Nat), SetR w h' s.heap.objs.size (fun j => decide (j ∈ ns)) c → c ≤ ns.length → (∀ b o, s.heap.get? b = some o → h'.get? b = some o) → Q (.ref s.heap.objs.size) { s with heap := h', toks := tk }) :
    wpAny (model P w) A (call (.type "set") [Value.ref l]) Q E s := by
  have zl : items.size = ns.length := by
    rw [← Array.length_toList]
    exact IntsAre.length ia
  obtain ⟨mc, mt, f1⟩ := F.called_set.mro
  have f2 := F.called_set.made
  have f3 := F.called_set.sub
  refine wpAny_call (codeAny_of_tree (?_))
  show wpAny _ _ (callAny (Value.type "set") _) _ _ _
  refine wpAny_pure ⟨Code.quiet_builtin _ (by decide +kernel), (codeAny_builtin F.entry_type_call ?_)⟩
  rw [Around.under_plain (weight_type_call_type "set" [Value.ref l] []) rfl]
  have f4 := F.called_set.notType
  have f5 := F.called_set.canCreate
  have f6 := F.typeCall_set_1 (.ref l)
  repeat (any_goals (first | assumption | wp_step))
  refine codeAny_mono (code_set_led1 (Value.ref l) (E := E) (Q₁ := fun o s₁ => o = .ref s.heap.objs.size ∧ s₁ = { s with heap := s.heap.push (eSet w) }) ⟨rfl, rfl⟩) fun r s₁ hr => ?_
  match r, hr with
  | .error e, hr => exact hr
  | .ok .next, hr => exact hr.elim
  | .ok .brk, hr => exact hr.elim
  | .ok .cont, hr => exact hr.elim
  | .ok (.ret o), hr =>
    obtain ⟨rfl, rfl⟩ := hr
    have atS : (s.heap.push (eSet w)).get? s.heap.objs.size = some (eSet w) := Heap.get?_push_size _ rfl
    have tyS : Shared.TypeIs { s with heap := s.heap.push (eSet w) } (.ref s.heap.objs.size) "set" := ⟨_, atS, rfl⟩
    have f7 := F.called_set.init.lookup
    have f8 := F.called_set.init.bind (.ref s.heap.objs.size)
    repeat (any_goals (first | assumption | wp_step))
    refine codeAny_mono (codeAny_call_builtin (R := wants (fun r s₂ => r = .none ∧ ∃ h' tk c, s₂ = { s with heap := h', toks := tk } ∧ SetR w h' s.heap.objs.size (fun j => decide (j ∈ ns)) c ∧ c ≤ ns.length ∧ (∀ b o, s.heap.get? b = some o → h'.get? b = some o)) E) F.called_set.init.plain F.entry_set_init (check_set_init_1 tyS ?_)) fun r₂ s₂ hr₂ => ?_
    · obtain ⟨⟨oc, od, dt, sl⟩, gl, gc, en, gd⟩ := il
      simp only at gc gd
      subst gc
      subst gd
      have gl' : (s.heap.push (eSet w)).get? l = some { cls := .type "list", dict := od, data := .seq items en, slots := sl } := Heap.get?_push_of_some _ gl
      have f9 := F.sub_list_set
      have f10 := F.sub_list_frozenset
      have f11 : (Value.type "list" == Value.type "dict") = false := by decide
      have il' : (s.heap.push (eSet w)).IsList l items := ⟨_, gl', rfl, en, rfl⟩
      unfold Builtin.«set.__init__» noKeywords Builtin.Frozenset.updateFrom
      generalize ePI : pyIter = IT
      wp_walk
      subst ePI
      refine wpAny_pyIter_list il' ?_
      refine wpAny_bind (wpAny_runValue (?_))
      have lt0 : l < s.heap.objs.size := Heap.lt_size gl
      have nh3 : A.in1.in1.in1.handled = none := by simp [nh]
      have nI : l ≠ (s.heap.push (eSet w)).objs.size := by rw [Heap.size_push]; exact Nat.ne_of_lt (Nat.lt_succ_of_lt lt0)
      have nS : s.heap.objs.size ∉ [(s.heap.push (eSet w)).objs.size, l] := by
        rw [Heap.size_push]
        simp only [List.mem_cons, List.not_mem_nil, or_false, not_or]
        exact ⟨Nat.ne_of_lt (Nat.lt_succ_self _), Nat.ne_of_gt lt0⟩
      have vals : ∀ (i : Nat) (v : Value), items[i]? = some v → ∃ k t, ns[i]? = some k ∧ v = .int k t := fun i v hv => by
        have hi : i < ns.length := zl ▸ (Array.getElem?_eq_some_iff.mp hv).1
        obtain ⟨t, e⟩ := PyProof.Rows.IntsAre.int_at ia i v (by rw [Array.getElem?_toList]; exact hv)
        refine ⟨ns[i], t, List.getElem?_eq_getElem hi, e.trans ?_⟩
        rw [List.getD_eq_getElem?_getD, List.getElem?_eq_getElem hi]
        rfl
      refine set_update_ints ((Walks.list nh3 _ l nI items).toS) s.heap.objs.size nS ns zl bd vals (items.size - 0) 0 _ (by omega) (Nat.zero_le _) ⟨⟨_, Heap.get?_push_size _ rfl, rfl, rfl⟩, il'.push _⟩ ⟨0, Nat.le_refl 0, setR_new_at (Heap.get?_push_of_some _ atS)⟩ fun s' c' mv lc R' => ?_
      obtain ⟨h', g', d', tk', os'⟩ := s'
      obtain rfl : g' = s.gens := mv.gens
      obtain rfl : d' = s.drawn := mv.drawn
      obtain rfl : os' = s.os := mv.os
      show wpAny _ _ _ _ _ _
      refine wpAny_pure (?_)
      show wpAny _ _ (ret Value.none) _ _ _
      refine wpAny_pure ⟨rfl, h', tk', c', rfl, R', zl ▸ lc, fun b o e => ?_⟩
      have ltb : b < s.heap.objs.size := Heap.lt_size e
      refine mv.heap b o (fun z => ?_) (Heap.get?_push_of_some _ (Heap.get?_push_of_some _ e))
      rw [Heap.size_push] at z
      simp only [List.mem_cons, List.not_mem_nil, or_false] at z
      rcases z with z | z
      · exact absurd z (Nat.ne_of_lt ltb)
      · exact absurd z (Nat.ne_of_lt (Nat.lt_succ_of_lt ltb))
    · match r₂, hr₂ with
      | .error e, hr₂ => exact hr₂
      | .ok .next, hr₂ => exact hr₂.elim
      | .ok .brk, hr₂ => exact hr₂.elim
      | .ok .cont, hr₂ => exact hr₂.elim
      | .ok (.ret r), hr₂ =>
        obtain ⟨rfl, h', tk, c', rfl, R', lc, kp⟩ := hr₂
        repeat (any_goals (first | assumption | wp_step))
        exact fin _ _ _ R' lc kp
end
section
variable {X : Cx}
/-- set(xs) -/
def rSetL (K : PySem.W.Frag) (w : World) : List V → Hp → VK → Prop := fun xs H Q => ∃ (a : Addr) (ns : List Int), xs = [V.ref a] ∧ SqL K H a (ns.map V.int) ∧ ns.length + 1 < scanBound ∧ ∀ (p : Addr) (c : Nat), H p = none → c ≤ ns.length → Q (.ref p) (upd H p (SetO w p (fun j => decide (j ∈ ns)) c))
theorem cr_setL (hc : X.calm = true) : CallR X (.type "set") (rSetL X.K X.w) := by
  intro pins s σ H vs us Q I r h
  obtain ⟨a, ns, rfl, hs, hb, q⟩ := h
  obtain ⟨its, rv, hl, hz⟩ := I.list hs
  rw [Vals.ref1 r]
  refine call_setL ns (I.ok.hd hc) hl.isList (by simpa using rv.ints) hb fun h' tk c R lc kp => ?_
  exact ⟨.ref _, _, I.laid (t' := tk) kp (Nat.le_refl _) (setO_new R), rfl, q _ c (I.hok.fresh (Nat.le_refl _)) lc⟩
end
end Deed

/-! turns among days -/
namespace Deed
abbrev DW (S : Type) := Int × S
section
variable {S : Type} [DecidableEq S]
def lastW (acc : List (Int × S)) : Option S := acc.getLast?.map (·.2)
def stepT (acc : List (Int × S)) (p : Int × S) : List (Int × S) := if lastW acc = some p.2 then acc else acc ++ [p]
def tns (l : List (Int × S)) : List (Int × S) := l.foldl stepT []
theorem lastW_step (acc : List (Int × S)) (p : Int × S) : lastW (stepT acc p) = some p.2 := by
  unfold stepT
  split
  · assumption
  · simp [lastW]
theorem stepT_len (acc : List (Int × S)) (p : Int × S) : (stepT acc p).length ≤ acc.length + 1 := by
  unfold stepT
  split
  · omega
  · simp
theorem foldT_len : ∀ (l acc : List (Int × S)), (l.foldl stepT acc).length ≤ acc.length + l.length
  | [], acc => by simp
  | p :: l, acc => by
    rw [List.foldl_cons]
    have h1 := foldT_len l (stepT acc p)
    have h2 := stepT_len acc p
    simp only [List.length_cons]
    omega
theorem tns_len (l : List (Int × S)) : (tns l).length ≤ l.length := by
  have := foldT_len l []
  simpa [tns] using this
theorem tns_snoc (l : List (Int × S)) (p : Int × S) : tns (l ++ [p]) = stepT (tns l) p := by
  unfold tns
  rw [List.foldl_append]
  rfl
theorem mem_stepT {acc : List (Int × S)} {p q : Int × S} (h : q ∈ stepT acc p) : q ∈ acc ∨ q = p := by
  unfold stepT at h
  split at h
  · exact .inl h
  · rcases List.mem_append.mp h with h | h
    · exact .inl h
    · exact .inr (List.mem_singleton.mp h)
theorem mem_foldT : ∀ {l acc : List (Int × S)} {q : Int × S}, q ∈ l.foldl stepT acc → q ∈ acc ∨ q ∈ l
  | [], _, _, h => .inl h
  | p :: l, acc, q, h => by
    rw [List.foldl_cons] at h
    rcases mem_foldT h with h | h
    · rcases mem_stepT h with h | h
      · exact .inl h
      · exact .inr (by rw [h]; exact List.mem_cons_self)
    · exact .inr (List.mem_cons_of_mem _ h)
theorem mem_tns {l : List (Int × S)} {q : Int × S} (h : q ∈ tns l) : q ∈ l := by
  rcases mem_foldT h with h | h
  · cases h
  · exact h
/-- what turns nothing may be left out -/
theorem fold_skip (W : Int → S) (D : Int → Bool) : ∀ (l : List Int) (x : Int) (acc : List (Int × S)), lastW acc = some (W x) → List.Pairwise (· < ·) (x :: l) → (∀ y ∈ l, D y = false → ∀ z ∈ x :: l, z < y → (∀ u ∈ x :: l, ¬ (z < u ∧ u < y)) → W y = W z) →
    (l.map fun m => (m, W m)).foldl stepT acc = ((l.filter D).map fun m => (m, W m)).foldl stepT acc
  | [], _, _, _, _, _ => rfl
  | y :: l, x, acc, ha, hp, hR => by
    have hp2 := (List.pairwise_cons.mp hp).2
    have hxy : x < y := (List.pairwise_cons.mp hp).1 y List.mem_cons_self
    have hR' : ∀ y' ∈ l, D y' = false → ∀ z ∈ y :: l, z < y' → (∀ u ∈ y :: l, ¬ (z < u ∧ u < y')) → W y' = W z := fun y' hy' hD z hz hzy hn => by
      refine hR y' (List.mem_cons_of_mem _ hy') hD z (List.mem_cons_of_mem _ hz) hzy fun u hu => ?_
      rcases List.mem_cons.mp hu with rfl | hu
      · have : u < z := (List.pairwise_cons.mp hp).1 z hz
        omega
      · exact hn u hu
    cases hD : D y with
    | true =>
      rw [List.map_cons, List.foldl_cons, List.filter_cons, if_pos hD, List.map_cons, List.foldl_cons]
      exact fold_skip W D l y _ (lastW_step _ _) hp2 hR'
    | false =>
      have hW : W y = W x := hR y List.mem_cons_self hD x List.mem_cons_self hxy fun u hu => by
        rcases List.mem_cons.mp hu with rfl | hu
        · omega
        · rcases List.mem_cons.mp hu with rfl | hu
          · omega
          · have := (List.pairwise_cons.mp hp2).1 u hu
            omega
      rw [List.map_cons, List.foldl_cons, List.filter_cons, if_neg (by rw [hD]; decide)]
      have e1 : stepT acc (y, W y) = acc := by
        unfold stepT
        rw [if_pos (by rw [ha, hW])]
      rw [e1]
      exact fold_skip W D l y acc (by rw [ha, hW]) hp2 hR'
theorem up_one : ∀ {l m : List Int}, l.Pairwise (· < ·) → m.Pairwise (· < ·) → (∀ x, x ∈ l ↔ x ∈ m) → l = m
  | [], [], _, _, _ => rfl
  | [], y :: m, _, _, h => absurd ((h y).mpr List.mem_cons_self) (by simp)
  | x :: l, [], _, _, h => absurd ((h x).mp List.mem_cons_self) (by simp)
  | x :: l, y :: m, hl, hm, h => by
    have h1 := List.pairwise_cons.mp hl
    have h2 := List.pairwise_cons.mp hm
    have e : x = y := by
      rcases List.mem_cons.mp ((h x).mp List.mem_cons_self) with e | e
      · exact e
      · rcases List.mem_cons.mp ((h y).mpr List.mem_cons_self) with e' | e'
        · exact e'.symm
        · have := h2.1 x e
          have := h1.1 y e'
          omega
    subst e
    rw [up_one h1.2 h2.2 fun z => ?_]
    constructor
    · intro hz
      rcases List.mem_cons.mp ((h z).mp (List.mem_cons_of_mem _ hz)) with e | e
      · have := h1.1 z hz
        omega
      · exact e
    · intro hz
      rcases List.mem_cons.mp ((h z).mpr (List.mem_cons_of_mem _ hz)) with e | e
      · have := h2.1 z hz
        omega
      · exact e
/-- by more days, none of which is ahead of the first: the same turns -/
theorem tns_marks (W : Int → S) {M D : List Int} (hM : M.Pairwise (· < ·)) (hD : D.Pairwise (· < ·)) (h0 : (0 : Int) ∈ D) (hsub : ∀ x ∈ D, x ∈ M) (hpos : ∀ x ∈ M, 0 ≤ x) (hW : ∀ z y, 0 ≤ z → z < y → (∀ u ∈ D, ¬ (z < u ∧ u ≤ y)) → W y = W z) :
    tns (M.map fun m => (m, W m)) = tns (D.map fun m => (m, W m)) := by
  have eD : M.filter (fun m => decide (m ∈ D)) = D := up_one (hM.filter _) hD fun x => by
    rw [List.mem_filter]
    constructor
    · rintro ⟨_, h⟩
      exact of_decide_eq_true h
    · intro h
      exact ⟨hsub x h, decide_eq_true h⟩
  cases M with
  | nil => exact absurd (hsub 0 h0) (by simp)
  | cons m l =>
    have hm0 : m = 0 := by
      rcases List.mem_cons.mp (hsub 0 h0) with e | e
      · exact e.symm
      · have := (List.pairwise_cons.mp hM).1 0 e
        have := hpos m List.mem_cons_self
        omega
    have hmD : decide (m ∈ D) = true := decide_eq_true (by rw [hm0]; exact h0)
    rw [List.filter_cons, if_pos hmD] at eD
    rw [← eD]
    unfold tns
    rw [List.map_cons, List.map_cons, List.foldl_cons, List.foldl_cons]
    refine fold_skip W _ l m _ (lastW_step _ _) hM fun y hy hDy z hz hzy hn => ?_
    refine hW z y (hpos z hz) hzy fun u hu ⟨h1, h2⟩ => ?_
    have hyD : y ∉ D := of_decide_eq_false hDy
    rcases Int.lt_or_eq_of_le h2 with h3 | h3
    · exact hn u (hsub u hu) ⟨h1, h3⟩
    · rw [h3] at hu
      exact hyD hu
end
end Deed
namespace Deed
open PySem PySem.Spec PyProof.Rows L2 LamX
theorem all_congr' {α : Type} {l : List α} {p q : α → Bool} (h : ∀ x ∈ l, p x = q x) : l.all p = l.all q := by
  rw [Bool.eq_iff_iff, List.all_eq_true, List.all_eq_true]
  exact ⟨fun z x hx => by rw [← h x hx]; exact z x hx, fun z x hx => by rw [h x hx]; exact z x hx⟩
/-- what matters of days -/
def Alike (es : List En) (d k d' k' : Int) : Prop := ∀ u ∈ es, (u.day ≤ d ↔ u.day ≤ d') ∧ (u.wri ≤ k ↔ u.wri ≤ k')
theorem Alike.open {es : List En} {d k d' k' : Int} (h : Alike es d k d' k') {u : En} (hu : u ∈ es) : isOpen d k u = isOpen d' k' u := by
  unfold isOpen
  rw [decide_eq_decide.mpr (h u hu).1, decide_eq_decide.mpr (h u hu).2]
theorem frcF_at {es : List En} {d k d' k' : Int} (h : Alike es d k d' k') : ∀ (f : Nat) (e : En), e ∈ es → frcF es d k f e = frcF es d' k' f e := by
  intro f
  induction f with
  | zero => intro e _; rfl
  | succ f ih =>
    intro e he
    show (isOpen d k e && es.all fun u => !(isOn "undone" e.num u && frcF es d k f u)) = (isOpen d' k' e && es.all fun u => !(isOn "undone" e.num u && frcF es d' k' f u))
    rw [h.open he, all_congr' fun u hu => by rw [ih u hu]]
theorem anyF_at {es : List En} {d k d' k' : Int} (h : Alike es d k d' k') (x : Str) (m : Int) : anyF es d k x m = anyF es d' k' x m := by
  unfold anyF frc
  exact any_congr fun u hu => by rw [frcF_at h _ u hu]
theorem stF_at {es : List En} {d k d' k' : Int} (h : Alike es d k d' k') : ∀ (f : Nat) (e : En), e ∈ es → stF es d k f e = stF es d' k' f e := by
  intro f
  induction f with
  | zero => intro e _; rfl
  | succ f ih =>
    intro e he
    show wordBy es d k e (e.rests.any fun r => es.any fun u => isD r u && !carries (stF es d k f u)) = wordBy es d' k' e (e.rests.any fun r => es.any fun u => isD r u && !carries (stF es d' k' f u))
    have e1 : (e.rests.any fun r => es.any fun u => isD r u && !carries (stF es d k f u)) = (e.rests.any fun r => es.any fun u => isD r u && !carries (stF es d' k' f u)) := any_congr fun r _ => any_congr fun u hu => by rw [ih u hu]
    rw [e1]
    unfold wordBy
    rw [anyF_at h, anyF_at h]
    have h1 := (h e he).1
    have h2 := (h e he).2
    have e2 : (k < e.wri) = (k' < e.wri) := propext ⟨fun z => by omega, fun z => by omega⟩
    have e3 : (d < e.day) = (d' < e.day) := propext ⟨fun z => by omega, fun z => by omega⟩
    simp only [e2, e3]
theorem st_at {es : List En} {d k d' k' : Int} (h : Alike es d k d' k') {e : En} (he : e ∈ es) : st es d k e = st es d' k' e := stF_at h _ e he
/-- the days at a place of the entries -/
def dayAt (pl : Bool) (e : En) : Int := if pl then e.day else e.wri
/-- what a deed is, by a day of that place -/
def stAt (es : List En) (pl : Bool) (o : Int) (e : En) (x : Int) : Str := if pl then st es x o e else st es o x e
def DaysAt (es : List En) (pl : Bool) (D : List Int) : Prop := D.Pairwise (· < ·) ∧ ∀ x, x ∈ D ↔ x = 0 ∨ ∃ e ∈ es, dayAt pl e = x
theorem stAt_same {es : List En} {pl : Bool} {D : List Int} (hD : DaysAt es pl D) (o : Int) {e : En} (he : e ∈ es) : ∀ z y, 0 ≤ z → z < y → (∀ u ∈ D, ¬ (z < u ∧ u ≤ y)) → stAt es pl o e y = stAt es pl o e z := by
  intro z y h0 hzy hn
  have key : ∀ u ∈ es, dayAt pl u ≤ y ↔ dayAt pl u ≤ z := fun u hu => by
    have h1 := hn _ ((hD.2 _).mpr (.inr ⟨u, hu, rfl⟩))
    constructor
    · intro h2
      omega
    · intro h2
      omega
  unfold stAt
  cases pl with
  | true => exact st_at (fun u hu => ⟨key u hu, Iff.rfl⟩) he
  | false => exact st_at (fun u hu => ⟨Iff.rfl, key u hu⟩) he
/-- the course, by whatever more days -/
theorem course_one {es : List En} {pl : Bool} {D M : List Int} (hD : DaysAt es pl D) (hM : M.Pairwise (· < ·)) (hsub : ∀ x ∈ D, x ∈ M) (hpos : ∀ x ∈ M, 0 ≤ x) (o : Int) {e : En} (he : e ∈ es) :
    tns (M.map fun m => (m, stAt es pl o e m)) = tns (D.map fun m => (m, stAt es pl o e m)) :=
  tns_marks _ hM hD.1 ((hD.2 0).mpr (.inl rfl)) hsub hpos (stAt_same hD o he)
end Deed

namespace Deed
open PySem PySem.Spec PyProof.Rows L2 LamX
theorem sNew {H : Hp} {p : Addr} (n : H p = none) (o : HO) : Same H (upd H p o) := fun b u e => by rw [upd_ne (ne_of_none e n)]; exact e
/-- a list of turns -/
def TurnsAt (H : Hp) (p : Addr) (l : List (Int × Str)) : Prop := ∃ zs : List (Addr × (Int × Str)), H p = some (.lst (zs.map fun z => V.ref z.1)) ∧ zs.map (·.2) = l ∧ ∀ z ∈ zs, H z.1 = some (.tup [.int z.2.1, .str z.2.2])
theorem TurnsAt.extN {H H' : Hp} {p : Addr} {l : List (Int × Str)} (h : TurnsAt H p l) (e : ExtN H H') : TurnsAt H' p l := by
  obtain ⟨zs, h1, h2, h3⟩ := h
  exact ⟨zs, e _ _ h1 (fun ps z => by cases z), h2, fun z hz => e _ _ (h3 z hz) (fun ps z => by cases z)⟩
theorem TurnsAt.snoc {H : Hp} {p tp : Addr} {zs : List (Addr × (Int × Str))} {q : Int × Str} (e : H p = some (.lst ((zs.map fun z => V.ref z.1) ++ [.ref tp]))) (et : H tp = some (.tup [.int q.1, .str q.2])) (h : ∀ z ∈ zs, H z.1 = some (.tup [.int z.2.1, .str z.2.2])) : TurnsAt H p (zs.map (·.2) ++ [q]) := by
  refine ⟨zs ++ [(tp, q)], ?_, ?_, fun z hz => ?_⟩
  · rw [e, List.map_append]
    rfl
  · rw [List.map_append]
    rfl
  · rcases List.mem_append.mp hz with hz | hz
    · exact h z hz
    · rw [List.mem_singleton.mp hz]
      exact et
section
variable {P : Program} {w : World} {K : PySem.W.Frag} {mg : Str → Option Value} {base : Heap} {T : List (Addr × Str)}
/-! ### the days of entries -/
abbrev nDaysAt : List Str := ["book", "place", "entry"]
abbrev pDaysAt : List Str := ["book", "place"]
def plI (pl : Bool) : Int := if pl then 1 else 2
def spDaysAt : Sp := fun vs H Q _ => ∃ (b fk t : Addr) (n : Nat) (age : Int) (zs : List (Addr × En)) (pl : Bool), vs = [.ref b, .int (plI pl)] ∧ BookAt H b fk t n age zs ∧ ∀ (D : List Int) (p : Addr) (H' : Hp), Same H H' → H p = none → H' p = some (.lst (D.map V.int)) → DaysAt (ens zs) pl D → D.length ≤ 17 → Q (.ref p) H'
/-! ### turns among days -/
end
end Deed

namespace Deed
open PySem PySem.Spec PyProof.Rows L2 LamX
/-- all but the pen and the tables is as it was -/
def XP (p : Addr) (H H' : Hp) : Prop := ∀ b o, b ≠ p → H b = some o → (∀ ps, o ≠ .tbl ps) → H' b = some o
theorem XP.refl (p : Addr) (H : Hp) : XP p H H := fun _ _ _ h _ => h
theorem XP.trans {p : Addr} {H H1 H2 : Hp} (a : XP p H H1) (b : XP p H1 H2) : XP p H H2 := fun c o n h t => b c o n (a c o n h t) t
theorem XP.ofN {p : Addr} {H H' : Hp} (e : ExtN H H') : XP p H H' := fun b o _ h t => e b o h t
theorem XP.ofK {p : Addr} {H H' : Hp} (k : Kp p H H') : XP p H H' := fun b o n h _ => k b o n h
theorem XP.ofS {p : Addr} {H H' : Hp} (s : Same H H') : XP p H H' := fun b o _ h _ => s b o h
theorem XP.tup {p : Addr} {H H' : Hp} (x : XP p H H') (P : PenAt H p) : KpT H H' := fun b xs e => x _ _ (P.ne e fun _ z => by cases z) e fun ps z => by cases z
theorem XP.toN {p : Addr} {H0 H H' : Hp} (e : ExtN H0 H) (n : H0 p = none) (x : XP p H H') : ExtN H0 H' := fun b o h t => x b o (ne_of_none h n) (e b o h t) t
theorem EdAt.xp {p : Addr} {H H' : Hp} {ed : Addr} {n : Nat} {zs : List (Addr × En)} (h : EdAt H ed n zs) (x : XP p H H') (P : PenAt H p) : EdAt H' ed n zs :=
  ⟨x _ _ (P.ne h.at_ fun _ z => by cases z) h.at_ fun ps z => (by cases z), fun z hz => (h.ent z hz).kp (x.tup P), h.ok, h.len⟩
theorem EdAt.extN {H H' : Hp} {ed : Addr} {n : Nat} {zs : List (Addr × En)} (h : EdAt H ed n zs) (e : ExtN H H') : EdAt H' ed n zs :=
  ⟨e _ _ h.at_ fun ps z => (by cases z), fun z hz => (h.ent z hz).kp (ExtN.tup e), h.ok, h.len⟩
section
variable (K : PySem.W.Frag) (mg : Str → Option Value)
abbrev CellD := Df K mg "_law_cell_at" sCell ["_law_script", "_law_k"]
abbrev PenD := Df K mg "_law_pen" sPen ["_law_cell"]
end
/-- how many cells are looked at -/
theorem turns3 (m : Nat) : ∃ tn : Int, (if (if 3 < (m : Int) then 3 else (m : Int)) > 1 then (if 3 < (m : Int) then 3 else (m : Int)) else 1) = tn ∧ 0 ≤ tn ∧ tn ≤ 3 := ⟨_, rfl, by split <;> split <;> omega, by split <;> split <;> omega⟩
end Deed

namespace Deed
open PySem PySem.Spec PyProof.Rows L2 LamX
theorem dp_strs {K : PySem.W.Frag} {H : Hp} : ∀ ns : List Str, DpAll K H (ns.map V.str) (ns.map PyData.str)
  | [] => .nil
  | n :: r => .cons (.str n) (dp_strs r)
theorem lay_strs : ∀ ns : List Str, (∀ x ∈ ns, PyData.strOk x = true) → PyData.canLayAll0 (ns.map PyData.str) = true
  | [], _ => by simp [PyData.canLayAll0]
  | n :: r, h => by simp [PyData.canLayAll0, PyData.canLay0, h n List.mem_cons_self, lay_strs r fun x hx => h x (List.mem_cons_of_mem _ hx)]
theorem depth_strs : ∀ ns : List Str, PyData.depthAll (ns.map PyData.str) ≤ 1
  | [] => by simp [PyData.depthAll]
  | n :: r => by
    have h := depth_strs r
    simp only [List.map_cons, PyData.depthAll, PyData.depth]
    omega
theorem shaped_strs (ns : List Str) (hok : ∀ x ∈ ns, PyData.strOk x = true) : SeqAt.shaped (.list (ns.map PyData.str)) = true := by
  have h1 := depth_strs ns
  have h2 : PyData.depth (.list (ns.map PyData.str)) ≤ 64 := by
    simp only [PyData.depth]
    omega
  show (PyData.canLay0 (.list (ns.map PyData.str)) && decide (PyData.depth (.list (ns.map PyData.str)) ≤ 64)) = true
  rw [Bool.and_eq_true]
  exact ⟨by simp only [PyData.canLay0]; exact lay_strs ns hok, decide_eq_true h2⟩
theorem eqvAll_strs : ∀ ns : List Str, PyData.eqvAll (ns.map PyData.str) (ns.map PyData.str) = true
  | [] => by simp [PyData.eqvAll]
  | n :: r => by simp [PyData.eqvAll, PyData.eqv, eqvAll_strs r]
theorem eqv_strs (ns : List Str) : PyData.eqv (.list (ns.map PyData.str)) (.list (ns.map PyData.str)) = true := by
  simp only [PyData.eqv]
  exact eqvAll_strs ns
theorem st_ok (es : List En) (d k : Int) (e : En) : PyData.strOk (st es d k e) = true := by
  unfold st stF wordBy
  split
  · decide +kernel
  · split
    · decide +kernel
    · split
      · decide +kernel
      · split
        · decide +kernel
        · split
          · decide +kernel
          · decide +kernel
theorem Tabs.lock {T : List (Addr × Str)} {H : Hp} (t : Tabs T H) {d : Addr} {kvs : List (Key × V)} (e : H d = some (.dK kvs)) (o : HO) : Tabs T (upd H d o) := fun q0 hq0 => by
  obtain ⟨ps, h1, h2, h3⟩ := t q0 hq0
  have n1 : q0.1 ≠ d := fun z0 => by
    rw [z0, e] at h1
    cases h1
  refine ⟨ps, by rw [upd_ne n1]; exact h1, h2, fun pos cv hcv => ?_⟩
  obtain ⟨c0, e1, e2⟩ := h3 pos cv hcv
  refine ⟨c0, e1, ?_⟩
  have n2 : c0 ≠ d := fun z0 => by
    rw [z0, e] at e2
    unfold CodeO at e2
    cases e2
  rw [upd_ne n2]
  exact e2
theorem Tabs.unlock {T : List (Addr × Str)} {H : Hp} (t : Tabs T H) {d : Addr} {ob : Obj} {kvs : List (Key × V)} (e : H d = some (.frz ob (.dK kvs))) (o : HO) : Tabs T (upd H d o) := fun q0 hq0 => by
  obtain ⟨ps, h1, h2, h3⟩ := t q0 hq0
  have n1 : q0.1 ≠ d := fun z0 => by
    rw [z0, e] at h1
    cases h1
  refine ⟨ps, by rw [upd_ne n1]; exact h1, h2, fun pos cv hcv => ?_⟩
  obtain ⟨c0, e1, e2⟩ := h3 pos cv hcv
  refine ⟨c0, e1, ?_⟩
  have n2 : c0 ≠ d := fun z0 => by
    rw [z0, e] at e2
    unfold CodeO at e2
    cases e2
  rw [upd_ne n2]
  exact e2
end Deed

namespace Deed
open PySem PySem.Spec PyProof.Rows L2
/-! ### zip of lists and tuples in whatever mix: true is a list -/
def Sq2 (K : PySem.W.Frag) : Bool → Hp → Addr → List V → Prop
  | true, H, a, xs => SqL K H a xs
  | false, H, a, xs => SqT K H a xs
def IsB : Bool → Heap → Addr → Array Value → Prop
  | true, h, a, its => h.IsList a its
  | false, h, a, its => h.IsTuple a its
def IterB : Bool → Heap → Addr → Addr → Nat → Prop
  | true, h, it, a, i => h.IsListIter it a i
  | false, h, it, a, i => h.IsTupleIter it a i
theorem IterB.at {c : Bool} {h h' : Heap} {it a : Addr} {i : Nat} (x : IterB c h it a i) (k : ∀ o, h.get? it = some o → h'.get? it = some o) : IterB c h' it a i := by
  cases c with
  | true => exact Heap.IsListIter.at x k
  | false => exact Heap.IsTupleIter.at x k
theorem IterB.obj {c : Bool} {h : Heap} {it a : Addr} {i : Nat} (x : IterB c h it a i) : ∃ o, h.get? it = some o ∧ ∀ v, o.data ≠ .cell v := by
  cases c with
  | true =>
    obtain ⟨o, e, _, dt⟩ := x
    exact ⟨o, e, fun v q => by rw [dt] at q; cases q⟩
  | false =>
    obtain ⟨o, e, _, dt⟩ := x
    exact ⟨o, e, fun v q => by rw [dt] at q; cases q⟩
theorem drawsB {prog : Program} {w : World} {A : Around} (hh : A.handled = none) (c : Bool) (it l : Addr) (hne : l ≠ it) (items : Array Value) : Draws prog w A it [it, l] items.size (fun i v => items[i]? = some v) (fun i h => IterB c h it l i ∧ IsB c h l items) := by
  cases c with
  | true => exact Draws.list hh it l hne items
  | false => exact Draws.tuple hh it l hne items
section
variable {X : Cx} {pins : List (Addr × Obj)} {σ : L2.St} {H : Hp} {s : Shared}
theorem sq2_is {c : Bool} {a : Addr} {xs : List V} (I : Inv X pins σ H s) (q : Sq2 X.K c H a xs) : ∃ its, Vals xs its ∧ IsB c s.heap a its.toArray ∧ a < s.heap.objs.size := by
  cases c with
  | true =>
    obtain ⟨its, rv, pp, _⟩ := I.list q
    exact ⟨its, rv, pp.isList, pp.lt⟩
  | false =>
    obtain ⟨its, rv, pp, _⟩ := I.tuple q
    obtain ⟨oo, ho, _⟩ := id pp
    exact ⟨its, rv, pp, Heap.lt_size ho⟩
theorem sq2_inj {c : Bool} {a : Addr} {xs ys : List V} (I : Inv X pins σ H s) (q : Sq2 X.K c H a xs) (q' : Sq2 X.K c H a ys) : xs = ys := by
  cases c with
  | true => exact I.list_inj q q'
  | false => exact I.tuple_inj q q'
end
def ItzB (K : PySem.W.Frag) (c1 c2 : Bool) (a b : Addr) : It :=
  ⟨fun i H => ∃ (xs ys : List V) (x y : V), Sq2 K c1 H a xs ∧ Sq2 K c2 H b ys ∧ xs[i]? = some x ∧ ys[i]? = some y,
    fun i H v H' => ∃ T x y, v = .ref T ∧ H T = none ∧ H' = upd H T (.tup [x, y]) ∧ (∀ xs, Sq2 K c1 H a xs → xs[i]? = some x) ∧ ∀ ys, Sq2 K c2 H b ys → ys[i]? = some y,
    fun i H => ∃ xs ys : List V, Sq2 K c1 H a xs ∧ Sq2 K c2 H b ys ∧ i ≤ xs.length ∧ i ≤ ys.length ∧ (xs.length = i ∨ ys.length = i)⟩
theorem turn_zipB {P : Program} {w : World} {K : PySem.W.Frag} {elts : List Expr} {kk : Nat} {tpos : Pos} {c1 c2 : Bool} {a b z TI TO i1 i2 : Addr} (S : ZipSep2 z TI TO i1 i2 [i1, a] [i2, b]) (na : a ≠ i1) (nb : b ≠ i2) :
    Turn P w K (.Tuple elts kk tpos) (ItzB K c1 c2 a b) [z, TI, TO, i1, i2] z (fun i h => IsZip h z TI TO .none ∧ IsTupOf2 h TI (.ref i1) (.ref i2) ∧ (∃ x y, IsTupOf2 h TO x y) ∧ IterB c1 h i1 a i ∧ IterB c2 h i2 b i) where
  mem := List.mem_cons_self
  obj := fun i h st c hc => by
    obtain ⟨hz, hTI, ⟨x, y, hTO⟩, k1, k2⟩ := st
    rcases (show c = z ∨ c = TI ∨ c = TO ∨ c = i1 ∨ c = i2 by simpa using hc) with rfl | rfl | rfl | rfl | rfl
    · exact ⟨_, hz, fun v q => by cases q⟩
    · exact ⟨_, hTI, fun v q => by cases q⟩
    · exact ⟨_, hTO, fun v q => by cases q⟩
    · exact k1.obj
    · exact k2.obj
  keep := fun i h h' st k => by
    obtain ⟨hz, hTI, ⟨x, y, hTO⟩, k1, k2⟩ := st
    refine ⟨k z (by simp) _ hz, k TI (by simp) _ hTI, ⟨x, y, k TO (by simp) _ hTO⟩, ?_, ?_⟩
    · exact k1.at (k i1 (by simp))
    · exact k2.at (k i2 (by simp))
  item := by
    intro X eP ew eK cal i pins s σ H E I hf st hg
    subst eP ew eK
    obtain ⟨hz, hTI, ⟨x0, y0, hTO⟩, k1, k2⟩ := st
    obtain ⟨xs, ys, x, y, qa, qb, gx, gy⟩ := hg
    obtain ⟨va, ra, pa, _⟩ := sq2_is I qa
    obtain ⟨vb, rb, pb, _⟩ := sq2_is I qb
    obtain ⟨u, hu, ru⟩ := ra.get gx
    obtain ⟨t, ht, rt⟩ := rb.get gy
    have hh : X.A.in1.handled = none := I.ok.hd cal
    have zl : z < s.heap.objs.size := Heap.lt_size hz
    have li : i < va.toArray.size := by simpa using (List.getElem?_eq_some_iff.mp hu).1
    have lj : i < vb.toArray.size := by simpa using (List.getElem?_eq_some_iff.mp ht).1
    refine wpAny_pyNext_zipD2_item S (drawsB hh c1 i1 a na va.toArray) (drawsB hh c2 i2 b nb vb.toArray) hz hTI hTO ⟨k1, pa⟩ ⟨k2, pb⟩ li lj fun x1 x2 h1 tk p1 p2 z1 TO1 st1 st2 hT hsz hk => ?_
    obtain rfl : u = x1 := by simpa [hu] using p1
    obtain rfl : t = x2 := by simpa [ht] using p2
    refine ⟨_, rfl, wpAny_letOwnedTupleGo_zip (s := { s with heap := h1, toks := tk }) z1 fun h2 z2 sb => ?_⟩
    have hT2 : h2.get? s.heap.objs.size = some { cls := .type "tuple", data := .seq #[u, t] } := (sb.2 _ (Nat.ne_of_gt zl)).trans hT
    have ok : ObjOk X.prog X.w (upd H s.heap.objs.size (.tup [x, y])) h2 s.heap.objs.size (.tup [x, y]) := ⟨by show 2 ≤ sizeLine; decide, [u, t], .cons ru (.cons rt .nil), ⟨_, hT2, rfl, _, rfl⟩⟩
    have I2 : Inv X pins σ (upd H s.heap.objs.size (.tup [x, y])) { s with heap := h2, toks := tk } := by
      refine I.turnedNew (ch := [z, TI, TO, i1, i2]) (fun c o hc q => ?_) hf (Nat.le_refl _) ok
      simp only [List.mem_cons, List.not_mem_nil, or_false, not_or] at hc
      exact (sb.2 c hc.1).trans (hk c o hc.1 hc.2.2.1 hc.2.2.2.1 hc.2.2.2.2 q)
    refine ⟨.ref s.heap.objs.size, _, I2, rfl, ⟨_, x, y, rfl, I.hok.fresh (Nat.le_refl _), rfl, fun l hl => ?_, fun l hl => ?_⟩, ⟨z2, ?_, ⟨u, t, ?_⟩, ?_, ?_⟩, fun c hc => ?_⟩
    · rw [sq2_inj I hl qa]
      exact gx
    · rw [sq2_inj I hl qb]
      exact gy
    · exact (sb.2 _ S.TIz).trans (hk _ _ S.TIz S.TITO S.TIi1 S.TIi2 hTI)
    · exact (sb.2 _ S.TOz).trans TO1
    · exact st1.1.at fun o q => (sb.2 _ S.zi1.symm).trans q
    · exact st2.1.at fun o q => (sb.2 _ S.zi2.symm).trans q
    · have hlt : c < s.heap.objs.size := by
        obtain ⟨o1, e1, _⟩ := k1.obj
        obtain ⟨o2, e2, _⟩ := k2.obj
        rcases (show c = z ∨ c = TI ∨ c = TO ∨ c = i1 ∨ c = i2 by simpa using hc) with rfl | rfl | rfl | rfl | rfl
        · exact zl
        · exact Heap.lt_size hTI
        · exact Heap.lt_size hTO
        · exact Heap.lt_size e1
        · exact Heap.lt_size e2
      rw [upd_ne (Nat.ne_of_lt hlt)]
      exact (hf c hc).1
  done := by
    intro X eP ew eK cal i pins s σ H E I hf st hg
    subst eP ew eK
    obtain ⟨hz, hTI, ⟨x0, y0, hTO⟩, k1, k2⟩ := st
    obtain ⟨xs, ys, qa, qb, l1, l2, hend⟩ := hg
    obtain ⟨va, ra, pa, _⟩ := sq2_is I qa
    obtain ⟨vb, rb, pb, _⟩ := sq2_is I qb
    have hh : X.A.in1.handled = none := I.ok.hd cal
    have la := ra.length
    have lb := rb.length
    refine wpAny_pyNext_zipD2_end S (drawsB hh c1 i1 a na va.toArray) (drawsB hh c2 i2 b nb vb.toArray) hz hTI hTO ⟨k1, pa⟩ ⟨k2, pb⟩ (by simp; omega) (by simp; omega) (by simp; omega) fun h1 tk hk => ⟨rfl, ?_⟩
    refine I.turnedL (ch := [z, TI, TO, i1, i2]) (fun c o hc q => ?_) hf
    simp only [List.mem_cons, List.not_mem_nil, or_false, not_or] at hc
    exact hk c o hc.1 hc.2.2.1 hc.2.2.2.1 hc.2.2.2.2 q
  self := fun A i s Q E st q => wpAny_pyIter_zip st.1 q
theorem begB (c : Bool) (l : Addr) (its : Array Value) : ∃ o, Begins (.ref l) o (fun h => IsB c h l its) ∧ ∀ h it, h.get? it = some o → IterB c h it l 0 := by
  cases c with
  | true => exact ⟨_, begins_list l its, fun h it e => ⟨_, e, rfl, rfl⟩⟩
  | false => exact ⟨_, begins_tuple l its, fun h it e => ⟨_, e, rfl, rfl⟩⟩
theorem sep_new {m a b : Nat} (la : a < m) (lb : b < m) : ZipSep2 (m + 4) (m + 2) (m + 3) m (m + 1) [m, a] [m + 1, b] := by
  constructor <;> simp <;> (try constructor) <;> (try (first | (refine Nat.ne_of_gt ?_; omega) | (refine Nat.ne_of_lt ?_; omega)))
def iZipB (K : PySem.W.Frag) (c1 c2 : Bool) (ta : TA) : TI := fun σ H R => ta σ H fun vs H1 => ∃ a b xs ys, vs = [.ref a, .ref b] ∧ Sq2 K c1 H1 a xs ∧ Sq2 K c2 H1 b ys ∧ R (ItzB K c1 c2 a b) H1
theorem pi_zipB (c1 c2 : Bool) {X : Cx} {e e2 : Expr} {ta : TA} {p pos tpos : Pos} {elts : List Expr} {kk : Nat} (hg : Gl X "zip") (hm : X.mg "zip" = none) (ha : PA X [e, e2] ta)
    (hs : starEach [e, e2] X.env = (false, eval e X.env) :: starEach [e2] X.env := by rfl) (hp : (backTo pos (starEach [e2] X.env)).any (·.1) = false := by rfl) : PI X (.Tuple elts kk tpos) (.Call (.Name "zip" p) [e, e2] [] pos) (iZipB X.K c1 c2 ta) := by
  refine ⟨fun pins s σ H R I h => Call_ (ld_blt I hg hm PyProof.Rows.boot_zip (PyProof.Rows.callWith_type1 (thn (ha.run pos pins s σ H _ I h) fun us s1 ⟨vs, H1, I1, r1, q1⟩ => ?_) hs hp))⟩
  obtain ⟨a, b, xs, ys, ex, qa, qb, q⟩ := q1
  subst ex
  obtain ⟨va, ra, pa, la⟩ := sq2_is I1 qa
  obtain ⟨vb, rb, pb, lb⟩ := sq2_is I1 qb
  obtain ⟨o1, B1, it1⟩ := begB c1 a va.toArray
  obtain ⟨o2, B2, it2⟩ := begB c2 b vb.toArray
  cases r1 with
  | cons r rr =>
    cases rr with
    | cons r' rr =>
      cases rr
      cases r
      cases r'
      refine zip_begins2 B1 B2 pa pb fun h1 hz hTI hTO g1 g2 hsz hk => wpAny_pyIter_zip hz ?_
      have I2 : Inv X pins σ H1 { s1 with heap := h1 } := I1.kept (t' := s1.toks) hk
      have S := sep_new la lb
      refine ⟨s1.heap.objs.size + 4, [s1.heap.objs.size + 4, s1.heap.objs.size + 2, s1.heap.objs.size + 3, s1.heap.objs.size, s1.heap.objs.size + 1], _, _, H1, rfl, I2, turn_zipB S (Nat.ne_of_lt la) (Nat.ne_of_lt (Nat.lt_succ_of_lt lb)), ⟨hz, hTI, ⟨_, _, hTO⟩, it1 _ _ g1, it2 _ _ g2⟩, fun c hc => ?_, q⟩
      have hle : s1.heap.objs.size ≤ c := by
        simp only [List.mem_cons, List.not_mem_nil, or_false] at hc
        rcases hc with rfl | rfl | rfl | rfl | rfl
        · exact Nat.le_add_right _ 4
        · exact Nat.le_add_right _ 2
        · exact Nat.le_add_right _ 3
        · exact Nat.le_refl _
        · exact Nat.le_add_right _ 1
      exact I1.fpOk hle (I1.hok.fresh hle)
theorem walk_zipB {K : PySem.W.Frag} {c1 c2 : Bool} {a b : Addr} {xs ys : List V} {n : Nat} (hx : xs.length = n) (hy : ys.length = n) : Walk (ItzB K c1 c2 a b) n (fun H => Sq2 K c1 H a xs ∧ Sq2 K c2 H b ys) (YPair (fun i => xs[i]?) (fun i => ys[i]?)) := by
  refine ⟨fun i H hi q => ⟨xs, ys, xs[i], ys[i], q.1, q.2, ?_, ?_⟩, fun H q => ⟨xs, ys, q.1, q.2, by omega, by omega, .inl hx⟩, fun i H v H' _ q y => ?_⟩
  · exact List.getElem?_eq_getElem (by omega)
  · exact List.getElem?_eq_getElem (by omega)
  · obtain ⟨T, x, z, t1, t2, t3, t4, t5⟩ := y
    exact ⟨T, x, z, t1, t2, t3, t4 xs q.1, t5 ys q.2⟩
end Deed

namespace Deed
open PySem PySem.Spec PyProof.Rows L2
/-! ### zip of three -/
def ItzB3 (K : PySem.W.Frag) (c1 c2 c3 : Bool) (a b d : Addr) : It :=
  ⟨fun i H => ∃ (xs ys ws : List V) (x y u : V), Sq2 K c1 H a xs ∧ Sq2 K c2 H b ys ∧ Sq2 K c3 H d ws ∧ xs[i]? = some x ∧ ys[i]? = some y ∧ ws[i]? = some u,
    fun i H v H' => ∃ T x y u, v = .ref T ∧ H T = none ∧ H' = upd H T (.tup [x, y, u]) ∧ (∀ xs, Sq2 K c1 H a xs → xs[i]? = some x) ∧ (∀ ys, Sq2 K c2 H b ys → ys[i]? = some y) ∧ ∀ ws, Sq2 K c3 H d ws → ws[i]? = some u,
    fun i H => ∃ xs ys ws : List V, Sq2 K c1 H a xs ∧ Sq2 K c2 H b ys ∧ Sq2 K c3 H d ws ∧ i ≤ xs.length ∧ i ≤ ys.length ∧ i ≤ ws.length ∧ (xs.length = i ∨ ys.length = i ∨ ws.length = i)⟩
theorem turn_zipB3 {P : Program} {w : World} {K : PySem.W.Frag} {elts : List Expr} {kk : Nat} {tpos : Pos} {c1 c2 c3 : Bool} {a b d z TI TO i1 i2 i3 : Addr} (S : ZipSep3 z TI TO i1 i2 i3 [i1, a] [i2, b] [i3, d]) (na : a ≠ i1) (nb : b ≠ i2) (nc : d ≠ i3) :
    Turn P w K (.Tuple elts kk tpos) (ItzB3 K c1 c2 c3 a b d) [z, TI, TO, i1, i2, i3] z (fun i h => IsZip h z TI TO .none ∧ IsTupOf3 h TI (.ref i1) (.ref i2) (.ref i3) ∧ (∃ x y u, IsTupOf3 h TO x y u) ∧ IterB c1 h i1 a i ∧ IterB c2 h i2 b i ∧ IterB c3 h i3 d i) where
  mem := List.mem_cons_self
  obj := fun i h st c hc => by
    obtain ⟨hz, hTI, ⟨x, y, u, hTO⟩, k1, k2, k3⟩ := st
    rcases (show c = z ∨ c = TI ∨ c = TO ∨ c = i1 ∨ c = i2 ∨ c = i3 by simpa using hc) with rfl | rfl | rfl | rfl | rfl | rfl
    · exact ⟨_, hz, fun v q => by cases q⟩
    · exact ⟨_, hTI, fun v q => by cases q⟩
    · exact ⟨_, hTO, fun v q => by cases q⟩
    · exact k1.obj
    · exact k2.obj
    · exact k3.obj
  keep := fun i h h' st k => by
    obtain ⟨hz, hTI, ⟨x, y, u, hTO⟩, k1, k2, k3⟩ := st
    refine ⟨k z (by simp) _ hz, k TI (by simp) _ hTI, ⟨x, y, u, k TO (by simp) _ hTO⟩, ?_, ?_, ?_⟩
    · exact k1.at (k i1 (by simp))
    · exact k2.at (k i2 (by simp))
    · exact k3.at (k i3 (by simp))
  item := by
    intro X eP ew eK cal i pins s σ H E I hf st hg
    subst eP ew eK
    obtain ⟨hz, hTI, ⟨x0, y0, u0, hTO⟩, k1, k2, k3⟩ := st
    obtain ⟨xs, ys, ws, x, y, q, qa, qb, qc, gx, gy, gq⟩ := hg
    obtain ⟨va, ra, pa, _⟩ := sq2_is I qa
    obtain ⟨vb, rb, pb, _⟩ := sq2_is I qb
    obtain ⟨vc, rc, pc, _⟩ := sq2_is I qc
    obtain ⟨u, hu, ru⟩ := ra.get gx
    obtain ⟨t, ht, rt⟩ := rb.get gy
    obtain ⟨r, hr, rr⟩ := rc.get gq
    have hh : X.A.in1.handled = none := I.ok.hd cal
    have zl : z < s.heap.objs.size := Heap.lt_size hz
    have li : i < va.toArray.size := by simpa using (List.getElem?_eq_some_iff.mp hu).1
    have lj : i < vb.toArray.size := by simpa using (List.getElem?_eq_some_iff.mp ht).1
    have lk : i < vc.toArray.size := by simpa using (List.getElem?_eq_some_iff.mp hr).1
    refine wpAny_pyNext_zipD3_item S (drawsB hh c1 i1 a na va.toArray) (drawsB hh c2 i2 b nb vb.toArray) (drawsB hh c3 i3 d nc vc.toArray) hz hTI hTO ⟨k1, pa⟩ ⟨k2, pb⟩ ⟨k3, pc⟩ li lj lk fun x1 x2 x3 h1 tk p1 p2 p3 z1 TO1 st1 st2 st3 hT hsz hk => ?_
    obtain rfl : u = x1 := by simpa [hu] using p1
    obtain rfl : t = x2 := by simpa [ht] using p2
    obtain rfl : r = x3 := by simpa [hr] using p3
    refine ⟨_, rfl, wpAny_letOwnedTupleGo_zip (s := { s with heap := h1, toks := tk }) z1 fun h2 z2 sb => ?_⟩
    have hT2 : h2.get? s.heap.objs.size = some { cls := .type "tuple", data := .seq #[u, t, r] } := (sb.2 _ (Nat.ne_of_gt zl)).trans hT
    have ok : ObjOk X.prog X.w (upd H s.heap.objs.size (.tup [x, y, q])) h2 s.heap.objs.size (.tup [x, y, q]) := ⟨by show 3 ≤ sizeLine; decide, [u, t, r], .cons ru (.cons rt (.cons rr .nil)), ⟨_, hT2, rfl, _, rfl⟩⟩
    have I2 : Inv X pins σ (upd H s.heap.objs.size (.tup [x, y, q])) { s with heap := h2, toks := tk } := by
      refine I.turnedNew (ch := [z, TI, TO, i1, i2, i3]) (fun c o hc q => ?_) hf (Nat.le_refl _) ok
      simp only [List.mem_cons, List.not_mem_nil, or_false, not_or] at hc
      exact (sb.2 c hc.1).trans (hk c o hc.1 hc.2.2.1 hc.2.2.2.1 hc.2.2.2.2.1 hc.2.2.2.2.2 q)
    refine ⟨.ref s.heap.objs.size, _, I2, rfl, ⟨_, x, y, q, rfl, I.hok.fresh (Nat.le_refl _), rfl, fun l hl => ?_, fun l hl => ?_, fun l hl => ?_⟩, ⟨z2, ?_, ⟨u, t, r, ?_⟩, ?_, ?_, ?_⟩, fun c hc => ?_⟩
    · rw [sq2_inj I hl qa]
      exact gx
    · rw [sq2_inj I hl qb]
      exact gy
    · rw [sq2_inj I hl qc]
      exact gq
    · exact (sb.2 _ S.TIz).trans (hk _ _ S.TIz S.TITO S.TIi1 S.TIi2 S.TIi3 hTI)
    · exact (sb.2 _ S.TOz).trans TO1
    · exact st1.1.at fun o q => (sb.2 _ S.zi1.symm).trans q
    · exact st2.1.at fun o q => (sb.2 _ S.zi2.symm).trans q
    · exact st3.1.at fun o q => (sb.2 _ S.zi3.symm).trans q
    · have hlt : c < s.heap.objs.size := by
        obtain ⟨o1, e1, _⟩ := k1.obj
        obtain ⟨o2, e2, _⟩ := k2.obj
        obtain ⟨o3, e3, _⟩ := k3.obj
        rcases (show c = z ∨ c = TI ∨ c = TO ∨ c = i1 ∨ c = i2 ∨ c = i3 by simpa using hc) with rfl | rfl | rfl | rfl | rfl | rfl
        · exact zl
        · exact Heap.lt_size hTI
        · exact Heap.lt_size hTO
        · exact Heap.lt_size e1
        · exact Heap.lt_size e2
        · exact Heap.lt_size e3
      rw [upd_ne (Nat.ne_of_lt hlt)]
      exact (hf c hc).1
  done := by
    intro X eP ew eK cal i pins s σ H E I hf st hg
    subst eP ew eK
    obtain ⟨hz, hTI, ⟨x0, y0, u0, hTO⟩, k1, k2, k3⟩ := st
    obtain ⟨xs, ys, ws, qa, qb, qc, l1, l2, l3, hend⟩ := hg
    obtain ⟨va, ra, pa, _⟩ := sq2_is I qa
    obtain ⟨vb, rb, pb, _⟩ := sq2_is I qb
    obtain ⟨vc, rc, pc, _⟩ := sq2_is I qc
    have hh : X.A.in1.handled = none := I.ok.hd cal
    have la := ra.length
    have lb := rb.length
    have lc := rc.length
    refine wpAny_pyNext_zipD3_end S (drawsB hh c1 i1 a na va.toArray) (drawsB hh c2 i2 b nb vb.toArray) (drawsB hh c3 i3 d nc vc.toArray) hz hTI hTO ⟨k1, pa⟩ ⟨k2, pb⟩ ⟨k3, pc⟩ (by simp; omega) (by simp; omega) (by simp; omega) (by simp; omega) fun h1 tk hk => ⟨rfl, ?_⟩
    refine I.turnedL (ch := [z, TI, TO, i1, i2, i3]) (fun c o hc q => ?_) hf
    simp only [List.mem_cons, List.not_mem_nil, or_false, not_or] at hc
    exact hk c o hc.1 hc.2.2.1 hc.2.2.2.1 hc.2.2.2.2.1 hc.2.2.2.2.2 q
  self := fun A i s Q E st q => wpAny_pyIter_zip st.1 q
theorem sep_new3 {m a b d : Nat} (la : a < m) (lb : b < m) (ld : d < m) : ZipSep3 (m + 5) (m + 3) (m + 4) m (m + 1) (m + 2) [m, a] [m + 1, b] [m + 2, d] := by
  constructor <;> simp <;> (try constructor) <;> (try (first | (refine Nat.ne_of_gt ?_; omega) | (refine Nat.ne_of_lt ?_; omega)))
def iZipB3 (K : PySem.W.Frag) (c1 c2 c3 : Bool) (ta : TA) : TI := fun σ H R => ta σ H fun vs H1 => ∃ a b d xs ys ws, vs = [.ref a, .ref b, .ref d] ∧ Sq2 K c1 H1 a xs ∧ Sq2 K c2 H1 b ys ∧ Sq2 K c3 H1 d ws ∧ R (ItzB3 K c1 c2 c3 a b d) H1
theorem pi_zipB3 (c1 c2 c3 : Bool) {X : Cx} {e e2 e3 : Expr} {ta : TA} {p pos tpos : Pos} {elts : List Expr} {kk : Nat} (hg : Gl X "zip") (hm : X.mg "zip" = none) (ha : PA X [e, e2, e3] ta)
    (hs : starEach [e, e2, e3] X.env = (false, eval e X.env) :: starEach [e2, e3] X.env := by rfl) (hp : (backTo pos (starEach [e2, e3] X.env)).any (·.1) = false := by rfl) : PI X (.Tuple elts kk tpos) (.Call (.Name "zip" p) [e, e2, e3] [] pos) (iZipB3 X.K c1 c2 c3 ta) := by
  refine ⟨fun pins s σ H R I h => Call_ (ld_blt I hg hm PyProof.Rows.boot_zip (PyProof.Rows.callWith_type1 (thn (ha.run pos pins s σ H _ I h) fun us s1 ⟨vs, H1, I1, r1, q1⟩ => ?_) hs hp))⟩
  obtain ⟨a, b, d, xs, ys, ws, ex, qa, qb, qc, q⟩ := q1
  subst ex
  obtain ⟨va, ra, pa, la⟩ := sq2_is I1 qa
  obtain ⟨vb, rb, pb, lb⟩ := sq2_is I1 qb
  obtain ⟨vc, rc, pc, lc⟩ := sq2_is I1 qc
  obtain ⟨o1, B1, it1⟩ := begB c1 a va.toArray
  obtain ⟨o2, B2, it2⟩ := begB c2 b vb.toArray
  obtain ⟨o3, B3, it3⟩ := begB c3 d vc.toArray
  cases r1 with
  | cons r rr =>
    cases rr with
    | cons r' rr =>
      cases rr with
      | cons r'' rr =>
        cases rr
        cases r
        cases r'
        cases r''
        refine zip_begins3 B1 B2 B3 pa pb pc fun h1 hz hTI hTO g1 g2 g3 hsz hk => wpAny_pyIter_zip hz ?_
        have I2 : Inv X pins σ H1 { s1 with heap := h1 } := I1.kept (t' := s1.toks) hk
        have S := sep_new3 la lb lc
        refine ⟨s1.heap.objs.size + 5, [s1.heap.objs.size + 5, s1.heap.objs.size + 3, s1.heap.objs.size + 4, s1.heap.objs.size, s1.heap.objs.size + 1, s1.heap.objs.size + 2], _, _, H1, rfl, I2, turn_zipB3 S (Nat.ne_of_lt la) (Nat.ne_of_lt (Nat.lt_succ_of_lt lb)) (Nat.ne_of_lt (Nat.lt_succ_of_lt (Nat.lt_succ_of_lt lc))), ⟨hz, hTI, ⟨_, _, _, hTO⟩, it1 _ _ g1, it2 _ _ g2, it3 _ _ g3⟩, fun c hc => ?_, q⟩
        have hle : s1.heap.objs.size ≤ c := by
          simp only [List.mem_cons, List.not_mem_nil, or_false] at hc
          rcases hc with rfl | rfl | rfl | rfl | rfl | rfl
          · exact Nat.le_add_right _ 5
          · exact Nat.le_add_right _ 3
          · exact Nat.le_add_right _ 4
          · exact Nat.le_refl _
          · exact Nat.le_add_right _ 1
          · exact Nat.le_add_right _ 2
        exact I1.fpOk hle (I1.hok.fresh hle)
/-- what the i-th triple is -/
def YTrip (f g h : Nat → Option V) (i : Nat) (H : Hp) (v : V) (H' : Hp) : Prop := ∃ T x y u, v = .ref T ∧ H T = none ∧ H' = upd H T (.tup [x, y, u]) ∧ f i = some x ∧ g i = some y ∧ h i = some u
theorem walk_zipB3 {K : PySem.W.Frag} {c1 c2 c3 : Bool} {a b d : Addr} {xs ys ws : List V} {n : Nat} (hx : xs.length = n) (hy : ys.length = n) (hw : ws.length = n) : Walk (ItzB3 K c1 c2 c3 a b d) n (fun H => Sq2 K c1 H a xs ∧ Sq2 K c2 H b ys ∧ Sq2 K c3 H d ws) (YTrip (fun i => xs[i]?) (fun i => ys[i]?) (fun i => ws[i]?)) := by
  refine ⟨fun i H hi q => ⟨xs, ys, ws, xs[i], ys[i], ws[i], q.1, q.2.1, q.2.2, ?_, ?_, ?_⟩, fun H q => ⟨xs, ys, ws, q.1, q.2.1, q.2.2, by omega, by omega, by omega, .inl hx⟩, fun i H v H' _ q y => ?_⟩
  · exact List.getElem?_eq_getElem (by omega)
  · exact List.getElem?_eq_getElem (by omega)
  · exact List.getElem?_eq_getElem (by omega)
  · obtain ⟨T, x, z, u, t1, t2, t3, t4, t5, t6⟩ := y
    exact ⟨T, x, z, u, t1, t2, t3, t4 xs q.1, t5 ys q.2.1, t6 ws q.2.2⟩
end Deed

namespace Deed
open PySem PySem.Spec PyProof.Rows L2 LamX
/-! tuples put together and cut, whatever they are: what follows is shown once -/
theorem catA_same {K : PySem.W.Frag} {H : Hp} {a b : Addr} {xs ys : List V} {Q : VK} (ha : H a = some (.tup xs)) (hb : H b = some (.tup ys)) (hl : xs.length + ys.length ≤ 1000) (q : ∀ t H', Same H H' → H' t = some (.tup (xs ++ ys)) → Q (.ref t) H') : rCatA K (.ref a) (.ref b) H Q := by
  refine ⟨a, b, xs, ys, rfl, rfl, SqT.of ha, SqT.of hb, Nat.le_of_lt (small1000 hl), fun e => ?_, fun _ e => ?_, fun _ _ p np => q p _ (same_new np _) upd_same⟩
  · subst e
    exact q b H (same_refl _) hb
  · subst e
    exact q a H (same_refl _) (by rw [List.append_nil]; exact ha)
theorem slA_same {K : PySem.W.Frag} {H : Hp} {a : Addr} {xs : List V} {lo hi : Option Int} {Q : VK} (ha : H a = some (.tup xs)) (q : ∀ t H', Same H H' → H' t = some (.tup (cutV xs lo hi)) → Q (.ref t) H') : rSlA K (.ref a) lo hi H Q := by
  refine ⟨a, xs, rfl, SqT.of ha, fun e => ?_, fun _ p np => q p _ (same_new np _) upd_same⟩
  refine q a H (same_refl _) ?_
  rw [ha]
  unfold cutV
  rw [e.1, e.2, List.drop_zero, Nat.sub_zero, List.take_length]
end Deed

namespace Deed
open PySem PySem.Spec PyProof.Rows L2 LamX
/-! entries as data -/
def entD (e : En) : PyData := match e.kd with
  | .deed g t rs ws => .tuple [.int e.num, .int e.day, .int e.wri, .int e.hand, .str "deed", .int g, .int t, .tuple (rs.map PyData.int), .tuple (ws.map PyData.int)]
  | .act x o => .tuple [.int e.num, .int e.day, .int e.wri, .int e.hand, .str x, .int o]
theorem EntAt.dp {K : PySem.W.Frag} {H : Hp} {a : Addr} {e : En} (h : EntAt H a e) : Dp K H (.ref a) (entD e) := by
  unfold EntAt at h
  unfold entD
  cases hk : e.kd with
  | deed g t rs ws =>
    rw [hk] at h
    obtain ⟨r, w, h1, h2, h3⟩ := h
    exact .tup (SqT.of h1) (.cons (.int _) (.cons (.int _) (.cons (.int _) (.cons (.int _) (.cons (.str _) (.cons (.int _) (.cons (.int _) (.cons (.tup (SqT.of h2) (dp_ints rs)) (.cons (.tup (SqT.of h3) (dp_ints ws)) .nil)))))))))
  | act x o =>
    rw [hk] at h
    exact .tup (SqT.of h) (.cons (.int _) (.cons (.int _) (.cons (.int _) (.cons (.int _) (.cons (.str _) (.cons (.int _) .nil))))))
theorem dp_ents {K : PySem.W.Frag} {H : Hp} : ∀ zs : List (Addr × En), (∀ z ∈ zs, EntAt H z.1 z.2) → DpAll K H (refs zs) ((ens zs).map entD)
  | [], _ => .nil
  | z :: r, h => .cons (h z List.mem_cons_self).dp (dp_ents r fun x hx => h x (List.mem_cons_of_mem _ hx))
theorem EnOk.lay {n : Nat} {ds as : List Int} {e : En} (h : EnOk n ds as e) : PyData.canLay0 (entD e) = true := by
  unfold entD
  cases hk : e.kd with
  | deed g t rs ws =>
    have h1 := lay_ints rs
    have h2 := lay_ints ws
    simp only [PyData.canLay0, PyData.canLayAll0, h1, h2, Bool.and_true, Bool.true_and]
    decide +kernel
  | act x o =>
    have h4 := h.2.2.2
    rw [hk] at h4
    have hx : PyData.strOk x = true := by rcases h4.1 with ⟨z, _⟩ | ⟨z | z, _⟩ <;> rw [z] <;> decide +kernel
    simp [PyData.canLay0, PyData.canLayAll0, hx]
theorem lay_ents {n : Nat} {ds as : List Int} : ∀ es : List En, (∀ e ∈ es, EnOk n ds as e) → PyData.canLayAll0 (es.map entD) = true
  | [], _ => by simp [PyData.canLayAll0]
  | e :: r, h => by
    simp [PyData.canLayAll0, (h e List.mem_cons_self).lay, lay_ents r fun x hx => h x (List.mem_cons_of_mem _ hx)]
theorem depth_ent (e : En) : PyData.depth (entD e) ≤ 4 := by
  unfold entD
  cases e.kd with
  | deed g t rs ws =>
    have h1 := depth_ints rs
    have h2 := depth_ints ws
    simp only [PyData.depth, PyData.depthAll]
    omega
  | act x o =>
    simp only [PyData.depth, PyData.depthAll]
    omega
theorem depth_ents : ∀ es : List En, PyData.depthAll (es.map entD) ≤ 5
  | [] => by simp [PyData.depthAll]
  | e :: r => by
    have h1 := depth_ent e
    have h2 := depth_ents r
    simp only [List.map_cons, PyData.depthAll]
    omega
theorem shaped_entsT {n : Nat} {ds as : List Int} (es : List En) (h : ∀ e ∈ es, EnOk n ds as e) : SeqAt.shaped (.tuple (es.map entD)) = true := by
  have h1 := depth_ents es
  have h2 : PyData.depth (.tuple (es.map entD)) ≤ 64 := by
    simp only [PyData.depth]
    omega
  show (PyData.canLay0 (.tuple (es.map entD)) && decide (PyData.depth (.tuple (es.map entD)) ≤ 64)) = true
  rw [Bool.and_eq_true]
  exact ⟨by simp only [PyData.canLay0]; exact lay_ents es h, decide_eq_true h2⟩
theorem shaped_entsL {n : Nat} {ds as : List Int} (es : List En) (h : ∀ e ∈ es, EnOk n ds as e) : SeqAt.shaped (.list (es.map entD)) = true := by
  have h1 := depth_ents es
  have h2 : PyData.depth (.list (es.map entD)) ≤ 64 := by
    simp only [PyData.depth]
    omega
  show (PyData.canLay0 (.list (es.map entD)) && decide (PyData.depth (.list (es.map entD)) ≤ 64)) = true
  rw [Bool.and_eq_true]
  exact ⟨by simp only [PyData.canLay0]; exact lay_ents es h, decide_eq_true h2⟩
theorem eqvT_nil (l : List PyData) : PyData.eqv (.tuple l) (.tuple []) = decide (l = []) := by
  cases l <;> simp [PyData.eqv, PyData.eqvAll]
theorem eqvL_nil (l : List PyData) : PyData.eqv (.list l) (.list []) = decide (l = []) := by
  cases l <;> simp [PyData.eqv, PyData.eqvAll]
/-! cuts -/
theorem cut_to (xs : List V) (k : Nat) : cutV xs none (some (k : Int)) = xs.take k := by
  unfold cutV
  rw [HT.sIx_none, HT.sIx_nat, List.drop_zero, Nat.sub_zero, List.take_eq_take_iff]
  omega
theorem cut_from (xs : List V) (k : Nat) : cutV xs (some (k : Int)) none = xs.drop k := by
  unfold cutV
  rw [HT.sIx_none, HT.sIx_nat]
  rw [List.take_of_length_le (by rw [List.length_drop]; omega)]
  rcases Nat.le_total k xs.length with h | h
  · rw [Nat.min_eq_left h]
  · rw [Nat.min_eq_right h, List.drop_length, List.drop_eq_nil_of_le h]
/-! a book with one entry otherwise, and with one gone -/
theorem dn_swap {A B : List En} {e e' : En} (hn : e'.num = e.num) (hd : e'.isDeed = e.isDeed) : dn (A ++ e' :: B) = dn (A ++ e :: B) := by
  unfold dn
  rw [List.filter_append, List.filter_append, List.filter_cons, List.filter_cons, hd]
  cases e.isDeed <;> simp [hn]
theorem an_swap {A B : List En} {e e' : En} (hn : e'.num = e.num) (hd : e'.isDeed = e.isDeed) : an (A ++ e' :: B) = an (A ++ e :: B) := by
  unfold an
  rw [List.filter_append, List.filter_append, List.filter_cons, List.filter_cons, hd]
  cases e.isDeed <;> simp [hn]
theorem BkOk.swap {n : Nat} {A B : List En} {e e' : En} (h : BkOk n (A ++ e :: B)) (hn : e'.num = e.num) (hd : e'.isDeed = e.isDeed) (ho : EnOk n (dn (A ++ e :: B)) (an (A ++ e :: B)) e') : BkOk n (A ++ e' :: B) := by
  refine ⟨?_, fun x hx => ?_, fun x hx => ?_⟩
  · have := h.nd
    rw [List.map_append, List.map_cons] at this ⊢
    rw [hn]
    exact this
  · rcases List.mem_append.mp hx with hx | hx
    · exact h.rng x (List.mem_append.mpr (.inl hx))
    · rcases List.mem_cons.mp hx with rfl | hx
      · rw [hn]
        exact h.rng e (by simp)
      · exact h.rng x (by simp [hx])
  · rw [dn_swap hn hd, an_swap hn hd]
    rcases List.mem_append.mp hx with hx | hx
    · exact h.ok x (List.mem_append.mpr (.inl hx))
    · rcases List.mem_cons.mp hx with rfl | hx
      · exact ho
      · exact h.ok x (by simp [hx])
/-- the numbers that an entry names -/
def En.names (e : En) : List Int := match e.kd with
  | .deed _ _ rs _ => rs
  | .act _ o => [o]
theorem EnOk.names_len {n : Nat} {ds as : List Int} {e : En} (h : EnOk n ds as e) : e.names.length ≤ 2 := by
  unfold En.names
  cases hk : e.kd with
  | deed g t rs ws =>
    have h4 := h.2.2.2
    rw [hk] at h4
    exact h4.2.2.2.1
  | act x o =>
    show 1 ≤ 2
    omega
theorem EnOk.less {n : Nat} {ds as ds' as' : List Int} {e : En} (h : EnOk n ds as e) (h1 : ∀ x ∈ e.names, x ∈ ds → x ∈ ds') (h2 : ∀ x ∈ e.names, x ∈ as → x ∈ as') : EnOk n ds' as' e := by
  unfold EnOk at h ⊢
  obtain ⟨a, b, c, d⟩ := h
  refine ⟨a, b, c, ?_⟩
  unfold En.names at h1 h2
  cases hk : e.kd with
  | deed g t rs ws =>
    rw [hk] at d h1
    obtain ⟨d1, d2, d3, d4, d5, d6, d7⟩ := d
    exact ⟨d1, d2, d3, d4, d5, fun r hr => ⟨h1 r hr (d6 r hr).1, (d6 r hr).2⟩, d7⟩
  | act x o =>
    rw [hk] at d h1 h2
    refine ⟨?_, d.2⟩
    rcases d.1 with ⟨z, ho⟩ | ⟨z, ho⟩
    · exact .inl ⟨z, h2 o (by simp) ho⟩
    · exact .inr ⟨z, h1 o (by simp) ho⟩
theorem BkOk.gone {n : Nat} {A B : List En} {e : En} (h : BkOk n (A ++ e :: B)) (hno : ∀ u ∈ A ++ e :: B, e.num ∉ u.names) : BkOk n (A ++ B) := by
  have sub : (A ++ B).Sublist (A ++ e :: B) := (List.Sublist.refl A).append (List.sublist_cons_self e B)
  have mem : ∀ x ∈ A ++ B, x ∈ A ++ e :: B := fun x hx => sub.subset hx
  have back : ∀ u ∈ A ++ e :: B, u.num ≠ e.num → u ∈ A ++ B := fun u hu hne => by
    rcases List.mem_append.mp hu with hu | hu
    · exact List.mem_append.mpr (.inl hu)
    · rcases List.mem_cons.mp hu with rfl | hu
      · exact absurd rfl hne
      · exact List.mem_append.mpr (.inr hu)
  refine ⟨(sub.map _).nodup h.nd, fun x hx => h.rng x (mem x hx), fun x hx => (h.ok x (mem x hx)).less (fun y hy hd => ?_) (fun y hy hd => ?_)⟩
  · obtain ⟨u, hu, h1, rfl⟩ := mem_dn.mp hd
    exact mem_dn.mpr ⟨u, back u hu (fun q => hno x (mem x hx) (q ▸ hy)), h1, rfl⟩
  · obtain ⟨u, hu, h1, rfl⟩ := mem_an.mp hd
    exact mem_an.mpr ⟨u, back u hu (fun q => hno x (mem x hx) (q ▸ hy)), h1, rfl⟩
/-- an entry by its first four places -/
theorem EntAt.four {H : Hp} {a : Addr} {e : En} (h : EntAt H a e) : ∃ r : List V, r.length ≤ 5 ∧ H a = some (.tup (.int e.num :: .int e.day :: .int e.wri :: .int e.hand :: r)) ∧ ∀ (H' : Hp) (a' : Addr) (d w : Int), KpT H H' → H' a' = some (.tup (.int e.num :: .int d :: .int w :: .int e.hand :: r)) → EntAt H' a' { e with day := d, wri := w } := by
  unfold EntAt at h ⊢
  cases hk : e.kd with
  | deed g t rs ws =>
    rw [hk] at h
    obtain ⟨r, w, h1, h2, h3⟩ := h
    exact ⟨_, by simp, h1, fun H' a' d w' k e' => ⟨r, w, e', k _ _ h2, k _ _ h3⟩⟩
  | act x o =>
    rw [hk] at h
    exact ⟨_, by simp, h, fun H' a' d w' k e' => e'⟩
end Deed

namespace Deed
open PySem PySem.Spec PySem.W PyProof.Rows L2 LamX
/-! ### sorted(xs) of tuples of one kind -/
def rSortedDp {β : Type} (K : PySem.W.Frag) (enc : β → PyData) : List V → Hp → VK → Prop := fun vs H Q => ∃ (a : Addr) (zs : List (V × β)), vs = [V.ref a] ∧ SqL K H a (zs.map (·.1)) ∧ (∀ z ∈ zs, Dp K H z.1 (enc z.2)) ∧ (∀ b b', alike (enc b) (enc b') = true) ∧ (∀ b, ∃ x r, enc b = .tuple (x :: r)) ∧ (∀ b, (enc b).depth ≤ 8) ∧
  ∀ (ys : List (V × β)) (p : Addr), ys.Perm zs → ys.Pairwise (fun u v => dataLt (enc v.2) (enc u.2) = false) → H p = none → Q (.ref p) (upd H p (.lst (ys.map (·.1))))
theorem each_zip {β : Type} : ∀ {zs : List (V × β)} {us : List Value}, Vals (zs.map (·.1)) us → EachIs (fun u (z : V × β) => RelV z.1 u) us zs
  | [], _, h => by
    cases h
    exact .nil
  | z :: r, _, h => by
    cases h with
    | cons h1 h2 => exact .cons h1 (each_zip h2)
theorem zip_each {β : Type} : ∀ {zs : List (V × β)} {us : List Value}, EachIs (fun u (z : V × β) => RelV z.1 u) us zs → Vals (zs.map (·.1)) us
  | _, _, .nil => .nil
  | _, _, .cons h t => .cons h (zip_each t)
theorem each_and {α β : Type} {R S : α → β → Prop} {as : List α} {bs : List β} (h : EachIs R as bs) (hS : ∀ b ∈ bs, ∀ a, R a b → S a b) : EachIs S as bs := by
  induction h with
  | nil => exact .nil
  | cons h1 _ ih => exact .cons (hS _ List.mem_cons_self _ h1) (ih fun b hb a => hS b (List.mem_cons_of_mem _ hb) a)
theorem cr_sortedDp {β : Type} (enc : β → PyData) {X : Cx} (hu : X.A.units + 64 < cLine) : CallR X (.builtin "sorted") (rSortedDp X.K enc) := by
  intro pins s σ H vs us Q I r h
  obtain ⟨a, zs, rfl, hs, hD, hal, hsr, hdp, q⟩ := h
  obtain ⟨its, rv, hl, hz⟩ := I.list hs
  rw [Vals.ref1 r]
  have e := each_zip rv
  have hz' : zs.length ≤ sizeLine := by rw [List.length_map] at hz; exact hz
  refine sorted_data (bs := zs) (R := fun u (z : V × β) => RelV z.1 u) (enc := fun z => enc z.2) hl.isList e (each_and e fun z hzz u hR => Dp.reads I _ _ _ (hD z hzz) hR) (AllAlike.of fun z z' => hal _ _) (Sortable.tuples fun z => hsr _) hz' (fun z _ => ?_) fun out ho eo => ?_
  · have := hdp z.2
    show X.A.units + 2 + _ < _
    omega
  · have hp : (zs.mergeSort (dataLe false fun z => enc z.2)).Perm zs := List.mergeSort_perm _ _
    have hpw : (zs.mergeSort (dataLe false fun z => enc z.2)).Pairwise (fun a b => dataLe false (fun z : V × β => enc z.2) a b = true) := sort_pairwise (sortLe_total _ _ _) zs
    obtain ⟨ep, he'⟩ := PyProof.Rows.sortedAll_at s.heap its out.toArray
    have hlen : ((zs.mergeSort (dataLe false fun z => enc z.2)).map (·.1)).length ≤ sizeLine := by
      rw [List.length_map, hp.length_eq]
      exact hz'
    refine ⟨.ref _, upd H (s.heap.objs.size + 1) (.lst ((zs.mergeSort (dataLe false fun z => enc z.2)).map (·.1))), I.laid (t' := s.toks) (fun _ _ => PyProof.Rows.sortedAll_old) (Nat.le_succ _) ⟨hlen, out, ep, zip_each eo, he'⟩, rfl, q _ _ hp (hpw.imp fun h => ?_) (I.hok.fresh (Nat.le_succ _))⟩
    rw [dataLe_eq] at h
    simpa using h
theorem sort_one {α : Type} {le lt : α → α → Prop} (h : ∀ a b, lt a b → ¬ le b a) : ∀ {l m : List α}, l.Perm m → l.Pairwise le → m.Pairwise lt → l = m
  | [], m, p, _, _ => (List.Perm.eq_nil p.symm).symm
  | x :: l, [], p, _, _ => absurd p.length_eq (by simp)
  | y :: l, x :: m, p, h1, h2 => by
    have a1 := List.pairwise_cons.mp h1
    have a2 := List.pairwise_cons.mp h2
    have e : y = x := by
      rcases List.mem_cons.mp (p.mem_iff.mp List.mem_cons_self) with e | hy
      · exact e
      · rcases List.mem_cons.mp (p.mem_iff.mpr List.mem_cons_self) with e | hx
        · exact e.symm
        · exact absurd (a1.1 x hx) (h x y (a2.1 y hy))
    subst e
    rw [sort_one h p.cons_inv a1.2 a2.2]
theorem dp_all {K : PySem.W.Frag} {H : Hp} {β : Type} {enc : β → PyData} : ∀ (ys : List (V × β)), (∀ y ∈ ys, Dp K H y.1 (enc y.2)) → DpAll K H (ys.map (·.1)) ((ys.map (·.2)).map enc)
  | [], _ => .nil
  | y :: r, h => .cons (h y List.mem_cons_self) (dp_all r fun x hx => h x (List.mem_cons_of_mem _ hx))
end Deed

namespace PySem.SeqAt
open AutoSeq1 (wpAny_loadPart')
open MeetsSeq
/-! ### a dict and a text are never equal -/
theorem dict_eq_declines_str (l : Addr) (es : Array DictEntry) (ep : Nat) (dd : Option Addr) (sl : Array (Option Value)) (b : Str) (u : Tok) :
    Meets (Builtin.«dict.__eq__» ⟨[.ref l, .str b u], []⟩) (fun _ R s => s.heap.get? l = some { cls := .type "dict", dict := dd, data := .dict es ep, slots := sl } ∧ R (.ok (.ret .notImplemented)) s) :=
  .of_wp fun prog w A R s h => by obtain ⟨hp, g, d, tk, os⟩ := s; obtain ⟨hl, h⟩ := h; have f1 := F.sub_str_dict; wp_walk using wpAny_loadPart' hl; exact ⟨_, rfl, h⟩
theorem str_eq_declines_dict (b : Str) (u : Tok) (l : Addr) (c : Value) (es : Array DictEntry) (ep : Nat) (dd : Option Addr) (sl : Array (Option Value)) :
    Meets (Builtin.«str.__eq__» ⟨[.str b u, .ref l], []⟩) (fun _ R s => s.heap.get? l = some { cls := c, dict := dd, data := .dict es ep, slots := sl } ∧ R (.ok (.ret .notImplemented)) s) :=
  .of_wp fun prog w A R s h => by obtain ⟨hp, g, d, tk, os⟩ := s; obtain ⟨hl, h⟩ := h; wp_walk using wpAny_loadPart' hl, wpAny_load hl; exact ⟨_, rfl, h⟩
section
variable {M : Model} {A : Around} {E : Value → Shared → Prop} {s : Shared}
theorem RcAt.dict_str {l : Addr} {o : Obj} {es : Array DictEntry} {ep : Nat} (b : Str) (u : Tok) (ho : s.heap.get? l = some o) (hc : o.cls = .type "dict") (hd : o.data = .dict es ep) (hu : A.units < cLine) : RcAt A s (.ref l) (.str b u) false := fun prog w E Q h => by
  obtain ⟨cls, dd, data, sl⟩ := o
  simp only at hc hd
  subst hc hd
  exact rc_eq_decline_or (k := false) ⟨_, ho, rfl⟩ (typeIs_str s b u) (by decide) F.sub_str_dict F.slot_dict_eq F.slot_str_eq_refl
    (fun _ hq => call_meets F.slot_dict_eq ⟨_, ho, rfl⟩ F.entry_dict_eq (F.args_dict_eq_2 _ _) (dict_eq_declines_str l es ep dd sl b u) ⟨ho, hq⟩)
    (fun _ hq => call_meets F.slot_str_eq_refl (typeIs_str s b u) F.entry_str_eq (F.args_str_eq_2 _ _) (str_eq_declines_dict b u l (.type "dict") es ep dd sl) ⟨ho, hq⟩)
    (fun _ hq => wpAny_of_eq (rfl : isSame (.ref l) (.str b u) = pure false) hq) (.inr hu) h
theorem RcAt.str_dict {l : Addr} {o : Obj} {es : Array DictEntry} {ep : Nat} (b : Str) (u : Tok) (ho : s.heap.get? l = some o) (hc : o.cls = .type "dict") (hd : o.data = .dict es ep) (hu : A.units < cLine) : RcAt A s (.str b u) (.ref l) false := fun prog w E Q h => by
  obtain ⟨cls, dd, data, sl⟩ := o
  simp only at hc hd
  subst hc hd
  exact rc_eq_decline_or (k := false) (typeIs_str s b u) ⟨_, ho, rfl⟩ (by decide) F.sub_dict_str F.slot_str_eq F.slot_dict_eq_refl
    (fun _ hq => call_meets F.slot_str_eq (typeIs_str s b u) F.entry_str_eq (F.args_str_eq_2 _ _) (str_eq_declines_dict b u l (.type "dict") es ep dd sl) ⟨ho, hq⟩)
    (fun _ hq => call_meets F.slot_dict_eq_refl ⟨_, ho, rfl⟩ F.entry_dict_eq (F.args_dict_eq_2 _ _) (dict_eq_declines_str l es ep dd sl b u) ⟨ho, hq⟩)
    (fun _ hq => wpAny_of_eq (rfl : isSame (.str b u) (.ref l) = pure false) hq) (.inr hu) h
theorem EqAt.str_dict {l : Addr} {o : Obj} {es : Array DictEntry} {ep : Nat} (b : Str) (u : Tok) (ho : s.heap.get? l = some o) (hc : o.cls = .type "dict") (hd : o.data = .dict es ep) (hu : A.units < cLine) : EqAt A s (.str b u) (.ref l) false := fun prog w E Q h => by
  unfold eqBool
  refine wpAny_holding ?_
  refine wpAny_ite_split (fun hab => absurd (eq_of_beq hab) nofun) (fun _ => ?_)
  exact wpAny_bind (RcAt.str_dict b u ho hc hd hu prog w E _ (wpAny_truthy_bool h))
theorem int___gt___bool_int_0 (a : Bool) (b : Int) (u : Tok) : Gives (Builtin.«int.__gt__» ⟨[.bool a, .int b u], []⟩) (.val (Value.bool (decide ((if a = true then (1 : Int) else 0) > b)))) :=
  .of_wp fun M A E s Q h => by obtain ⟨hp, g, d, tk, os⟩ := s; wp_walk; exact ⟨_, rfl, h⟩
theorem gt_bool_int {prog : Program} {w : World} {a : Bool} {b : Int} {u : Tok} {Q : Value → Shared → Prop} (h : Q (.bool (decide ((if a = true then (1 : Int) else 0) > b))) s) : wpAny (model prog w) A (compareOp .Gt (.bool a) (.int b u)) Q E s :=
  rc_left_or (op := .Gt) rfl (typeIs_int s b u) (by decide) F.sub_int_bool F.slot_bool_gt
    (call_gives F.slot_bool_gt rfl F.entry_int_gt (F.args_int_gt_2 _ _) (int___gt___bool_int_0 a b u) ⟨nofun, h⟩) (.inl rfl)
end
end PySem.SeqAt
namespace Deed
open PySem PySem.Spec PyProof.Rows L2
/-! ### things of whatever kind -/
inductive Knd (H : Hp) : V → Prop
  | non : Knd H .non
  | bl (b : Bool) : Knd H (.bl b)
  | int (i : Int) : Knd H (.int i)
  | str (x : Str) : Knd H (.str x)
  | lst {a : Addr} {xs : List V} : H a = some (.lst xs) → Knd H (.ref a)
  | tup {a : Addr} {xs : List V} : H a = some (.tup xs) → Knd H (.ref a)
  | dct {a : Addr} {kvs : List (Key × V)} : H a = some (.dK kvs) → Knd H (.ref a)
section
variable {X : Cx}
/-- thing == text -/
def rEqTS : R2 := fun x y H Q => ∃ z, y = .str z ∧ Knd H x ∧ Q (.bl (decide (x = .str z))) H
theorem dct_at {pins : List (Addr × Obj)} {σ : L2.St} {H : Hp} {s : Shared} (I : Inv X pins σ H s) {a : Addr} {kvs : List (Key × V)} (e : H a = some (.dK kvs)) : ∃ (o : Obj) (es : Array DictEntry) (ep : Nat), s.heap.get? a = some o ∧ o.cls = .type "dict" ∧ o.data = .dict es ep := by
  obtain ⟨_, _, vs, _, o, es, ep, ho, hx, hd, _⟩ := I.hok a _ e
  exact ⟨o, es, ep, ho, hx.1, hd⟩
theorem op_eqTS (hu : X.A.units + 64 < cLine) : OpR X (compareOp .Eq) rEqTS := by
  intro pins s σ H x y v u Q I rx ry h
  obtain ⟨z, rfl, hk, q⟩ := h
  have hu' : X.A.units < cLine := by omega
  obtain ⟨t', rfl⟩ := ry
  cases hk with
  | non => cases rx; exact SeqAt.RcAt.none_str z t' X.prog X.w _ _ ⟨.bl false, H, I, rfl, q⟩
  | bl b => cases rx; exact SeqAt.RcAt.bool_str b z t' X.prog X.w _ _ ⟨.bl false, H, I, rfl, q⟩
  | int i => obtain ⟨t, rfl⟩ := rx; exact SeqAt.RcAt.int_str i t z t' X.prog X.w _ _ ⟨.bl false, H, I, rfl, q⟩
  | str i =>
    exact op_eq pins s σ H _ (.str z) _ _ Q I rx ⟨t', rfl⟩ ⟨rfl, q⟩
  | lst e =>
    cases rx
    obtain ⟨its, r, pl, hz⟩ := I.list (SqL.of (K := X.K) e)
    exact SeqAt.RcAt.list_str z t' pl.isList hu' X.prog X.w _ _ ⟨.bl false, H, I, rfl, q⟩
  | tup e =>
    cases rx
    obtain ⟨its, r, pl, hz⟩ := I.tuple (SqT.of (K := X.K) e)
    exact SeqAt.RcAt.tuple_str z t' pl hu' X.prog X.w _ _ ⟨.bl false, H, I, rfl, q⟩
  | dct e =>
    cases rx
    obtain ⟨o, es, ep, ho, hc, hd⟩ := dct_at I e
    exact SeqAt.RcAt.dict_str z t' ho hc hd hu' X.prog X.w _ _ ⟨.bl false, H, I, rfl, q⟩
/-- thing in, or not in, a list or tuple of texts -/
def rInTS (K : PySem.W.Frag) (neg : Bool) : R2 := fun x y H Q => ∃ (p : Addr) (ws : List Str), y = .ref p ∧ (SqL K H p (ws.map V.str) ∨ SqT K H p (ws.map V.str)) ∧ Knd H x ∧ Q (.bl (if neg then !decide (x ∈ ws.map V.str) else decide (x ∈ ws.map V.str))) H
def eqTS (x : V) : Value → Bool
  | .str z _ => decide (x = .str z)
  | _ => false
theorem eqTS_at {pins : List (Addr × Obj)} {σ : L2.St} {H : Hp} {s : Shared} {A : Around} (I : Inv X pins σ H s) (hu : A.units < cLine) {x : V} {v : Value} (rx : RelV x v) (hk : Knd H x) {ws : List Str} {its : List Value} (r : Vals (ws.map V.str) its) : ∀ y ∈ its, SeqAt.EqAt A s y v (eqTS x y) := by
  intro y hy
  have hs : ∃ z t, y = .str z t := by
    clear hk rx
    induction its generalizing ws with
    | nil => cases hy
    | cons a r' ih =>
      cases ws with
      | nil => cases r
      | cons z zs =>
        cases r with
        | cons h1 h2 =>
          rcases List.mem_cons.mp hy with rfl | hy
          · obtain ⟨t, rfl⟩ := h1
            exact ⟨z, t, rfl⟩
          · exact ih h2 hy
  obtain ⟨z, t, rfl⟩ := hs
  cases hk with
  | non => cases rx; exact SeqAt.EqAt.str_none z t
  | bl b => cases rx; exact SeqAt.EqAt.str_bool z t b
  | int i => obtain ⟨t', rfl⟩ := rx; exact SeqAt.EqAt.str_int z t i t'
  | str i =>
    obtain ⟨t', rfl⟩ := rx
    have := SeqAt.EqAt.str_str (A := A) (s := s) z t i t'
    rw [show eqTS (.str i) (.str z t) = (z == i) from ?_]
    · exact this
    · show decide (V.str i = V.str z) = (z == i)
      by_cases e : i = z
      · subst e
        simp
      · rw [decide_eq_false (fun q => e (by injection q))]
        exact (beq_eq_false_iff_ne.mpr fun q => e q.symm).symm
  | lst e =>
    cases rx
    obtain ⟨its, r, pl, hz⟩ := I.list (SqL.of (K := X.K) e)
    exact SeqAt.EqAt.str_list z t pl.isList hu
  | tup e =>
    cases rx
    obtain ⟨its, r, pl, hz⟩ := I.tuple (SqT.of (K := X.K) e)
    exact SeqAt.EqAt.str_tuple z t pl hu
  | dct e =>
    cases rx
    obtain ⟨o, es, ep, ho, hc, hd⟩ := dct_at I e
    exact SeqAt.EqAt.str_dict z t ho hc hd hu
theorem any_eqTS {x : V} : ∀ {ws : List Str} {its : List Value}, Vals (ws.map V.str) its → its.any (eqTS x) = decide (x ∈ ws.map V.str)
  | [], _, r => by
    cases r
    simp
  | z :: zs, _, r => by
    cases r with
    | cons h1 h2 =>
      obtain ⟨t, rfl⟩ := h1
      rw [List.any_cons, any_eqTS h2, List.map_cons]
      show (decide (x = .str z) || _) = _
      rw [← Bool.decide_or]
      simp only [List.mem_cons]
theorem op_inTS (hu : X.A.units + 64 < cLine) : OpR X (compareOp .In) (rInTS X.K false) := by
  intro pins s σ H x y v u Q I rx ry h
  obtain ⟨p, ws, rfl, hq, hk, q⟩ := h
  cases ry
  have hu' : X.A.in1.units < cLine := by show X.A.units + 1 < cLine; omega
  rcases hq with hq | hq
  · obtain ⟨its, r, pl, hz⟩ := I.list hq
    refine SeqAt.in_listAt (eqTS x) pl.isList (fun w hw => eqTS_at I hu' rx hk r w (by simpa using hw)) ⟨.bl _, H, I, rfl, ?_⟩
    rw [show its.toArray.any (eqTS x) = its.any (eqTS x) by simp, any_eqTS r]
    exact q
  · obtain ⟨its, r, pl, hz⟩ := I.tuple hq
    refine SeqAt.in_tupleAt (eqTS x) pl (fun w hw => eqTS_at I hu' rx hk r w (by simpa using hw)) ⟨.bl _, H, I, rfl, ?_⟩
    rw [show its.toArray.any (eqTS x) = its.any (eqTS x) by simp, any_eqTS r]
    exact q
theorem op_notInTS (hu : X.A.units + 64 < cLine) : OpR X (compareOp .NotIn) (rInTS X.K true) := by
  intro pins s σ H x y v u Q I rx ry h
  obtain ⟨p, ws, rfl, hq, hk, q⟩ := h
  cases ry
  have hu' : X.A.in1.units < cLine := by show X.A.units + 1 < cLine; omega
  rcases hq with hq | hq
  · obtain ⟨its, r, pl, hz⟩ := I.list hq
    refine SeqAt.notIn_listAt (eqTS x) pl.isList (fun w hw => eqTS_at I hu' rx hk r w (by simpa using hw)) ⟨.bl _, H, I, rfl, ?_⟩
    rw [show its.toArray.any (eqTS x) = its.any (eqTS x) by simp, any_eqTS r]
    exact q
  · obtain ⟨its, r, pl, hz⟩ := I.tuple hq
    refine SeqAt.notIn_tupleAt (eqTS x) pl (fun w hw => eqTS_at I hu' rx hk r w (by simpa using hw)) ⟨.bl _, H, I, rfl, ?_⟩
    rw [show its.toArray.any (eqTS x) = its.any (eqTS x) by simp, any_eqTS r]
    exact q
/-- tuple != () -/
def rNeTE (K : PySem.W.Frag) : R2 := fun x y H Q => ∃ a b xs, x = .ref a ∧ y = .ref b ∧ SqT K H a xs ∧ SqT K H b [] ∧ Q (.bl (!xs.isEmpty)) H
theorem op_neTE (hu : X.A.units + 64 < cLine) : OpR X (compareOp .NotEq) (rNeTE X.K) := by
  intro pins s σ H x y v u Q I rx ry h
  obtain ⟨a, b, xs, rfl, rfl, ha, hb, q⟩ := h
  cases rx
  cases ry
  obtain ⟨its, r, pl, hz⟩ := I.tuple ha
  obtain ⟨its2, r2, pl2, hz2⟩ := I.tuple hb
  cases r2
  have hl := r.length
  refine SeqAt.RcNeAt.tuples (e := fun _ => true) pl pl2 (by omega) (fun j h1 h2 => absurd h2 (by simp)) X.prog X.w _ _ ⟨.bl _, H, I, rfl, ?_⟩
  have e : (!((List.range (min its.toArray.size ([] : List Value).toArray.size)).all (fun _ => true) && its.toArray.size == ([] : List Value).toArray.size)) = !xs.isEmpty := by
    cases xs with
    | nil =>
      have : its = [] := List.eq_nil_of_length_eq_zero (by rw [← hl]; rfl)
      subst this
      rfl
    | cons x xs =>
      cases its with
      | nil => simp at hl
      | cons i is => simp
  rw [e]
  exact q
/-- thing + number, thing - number, thing > number, of numbers and truths -/
def b2n (b : Bool) : Int := if b = true then 1 else 0
def numOf : V → Option Int
  | .int i => some i
  | .bl b => some (b2n b)
  | _ => none
theorem op_addTI : OpR X (binaryOp .Add) (fun x y H Q => ∃ i j, numOf x = some i ∧ y = .int j ∧ Q (.int (i + j)) H) := by
  intro pins s σ H x y v u Q I rx ry h
  obtain ⟨i, j, hx, rfl, q⟩ := h
  obtain ⟨t', rfl⟩ := ry
  cases x with
  | int k =>
    obtain ⟨t, rfl⟩ := rx
    injection hx with hx
    subst hx
    exact add_int ⟨.int _, H, I.tok _, ⟨_, rfl⟩, q⟩
  | bl k =>
    cases rx
    injection hx with hx
    subst hx
    exact PySem.IntBool.add_bool_int ⟨.int _, H, I.tok _, ⟨_, rfl⟩, q⟩
  | _ => cases hx
theorem op_subTI : OpR X (binaryOp .Sub) (fun x y H Q => ∃ i j, numOf x = some i ∧ y = .int j ∧ Q (.int (i - j)) H) := by
  intro pins s σ H x y v u Q I rx ry h
  obtain ⟨i, j, hx, rfl, q⟩ := h
  obtain ⟨t', rfl⟩ := ry
  cases x with
  | int k =>
    obtain ⟨t, rfl⟩ := rx
    injection hx with hx
    subst hx
    exact sub_int ⟨.int _, H, I.tok _, ⟨_, rfl⟩, q⟩
  | bl k =>
    cases rx
    injection hx with hx
    subst hx
    exact PySem.IntBool.sub_bool_int ⟨.int _, H, I.tok _, ⟨_, rfl⟩, q⟩
  | _ => cases hx
theorem op_gtTI : OpR X (compareOp .Gt) (fun x y H Q => ∃ i j, numOf x = some i ∧ y = .int j ∧ Q (.bl (decide (i > j))) H) := by
  intro pins s σ H x y v u Q I rx ry h
  obtain ⟨i, j, hx, rfl, q⟩ := h
  cases x with
  | int k =>
    injection hx with hx
    subst hx
    exact op_gt pins s σ H _ _ _ _ Q I rx ry ⟨_, _, rfl, rfl, q⟩
  | bl k =>
    obtain ⟨t', rfl⟩ := ry
    cases rx
    injection hx with hx
    subst hx
    exact SeqAt.gt_bool_int ⟨.bl _, H, I, rfl, q⟩
  | _ => cases hx
theorem str_of_bool {prog : Program} {w : World} {A : Around} {E : Value → Shared → Prop} {s : Shared} {b : Bool} {Q : Value → Shared → Prop} (h : Q (.str (if b then "True" else "False") s.toks) { s with toks := s.toks + 1 }) : wpAny (model prog w) A (call (.type "str") [.bool b]) Q E s :=
  callType_new F.called_str (by decide) (F.typeCall_str_1 _) (F.newCall_str_1 _) (fun obj => F.args_object_init_2 obj _) F.entry_str_new
    (meets_str_new (S := fun _ R s => R (.ok (.ret (.str (if b then "True" else "False") s.toks))) { s with toks := s.toks + 1 }) fun _ _ _ _ s hq =>
      wpAny_strOf_gives rfl (PySem.typeIs_bool s b) F.slot_bool_str F.slot_bool_repr F.entry_bool_repr (F.args_bool_repr_1 _) (gives_bool_repr b) hq (hsz := by cases b <;> decide)) ⟨typeIs_str _ _ _, h⟩
def strTI : V → Int → Str
  | .bl b, _ => if b then "True" else "False"
  | _, i => toString i
/-- str(thing) of a number or a truth: some text -/
theorem call_strTI : CallR X (.type "str") (fun xs H Q => ∃ x i, xs = [x] ∧ numOf x = some i ∧ i.natAbs.log2 < 1920 ∧ Q (.str (strTI x i)) H) := by
  intro pins s σ H xs us Q I r h
  obtain ⟨x, i, rfl, hx, hz, q⟩ := h
  obtain ⟨u, rfl, rx⟩ := vals1 r
  cases x with
  | int k =>
    obtain ⟨t, rfl⟩ := rx
    injection hx with hx
    subst hx
    exact PySem.P.str_of_int hz ⟨.str _, H, I.tok _, ⟨_, rfl⟩, q⟩
  | bl k =>
    cases rx
    exact str_of_bool ⟨.str _, H, I.tok _, ⟨_, rfl⟩, q⟩
  | _ => cases hx
end
end Deed

namespace Deed
open PySem PySem.Spec PyProof.Rows L2 LamX
/-! ### a thing of whatever kind, as data -/
theorem Kp.noneG {p q : Addr} {H H' : Hp} (k : Kp p H H') (n : q ≠ p) (h : H' q = Option.none) : H q = Option.none := by
  cases e : H q with
  | none => rfl
  | some o => rw [k _ _ n e] at h; cases h
inductive Tg where
  | non | bl (b : Bool) | int (i : Int) | str (x : Str) | lst | tup (ts : List Tg) | dct
mutual
inductive TgAt (p : Addr) (H : Hp) : V → Tg → Prop
  | non : TgAt p H .non .non
  | bl (b : Bool) : TgAt p H (.bl b) (.bl b)
  | int (i : Int) : TgAt p H (.int i) (.int i)
  | str (x : Str) : TgAt p H (.str x) (.str x)
  | lst {a : Addr} {xs : List V} : a ≠ p → H a = some (.lst xs) → TgAt p H (.ref a) .lst
  | tup {a : Addr} {xs : List V} {ts : List Tg} : H a = some (.tup xs) → TgAll p H xs ts → TgAt p H (.ref a) (.tup ts)
  | dct {a : Addr} {kvs : List (Key × V)} : a ≠ p → H a = some (.dK kvs) → TgAt p H (.ref a) .dct
inductive TgAll (p : Addr) (H : Hp) : List V → List Tg → Prop
  | nil : TgAll p H [] []
  | cons {v : V} {vs : List V} {t : Tg} {ts : List Tg} : TgAt p H v t → TgAll p H vs ts → TgAll p H (v :: vs) (t :: ts)
end
section
variable {p : Addr} {H H' : Hp} {K : PySem.W.Frag}
mutual
theorem TgAt.kp (k : Kp p H H') (P : PenAt H p) : ∀ (t : Tg) (v : V), TgAt p H v t → TgAt p H' v t
  | .non, _, h => by cases h; exact .non
  | .bl _, _, h => by cases h; exact .bl _
  | .int _, _, h => by cases h; exact .int _
  | .str _, _, h => by cases h; exact .str _
  | .lst, _, h => by
    cases h with
    | lst n e => exact .lst n (k _ _ n e)
  | .tup ts, _, h => by
    cases h with
    | tup e ha => exact .tup (k.tup P _ _ e) (TgAll.kp k P ts _ ha)
  | .dct, _, h => by
    cases h with
    | dct n e => exact .dct n (k _ _ n e)
theorem TgAll.kp (k : Kp p H H') (P : PenAt H p) : ∀ (ts : List Tg) (vs : List V), TgAll p H vs ts → TgAll p H' vs ts
  | [], _, h => by cases h; exact .nil
  | t :: ts, _, h => by
    cases h with
    | cons h1 h2 => exact .cons (TgAt.kp k P t _ h1) (TgAll.kp k P ts _ h2)
end
mutual
theorem TgAt.same (k : Same H H') : ∀ (t : Tg) (v : V), TgAt p H v t → TgAt p H' v t
  | .non, _, h => by cases h; exact .non
  | .bl _, _, h => by cases h; exact .bl _
  | .int _, _, h => by cases h; exact .int _
  | .str _, _, h => by cases h; exact .str _
  | .lst, _, h => by
    cases h with
    | lst n e => exact .lst n (k _ _ e)
  | .tup ts, _, h => by
    cases h with
    | tup e ha => exact .tup (k _ _ e) (TgAll.same k ts _ ha)
  | .dct, _, h => by
    cases h with
    | dct n e => exact .dct n (k _ _ e)
theorem TgAll.same (k : Same H H') : ∀ (ts : List Tg) (vs : List V), TgAll p H vs ts → TgAll p H' vs ts
  | [], _, h => by cases h; exact .nil
  | t :: ts, _, h => by
    cases h with
    | cons h1 h2 => exact .cons (TgAt.same k t _ h1) (TgAll.same k ts _ h2)
end
mutual
/-- a list that changes stays a list -/
theorem TgAt.relist {M : Addr} {xs ys : List V} (e : H M = some (.lst xs)) : ∀ (t : Tg) (v : V), TgAt p H v t → TgAt p (upd H M (.lst ys)) v t
  | .non, _, h => by cases h; exact .non
  | .bl _, _, h => by cases h; exact .bl _
  | .int _, _, h => by cases h; exact .int _
  | .str _, _, h => by cases h; exact .str _
  | .lst, _, h => by
    cases h with
    | @lst a zs n e' =>
      by_cases ha : a = M
      · subst ha
        exact .lst n upd_same
      · exact .lst n (by rw [upd_ne ha]; exact e')
  | .tup ts, _, h => by
    cases h with
    | tup e' ha => exact .tup (by rw [upd_ne fun z => by rw [z, e] at e'; cases e']; exact e') (TgAll.relist e ts _ ha)
  | .dct, _, h => by
    cases h with
    | dct n e' => exact .dct n (by rw [upd_ne fun z => by rw [z, e] at e'; cases e']; exact e')
theorem TgAll.relist {M : Addr} {xs ys : List V} (e : H M = some (.lst xs)) : ∀ (ts : List Tg) (vs : List V), TgAll p H vs ts → TgAll p (upd H M (.lst ys)) vs ts
  | [], _, h => by cases h; exact .nil
  | t :: ts, _, h => by
    cases h with
    | cons h1 h2 => exact .cons (TgAt.relist e t _ h1) (TgAll.relist e ts _ h2)
end
theorem TgAll.length : ∀ {vs : List V} {ts : List Tg}, TgAll p H vs ts → vs.length = ts.length
  | _, [], h => by cases h; rfl
  | _, t :: ts, h => by
    cases h with
    | cons h1 h2 => rw [List.length_cons, List.length_cons, TgAll.length h2]
theorem TgAll.get : ∀ {vs : List V} {ts : List Tg} {i : Nat} {v : V}, TgAll p H vs ts → vs[i]? = some v → ∃ t, ts[i]? = some t ∧ TgAt p H v t
  | _, [], i, v, h, e => by
    cases h
    cases e
  | _, t :: ts, i, v, h, e => by
    cases h with
    | cons h1 h2 =>
      cases i with
      | zero =>
        injection e with e
        subst e
        exact ⟨t, rfl, h1⟩
      | succ i => exact TgAll.get (i := i) h2 (by simpa using e)
theorem TgAll.append : ∀ {vs : List V} {ts : List Tg} {vs' : List V} {ts' : List Tg}, TgAll p H vs ts → TgAll p H vs' ts' → TgAll p H (vs ++ vs') (ts ++ ts')
  | _, [], _, _, h, h' => by
    cases h
    exact h'
  | _, t :: ts, _, _, h, h' => by
    cases h with
    | cons h1 h2 => exact .cons h1 (TgAll.append h2 h')
theorem TgAll.take : ∀ {vs : List V} {ts : List Tg} (n : Nat), TgAll p H vs ts → TgAll p H (vs.take n) (ts.take n)
  | _, _, 0, _ => .nil
  | _, [], n + 1, h => by
    cases h
    exact .nil
  | _, t :: ts, n + 1, h => by
    cases h with
    | cons h1 h2 => exact .cons h1 (TgAll.take n h2)
theorem TgAll.drop : ∀ {vs : List V} {ts : List Tg} (n : Nat), TgAll p H vs ts → TgAll p H (vs.drop n) (ts.drop n)
  | _, _, 0, h => h
  | _, [], n + 1, h => by
    cases h
    exact .nil
  | _, t :: ts, n + 1, h => by
    cases h with
    | cons h1 h2 => exact TgAll.drop n h2
theorem TgAll.reverse : ∀ {vs : List V} {ts : List Tg}, TgAll p H vs ts → TgAll p H vs.reverse ts.reverse
  | _, [], h => by
    cases h
    exact .nil
  | _, t :: ts, h => by
    cases h with
    | cons h1 h2 =>
      rw [List.reverse_cons, List.reverse_cons]
      exact (TgAll.reverse h2).append (.cons h1 .nil)
theorem TgAll.cut {vs : List V} {ts : List Tg} (h : TgAll p H vs ts) (lo hi : Option Int) : ∃ ts', TgAll p H (cutV vs lo hi) ts' := ⟨_, (h.drop _).take _⟩
theorem TgAll.rep {vs : List V} {ts : List Tg} (h : TgAll p H vs ts) : ∀ k : Nat, TgAll p H (List.replicate k vs).flatten (List.replicate k ts).flatten
  | 0 => .nil
  | k + 1 => by
    rw [List.replicate_succ, List.replicate_succ, List.flatten_cons, List.flatten_cons]
    exact h.append (h.rep k)
theorem TgAll.ints : ∀ ns : List Int, TgAll p H (ns.map V.int) (ns.map Tg.int)
  | [] => .nil
  | n :: r => .cons (.int n) (TgAll.ints r)
theorem TgAll.mk {vs : List V} (h : ∀ v ∈ vs, ∃ t, TgAt p H v t) : ∃ ts, TgAll p H vs ts := by
  induction vs with
  | nil => exact ⟨[], .nil⟩
  | cons v r ih =>
    obtain ⟨t, ht⟩ := h v List.mem_cons_self
    obtain ⟨ts, hts⟩ := ih fun x hx => h x (List.mem_cons_of_mem _ hx)
    exact ⟨t :: ts, .cons ht hts⟩
theorem TgAll.mem {vs : List V} {ts : List Tg} (h : TgAll p H vs ts) {v : V} (hv : v ∈ vs) : ∃ t, t ∈ ts ∧ TgAt p H v t := by
  obtain ⟨i, hi, e⟩ := List.mem_iff_getElem.mp hv
  obtain ⟨t, ht, hat⟩ := h.get (i := i) (by rw [List.getElem?_eq_getElem hi, e])
  exact ⟨t, List.mem_of_getElem? ht, hat⟩
theorem TgAt.knd {v : V} {t : Tg} (h : TgAt p H v t) : Knd H v := by
  cases h with
  | non => exact .non
  | bl b => exact .bl b
  | int i => exact .int i
  | str x => exact .str x
  | lst _ e => exact .lst e
  | tup e _ => exact .tup e
  | dct _ e => exact .dct e
def Tg.ty : Tg → String
  | .non => "NoneType" | .bl _ => "bool" | .int _ => "int" | .str _ => "str" | .lst => "list" | .tup _ => "tuple" | .dct => "dict"
theorem TgAt.ty {v : V} {t : Tg} (h : TgAt p H v t) : TyX K H v (.type t.ty) := by
  cases h with
  | non => exact .base .non
  | bl b => exact .base (.bl b)
  | int i => exact .base (.int i)
  | str x => exact .base (.str x)
  | lst _ e => exact .base (.lst e)
  | tup e _ => exact .base (.tup e)
  | dct _ e => exact .base (.dK e)
def Tg.isI : Tg → Bool | .int _ => true | .bl _ => true | _ => false
def Tg.isB : Tg → Bool | .bl _ => true | _ => false
def Tg.isT : Tg → Bool | .tup _ => true | _ => false
def Tg.isS : Tg → Bool | .str _ => true | _ => false
def Tg.isL : Tg → Bool | .lst => true | _ => false
theorem Tg.kI (t : Tg) : kitB t.ty "int" = some t.isI := by cases t <;> (simp only [Tg.ty, Tg.isI]; decide +kernel)
theorem Tg.kB (t : Tg) : kitB t.ty "bool" = some t.isB := by cases t <;> (simp only [Tg.ty, Tg.isB]; decide +kernel)
theorem Tg.kT (t : Tg) : kitB t.ty "tuple" = some t.isT := by cases t <;> (simp only [Tg.ty, Tg.isT]; decide +kernel)
theorem Tg.kS (t : Tg) : kitB t.ty "str" = some t.isS := by cases t <;> (simp only [Tg.ty, Tg.isS]; decide +kernel)
theorem Tg.kL (t : Tg) : kitB t.ty "list" = some t.isL := by cases t <;> (simp only [Tg.ty, Tg.isL]; decide +kernel)
theorem TgAt.tupOf {v : V} {t : Tg} (h : TgAt p H v t) (ht : t.isT = true) : ∃ a xs ts, v = .ref a ∧ t = .tup ts ∧ H a = some (.tup xs) ∧ TgAll p H xs ts := by
  cases h with
  | tup e ha => exact ⟨_, _, _, rfl, rfl, e, ha⟩
  | _ => cases ht
end
end Deed

namespace Deed
open PySem PySem.Spec PyProof.Rows L2 LamX
end Deed

namespace Deed
open PySem PySem.Spec PyProof.Rows L2 LamX
section
variable {P : Program} {w : World} {K : PySem.W.Frag} {mg : Str → Option Value} {base : Heap}
abbrev CDrw (P : Program) (w : World) (K : PySem.W.Frag) (mg : Str → Option Value) (base : Heap) (k : Nat) := CallOk P w K mg base k "_law_draw" ["_law_pen_here", "_law_bound"] spDraw
abbrev sLThing : Stmt := topS 69
abbrev nLThing : List Str := ["_law_pen_here", "_law_deep", "_law_way", "_law_parts", "_law_k"]
abbrev pLThing : List Str := ["_law_pen_here", "_law_deep"]
theorem scLThing : FnScope nLThing pLThing (defScope sLThing) := ⟨rfl, rfl, rfl, by decide +kernel, rfl, by decide +kernel, by decide +kernel⟩
def spLThing (n : Nat) : Sp := fun vs H Q _ => ∃ (p : Addr) (deep : Int), vs = [.ref p, .int deep] ∧ PenAt H p ∧ 0 ≤ deep ∧ deep < n ∧ ∀ v H', Kp p H H' → PenAt H' p → (∃ t, TgAt p H' v t) → Q v H'
theorem ok_LThing {f : Addr} {fd : FuncData} {k : Nat} (D : Df K mg "_law_thing" sLThing pLThing f fd) (cDr : ∀ n, CDrw P w K mg base (k + n)) (m_range : mg "range" = none) (m_tuple : mg "tuple" = none) : ∀ n : Nat, FnOk P w K mg base CX0 (k + n + 1) f fd pLThing (spLThing n)
  | 0 => by
    refine D.F.ok scLThing (fun vs H Q E h => ?_) (fun cdv A outer s H vs Q E hr h => ?_)
    · obtain ⟨p, deep, rfl, _⟩ := h
      rfl
    · obtain ⟨p, deep, rfl, _, h0, h1, _⟩ := h
      omega
  | n + 1 => by
    have C__law_thing : CallOk P w K mg base (k + (n + 1)) "_law_thing" pLThing (spLThing n) := D.call (ok_LThing D cDr m_range m_tuple n)
    have C__law_draw := cDr (n + 1)
    refine D.F.ok scLThing (fun vs H Q E h => ?_) (fun cdv A outer s H vs Q E hr h => ?_)
    · obtain ⟨p, deep, rfl, _⟩ := h
      rfl
    · obtain ⟨p, deep, rfl, hP, h0, h1, q⟩ := h
      have nd := scLThing.nd
      refine ⟨_, pss_cons (ps_set (i := 2) nd rfl (.inl rfl) (pe_call C__law_draw.ok hr (by rfl) C__law_draw.g C__law_draw.kp C__law_draw.b .nil pass0 (pa_cons (pv 0) (pa_cons pe_int pa_nil))))
      (pss_cons (ps_if (PW.pt (pw_or (pt_cmpR op_lt (pv 2) pe_int (nomark _)) (pw_or1 (pt_cmpR op_eq (pv 1) pe_int (nomark _))))) (pss_one (ps_ret (pe_ix ix_list (pe_lst (pa_cons pe_non (pa_cons pe_bl (pa_cons pe_bl (pa_cons pe_int (pa_cons pe_int (pa_cons (pe_un un_neg pe_int) (pa_cons pe_int (pa_cons (pe_op op_pow pe_int pe_int) (pa_cons pe_str (pa_cons pe_str (pa_cons (pe_tup pa_nil) (pa_cons (pe_lst pa_nil) pa_nil))))))))))))) (pe_call C__law_draw.ok hr (by rfl) C__law_draw.g C__law_draw.kp C__law_draw.b .nil pass0 (pa_cons (pv 0) (pa_cons pe_int pa_nil))) (fun _ _ => rfl)))) pss_nil)
      (pss_cons (ps_setLc (i := 3) (own := [("_law_k", 4)]) (g := gName 4) (by rfl) nd rfl rfl (sw_true rfl rfl rfl (by decide +kernel)) (pi_range1 rfl m_range (pa_cons (pe_call C__law_draw.ok hr (by rfl) C__law_draw.g C__law_draw.kp C__law_draw.b .nil pass0 (pa_cons (pv 0) (pa_cons pe_int pa_nil))) pa_nil)) (blkOk_by (own := [("_law_k", 4)]) (N := nLThing) (sc := defScope sLThing) (by decide +kernel)) (fun _ _ _ _ _ => (pg_name (i := 4) nd rfl (.inl rfl))) (fun _ _ _ _ _ => pts_nil)
          (fun _ _ _ _ _ => (pe_call C__law_thing.ok hr (by rfl) C__law_thing.g C__law_thing.kp C__law_thing.b .nil pass0 (pa_cons (pv 0) (pa_cons (pe_op op_sub (pv 1) pe_int) pa_nil)))))
      (pss_cons (ps_if (pt_cmpR op_eq (pv 2) pe_int (nomark _)) (pss_one (ps_ret (pv 3))) pss_nil)
      (pss_cons (ps_if (pt_cmpR op_eq (pv 2) pe_int (nomark _)) (pss_one (ps_ret (pe_disp (pps_cons pe_str (pv 3) pps_nil) rfl rfl (by simp) (by decide)))) pss_nil)
      (pss_one (ps_ret (pe_callTy call_tuple_of (by rfl) m_tuple (by decide +kernel) (pa_cons (pv 3) pa_nil)))))))), ?_⟩
      refine ⟨_, rfl, p, 12, rfl, hP, by decide, by decide, fun way H1 k1 P1 a1 b1 => ?_⟩
      refine ⟨_, rfl, _, _, rfl, rfl, _, rfl, ?_⟩
      refine ite2 (fun c => ?_) (fun c => ⟨_, rfl, rfl, _, rfl, ite2 (fun c2 => ?_) (fun c2 => ?_)⟩)
      rotate_right 1
      · have hd : deep ≠ 0 := fun h => c2 (decide_eq_true (congrArg V.int h))
        refine ⟨_, rfl, p, 4, rfl, P1, by decide, by decide, fun m H2 k2 P2 a2 b2 => ?_⟩
        refine ⟨_, rfl, by omega, by omega, fun M nM => ?_⟩
        have nMp : M ≠ p := P2.free nM
        refine lc_range (lo := 0) (n := m.toNat) (fun i H' => ∃ (xs : List V) (ts : List Tg), H' M = some (.lst xs) ∧ Kp p H2 H' ∧ PenAt H' p ∧ xs.length = i ∧ TgAll p H' xs ts) ⟨[], [], upd_same, Kp.new nM _, P2.new nM _, rfl, .nil⟩ ?_ ?_
        · rintro i H3 hi ⟨xs, ts, eM, k3, P3, hl, hts⟩
          refine ⟨rfl, ?_⟩
          unfold tYes
          dsimp only
          rw [if_pos rfl]
          refine ⟨_, rfl, _, rfl, _, _, rfl, rfl, p, deep - 1, rfl, P3, by omega, by omega, fun v H4 k4 P4 ⟨t, hv⟩ => ?_⟩
          have eM4 := k4 _ _ nMp eM
          have hxs4 : ∀ x ∈ xs ++ [v], ∃ t, TgAt p (upd H4 M (.lst (xs ++ [v]))) x t := fun x hx => by
            have h5 : ∃ t, TgAt p H4 x t := by
              rcases List.mem_append.mp hx with hx | hx
              · obtain ⟨t', _, ht'⟩ := hts.mem hx
                exact ⟨t', TgAt.kp k4 P3 _ _ ht'⟩
              · rw [List.mem_singleton.mp hx]
                exact ⟨t, hv⟩
            obtain ⟨t5, h5⟩ := h5
            exact ⟨t5, TgAt.relist eM4 t5 x h5⟩
          obtain ⟨ts', hts'⟩ := TgAll.mk hxs4
          exact ⟨_, eM4, small1000 (by omega), xs ++ [v], ts', upd_same, (k3.trans k4).over nM _, P4.put nMp _, by rw [List.length_append, hl]; rfl, hts'⟩
        rintro H3 ⟨xs, ts, eM, k3, P3, hl, hts⟩
        have k03 := k1.trans (k2.trans k3)
        refine ⟨_, rfl, rfl, _, rfl, ite2 (fun c => ⟨_, rfl, q _ H3 k03 P3 ⟨_, .lst nMp eM⟩⟩) (fun c => ⟨_, rfl, rfl, _, rfl, ite2 (fun c => ?_) (fun c => ?_)⟩)⟩
        · intro d nd'
          have ndp : d ≠ p := P3.free nd'
          exact ⟨_, rfl, upd_same, [(Sum.inr "a", .ref M)], rfl, (by show 1 ≤ 15; omega), q _ _ ((k03.trans (Kp.new nd' _)).over (k03.noneG ndp nd') _) ((P3.new nd' _).put ndp _) ⟨_, .dct ndp upd_same⟩⟩
        · exact ⟨_, rfl, M, _, rfl, .inl ⟨SqL.of eM, fun t nt => q _ _ (k03.trans (Kp.new nt _)) (P3.new nt _) ⟨_, .tup upd_same (TgAll.kp (Kp.new nt _) P3 _ _ hts)⟩⟩⟩
      all_goals
        refine ⟨_, rfl, _, _, rfl, rfl, ⟨by decide, by decide, by decide⟩, Nat.zero_le _, fun t1 nt1 => ?_⟩
        have P2 := P1.new nt1 (.tup [])
        have k2 : Kp p H1 (upd H1 t1 (.tup [])) := Kp.new nt1 _
        have e2 : (upd H1 t1 (.tup [])) t1 = some (.tup []) := upd_same
        generalize (upd H1 t1 (.tup [])) = H2 at P2 k2 e2
        refine ⟨Nat.zero_le _, fun l2 nl2 => ?_⟩
        have P3 := P2.new nl2 (.lst [])
        have k3 : Kp p H2 (upd H2 l2 (.lst [])) := Kp.new nl2 _
        have s3 := same_new nl2 (.lst [])
        have e3 : (upd H2 l2 (.lst [])) l2 = some (.lst []) := upd_same
        have np2 : l2 ≠ p := P2.free nl2
        generalize (upd H2 l2 (.lst [])) = H3 at P3 k3 s3 e3
        refine ⟨(by show 12 ≤ sizeLine; decide), fun l3 nl3 => ?_⟩
        have np3 : l3 ≠ p := P3.free nl3
        have s4 := same_new nl3 (.lst [.non, .bl true, .bl false, .int 0, .int 1, .int (-1), .int 9, .int (10 ^ (39 : Int).toNat), .str "", .str "a", .ref t1, .ref l2])
        refine ⟨_, rfl, p, 12, rfl, P3.new nl3 _, by decide, by decide, fun u H5 k5 P5 a5 b5 => ?_⟩
        obtain ⟨v, gv, hv⟩ := pick (xs := [.non, .bl true, .bl false, .int 0, .int 1, .int (-1), .int 9, .int (10 ^ (39 : Int).toNat), .str "", .str "a", .ref t1, .ref l2]) (fun v => ∃ o, TgAt p H5 v o) a5 b5 (am1 ⟨_, .non⟩ (am1 ⟨_, .bl _⟩ (am1 ⟨_, .bl _⟩ (am1 ⟨_, .int _⟩ (am1 ⟨_, .int _⟩ (am1 ⟨_, .int _⟩ (am1 ⟨_, .int _⟩ (am1 ⟨_, .int _⟩ (am1 ⟨_, .str _⟩ (am1 ⟨_, .str _⟩ (am1 ⟨_, .tup (k5.tup (P3.new nl3 _) _ _ (s4 _ _ (s3 _ _ e2))) .nil⟩ (am1 ⟨_, .lst np2 (k5 _ _ np2 (s4 _ _ e3))⟩ am0))))))))))))
        exact ⟨l3, _, u, v, rfl, rfl, SqL.of (k5 _ _ np3 upd_same), gv, q v H5 (k1.trans (k2.trans (k3.trans ((Kp.new nl3 _).trans k5)))) P5 hv⟩
end
end Deed

namespace Deed
open PySem PySem.Spec PyProof.Rows L2
/-! ### t[::-1] of a tuple -/
theorem fm_congr {α β : Type} {f g : α → Option β} : ∀ {l : List α}, (∀ x ∈ l, f x = g x) → l.filterMap f = l.filterMap g
  | [], _ => rfl
  | a :: l, h => by rw [List.filterMap_cons, List.filterMap_cons, h a List.mem_cons_self, fm_congr fun x hx => h x (List.mem_cons_of_mem _ hx)]
section
variable {prog : Program} {w : World} {A : Around} {E : Value → Shared → Prop} {s : Shared}
theorem revPick (xs : Array Value) : ((List.range xs.size).filterMap fun (m : Nat) => xs[(((xs.size : Int) - 1) + (m : Int) * (-1)).toNat]?).toArray = xs.toList.reverse.toArray := by
  rw [← PySem.W.krv_pick]
  unfold slicePick
  rw [PySem.W.krv_bounds]
  show _ = ((sliceRange ((xs.size : Int) - 1) (-1) (-1)).filterMap (xs[·]?)).toArray
  rw [PySem.W.krv_sliceRange, List.filterMap_map]
  congr 1
  refine fm_congr fun m hm => ?_
  have := List.mem_range.mp hm
  show xs[(((xs.size : Int) - 1) + (m : Int) * (-1)).toNat]? = xs[xs.size - 1 - m]?
  congr 1
  omega
theorem sliceApplied_rev {sl : Addr} {vs : Value} {n : Nat} {Q : Int × Int × Nat → Shared → Prop} (hs : s.heap.IsSliceOf sl .none .none vs) (ps : IsPart vs (some (-1)))
    (h : Q ((n : Int) - 1, -1, n) s) : wpAny (model prog w) A (Builtin.Slice.sliceApplied (.ref sl) (pure (n : Int))) Q E s := by
  obtain ⟨os, hos, hcs, hds⟩ := id hs
  unfold Builtin.Slice.sliceApplied Builtin.Slice.sliceFields
  refine wpAny_bind (wpAny_bind (wpAny_field hos hds (x := .none) rfl (wpAny_bind (wpAny_field hos hds (x := .none) rfl (wpAny_bind (wpAny_field hos hds (x := vs) rfl (wpAny_pure ?_)))))))
  refine wpAny_bind (HT.slicePart_ ps ?_)
  show wpAny _ _ (if ((-1 : Int) == 0) = true then _ else _) _ _ s
  rw [if_neg (by decide)]
  refine wpAny_bind (HT.slicePart_ .none (wpAny_bind (HT.slicePart_ .none (wpAny_bind (wpAny_pure ?_)))))
  show wpAny _ _ (match Builtin.Slice.sliceAdjust none none (-1) (n : Int) with | (lo, hi) => pure (lo, (-1 : Int), Builtin.Slice.slicePlaces lo hi (-1))) _ _ s
  have e : Builtin.Slice.sliceAdjust none none (-1) (n : Int) = ((n : Int) - 1, -1) := by
    unfold Builtin.Slice.sliceAdjust
    simp
  rw [e]
  show wpAny _ _ (pure ((n : Int) - 1, (-1 : Int), Builtin.Slice.slicePlaces ((n : Int) - 1) (-1) (-1))) _ _ s
  have e2 : Builtin.Slice.slicePlaces ((n : Int) - 1) (-1) (-1) = n := by
    unfold Builtin.Slice.slicePlaces
    simp
    omega
  rw [e2]
  exact wpAny_pure h
theorem getItem_tuple_rev {t sl : Addr} {items : Array Value} {vs : Value} {Q : Value → Shared → Prop} (ht : IsTup s.heap t items) (hs : s.heap.IsSliceOf sl .none .none vs) (ps : IsPart vs (some (-1)))
    (h : Q (.ref s.heap.objs.size) { s with heap := s.heap.push { cls := .type "tuple", data := .seq items.toList.reverse.toArray } })
    (hsz : items.size ≤ sizeLine) : wpAny (model prog w) A (getItem (.ref t) (.ref sl)) Q E s := by
  have htake : sizeOk (.seq items.toList.reverse.toArray) := by
    show items.toList.reverse.toArray.size ≤ sizeLine
    rw [List.size_toArray, List.length_reverse, Array.length_toList]
    omega
  obtain ⟨os, hos, hcs, hds⟩ := id hs
  have hTs : s.TypeIs (.ref sl) "slice" := ⟨os, hos, hcs⟩
  unfold getItem
  try with_reducible refine wpAny_holding ?_
  first | refine wpAny_bind (wpAny_pure ?_) | skip
  refine wpAny_bind (wpAny_sequenceKey ht.typeIs (by decide) ?_)
  refine wpAny_bind (wpAny_callSpecial?_slot (name := Str.ofString "__getitem__") ht.typeIs PyProof.Rows.slot_tuple_getitem
    (wpAny_call_entry PyProof.Rows.slot_tuple_getitem ht.typeIs entry_tuple_getitem ?_ (args_tuple_getitem _ _)))
  show wpAny _ _ (Builtin.Tuple.tupleItemsOf (.ref t) >>= _) _ _ s
  refine wpAny_bind (tupleItemsOf_ ht ?_)
  refine wpAny_bind (wpAny_typeOf hTs ?_)
  rw [if_pos (by decide)]
  refine wpAny_bind (sliceApplied_rev hs ps ?_)
  have hno : ¬ ((((items.size : Int) - 1) == 0 && (-1 : Int) == 1 && items.size == items.size) = true) := by
    intro q
    rw [Bool.and_eq_true, Bool.and_eq_true] at q
    exact absurd q.1.2 (by decide)
  show wpAny _ _ (if (((items.size : Int) - 1) == 0 && (-1 : Int) == 1 && items.size == items.size) = true then _ else _) _ _ s
  rw [if_neg hno, revPick]
  first
    | exact wpAny_bind (m := Builtin.Tuple.tupleExact _) (wpAny_newObj_type (wpAny_pure ⟨_, rfl, wpAny_pure h⟩) htake)
    | exact wpAny_bind (m := Builtin.Tuple.tupleExact _) (wpAny_newObj_type (wpAny_bind (wpAny_pure (wpAny_pure ⟨_, rfl, wpAny_pure h⟩))) htake)
    | exact wpAny_bind (wpAny_bind (m := Builtin.Tuple.tupleExact _) (wpAny_newObj_type (wpAny_pure (wpAny_pure ⟨_, rfl, wpAny_pure h⟩)) htake))
    | exact wpAny_bind (wpAny_bind (m := Builtin.Tuple.tupleExact _) (wpAny_newObj_type (wpAny_pure ⟨_, rfl, wpAny_pure h⟩) htake))
end
section
variable {X : Cx}
def tRevT (K : PySem.W.Frag) (te : TE) : TE := fun σ H Q => te σ H fun x H1 => ∃ a xs, x = .ref a ∧ SqT K H1 a xs ∧ ∀ p, H1 p = none → Q (.ref p) (upd H1 p (.tup xs.reverse))
theorem pe_revT {e : Expr} {te : TE} {k : Nat} {p1 p2 p3 pos : Pos} (he : PE X e te) : PE X (.Subscript e (.Slice none none (some (.UnaryOp .USub (.Constant (.int 1) k p1) p2)) p3) pos) (tRevT X.K te) := by
  refine ⟨fun pins s σ H Q I h => ?_⟩
  refine Subscript_ (thn (he.run pins s σ H _ I h) fun v s1 ⟨x, H1, I1, r1, q1⟩ => ?_)
  obtain ⟨a, xs, ex, hx, q⟩ := q1
  subst ex
  cases r1
  have hst : PO X (some (.UnaryOp .USub (.Constant (.int 1) k p1) p2)) (tPart (tUn (rU fun i => .int (-i)) (tC (.int 1)))) := po_some (pe_un un_neg pe_int)
  refine wpAny_Slice (thn (po_none.run pins s1 σ H1 (fun o H2 => o = none ∧ H2 = H1) I1 ⟨rfl, rfl⟩) fun vl s2 ⟨l, H2, I2, pl, el, e2⟩ => ?_)
  subst el e2
  refine thn (po_none.run pins s2 σ H2 (fun o H3 => o = none ∧ H3 = H2) I2 ⟨rfl, rfl⟩) fun vu s3 ⟨u, H3, I3, pu, eu, e3⟩ => ?_
  subst eu e3
  refine thn (hst.run pins s3 σ H3 (fun o H4 => o = some (-1) ∧ H4 = H3) I3 ⟨1, rfl, -1, rfl, rfl, rfl⟩) fun vs s4 ⟨o, H4, I4, ps, eo, e4⟩ => ?_
  subst eo e4
  have I5 : Inv X pins σ H4 { s4 with heap := s4.heap.push { cls := .type "slice", data := .fields #[vl, vu, vs] } } := I4.kept (t' := s4.toks) fun b ob q => Heap.get?_push_of_some _ q
  obtain ⟨its, r, ht, hz⟩ := I5.tuple hx
  have hlen := r.length
  cases pl
  cases pu
  show wpAny (model X.prog X.w) X.A (subscriptTail e (.Slice none none (some (.UnaryOp .USub (.Constant (.int 1) k p1) p2)) p3) (.ref a) (.ref s4.heap.objs.size)) (EP X pins σ Q) X.xe { s4 with heap := s4.heap.push { cls := .type "slice", data := .fields #[.none, .none, vs] } }
  refine tail_any (ops := [.ref a, .ref s4.heap.objs.size]) ht.typeIs (PyProof.Rows.slot_tuple_getitem.lookup) ?_ (by with_unfolding_all rfl)
  refine getItem_tuple_rev ht (Heap.IsSliceOf.new _ .none .none vs) ps ?_ (by rw [List.size_toArray]; omega)
  refine ⟨.ref _, _, I5.laid (t' := s4.toks) (o := .tup xs.reverse) (fun b ob q => Heap.get?_push_of_some _ q) (Nat.le_refl _) ?_, rfl, q _ (I5.hok.fresh (Nat.le_refl _))⟩
  exact ⟨by rw [List.length_reverse]; exact hz, its.reverse, r.reverse, IsTup.new _ _⟩
end
end Deed

namespace Deed
open PySem PySem.Spec PyProof.Rows L2 LamX
def FitsN : Nat → Tg → Prop
  | 0, _ => False
  | n + 1, .tup ts => ts.length ≤ 300 ∧ ∀ t ∈ ts, FitsN n t
  | _ + 1, .str x => x.length ≤ 300
  | _ + 1, .int i => i.natAbs.log2 < 1920
  | _ + 1, _ => True
theorem TgAt.num {p : Addr} {H : Hp} {v : V} {t : Tg} {n : Nat} (h : TgAt p H v t) (hf : FitsN (n + 1) t) (hi : t.isI = true) : ∃ i, numOf v = some i ∧ i.natAbs.log2 < 1920 := by
  cases h with
  | int i => exact ⟨i, rfl, hf⟩
  | bl b => exact ⟨_, rfl, by cases b <;> decide⟩
  | _ => cases hi
theorem cutV_le (xs : List V) (lo hi : Option Int) : (cutV xs lo hi).length ≤ xs.length := cutV_length xs lo hi
section
variable {P : Program} {w : World} {K : PySem.W.Frag} {mg : Str → Option Value} {base : Heap}
abbrev sLSpoilt : Stmt := topS 70
abbrev nLSpoilt : List Str := ["_law_pen_here", "_law_thing_here", "_law_at", "_law_way"]
abbrev pLSpoilt : List Str := ["_law_pen_here", "_law_thing_here"]
theorem scLSpoilt : FnScope nLSpoilt pLSpoilt (defScope sLSpoilt) := ⟨rfl, rfl, rfl, by decide +kernel, rfl, by decide +kernel, by decide +kernel⟩
def spLSpoilt (n : Nat) : Sp := fun vs H Q _ => ∃ (p : Addr) (v : V) (t : Tg), vs = [.ref p, v] ∧ PenAt H p ∧ TgAt p H v t ∧ FitsN n t ∧ ∀ v' H', Kp p H H' → PenAt H' p → (∃ t', TgAt p H' v' t') → Q v' H'
theorem ok_LSpoilt {f : Addr} {fd : FuncData} {k : Nat} (D : Df K mg "_law_spoilt" sLSpoilt pLSpoilt f fd) (cDr : ∀ n, CDrw P w K mg base (k + n)) (cTh : ∀ n, CallOk P w K mg base (k + n) "_law_thing" pLThing (spLThing 3)) (m_isinstance : mg "isinstance" = none) (m_tuple : mg "tuple" = none) (m_len : mg "len" = none) (m_list : mg "list" = none) (m_int : mg "int" = none) (m_str : mg "str" = none) : ∀ n : Nat, FnOk P w K mg base CX0 (k + n + 1) f fd pLSpoilt (spLSpoilt n)
  | 0 => by
    refine D.F.ok scLSpoilt (fun vs H Q E h => ?_) (fun cdv A outer s H vs Q E hr h => ?_)
    · obtain ⟨p, v, t, rfl, _⟩ := h
      rfl
    · obtain ⟨p, v, t, rfl, _, _, h0, _⟩ := h
      exact h0.elim
  | n + 1 => by
    have C__law_spoilt : CallOk P w K mg base (k + (n + 1)) "_law_spoilt" pLSpoilt (spLSpoilt n) := D.call (ok_LSpoilt D cDr cTh m_isinstance m_tuple m_len m_list m_int m_str n)
    have C__law_draw := cDr (n + 1)
    have C__law_thing := cTh (n + 1)
    refine D.F.ok scLSpoilt (fun vs H Q E h => ?_) (fun cdv A outer s H vs Q E hr h => ?_)
    · obtain ⟨p, v, t, rfl, _⟩ := h
      rfl
    · obtain ⟨p, v, t, rfl, hP, hT, hf, q⟩ := h
      have nd := scLSpoilt.nd
      refine ⟨_, C8.pss_cut (ps_if (PW.pt (pw_and (pt_val (pe_callB call_isi (by rfl) m_isinstance (by decide +kernel) (pa_cons (pv 1) (pa_cons (pe_bltn (v := .ty "tuple") (by rfl) m_tuple (by decide +kernel) rfl) pa_nil)))) (pw_and (pt_cmpR (op_neTE hr.units) (pv 1) (pe_tup pa_nil) (nomark _)) (pw_and1 (pt_cmpR op_gt (pe_call C__law_draw.ok hr (by rfl) C__law_draw.g C__law_draw.kp C__law_draw.b .nil pass0 (pa_cons (pv 0) (pa_cons pe_int pa_nil))) pe_int (nomark _)))))) (pss_cons (ps_set (i := 2) nd rfl (.inl rfl) (pe_call C__law_draw.ok hr (by rfl) C__law_draw.g C__law_draw.kp C__law_draw.b .nil pass0 (pa_cons (pv 0) (pa_cons (pe_callB call_len_seq (by rfl) m_len (by decide +kernel) (pa_cons (pv 1) pa_nil)) pa_nil))))
      (pss_one (ps_ret (pe_op op_catA (pe_op op_catA (pe_slice sl_tupA (pv 1) po_none (po_some (pv 2))) (pe_tup (pa_cons (pe_call C__law_spoilt.ok hr (by rfl) C__law_spoilt.g C__law_spoilt.kp C__law_spoilt.b .nil pass0 (pa_cons (pv 0) (pa_cons (pe_ix ix_tup (pv 1) (pv 2) (fun _ _ => rfl)) pa_nil))) pa_nil))) (pe_slice sl_tupA (pv 1) (po_some (pe_op op_add (pv 2) pe_int)) po_none))))) pss_nil)
      (pss_cons (ps_set (i := 3) nd rfl (.inl rfl) (pe_call C__law_draw.ok hr (by rfl) C__law_draw.g C__law_draw.kp C__law_draw.b .nil pass0 (pa_cons (pv 0) (pa_cons pe_int pa_nil))))
      (C8.pss_cut (ps_if (PW.pt (pw_and (pt_val (pe_callB call_isi (by rfl) m_isinstance (by decide +kernel) (pa_cons (pv 1) (pa_cons (pe_bltn (v := .ty "tuple") (by rfl) m_tuple (by decide +kernel) rfl) pa_nil)))) (pw_and1 (pt_cmpR op_lt (pv 3) pe_int (nomark _))))) (pss_one (ps_ret (pe_ix ix_list (pe_lst (pa_cons (pe_op op_catA (pv 1) (pe_slice sl_tupA (pv 1) (po_some (pe_un un_neg pe_int)) po_none)) (pa_cons (pe_slice sl_tupA (pv 1) po_none (po_some (pe_un un_neg pe_int))) (pa_cons (pe_callTy call_list_of (by rfl) m_list (by decide +kernel) (pa_cons (pv 1) pa_nil)) (pa_cons (pe_revT (pv 1)) pa_nil))))) (pv 3) (fun _ _ => rfl)))) pss_nil)
      (C8.pss_cut (ps_if (PW.pt (pw_and (pt_val (pe_callB call_isi (by rfl) m_isinstance (by decide +kernel) (pa_cons (pv 1) (pa_cons (pe_bltn (v := .ty "int") (by rfl) m_int (by decide +kernel) rfl) pa_nil)))) (pw_and1 (pt_cmpR op_lt (pv 3) pe_int (nomark _))))) (pss_one (ps_ret (pe_ix ix_list (pe_lst (pa_cons (pe_op op_addTI (pv 1) pe_int) (pa_cons (pe_op op_subTI (pv 1) pe_int) (pa_cons (pe_cmpR op_gtTI (pv 1) pe_int (nomark _)) (pa_cons (pe_callTy call_strTI (by rfl) m_str (by decide +kernel) (pa_cons (pv 1) pa_nil)) pa_nil))))) (pv 3) (fun _ _ => rfl)))) pss_nil)
      (C8.pss_cut (ps_if (PW.pt (pw_and (pt_val (pe_callB call_isi (by rfl) m_isinstance (by decide +kernel) (pa_cons (pv 1) (pa_cons (pe_bltn (v := .ty "str") (by rfl) m_str (by decide +kernel) rfl) pa_nil)))) (pw_and1 (pt_cmpR op_lt (pv 3) pe_int (nomark _))))) (pss_one (ps_ret (pe_ix ix_list (pe_lst (pa_cons (pe_op op_add_str (pv 1) pe_str) (pa_cons (pe_upper (pv 1)) (pa_cons (pe_slice sl_str (pv 1) po_none (po_some (pe_un un_neg pe_int))) (pa_cons (pe_op op_add_str pe_str (pv 1)) pa_nil))))) (pv 3) (fun _ _ => rfl)))) pss_nil)
      (pss_one (ps_ret (pe_call C__law_thing.ok hr (by rfl) C__law_thing.g C__law_thing.kp C__law_thing.b .nil pass0 (pa_cons (pv 0) (pa_cons pe_int pa_nil))))))))), ?_⟩
      refine ⟨fun σ' H' => ∃ y2, σ' = [some (.ref p), some v, y2, none] ∧ Kp p H H' ∧ PenAt H' p, ?_, ?_⟩
      · refine ⟨_, rfl, _, _, _, _, t.isT, rfl, .ty "tuple", hT.ty, kit_ty t.kT, _, rfl, ?_⟩
        refine ite2 (fun c => ?_) (fun c => ⟨_, rfl, Kp.refl _ _, hP⟩)
        obtain ⟨a, xs, ts, rfl, rfl, ea, hts⟩ := hT.tupOf c
        refine ⟨_, rfl, Nat.zero_le _, fun t1 nt1 => ?_⟩
        have s1 := same_new nt1 (.tup [])
        have e1 : (upd H t1 (.tup [])) t1 = some (.tup []) := upd_same
        have P1 := hP.new nt1 (.tup [])
        generalize (upd H t1 (.tup [])) = H1 at s1 e1 P1
        refine ⟨a, t1, xs, rfl, rfl, SqT.of (s1 _ _ ea), SqT.of e1, _, rfl, ?_⟩
        refine ite2 (fun c1 => ?_) (fun c1 => ⟨_, rfl, Kp.same s1, P1⟩)
        refine ⟨_, rfl, p, 6, rfl, P1, by decide, by decide, fun u H2 k2 P2 a2 b2 => ⟨_, _, rfl, rfl, _, rfl, ?_⟩⟩
        have k02 : Kp p H H2 := (Kp.same s1).trans k2
        refine ite2 (fun c2 => ?_) (fun c2 => ⟨_, rfl, k02, P2⟩)
        have hne : xs ≠ [] := fun z => by
          subst z
          cases c1
        have hl0 : 0 < xs.length := List.length_pos_iff.mpr hne
        have hl9 : xs.length ≤ 300 := by rw [hts.length]; exact hf.1
        have ea2 := k02.tup hP _ _ ea
        have hts2 := TgAll.kp k02 hP _ _ hts
        refine ⟨_, rfl, _, rfl, a, _, rfl, .inr (SqT.of ea2), p, _, rfl, P2, by omega, by omega, fun at_ H3 k3 P3 a3 b3 => ?_⟩
        have ea3 := k3.tup P2 _ _ ea2
        have hts3 := TgAll.kp k3 P2 _ _ hts2
        refine ⟨_, rfl, _, rfl, _, rfl, slA_same ea3 fun t4 H4 s4 e4 => ?_⟩
        have P4 : PenAt H4 p := by
          obtain ⟨x1, x2, x3, x4, z1, z2⟩ := P3
          exact ⟨x1, x2, x3, x4, s4 _ _ z1, z2⟩
        have hix : at_.toNat < xs.length := by omega
        have hv : xs[at_.toNat]? = some xs[at_.toNat] := List.getElem?_eq_getElem hix
        obtain ⟨tv, htv, hatv⟩ := (TgAll.same s4 _ _ hts3).get hv
        refine ⟨_, rfl, _, rfl, _, rfl, a, _, at_, xs[at_.toNat], rfl, rfl, SqT.of (s4 _ _ ea3), at_of (j := at_.toNat) (by omega) hv, p, _, tv, rfl, P4, hatv, hf.2 tv (List.mem_of_getElem? htv), fun v5 H5 k5 P5 ⟨t5, h5⟩ => ?_⟩
        refine ⟨(by show 1 ≤ sizeLine; decide), fun t6 nt6 => ?_⟩
        have s6 := same_new nt6 (.tup [v5])
        have e6 : (upd H5 t6 (.tup [v5])) t6 = some (.tup [v5]) := upd_same
        have P6 := P5.new nt6 (.tup [v5])
        generalize (upd H5 t6 (.tup [v5])) = H6 at s6 e6 P6
        have k46 : Kp p H4 H6 := k5.trans (Kp.same s6)
        have hc4 := cutV_le xs none (some at_)
        refine catA_same (k46.tup P4 _ _ e4) e6 (by show _ + 1 ≤ 1000; omega) fun t7 H7 s7 e7 => ?_
        have k37 : Kp p H3 H7 := (Kp.same s4).trans (k46.trans (Kp.same s7))
        refine ⟨_, rfl, _, rfl, _, _, rfl, rfl, _, rfl, ?_⟩
        dsimp only [tNoPart]
        refine slA_same (k37.tup P3 _ _ ea3) fun t8 H8 s8 e8 => ?_
        have hc8 := cutV_le xs (some (at_ + 1)) none
        refine catA_same (s8 _ _ e7) e8 (by rw [List.length_append]; show _ + 1 + _ ≤ 1000; omega) fun t9 H9 s9 e9 => ?_
        have s69 := s7.trans (s8.trans s9)
        have k39 : Kp p H3 H9 := k37.trans (Kp.same (s8.trans s9))
        have P9 : PenAt H9 p := by
          obtain ⟨x1, x2, x3, x4, z1, z2⟩ := P6
          exact ⟨x1, x2, x3, x4, s69 _ _ z1, z2⟩
        have hts9 := TgAll.kp k39 P3 _ _ hts3
        obtain ⟨u1, hu1⟩ := hts9.cut none (some at_)
        obtain ⟨u2, hu2⟩ := hts9.cut (some (at_ + 1)) none
        exact q _ H9 (k02.trans (k3.trans k39)) P9 ⟨_, .tup e9 ((hu1.append (.cons (TgAt.same (s6.trans s69) _ _ h5) .nil)).append hu2)⟩
      rintro _ H1 ⟨y2, rfl, k1, P1⟩
      have hT1 := TgAt.kp k1 hP _ _ hT
      refine ⟨_, rfl, p, 8, rfl, P1, by decide, by decide, fun way H2 k2 P2 a2 b2 => ?_⟩
      have hT2 := TgAt.kp k2 P1 _ _ hT1
      have k02 := k1.trans k2
      refine ⟨fun σ' H' => σ' = [some (.ref p), some v, y2, some (.int way)] ∧ H' = H2, ?_, ?_⟩
      · refine ⟨_, rfl, _, _, _, _, t.isT, rfl, .ty "tuple", hT2.ty, kit_ty t.kT, _, rfl, ?_⟩
        refine ite2 (fun c => ?_) (fun c => ⟨rfl, rfl⟩)
        refine ⟨_, rfl, _, _, rfl, rfl, _, rfl, ?_⟩
        refine ite2 (fun c1 => ?_) (fun c1 => ⟨rfl, rfl⟩)
        have hw4 : way < 4 := of_decide_eq_true c1
        obtain ⟨a, xs, ts, rfl, rfl, ea, hts⟩ := hT2.tupOf c
        have hl9 : xs.length ≤ 300 := by rw [hts.length]; exact hf.1
        refine ⟨_, rfl, _, rfl, _, rfl, _, rfl, ?_⟩
        dsimp only [tNoPart]
        refine slA_same ea fun t3 H3 s3 e3 => ?_
        have hc3 := cutV_le xs (some (-1)) none
        refine catA_same (s3 _ _ ea) e3 (by omega) fun t4 H4 s4 e4 => ?_
        have s24 := s3.trans s4
        refine ⟨_, rfl, _, rfl, _, rfl, slA_same (s24 _ _ ea) fun t5 H5 s5 e5 => ?_⟩
        have s25 := s24.trans s5
        refine ⟨_, rfl, a, _, rfl, .inr (SqT.of (s25 _ _ ea)), fun l6 nl6 => ?_⟩
        have s6 := same_new nl6 (.lst xs)
        have e6 : (upd H5 l6 (.lst xs)) l6 = some (.lst xs) := upd_same
        have nlp : l6 ≠ p := fun z => by
          obtain ⟨x1, x2, x3, x4, z1, z2⟩ := P2
          rw [z, s25 _ _ z1] at nl6
          cases nl6
        generalize (upd H5 l6 (.lst xs)) = H6 at s6 e6
        have s26 := s25.trans s6
        refine ⟨_, rfl, a, _, rfl, SqT.of (s26 _ _ ea), fun t7 nt7 => ?_⟩
        have s7 := same_new nt7 (.tup xs.reverse)
        have e7 : (upd H6 t7 (.tup xs.reverse)) t7 = some (.tup xs.reverse) := upd_same
        generalize (upd H6 t7 (.tup xs.reverse)) = H7 at s7 e7
        have s27 := s26.trans s7
        refine ⟨(by show 4 ≤ sizeLine; decide), fun l8 nl8 => ?_⟩
        have s8 := same_new nl8 (.lst [.ref t4, .ref t5, .ref l6, .ref t7])
        have e8 : (upd H7 l8 (.lst [.ref t4, .ref t5, .ref l6, .ref t7])) l8 = some (.lst [.ref t4, .ref t5, .ref l6, .ref t7]) := upd_same
        generalize (upd H7 l8 (.lst [.ref t4, .ref t5, .ref l6, .ref t7])) = H8 at s8 e8
        have s28 := s27.trans s8
        have hts8 := TgAll.same s28 _ _ hts
        obtain ⟨u1, hu1⟩ := hts8.cut (some (-1)) none
        obtain ⟨u2, hu2⟩ := hts8.cut none (some (-1))
        obtain ⟨vv, gv, hv⟩ := pick (i := way) (xs := [.ref t4, .ref t5, .ref l6, .ref t7]) (fun v => ∃ o, TgAt p H8 v o) a2 (by show way < 4; exact hw4) (am1 ⟨_, .tup ((s5.trans (s6.trans (s7.trans s8))) _ _ e4) (hts8.append hu1)⟩ (am1 ⟨_, .tup ((s6.trans (s7.trans s8)) _ _ e5) hu2⟩ (am1 ⟨_, .lst nlp ((s7.trans s8) _ _ e6)⟩ (am1 ⟨_, .tup (s8 _ _ e7) hts8.reverse⟩ am0))))
        have P8 : PenAt H8 p := by
          obtain ⟨x1, x2, x3, x4, z1, z2⟩ := P2
          exact ⟨x1, x2, x3, x4, s28 _ _ z1, z2⟩
        exact ⟨_, rfl, l8, _, way, vv, rfl, rfl, SqL.of e8, gv, q vv H8 (k02.trans (Kp.same s28)) P8 hv⟩
      rintro _ H2' ⟨rfl, eH⟩
      rw [eH]
      clear eH H2'
      refine ⟨fun σ' H' => σ' = [some (.ref p), some v, y2, some (.int way)] ∧ H' = H2, ?_, ?_⟩
      · refine ⟨_, rfl, _, _, _, _, t.isI, rfl, .ty "int", hT2.ty, kit_ty t.kI, _, rfl, ?_⟩
        refine ite2 (fun c => ?_) (fun c => ⟨rfl, rfl⟩)
        refine ⟨_, rfl, _, _, rfl, rfl, _, rfl, ?_⟩
        refine ite2 (fun c1 => ?_) (fun c1 => ⟨rfl, rfl⟩)
        have hw4 : way < 4 := of_decide_eq_true c1
        obtain ⟨i, hi, hlg⟩ := hT2.num hf c
        refine ⟨_, rfl, i, 1, hi, rfl, _, rfl, i, 1, hi, rfl, _, rfl, i, 0, hi, rfl, _, rfl, v, i, rfl, hi, hlg, (by show 4 ≤ sizeLine; decide), fun l8 nl8 => ?_⟩
        obtain ⟨vv, gv, hv⟩ := pick (i := way) (xs := [.int (i + 1), .int (i - 1), .bl (decide (i > 0)), .str (strTI v i)]) (fun x => ∃ o, TgAt p (upd H2 l8 (.lst [.int (i + 1), .int (i - 1), .bl (decide (i > 0)), .str (strTI v i)])) x o) a2 (by show way < 4; exact hw4) (am1 ⟨_, .int _⟩ (am1 ⟨_, .int _⟩ (am1 ⟨_, .bl _⟩ (am1 ⟨_, .str _⟩ am0))))
        exact ⟨_, rfl, l8, _, way, vv, rfl, rfl, SqL.of upd_same, gv, q vv _ (k02.trans (Kp.new nl8 _)) (P2.new nl8 _) hv⟩
      rintro _ H2' ⟨rfl, eH⟩
      rw [eH]
      clear eH H2'
      refine ⟨fun σ' H' => σ' = [some (.ref p), some v, y2, some (.int way)] ∧ H' = H2, ?_, ?_⟩
      · refine ⟨_, rfl, _, _, _, _, t.isS, rfl, .ty "str", hT2.ty, kit_ty t.kS, _, rfl, ?_⟩
        refine ite2 (fun c => ?_) (fun c => ⟨rfl, rfl⟩)
        refine ⟨_, rfl, _, _, rfl, rfl, _, rfl, ?_⟩
        refine ite2 (fun c1 => ?_) (fun c1 => ⟨rfl, rfl⟩)
        have hw4 : way < 4 := of_decide_eq_true c1
        obtain ⟨z, rfl, rfl⟩ : ∃ z, v = .str z ∧ t = .str z := by
          cases hT2 with
          | str x => exact ⟨_, rfl, rfl⟩
          | _ => cases c
        have hz : z.length ≤ 300 := hf
        have hz1 : z.length + 1 ≤ sizeLine := Nat.le_of_lt (small1000 (by omega))
        refine ⟨_, rfl, z, "a", rfl, rfl, hz1, _, rfl, ⟨_, rfl⟩, z, rfl, rfl, by omega, _, rfl, _, rfl, _, rfl, z, rfl, by omega, _, rfl, "1", z, rfl, rfl, (by show 1 + z.length ≤ sizeLine; omega), (by show 4 ≤ sizeLine; decide), fun l8 nl8 => ?_⟩
        obtain ⟨vv, gv, hv⟩ := pick (i := way) (xs := [.str (z ++ "a"), .str (Txt.upper z), .str (cutS z none (some (-1))), .str ("1" ++ z)]) (fun v => ∃ o, TgAt p (upd H2 l8 (.lst [.str (z ++ "a"), .str (Txt.upper z), .str (cutS z none (some (-1))), .str ("1" ++ z)])) v o) a2 (by show way < 4; exact hw4) (am1 ⟨_, .str _⟩ (am1 ⟨_, .str _⟩ (am1 ⟨_, .str _⟩ (am1 ⟨_, .str _⟩ am0))))
        exact ⟨_, rfl, l8, _, way, vv, rfl, rfl, SqL.of upd_same, gv, q vv _ (k02.trans (Kp.new nl8 _)) (P2.new nl8 _) hv⟩
      rintro _ H2' ⟨rfl, eH⟩
      rw [eH]
      clear eH H2'
      exact ⟨_, rfl, p, 2, rfl, P2, by decide, by decide, fun v' H' k' P' hv => q v' H' (k02.trans k') P' hv⟩
end
end Deed

namespace Deed
open PySem PySem.Spec PyProof.Rows L2 LamX
/-! ### what a thing is: yes or no -/
def Tg.toI : Tg → Int | .int i => i | _ => 0
def Tg.isW : Tg → Bool | .int _ => true | _ => false
def Tg.within (lo hi : Int) : Tg → Bool | .int i => decide (lo ≤ i) && decide (i ≤ hi) | _ => false
theorem Tg.within_int {lo hi : Int} {t : Tg} (h : t.within lo hi = true) : ∃ i, t = .int i ∧ lo ≤ i ∧ i ≤ hi := by
  cases t with
  | int i =>
    unfold Tg.within at h
    rw [Bool.and_eq_true] at h
    exact ⟨i, rfl, of_decide_eq_true h.1, of_decide_eq_true h.2⟩
  | _ => cases h
def diedT (b : Int) : Tg → Bool | .non => true | d => d.within (b + 1) 9999
def isPersonT : Tg → Bool
  | .tup [b, d] => b.within (-9999) 9999 && diedT b.toI d
  | _ => false
def isFolkT : Tg → Bool
  | .tup ts => (decide (1 ≤ ts.length) && decide (ts.length ≤ 6)) && ts.all isPersonT
  | _ => false
theorem len1 {α : Type} : ∀ {l : List α}, l.length = 1 → ∃ a, l = [a]
  | [a], _ => ⟨a, rfl⟩
  | [], h => nomatch h
  | _ :: _ :: _, h => by simp at h
theorem len2 {α : Type} : ∀ {l : List α}, l.length = 2 → ∃ a b, l = [a, b]
  | [a, b], _ => ⟨a, b, rfl⟩
  | [], h => nomatch h
  | [_], h => nomatch h
  | _ :: _ :: _ :: _, h => by simp at h
theorem len4 {α : Type} : ∀ {l : List α}, l.length = 4 → ∃ a b c d, l = [a, b, c, d]
  | [a, b, c, d], _ => ⟨a, b, c, d, rfl⟩
  | [], h => nomatch h
  | [_], h => nomatch h
  | [_, _], h => nomatch h
  | [_, _, _], h => nomatch h
  | _ :: _ :: _ :: _ :: _ :: _, h => by simp at h
theorem len6 {α : Type} : ∀ {l : List α}, 6 ≤ l.length → ∃ a b c d e f r, l = a :: b :: c :: d :: e :: f :: r
  | a :: b :: c :: d :: e :: f :: r, _ => ⟨a, b, c, d, e, f, r, rfl⟩
  | [], h => by simp at h
  | [_], h => by simp at h
  | [_, _], h => by simp at h
  | [_, _, _], h => by simp at h
  | [_, _, _, _], h => by simp at h
  | [_, _, _, _, _], h => by simp at h
def spB1 (φ : Tg → Bool) : Sp := fun vs H Q _ => ∃ (p : Addr) (v : V) (t : Tg), vs = [v] ∧ TgAt p H v t ∧ ∀ H', Same H H' → Q (.bl (φ t)) H'
theorem all_map_id {α : Type} (φ : α → Bool) (l : List α) : (l.map φ).all id = l.all φ := by
  induction l with
  | nil => rfl
  | cons a r ih => simp [ih]
theorem TgAll.at {p : Addr} {H : Hp} {xs : List V} {ts : List Tg} {i : Nat} {x : V} {y : Tg} (h : TgAll p H xs ts) (hx : xs[i]? = some x) (hy : ts[i]? = some y) : TgAt p H x y := by
  obtain ⟨t, e, ht⟩ := h.get hx
  rw [hy] at e
  injection e with e
  rw [e]
  exact ht
section
variable {P : Program} {w : World} {K : PySem.W.Frag} {mg : Str → Option Value} {base : Heap}
abbrev sIsWhole : Stmt := topS 14
abbrev nIsWhole : List Str := ["thing"]
abbrev pIsWhole : List Str := ["thing"]
theorem scIsWhole : FnScope nIsWhole pIsWhole (defScope sIsWhole) := ⟨rfl, rfl, rfl, by decide +kernel, rfl, by decide +kernel, by decide +kernel⟩
theorem ok_IsWhole {f : Addr} {fd : FuncData} {k : Nat} (F : Fun K "is_whole" "is_whole" sIsWhole f fd) (m_isinstance : mg "isinstance" = none) (m_int : mg "int" = none) (m_bool : mg "bool" = none) : FnOk P w K mg base CX0 (k + 1) f fd pIsWhole (spB1 Tg.isW) := by
  refine F.ok scIsWhole (fun vs H Q E h => ?_) (fun cdv A outer s H vs Q E hr h => ?_)
  · obtain ⟨p, v, t, rfl, _⟩ := h
    rfl
  · obtain ⟨p, v, t, rfl, hT, q⟩ := h
    refine ⟨_, pss_one (ps_ret (pe_and (pe_callB call_isi (by rfl) m_isinstance (by decide +kernel) (pa_cons (pv 0) (pa_cons (pe_bltn (v := .ty "int") (by rfl) m_int (by decide +kernel) rfl) pa_nil))) (pe_one (pe_not (pe_callB call_isi (by rfl) m_isinstance (by decide +kernel) (pa_cons (pv 0) (pa_cons (pe_bltn (v := .ty "bool") (by rfl) m_bool (by decide +kernel) rfl) pa_nil))))))), ?_⟩
    refine ⟨_, rfl, _, _, _, _, t.isI, rfl, .ty "int", hT.ty, kit_ty t.kI, _, rfl, ?_⟩
    refine ite2 (fun c => ?_) (fun c => ?_)
    · refine ⟨_, rfl, _, _, _, _, t.isB, rfl, .ty "bool", hT.ty, kit_ty t.kB, _, rfl, ?_⟩
      rw [show (!t.isB) = t.isW by cases t <;> first | rfl | cases c]
      exact q _ (same_refl _)
    · have h := q _ (same_refl _)
      have e : t.isW = false := by cases t <;> first | rfl | exact absurd rfl c
      rw [e] at h
      exact h
def spWi : Sp := fun vs H Q _ => ∃ (p : Addr) (v : V) (t : Tg) (lo hi : Int), vs = [v, .int lo, .int hi] ∧ TgAt p H v t ∧ ∀ H', Same H H' → Q (.bl (t.within lo hi)) H'
abbrev sIsWithin : Stmt := topS 15
abbrev nIsWithin : List Str := ["thing", "low", "high"]
abbrev pIsWithin : List Str := ["thing", "low", "high"]
theorem scIsWithin : FnScope nIsWithin pIsWithin (defScope sIsWithin) := ⟨rfl, rfl, rfl, by decide +kernel, rfl, by decide +kernel, by decide +kernel⟩
theorem ok_IsWithin {f : Addr} {fd : FuncData} {k : Nat} (F : Fun K "is_within" "is_within" sIsWithin f fd) (C_is_whole : CallOk P w K mg base k "is_whole" pIsWhole (spB1 Tg.isW)) : FnOk P w K mg base CX0 (k + 1) f fd pIsWithin spWi := by
  refine F.ok scIsWithin (fun vs H Q E h => ?_) (fun cdv A outer s H vs Q E hr h => ?_)
  · obtain ⟨p, v, t, lo, hi, rfl, _⟩ := h
    rfl
  · obtain ⟨p, v, t, lo, hi, rfl, hT, q⟩ := h
    refine ⟨_, pss_one (ps_ret (pe_and (pe_call C_is_whole.ok hr (by rfl) C_is_whole.g C_is_whole.kp C_is_whole.b .nil pass0 (pa_cons (pv 0) pa_nil)) (pe_one (pe_chain op_le op_le (pv 1) (pv 0) (pv 2))))), ?_⟩
    refine ⟨_, rfl, p, v, t, rfl, hT, fun H1 s1 => ⟨_, rfl, ?_⟩⟩
    have q1 := q _ s1
    cases hT with
    | int i =>
      refine iteT ?_
      refine ⟨_, rfl, _, rfl, _, _, rfl, rfl, _, rfl, ?_⟩
      have q2 : Q (.bl (decide (lo ≤ i) && decide (i ≤ hi))) H1 := q1
      refine ite2 (fun c => ?_) (fun c => ?_)
      · have c' : decide (lo ≤ i) = true := c
        rw [c', Bool.true_and] at q2
        exact ⟨_, rfl, _, _, rfl, rfl, q2⟩
      · have c' : decide (lo ≤ i) = false := Bool.eq_false_iff.mpr c
        rw [c', Bool.false_and] at q2
        exact q2
    | _ => exact iteF q1
abbrev sIsDayG : Stmt := topS 16
abbrev nIsDayG : List Str := ["thing"]
abbrev pIsDayG : List Str := ["thing"]
theorem scIsDayG : FnScope nIsDayG pIsDayG (defScope sIsDayG) := ⟨rfl, rfl, rfl, by decide +kernel, rfl, by decide +kernel, by decide +kernel⟩
theorem ok_IsDayG {f : Addr} {fd : FuncData} {k : Nat} (F : Fun K "is_day" "is_day" sIsDayG f fd) (C_is_within : CallOk P w K mg base k "is_within" pIsWithin spWi) (iLAST_DAY : MgInt mg "LAST_DAY" 9999) : FnOk P w K mg base CX0 (k + 1) f fd pIsDayG (spB1 (Tg.within 0 9999)) := by
  refine F.ok scIsDayG (fun vs H Q E h => ?_) (fun cdv A outer s H vs Q E hr h => ?_)
  · obtain ⟨p, v, t, rfl, _⟩ := h
    rfl
  · obtain ⟨p, v, t, rfl, hT, q⟩ := h
    refine ⟨_, pss_one (ps_ret (pe_call C_is_within.ok hr (by rfl) C_is_within.g C_is_within.kp C_is_within.b .nil pass0 (pa_cons (pv 0) (pa_cons pe_int (pa_cons (pe_num (by rfl) iLAST_DAY) pa_nil))))), ?_⟩
    exact ⟨_, rfl, p, v, t, 0, 9999, rfl, hT, q⟩
abbrev sIsPerson : Stmt := topS 18
abbrev nIsPerson : List Str := ["thing", "born", "died"]
abbrev pIsPerson : List Str := ["thing"]
theorem scIsPerson : FnScope nIsPerson pIsPerson (defScope sIsPerson) := ⟨rfl, rfl, rfl, by decide +kernel, rfl, by decide +kernel, by decide +kernel⟩
theorem ok_IsPerson {f : Addr} {fd : FuncData} {k : Nat} (F : Fun K "is_person" "is_person" sIsPerson f fd) (C_is_within : CallOk P w K mg base k "is_within" pIsWithin spWi) (m_isinstance : mg "isinstance" = none) (m_tuple : mg "tuple" = none) (m_len : mg "len" = none) (iLAST_DAY : MgInt mg "LAST_DAY" 9999) : FnOk P w K mg base CX0 (k + 1) f fd pIsPerson (spB1 isPersonT) := by
  refine F.ok scIsPerson (fun vs H Q E h => ?_) (fun cdv A outer s H vs Q E hr h => ?_)
  · obtain ⟨p, v, t, rfl, _⟩ := h
    rfl
  · obtain ⟨p, v, t, rfl, hT, q⟩ := h
    have nd := scIsPerson.nd
    refine ⟨_, pss_cons (ps_if (PW.pt (pw_or (pt_not (pt_val (pe_callB call_isi (by rfl) m_isinstance (by decide +kernel) (pa_cons (pv 0) (pa_cons (pe_bltn (v := .ty "tuple") (by rfl) m_tuple (by decide +kernel) rfl) pa_nil))))) (pw_or1 (pt_cmpR op_ne (pe_callB call_len_seq (by rfl) m_len (by decide +kernel) (pa_cons (pv 0) pa_nil)) pe_int (nomark _))))) (pss_one (ps_ret pe_bl)) pss_nil)
      (pss_cons (ps_asg (pv 0) (pg_tup (by rfl) (pgs_cons (pg_name (i := 1) nd rfl (.inl rfl)) (pgs_cons (pg_name (i := 2) nd rfl (.inl rfl)) pgs_nil))))
      (pss_cons (ps_if (pt_not (pt_val (pe_call C_is_within.ok hr (by rfl) C_is_within.g C_is_within.kp C_is_within.b .nil pass0 (pa_cons (pv 1) (pa_cons (pe_un un_neg (pe_num (by rfl) iLAST_DAY)) (pa_cons (pe_num (by rfl) iLAST_DAY) pa_nil)))))) (pss_one (ps_ret pe_bl)) pss_nil)
      (pss_one (ps_ret (pe_or (pe_cmpR op_isN (pv 2) pe_non (nomark _)) (pe_one (pe_call C_is_within.ok hr (by rfl) C_is_within.g C_is_within.kp C_is_within.b .nil pass0 (pa_cons (pv 2) (pa_cons (pe_op op_add (pv 1) pe_int) (pa_cons (pe_num (by rfl) iLAST_DAY) pa_nil)))))))))), ?_⟩
    refine ⟨_, rfl, _, _, _, _, t.isT, rfl, .ty "tuple", hT.ty, kit_ty t.kT, _, rfl, ?_⟩
    cases hc : t.isT with
    | false =>
      refine iteT ?_
      have h := q _ (same_refl _)
      have e : isPersonT t = false := by cases t <;> first | rfl | cases hc
      rw [e] at h
      exact h
    | true =>
      refine iteF ?_
      obtain ⟨a, xs, ts, rfl, rfl, ea, hts⟩ := hT.tupOf hc
      refine ⟨_, rfl, a, _, rfl, .inr (SqT.of ea), rfl, _, rfl, ?_⟩
      have hlen := hts.length
      by_cases h2 : ts.length = 2
      · rw [show decide (V.int (xs.length : Nat) = V.int 2) = true from decide_eq_true (by rw [hlen, h2]; rfl)]
        refine iteF ?_
        obtain ⟨xb, xd, rfl⟩ := len2 (hlen.trans h2)
        obtain ⟨tb, td, rfl⟩ := len2 h2
        cases hts with
        | cons hb h' =>
          cases h' with
          | cons hd _ =>
            refine ⟨_, rfl, a, [xb, xd], rfl, SqT.of ea, rfl, xb, [xd], rfl, xd, [], rfl, rfl, ?_⟩
            refine ⟨_, rfl, _, rfl, p, xb, tb, -9999, 9999, rfl, hb, fun H1 s1 => ⟨_, rfl, ?_⟩⟩
            have q1 : ∀ H', Same H H' → Q (.bl (tb.within (-9999) 9999 && diedT tb.toI td)) H' := q
            cases hw : tb.within (-9999) 9999 with
            | false =>
              refine iteT ?_
              have h := q1 _ s1
              rw [hw] at h
              exact h
            | true =>
              refine iteF ?_
              obtain ⟨i, rfl, hi0, hi1⟩ := Tg.within_int hw
              cases hb
              rw [hw, Bool.true_and] at q1
              refine ⟨_, rfl, ?_⟩
              by_cases hn : xd = .non
              · subst hn
                cases hd
                refine ⟨rfl, _, rfl, iteT ?_⟩
                exact q1 _ s1
              · have hne : td ≠ .non := fun z => by
                  subst z
                  cases hd
                  exact hn rfl
                have e : diedT i td = td.within (i + 1) 9999 := by cases td <;> first | rfl | exact absurd rfl hne
                have hd1 := TgAt.same s1 _ _ hd
                refine ⟨by cases xd <;> rfl, _, rfl, ?_⟩
                rw [show decide (xd = V.non) = false from decide_eq_false hn]
                refine iteF ?_
                refine ⟨_, rfl, _, rfl, _, _, rfl, rfl, p, xd, td, i + 1, 9999, rfl, hd1, fun H2 s2 => ?_⟩
                have h := q1 _ (s1.trans s2)
                rw [show (Tg.int i).toI = i from rfl, e] at h
                exact h
      · rw [show decide (V.int (xs.length : Nat) = V.int 2) = false from decide_eq_false fun z => h2 (by injection z with z; omega)]
        refine iteT ?_
        have h := q _ (same_refl _)
        have e : isPersonT (.tup ts) = false := by
          match ts, h2 with
          | [], _ => rfl
          | [_], _ => rfl
          | [_, _], h2 => exact absurd rfl h2
          | _ :: _ :: _ :: _, _ => rfl
        rw [e] at h
        exact h
abbrev sIsFolkG : Stmt := topS 19
abbrev nIsFolkG : List Str := ["thing", "person"]
abbrev pIsFolkG : List Str := ["thing"]
theorem scIsFolkG : FnScope nIsFolkG pIsFolkG (defScope sIsFolkG) := ⟨rfl, rfl, rfl, by decide +kernel, rfl, by decide +kernel, by decide +kernel⟩
theorem ok_IsFolkG {f : Addr} {fd : FuncData} {k : Nat} (F : Fun K "is_folk" "is_folk" sIsFolkG f fd) (C_is_person : CallOk P w K mg base k "is_person" pIsPerson (spB1 isPersonT)) (m_isinstance : mg "isinstance" = none) (m_tuple : mg "tuple" = none) (m_len : mg "len" = none) (m_all : mg "all" = none) (iMOST_FOLK : MgInt mg "MOST_FOLK" 6) : FnOk P w K mg base CX0 (k + 1) f fd pIsFolkG (spB1 isFolkT) := by
  refine F.ok scIsFolkG (fun vs H Q E h => ?_) (fun cdv A outer s H vs Q E hr h => ?_)
  · obtain ⟨p, v, t, rfl, _⟩ := h
    rfl
  · obtain ⟨p, v, t, rfl, hT, q⟩ := h
    have nd := scIsFolkG.nd
    refine ⟨_, pss_cons (ps_if (PW.pt (pw_or (pt_not (pt_val (pe_callB call_isi (by rfl) m_isinstance (by decide +kernel) (pa_cons (pv 0) (pa_cons (pe_bltn (v := .ty "tuple") (by rfl) m_tuple (by decide +kernel) rfl) pa_nil))))) (pw_or1 (pt_not (pt_chain op_le op_le pe_int (pe_callB call_len_seq (by rfl) m_len (by decide +kernel) (pa_cons (pv 0) pa_nil)) (pe_num (by rfl) iMOST_FOLK)))))) (pss_one (ps_ret pe_bl)) pss_nil)
      (pss_one (ps_ret (pe_callB (cr_all rfl) (by rfl) m_all (by decide +kernel) (pa_cons (pe_lc (own := [("person", 1)]) (g := gName 1) (by rfl) nd (pi_tup (pv 0)) (blkOk_by (own := [("person", 1)]) (N := nIsFolkG) (sc := defScope sIsFolkG) (by decide +kernel)) (fun _ _ _ _ _ => (pg_name (i := 1) nd rfl (.inl rfl))) (fun _ _ _ _ _ => pts_nil)
          (fun _ _ _ _ _ => (pe_call C_is_person.ok hr (by rfl) C_is_person.g C_is_person.kp C_is_person.b .nil pass0 (pa_cons (pv 1) pa_nil)))) pa_nil)))), ?_⟩
    refine ⟨_, rfl, _, _, _, _, t.isT, rfl, .ty "tuple", hT.ty, kit_ty t.kT, _, rfl, ?_⟩
    cases hc : t.isT with
    | false =>
      refine iteT ?_
      have h := q _ (same_refl _)
      have e : isFolkT t = false := by cases t <;> first | rfl | cases hc
      rw [e] at h
      exact h
    | true =>
      refine iteF ?_
      obtain ⟨a, xs, ts, rfl, rfl, ea, hts⟩ := hT.tupOf hc
      have hlen := hts.length
      refine ⟨_, rfl, a, _, rfl, .inr (SqT.of ea), _, _, rfl, rfl, _, rfl, ?_⟩
      have q1 : ∀ H', Same H H' → Q (.bl ((decide (1 ≤ ts.length) && decide (ts.length ≤ 6)) && ts.all isPersonT)) H' := q
      by_cases h1 : 1 ≤ ts.length
      · rw [decide_eq_true (show (1 : Int) ≤ (xs.length : Nat) by omega)]
        refine iteT ?_
        refine ⟨_, _, rfl, rfl, _, rfl, ?_⟩
        by_cases h6 : ts.length ≤ 6
        · rw [decide_eq_true (show ((xs.length : Nat) : Int) ≤ 6 by omega)]
          refine iteF ?_
          rw [decide_eq_true h1, decide_eq_true h6] at q1
          refine ⟨_, rfl, a, rfl, ⟨_, SqT.of ea⟩, fun M nM => ?_⟩
          refine lc_sameM (walk_tup (xs := xs)) ts (fun y => .bl (isPersonT y)) hlen.symm (by omega) nM (fun H s => SqT.of (s _ _ ea)) ?_ ?_
          · rintro i y x H2' H2 hy s2 ⟨rfl, hx⟩ Q1 q1'
            exact ⟨rfl, _, rfl, p, x, y, rfl, TgAt.same s2 _ _ (hts.at hx hy), fun H3 s3 => q1' _ s3⟩
          intro H2 s2 eM
          refine ⟨M, ts.map isPersonT, rfl, SqL.of (by rw [eM, List.map_map]; rfl), ?_⟩
          rw [all_map_id]
          exact q1 _ s2
        · rw [decide_eq_false (show ¬ ((xs.length : Nat) : Int) ≤ 6 by omega)]
          refine iteT ?_
          rw [decide_eq_true h1, decide_eq_false h6] at q1
          exact q1 _ (same_refl _)
      · rw [decide_eq_false (show ¬ (1 : Int) ≤ (xs.length : Nat) by omega)]
        refine ⟨_, rfl, iteT ?_⟩
        rw [decide_eq_false h1] at q1
        exact q1 _ (same_refl _)
end
end Deed

namespace Deed
open PySem PySem.Spec PyProof.Rows L2 LamX RZ
theorem walk_zipG {K : PySem.W.Frag} {a b : Addr} {xs ys : List V} {n : Nat} (hn : n = min xs.length ys.length) : Walk (ItzT K a b) n (fun H => SqT K H a xs ∧ SqT K H b ys) (YPair (fun i => xs[i]?) (fun i => ys[i]?)) := by
  subst hn
  refine ⟨fun i _ hi q => ?_, fun _ q => ⟨xs, ys, q.1, q.2, by omega⟩, fun i H v H' _ q y => ?_⟩
  · have h1 : i < xs.length := by omega
    have h2 : i < ys.length := by omega
    exact ⟨xs, ys, xs[i], ys[i], q.1, q.2, by simp [h1], by simp [h2]⟩
  · obtain ⟨T, x, z, h1, h2, h3, h4, h5⟩ := y
    exact ⟨T, x, z, h1, h2, h3, h4 xs q.1, h5 ys q.2⟩
theorem cutDropG {α : Type} (f : α → V) (l : List α) (m : Nat) : cutV (l.map f) (some (m : Int)) none = (l.drop m).map f := by
  unfold cutV
  rw [HT.sIx_none, HT.sIx_nat, List.length_map, ← List.map_drop, ← List.map_take]
  congr 1
  by_cases h : m ≤ l.length
  · rw [Nat.min_eq_left h, List.take_of_length_le (by rw [List.length_drop]; omega)]
  · rw [Nat.min_eq_right (by omega), List.drop_of_length_le (by omega), List.drop_of_length_le (by omega), List.take_nil]
def ltAt (ns : List Int) (j : Nat) : Bool := decide ((ns[j]?).getD 0 < (ns[j + 1]?).getD 0)
def risI (ns : List Int) : Bool := (List.range (ns.length - 1)).all (ltAt ns)
theorem risI_iff (ns : List Int) : risI ns = true ↔ ns.Pairwise (· < ·) := by
  unfold risI
  rw [List.all_eq_true]
  constructor
  · intro h
    have adj : ∀ j (h1 : j + 1 < ns.length), ns[j] < ns[j + 1] := fun j h1 => by
      have := of_decide_eq_true (h j (List.mem_range.mpr (by omega)))
      rw [List.getElem?_eq_getElem (by omega), List.getElem?_eq_getElem h1] at this
      exact this
    have step : ∀ (d i : Nat) (h1 : i + d + 1 < ns.length), ns[i] < ns[i + d + 1] := fun d => by
      induction d with
      | zero => exact fun i h1 => adj i h1
      | succ d ih =>
        intro i h1
        have a1 := ih i (by omega)
        have a2 := adj (i + d + 1) (by omega)
        have : ns[i + (d + 1) + 1] = ns[i + d + 1 + 1] := by congr 1
        omega
    refine List.pairwise_iff_getElem.mpr fun i j hi hj hij => ?_
    have := step (j - i - 1) i (by omega)
    have e : ns[i + (j - i - 1) + 1]'(by omega) = ns[j] := by congr 1; omega
    omega
  · intro h j hj
    have hj := List.mem_range.mp hj
    have := List.pairwise_iff_getElem.mp h j (j + 1) (by omega) (by omega) (by omega)
    unfold ltAt
    rw [List.getElem?_eq_getElem (by omega), List.getElem?_eq_getElem (by omega)]
    exact decide_eq_true this
def risT (most limit : Int) : Tg → Bool
  | .tup ts => decide ((ts.length : Int) ≤ most) && (ts.all (Tg.within 0 (limit - 1)) && risI (ts.map Tg.toI))
  | _ => false
theorem TgAll.ofInts {p : Addr} {H : Hp} : ∀ {xs : List V} {ts : List Tg} {lo hi : Int}, TgAll p H xs ts → ts.all (Tg.within lo hi) = true → xs = (ts.map Tg.toI).map V.int ∧ ts = (ts.map Tg.toI).map Tg.int
  | _, [], _, _, h, _ => by
    cases h
    exact ⟨rfl, rfl⟩
  | _, t :: ts, lo, hi, h, ha => by
    rw [List.all_cons, Bool.and_eq_true] at ha
    cases h with
    | cons h1 h2 =>
      obtain ⟨e1, e2⟩ := TgAll.ofInts h2 ha.2
      obtain ⟨i, rfl, _⟩ := Tg.within_int ha.1
      cases h1
      exact ⟨by rw [List.map_cons, List.map_cons, ← e1]; rfl, by rw [List.map_cons, List.map_cons, ← e2]; rfl⟩
def hasI (i : Int) : Tg → Bool
  | .tup ts => decide (i ∈ ts.map Tg.toI)
  | _ => false
def deedTailT (n num : Int) : List Tg → Bool
  | [g, t, r, w] => g.within 0 (n - 1) && (t.within 0 (n - 1) && (!decide (g.toI = t.toI) && (risT 2 num r && (risT 3 n w && (!hasI g.toI w && !hasI t.toI w)))))
  | _ => false
def actTailT (num : Int) : List Tg → Bool
  | [x] => x.within 0 (num - 1)
  | _ => false
def tailT (n num : Int) (x : Tg) (r : List Tg) : Bool := match x with
  | .str z => if z = "deed" then deedTailT n num r else decide (z ∈ [("paid" : Str), "void", "undone"]) && actTailT num r
  | _ => false
def isEntT (n : Int) : Tg → Bool
  | .tup (a :: b :: c :: d :: e :: f :: r) => a.within 0 30 && (b.within 0 9999 && (c.within 0 9999 && (d.within 0 3 && tailT n a.toI e (f :: r))))
  | _ => false
def ActWG (K : PySem.W.Frag) (mg : Str → Option Value) (a : Addr) : Prop := mg "ACT_WORDS" = some (.ref a) ∧ ∀ H : Hp, SqT K H a (([("paid" : Str), "void", "undone"] : List Str).map V.str)
def lenT : Tg → Int | .tup ts => ts.length | _ => 0
section
variable {P : Program} {w : World} {K : PySem.W.Frag} {mg : Str → Option Value} {base : Heap}
abbrev sIsRisG : Stmt := topS 20
abbrev nIsRisG : List Str := ["things", "ahead", "behind"]
abbrev pIsRisG : List Str := ["things"]
theorem scIsRisG : FnScope nIsRisG pIsRisG (defScope sIsRisG) := ⟨rfl, rfl, rfl, by decide +kernel, rfl, by decide +kernel, by decide +kernel⟩
def spRisG : Sp := fun vs H Q _ => ∃ (t : Addr) (ns : List Int), vs = [.ref t] ∧ H t = some (.tup (ns.map V.int)) ∧ ns.length ≤ 1000 ∧ ∀ H', Same H H' → Q (.bl (risI ns)) H'
theorem ok_IsRisG {f : Addr} {fd : FuncData} {k : Nat} (F : Fun K "is_rising" "is_rising" sIsRisG f fd) (m_zip : mg "zip" = none) (m_all : mg "all" = none) : FnOk P w K mg base CX0 (k + 1) f fd pIsRisG spRisG := by
  refine F.ok scIsRisG (fun vs H Q E h => ?_) (fun cdv A outer s H vs Q E hr h => ?_)
  · obtain ⟨t, ns, rfl, _⟩ := h
    rfl
  · obtain ⟨t, ns, rfl, et, hl, q⟩ := h
    have nd := scIsRisG.nd
    refine ⟨_, pss_one (ps_ret (pe_callB (cr_all rfl) (by rfl) m_all (by decide +kernel) (pa_cons (pe_lc (own := [("ahead", 1), ("behind", 2)]) (g := gTup K 2 (gCons (gName 1) (gCons (gName 2) gNil))) (by rfl) nd (pi_zipA (by rfl) m_zip (pa_cons (pv 0) (pa_cons (pe_slice sl_tupA (pv 0) (po_some pe_int) po_none) pa_nil))) (blkOk_by (own := [("ahead", 1), ("behind", 2)]) (N := nIsRisG) (sc := defScope sIsRisG) (by decide +kernel)) (fun _ _ _ _ _ => (pg_tup (by rfl) (pgs_cons (pg_name (i := 1) nd rfl (.inl rfl)) (pgs_cons (pg_name (i := 2) nd rfl (.inl rfl)) pgs_nil)))) (fun _ _ _ _ _ => pts_nil)
          (fun _ _ _ _ _ => (pe_cmpR op_lt (pv 1) (pv 2) (nomark _)))) pa_nil))), ?_⟩
    refine ⟨_, rfl, _, rfl, _, rfl, ?_⟩
    dsimp only [tNoPart]
    refine slA_same et fun t2 H2 s2 e2 => ?_
    have e2' : H2 t2 = some (.tup ((ns.drop 1).map V.int)) := by
      rw [e2]
      exact congrArg (fun l => some (HO.tup l)) (cutDropG V.int ns 1)
    refine ⟨t, t2, ns.map V.int, (ns.drop 1).map V.int, rfl, .inr ⟨SqT.of (s2 _ _ et), SqT.of e2', fun M nM => ?_⟩⟩
    refine lc_sameM (walk_zipG (n := ns.length - 1) (by simp)) (List.range (ns.length - 1)) (fun j => .bl (ltAt ns j)) (by rw [List.length_range]) (by rw [List.length_range]; omega) nM (fun H s => ⟨SqT.of (s _ _ (s2 _ _ et)), SqT.of (s _ _ e2')⟩) ?_ ?_
    · rintro j y x H3 H3' hy s3 ⟨T0, xx, yy, rfl, nT, rfl, hxx, hyy⟩ Q1 q1
      obtain rfl : j = y := by
        have h9 := (List.getElem?_eq_some_iff.mp hy).2
        rw [List.getElem_range] at h9
        exact h9
      dsimp only at hxx hyy
      rw [List.getElem?_map] at hxx hyy
      rw [List.getElem?_drop] at hyy
      cases hz : ns[j]? with
      | none => rw [hz] at hxx; cases hxx
      | some m =>
        rw [hz] at hxx
        injection hxx with hxx
        subst hxx
        rw [show 1 + j = j + 1 by omega] at hyy
        cases hz2 : ns[j + 1]? with
        | none => rw [hz2] at hyy; cases hyy
        | some m2 =>
          rw [hz2] at hyy
          injection hyy with hyy
          subst hyy
          have s4 := same_new nT (.tup [.int m, .int m2])
          have eT : (upd H3 T0 (.tup [.int m, .int m2])) T0 = some (.tup [.int m, .int m2]) := upd_same
          generalize (upd H3 T0 (.tup [.int m, .int m2])) = H4 at s4 eT
          refine ⟨T0, _, rfl, SqT.of eT, rfl, _, _, rfl, _, _, rfl, rfl, rfl, ?_⟩
          refine ⟨_, rfl, _, rfl, _, _, rfl, rfl, ?_⟩
          have e : ltAt ns j = decide (m < m2) := by
            unfold ltAt
            rw [hz, hz2]
            rfl
          have := q1 _ s4
          rw [e] at this
          exact this
    intro H3 s3 eM
    refine ⟨M, (List.range (ns.length - 1)).map (ltAt ns), rfl, SqL.of (by rw [eM, List.map_map]; rfl), ?_⟩
    rw [all_map_id]
    exact q _ (s2.trans s3)
abbrev sIsRisB : Stmt := topS 21
abbrev nIsRisB : List Str := ["thing", "most", "limit", "part"]
abbrev pIsRisB : List Str := ["thing", "most", "limit"]
theorem scIsRisB : FnScope nIsRisB pIsRisB (defScope sIsRisB) := ⟨rfl, rfl, rfl, by decide +kernel, rfl, by decide +kernel, by decide +kernel⟩
def spRisBG : Sp := fun vs H Q _ => ∃ (p : Addr) (v : V) (t : Tg) (most limit : Int), vs = [v, .int most, .int limit] ∧ TgAt p H v t ∧ most ≤ 1000 ∧ ∀ H', Same H H' → Q (.bl (risT most limit t)) H'
theorem ok_IsRisB {f : Addr} {fd : FuncData} {k : Nat} (F : Fun K "is_rising_below" "is_rising_below" sIsRisB f fd) (C_is_within : CallOk P w K mg base k "is_within" pIsWithin spWi) (C_is_rising : CallOk P w K mg base k "is_rising" pIsRisG spRisG) (m_isinstance : mg "isinstance" = none) (m_tuple : mg "tuple" = none) (m_len : mg "len" = none) (m_all : mg "all" = none) : FnOk P w K mg base CX0 (k + 1) f fd pIsRisB spRisBG := by
  refine F.ok scIsRisB (fun vs H Q E h => ?_) (fun cdv A outer s H vs Q E hr h => ?_)
  · obtain ⟨p, v, t, most, limit, rfl, _⟩ := h
    rfl
  · obtain ⟨p, v, t, most, limit, rfl, hT, hm, q⟩ := h
    have nd := scIsRisB.nd
    refine ⟨_, pss_cons (ps_if (PW.pt (pw_or (pt_not (pt_val (pe_callB call_isi (by rfl) m_isinstance (by decide +kernel) (pa_cons (pv 0) (pa_cons (pe_bltn (v := .ty "tuple") (by rfl) m_tuple (by decide +kernel) rfl) pa_nil))))) (pw_or1 (pt_cmpR op_gt (pe_callB call_len_seq (by rfl) m_len (by decide +kernel) (pa_cons (pv 0) pa_nil)) (pv 1) (nomark _))))) (pss_one (ps_ret pe_bl)) pss_nil)
      (pss_one (ps_ret (pe_and (pe_callB (cr_all rfl) (by rfl) m_all (by decide +kernel) (pa_cons (pe_lc (own := [("part", 3)]) (g := gName 3) (by rfl) nd (pi_tup (pv 0)) (blkOk_by (own := [("part", 3)]) (N := nIsRisB) (sc := defScope sIsRisB) (by decide +kernel)) (fun _ _ _ _ _ => (pg_name (i := 3) nd rfl (.inl rfl))) (fun _ _ _ _ _ => pts_nil)
          (fun _ _ _ _ _ => (pe_call C_is_within.ok hr (by rfl) C_is_within.g C_is_within.kp C_is_within.b .nil pass0 (pa_cons (pv 3) (pa_cons pe_int (pa_cons (pe_op op_sub (pv 2) pe_int) pa_nil)))))) pa_nil)) (pe_one (pe_call C_is_rising.ok hr (by rfl) C_is_rising.g C_is_rising.kp C_is_rising.b .nil pass0 (pa_cons (pv 0) pa_nil)))))), ?_⟩
    refine ⟨_, rfl, _, _, _, _, t.isT, rfl, .ty "tuple", hT.ty, kit_ty t.kT, _, rfl, ?_⟩
    cases hc : t.isT with
    | false =>
      refine iteT ?_
      have h := q _ (same_refl _)
      have e : risT most limit t = false := by cases t <;> first | rfl | cases hc
      rw [e] at h
      exact h
    | true =>
      refine iteF ?_
      obtain ⟨a, xs, ts, rfl, rfl, ea, hts⟩ := hT.tupOf hc
      have hlen := hts.length
      have q1 : ∀ H', Same H H' → Q (.bl (decide ((ts.length : Int) ≤ most) && (ts.all (Tg.within 0 (limit - 1)) && risI (ts.map Tg.toI)))) H' := q
      refine ⟨_, rfl, a, _, rfl, .inr (SqT.of ea), _, rfl, _, _, rfl, rfl, _, rfl, ?_⟩
      by_cases hgt : ((xs.length : Nat) : Int) > most
      · rw [decide_eq_true hgt]
        refine iteT ?_
        rw [decide_eq_false (show ¬ (ts.length : Int) ≤ most by omega)] at q1
        exact q1 _ (same_refl _)
      · rw [decide_eq_false hgt]
        refine iteF ?_
        rw [decide_eq_true (show (ts.length : Int) ≤ most by omega), Bool.true_and] at q1
        refine ⟨_, rfl, a, rfl, ⟨_, SqT.of ea⟩, fun M nM => ?_⟩
        refine lc_sameM (walk_tup (xs := xs)) ts (fun y => .bl (y.within 0 (limit - 1))) hlen.symm (by omega) nM (fun H s => SqT.of (s _ _ ea)) ?_ ?_
        · rintro i y x H2' H2 hy s2 ⟨rfl, hx⟩ Q1 q1'
          exact ⟨rfl, _, rfl, _, rfl, _, _, rfl, rfl, p, x, y, 0, limit - 1, rfl, TgAt.same s2 _ _ (hts.at hx hy), fun H3 s3 => q1' _ s3⟩
        intro H2 s2 eM
        refine ⟨M, ts.map (Tg.within 0 (limit - 1)), rfl, SqL.of (by rw [eM, List.map_map]; rfl), ?_⟩
        rw [all_map_id]
        refine ⟨_, rfl, ?_⟩
        refine ite2 (fun c => ?_) (fun c => ?_)
        · have c' : ts.all (Tg.within 0 (limit - 1)) = true := c
          rw [c', Bool.true_and] at q1
          obtain ⟨e1, _⟩ := hts.ofInts c'
          refine ⟨_, rfl, a, ts.map Tg.toI, rfl, ?_, by rw [List.length_map]; omega, fun H3 s3 => q1 _ (s2.trans s3)⟩
          rw [s2 _ _ ea, ← e1]
        · have c' : ts.all (Tg.within 0 (limit - 1)) = false := Bool.eq_false_iff.mpr c
          rw [c', Bool.false_and] at q1
          exact q1 _ s2
abbrev sIsDeedT : Stmt := topS 22
abbrev nIsDeedT : List Str := ["folk", "number", "tail", "giver", "taker", "rests", "witnesses", "last"]
abbrev pIsDeedT : List Str := ["folk", "number", "tail"]
theorem scIsDeedT : FnScope nIsDeedT pIsDeedT (defScope sIsDeedT) := ⟨rfl, rfl, rfl, by decide +kernel, rfl, by decide +kernel, by decide +kernel⟩
def spDeedTG : Sp := fun vs H Q _ => ∃ (p fa a : Addr) (fx xs : List V) (ts : List Tg) (num : Int), vs = [.ref fa, .int num, .ref a] ∧ H fa = some (.tup fx) ∧ H a = some (.tup xs) ∧ TgAll p H xs ts ∧ ∀ H', Same H H' → Q (.bl (deedTailT fx.length num ts)) H'
theorem ok_IsDeedT {f : Addr} {fd : FuncData} {k : Nat} (F : Fun K "is_deed_tail" "is_deed_tail" sIsDeedT f fd) (C_is_within : CallOk P w K mg base k "is_within" pIsWithin spWi) (C_is_rising_below : CallOk P w K mg base k "is_rising_below" pIsRisB spRisBG) (m_len : mg "len" = none) (iMOST_RESTS : MgInt mg "MOST_RESTS" 2) (iMOST_WITNESSES : MgInt mg "MOST_WITNESSES" 3) : FnOk P w K mg base CX0 (k + 1) f fd pIsDeedT spDeedTG := by
  refine F.ok scIsDeedT (fun vs H Q E h => ?_) (fun cdv A outer s H vs Q E hr h => ?_)
  · obtain ⟨p, fa, a, fx, xs, ts, num, rfl, _⟩ := h
    rfl
  · obtain ⟨p, fa, a, fx, xs, ts, num, rfl, ef, ea, hts, q⟩ := h
    have nd := scIsDeedT.nd
    refine ⟨_, pss_cons (ps_if (pt_cmpR op_ne (pe_callB call_len_seq (by rfl) m_len (by decide +kernel) (pa_cons (pv 2) pa_nil)) pe_int (nomark _)) (pss_one (ps_ret pe_bl)) pss_nil)
      (pss_cons (ps_asg (pv 2) (pg_tup (by rfl) (pgs_cons (pg_name (i := 3) nd rfl (.inl rfl)) (pgs_cons (pg_name (i := 4) nd rfl (.inl rfl)) (pgs_cons (pg_name (i := 5) nd rfl (.inl rfl)) (pgs_cons (pg_name (i := 6) nd rfl (.inl rfl)) pgs_nil))))))
      (pss_cons (ps_set (i := 7) nd rfl (.inl rfl) (pe_op op_sub (pe_callB call_len_seq (by rfl) m_len (by decide +kernel) (pa_cons (pv 0) pa_nil)) pe_int))
      (pss_cons (ps_if (PW.pt (pw_or (pt_not (pt_val (pe_call C_is_within.ok hr (by rfl) C_is_within.g C_is_within.kp C_is_within.b .nil pass0 (pa_cons (pv 3) (pa_cons pe_int (pa_cons (pv 7) pa_nil)))))) (pw_or (pt_not (pt_val (pe_call C_is_within.ok hr (by rfl) C_is_within.g C_is_within.kp C_is_within.b .nil pass0 (pa_cons (pv 4) (pa_cons pe_int (pa_cons (pv 7) pa_nil)))))) (pw_or1 (pt_cmpR op_eq (pv 3) (pv 4) (nomark _)))))) (pss_one (ps_ret pe_bl)) pss_nil)
      (pss_cons (ps_if (pt_not (pt_val (pe_call C_is_rising_below.ok hr (by rfl) C_is_rising_below.g C_is_rising_below.kp C_is_rising_below.b .nil pass0 (pa_cons (pv 5) (pa_cons (pe_num (by rfl) iMOST_RESTS) (pa_cons (pv 1) pa_nil)))))) (pss_one (ps_ret pe_bl)) pss_nil)
      (pss_cons (ps_if (pt_not (pt_val (pe_call C_is_rising_below.ok hr (by rfl) C_is_rising_below.g C_is_rising_below.kp C_is_rising_below.b .nil pass0 (pa_cons (pv 6) (pa_cons (pe_num (by rfl) iMOST_WITNESSES) (pa_cons (pe_callB call_len_seq (by rfl) m_len (by decide +kernel) (pa_cons (pv 0) pa_nil)) pa_nil)))))) (pss_one (ps_ret pe_bl)) pss_nil)
      (pss_one (ps_ret (pe_and (pe_cmpR op_notIn_seq (pv 3) (pv 6) (by rfl)) (pe_one (pe_cmpR op_notIn_seq (pv 4) (pv 6) (by rfl))))))))))), ?_⟩
    have hlen := hts.length
    refine ⟨_, rfl, a, _, rfl, .inr (SqT.of ea), rfl, _, rfl, ?_⟩
    by_cases h4 : ts.length = 4
    · rw [show decide (V.int (xs.length : Nat) = V.int 4) = true from decide_eq_true (by rw [hlen, h4]; rfl)]
      refine iteF ?_
      obtain ⟨xg, xt, xr, xw, rfl⟩ := len4 (hlen.trans h4)
      obtain ⟨tg, tt, tr, tw, rfl⟩ := len4 h4
      cases hts with
      | cons hg h' =>
      cases h' with
      | cons ht h' =>
      cases h' with
      | cons hr' h' =>
      cases h' with
      | cons hw _ =>
      refine ⟨_, rfl, a, _, rfl, SqT.of ea, rfl, _, _, rfl, _, _, rfl, _, _, rfl, _, _, rfl, rfl, ?_⟩
      refine ⟨_, rfl, fa, _, rfl, .inr (SqT.of ef), _, _, rfl, rfl, ?_⟩
      have q1 : ∀ H', Same H H' → Q (.bl (tg.within 0 ((fx.length : Int) - 1) && (tt.within 0 ((fx.length : Int) - 1) && (!decide (tg.toI = tt.toI) && (risT 2 num tr && (risT 3 fx.length tw && (!hasI tg.toI tw && !hasI tt.toI tw))))))) H' := q
      clear q
      refine ⟨_, rfl, _, rfl, p, xg, tg, 0, _, rfl, hg, fun H1 s1 => ⟨_, rfl, ?_⟩⟩
      cases c1 : tg.within 0 ((fx.length : Int) - 1) with
      | false =>
        refine iteT ?_
        have h := q1 _ s1
        rw [c1] at h
        exact h
      | true =>
      refine iteF ?_
      rw [c1, Bool.true_and] at q1
      refine ⟨_, rfl, _, rfl, p, xt, tt, 0, _, rfl, TgAt.same s1 _ _ ht, fun H2 s2 => ⟨_, rfl, ?_⟩⟩
      have s02 := s1.trans s2
      cases c2 : tt.within 0 ((fx.length : Int) - 1) with
      | false =>
        refine iteT ?_
        have h := q1 _ s02
        rw [c2] at h
        exact h
      | true =>
      refine iteF ?_
      rw [c2, Bool.true_and] at q1
      obtain ⟨g, rfl, _, _⟩ := Tg.within_int c1
      obtain ⟨t, rfl, _, _⟩ := Tg.within_int c2
      cases hg
      cases ht
      refine ⟨_, rfl, _, rfl, rfl, _, rfl, ?_⟩
      rw [show decide (V.int g = V.int t) = decide (g = t) by by_cases e : g = t <;> simp [e]]
      have q2 : ∀ H', Same H H' → Q (.bl (!decide (g = t) && (risT 2 num tr && (risT 3 fx.length tw && (!hasI g tw && !hasI t tw))))) H' := q1
      clear q1
      cases c3 : decide (g = t) with
      | true =>
        refine iteT ?_
        have h := q2 _ s02
        rw [c3] at h
        exact h
      | false =>
      refine iteF ?_
      rw [c3, Bool.not_false, Bool.true_and] at q2
      refine ⟨_, rfl, _, rfl, p, xr, tr, 2, num, rfl, TgAt.same s02 _ _ hr', by decide, fun H3 s3 => ⟨_, rfl, ?_⟩⟩
      have s03 := s02.trans s3
      cases c4 : risT 2 num tr with
      | false =>
        refine iteT ?_
        have h := q2 _ s03
        rw [c4] at h
        exact h
      | true =>
      refine iteF ?_
      rw [c4, Bool.true_and] at q2
      refine ⟨_, rfl, _, rfl, fa, _, rfl, .inr (SqT.of (s03 _ _ ef)), p, xw, tw, 3, _, rfl, TgAt.same s03 _ _ hw, by decide, fun H4 s4 => ⟨_, rfl, ?_⟩⟩
      have s04 := s03.trans s4
      cases c5 : risT 3 fx.length tw with
      | false =>
        refine iteT ?_
        have h := q2 _ s04
        rw [c5] at h
        exact h
      | true =>
      refine iteF ?_
      rw [c5, Bool.true_and] at q2
      have htw : tw.isT = true := by cases tw <;> first | rfl | cases c5
      obtain ⟨wa, wxs, wts, rfl, rfl, ew, hwts⟩ := hw.tupOf htw
      have c5' : (decide ((wts.length : Int) ≤ 3) && (wts.all (Tg.within 0 ((fx.length : Int) - 1)) && risI (wts.map Tg.toI))) = true := c5
      rw [Bool.and_eq_true, Bool.and_eq_true] at c5'
      obtain ⟨e1, _⟩ := hwts.ofInts c5'.2.1
      have ew4 : H4 wa = some (.tup ((wts.map Tg.toI).map V.int)) := by rw [s04 _ _ ew, ← e1]
      have q3 : ∀ H', Same H H' → Q (.bl (!decide (g ∈ wts.map Tg.toI) && !decide (t ∈ wts.map Tg.toI))) H' := q2
      refine ⟨_, rfl, _, rfl, wa, _, rfl, .inr (SqT.of ew4), rfl, flat_ints _, _, rfl, ?_⟩
      rw [show (if true = true then !inV (V.int g) ((wts.map Tg.toI).map V.int) else inV (V.int g) ((wts.map Tg.toI).map V.int)) = !decide (g ∈ wts.map Tg.toI) by rw [if_pos rfl, mem_inV]]
      cases c6 : decide (g ∈ wts.map Tg.toI) with
      | true =>
        refine iteF ?_
        have h := q3 _ s04
        rw [c6] at h
        exact h
      | false =>
        refine iteT ?_
        rw [c6] at q3
        refine ⟨_, rfl, _, rfl, wa, _, rfl, .inr (SqT.of ew4), rfl, flat_ints _, ?_⟩
        rw [show (if true = true then !inV (V.int t) ((wts.map Tg.toI).map V.int) else inV (V.int t) ((wts.map Tg.toI).map V.int)) = !decide (t ∈ wts.map Tg.toI) by rw [if_pos rfl, mem_inV]]
        exact q3 _ s04
    · rw [show decide (V.int (xs.length : Nat) = V.int 4) = false from decide_eq_false fun z => h4 (by injection z with z; omega)]
      refine iteT ?_
      have h := q _ (same_refl _)
      have e : deedTailT fx.length num ts = false := by
        match ts, h4 with
        | [], _ => rfl
        | [_], _ => rfl
        | [_, _], _ => rfl
        | [_, _, _], _ => rfl
        | [_, _, _, _], h4 => exact absurd rfl h4
        | _ :: _ :: _ :: _ :: _ :: _, _ => rfl
      rw [e] at h
      exact h
abbrev sIsActT : Stmt := topS 23
abbrev nIsActT : List Str := ["number", "tail"]
abbrev pIsActT : List Str := ["number", "tail"]
theorem scIsActT : FnScope nIsActT pIsActT (defScope sIsActT) := ⟨rfl, rfl, rfl, by decide +kernel, rfl, by decide +kernel, by decide +kernel⟩
def spActTG : Sp := fun vs H Q _ => ∃ (p a : Addr) (xs : List V) (ts : List Tg) (num : Int), vs = [.int num, .ref a] ∧ H a = some (.tup xs) ∧ TgAll p H xs ts ∧ ∀ H', Same H H' → Q (.bl (actTailT num ts)) H'
theorem ok_IsActT {f : Addr} {fd : FuncData} {k : Nat} (F : Fun K "is_act_tail" "is_act_tail" sIsActT f fd) (C_is_within : CallOk P w K mg base k "is_within" pIsWithin spWi) (m_len : mg "len" = none) : FnOk P w K mg base CX0 (k + 1) f fd pIsActT spActTG := by
  refine F.ok scIsActT (fun vs H Q E h => ?_) (fun cdv A outer s H vs Q E hr h => ?_)
  · obtain ⟨p, a, xs, ts, num, rfl, _⟩ := h
    rfl
  · obtain ⟨p, a, xs, ts, num, rfl, ea, hts, q⟩ := h
    have nd := scIsActT.nd
    refine ⟨_, pss_one (ps_ret (pe_and (pe_cmpR op_eq (pe_callB call_len_seq (by rfl) m_len (by decide +kernel) (pa_cons (pv 1) pa_nil)) pe_int (nomark _)) (pe_one (pe_call C_is_within.ok hr (by rfl) C_is_within.g C_is_within.kp C_is_within.b .nil pass0 (pa_cons (pe_ix ix_tup (pv 1) pe_int (fun _ _ => rfl)) (pa_cons pe_int (pa_cons (pe_op op_sub (pv 0) pe_int) pa_nil))))))), ?_⟩
    have hlen := hts.length
    refine ⟨_, rfl, a, _, rfl, .inr (SqT.of ea), rfl, _, rfl, ?_⟩
    by_cases h1 : ts.length = 1
    · rw [show decide (V.int (xs.length : Nat) = V.int 1) = true from decide_eq_true (by rw [hlen, h1]; rfl)]
      refine iteT ?_
      obtain ⟨x, rfl⟩ := len1 (hlen.trans h1)
      obtain ⟨t, rfl⟩ := len1 h1
      cases hts with
      | cons hx _ =>
      exact ⟨_, rfl, a, _, 0, _, rfl, rfl, SqT.of ea, atI_nat (j := 0) rfl, _, rfl, _, _, rfl, rfl, p, x, t, 0, num - 1, rfl, hx, q⟩
    · rw [show decide (V.int (xs.length : Nat) = V.int 1) = false from decide_eq_false fun z => h1 (by injection z with z; omega)]
      refine iteF ?_
      have h := q _ (same_refl _)
      have e : actTailT num ts = false := by
        match ts, h1 with
        | [], _ => rfl
        | [_], h1 => exact absurd rfl h1
        | _ :: _ :: _, _ => rfl
      rw [e] at h
      exact h
end
end Deed

namespace Deed
open PySem PySem.Spec PyProof.Rows L2 LamX
section
variable {P : Program} {w : World} {K : PySem.W.Frag} {mg : Str → Option Value} {base : Heap}
theorem TgAt.str_iff {p : Addr} {H : Hp} {v : V} {t : Tg} (h : TgAt p H v t) (z : Str) : v = .str z ↔ t = .str z := by
  cases h <;> simp
theorem tailT_deed {n num : Int} {x : Tg} {r : List Tg} (h : x = .str "deed") : tailT n num x r = deedTailT n num r := by
  subst h
  unfold tailT
  simp
theorem tailT_act {n num : Int} {x : Tg} {r : List Tg} {z : Str} (h : x = .str z) (h2 : z ≠ "deed") (h3 : z ∈ [("paid" : Str), "void", "undone"]) : tailT n num x r = actTailT num r := by
  subst h
  show (if z = "deed" then _ else _) = _
  rw [if_neg h2, decide_eq_true h3, Bool.true_and]
theorem tailT_no {n num : Int} {x : Tg} {r : List Tg} (h : x ≠ .str "deed") (h2 : ∀ z ∈ [("paid" : Str), "void", "undone"], x ≠ .str z) : tailT n num x r = false := by
  cases x with
  | str z =>
    show (if z = "deed" then _ else _) = _
    rw [if_neg fun e => h (by rw [e]), decide_eq_false fun e => h2 z e rfl, Bool.false_and]
  | _ => rfl
abbrev sIsEntG : Stmt := topS 24
abbrev nIsEntG : List Str := ["folk", "thing", "number", "day", "written", "hand", "word"]
abbrev pIsEntG : List Str := ["folk", "thing"]
theorem scIsEntG : FnScope nIsEntG pIsEntG (defScope sIsEntG) := ⟨rfl, rfl, rfl, by decide +kernel, rfl, by decide +kernel, by decide +kernel⟩
def spEntG : Sp := fun vs H Q _ => ∃ (p : Addr) (vf v : V) (tf t : Tg), vs = [vf, v] ∧ TgAt p H vf tf ∧ TgAt p H v t ∧ ∀ H', Same H H' → Q (.bl (isFolkT tf && isEntT (lenT tf) t)) H'
theorem ok_IsEntG {f : Addr} {fd : FuncData} {k : Nat} {a_ACT_WORDS : Addr} (F : Fun K "is_entry" "is_entry" sIsEntG f fd) (C_is_folk : CallOk P w K mg base k "is_folk" pIsFolkG (spB1 isFolkT)) (C_is_within : CallOk P w K mg base k "is_within" pIsWithin spWi) (C_is_day : CallOk P w K mg base k "is_day" pIsDayG (spB1 (Tg.within 0 9999))) (C_is_deed_tail : CallOk P w K mg base k "is_deed_tail" pIsDeedT spDeedTG) (C_is_act_tail : CallOk P w K mg base k "is_act_tail" pIsActT spActTG) (m_isinstance : mg "isinstance" = none) (m_tuple : mg "tuple" = none) (m_len : mg "len" = none) (iOF : MgInt mg "OF" 5) (iLAST_NUMBER : MgInt mg "LAST_NUMBER" 30) (iLAST_HAND : MgInt mg "LAST_HAND" 3) (AW : ActWG K mg a_ACT_WORDS) : FnOk P w K mg base CX0 (k + 1) f fd pIsEntG spEntG := by
  refine F.ok scIsEntG (fun vs H Q E h => ?_) (fun cdv A outer s H vs Q E hr h => ?_)
  · obtain ⟨p, vf, v, tf, t, rfl, _⟩ := h
    rfl
  · obtain ⟨p, vf, v, tf, t, rfl, hTf, hT, q⟩ := h
    have nd := scIsEntG.nd
    have g_ACT_WORDS := AW.1
    refine ⟨_, pss_cons (ps_if (PW.pt (pw_or (pt_not (pt_val (pe_call C_is_folk.ok hr (by rfl) C_is_folk.g C_is_folk.kp C_is_folk.b .nil pass0 (pa_cons (pv 0) pa_nil)))) (pw_or (pt_not (pt_val (pe_callB call_isi (by rfl) m_isinstance (by decide +kernel) (pa_cons (pv 1) (pa_cons (pe_bltn (v := .ty "tuple") (by rfl) m_tuple (by decide +kernel) rfl) pa_nil))))) (pw_or1 (pt_cmpR op_le (pe_callB call_len_seq (by rfl) m_len (by decide +kernel) (pa_cons (pv 1) pa_nil)) (pe_num (by rfl) iOF) (nomark _)))))) (pss_one (ps_ret pe_bl)) pss_nil)
      (pss_cons (ps_asg (pe_slice sl_tupA (pv 1) po_none (po_some (pe_num (by rfl) iOF))) (pg_tup (by rfl) (pgs_cons (pg_name (i := 2) nd rfl (.inl rfl)) (pgs_cons (pg_name (i := 3) nd rfl (.inl rfl)) (pgs_cons (pg_name (i := 4) nd rfl (.inl rfl)) (pgs_cons (pg_name (i := 5) nd rfl (.inl rfl)) (pgs_cons (pg_name (i := 6) nd rfl (.inl rfl)) pgs_nil)))))))
      (pss_cons (ps_if (PW.pt (pw_or (pt_not (pt_val (pe_call C_is_within.ok hr (by rfl) C_is_within.g C_is_within.kp C_is_within.b .nil pass0 (pa_cons (pv 2) (pa_cons pe_int (pa_cons (pe_num (by rfl) iLAST_NUMBER) pa_nil)))))) (pw_or (pt_not (pt_val (pe_call C_is_day.ok hr (by rfl) C_is_day.g C_is_day.kp C_is_day.b .nil pass0 (pa_cons (pv 3) pa_nil)))) (pw_or1 (pt_not (pt_val (pe_call C_is_day.ok hr (by rfl) C_is_day.g C_is_day.kp C_is_day.b .nil pass0 (pa_cons (pv 4) pa_nil)))))))) (pss_one (ps_ret pe_bl)) pss_nil)
      (pss_cons (ps_if (pt_not (pt_val (pe_call C_is_within.ok hr (by rfl) C_is_within.g C_is_within.kp C_is_within.b .nil pass0 (pa_cons (pv 5) (pa_cons pe_int (pa_cons (pe_num (by rfl) iLAST_HAND) pa_nil)))))) (pss_one (ps_ret pe_bl)) pss_nil)
      (pss_cons (ps_if (pt_cmpR (op_eqTS hr.units) (pv 6) pe_str (nomark _)) (pss_one (ps_ret (pe_call C_is_deed_tail.ok hr (by rfl) C_is_deed_tail.g C_is_deed_tail.kp C_is_deed_tail.b .nil pass0 (pa_cons (pv 0) (pa_cons (pv 2) (pa_cons (pe_slice sl_tupA (pv 1) (po_some (pe_num (by rfl) iOF)) po_none) pa_nil)))))) pss_nil)
      (pss_one (ps_ret (pe_and (pe_cmpR (op_inTS hr.units) (pv 6) (pe_glob (v := .ref a_ACT_WORDS) (by rfl) g_ACT_WORDS rfl) (by rfl)) (pe_one (pe_call C_is_act_tail.ok hr (by rfl) C_is_act_tail.g C_is_act_tail.kp C_is_act_tail.b .nil pass0 (pa_cons (pv 2) (pa_cons (pe_slice sl_tupA (pv 1) (po_some (pe_num (by rfl) iOF)) po_none) pa_nil))))))))))), ?_⟩
    refine ⟨_, rfl, p, vf, tf, rfl, hTf, fun H1 s1 => ⟨_, rfl, ?_⟩⟩
    cases cf : isFolkT tf with
    | false =>
      refine iteT ?_
      have h := q _ s1
      rw [cf] at h
      exact h
    | true =>
    refine iteF ?_
    rw [cf, Bool.true_and] at q
    have htf : tf.isT = true := by cases tf <;> first | rfl | cases cf
    obtain ⟨fa, fx, fts, rfl, rfl, ef, hfts⟩ := hTf.tupOf htf
    have hfl : lenT (.tup fts) = (fx.length : Int) := by rw [hfts.length]; rfl
    rw [hfl] at q
    have hT1 := TgAt.same s1 _ _ hT
    refine ⟨_, rfl, _, _, _, _, t.isT, rfl, .ty "tuple", hT1.ty, kit_ty t.kT, _, rfl, ?_⟩
    cases hc : t.isT with
    | false =>
      refine iteT ?_
      have h := q _ s1
      have e : isEntT fx.length t = false := by cases t <;> first | rfl | cases hc
      rw [e] at h
      exact h
    | true =>
    refine iteF ?_
    obtain ⟨a, xs, ts, rfl, rfl, ea, hts⟩ := hT.tupOf hc
    have ea1 := s1 _ _ ea
    have hlen := hts.length
    refine ⟨_, rfl, a, _, rfl, .inr (SqT.of ea1), _, _, rfl, rfl, _, rfl, ?_⟩
    by_cases h6 : 6 ≤ ts.length
    rotate_left
    · rw [decide_eq_true (show ((xs.length : Nat) : Int) ≤ 5 by omega)]
      refine iteT ?_
      have h := q _ s1
      have e : isEntT fx.length (.tup ts) = false := by
        match ts, h6 with
        | [], _ => rfl
        | [_], _ => rfl
        | [_, _], _ => rfl
        | [_, _, _], _ => rfl
        | [_, _, _, _], _ => rfl
        | [_, _, _, _, _], _ => rfl
        | _ :: _ :: _ :: _ :: _ :: _ :: _, h6 => simp at h6
      rw [e] at h
      exact h
    rw [decide_eq_false (show ¬ ((xs.length : Nat) : Int) ≤ 5 by omega)]
    refine iteF ?_
    obtain ⟨xa, xb, xc, xd, xe, xf, xr, rfl⟩ := len6 (show 6 ≤ xs.length by omega)
    obtain ⟨ta, tb, tc, td, te, tf', tr, rfl⟩ := len6 h6
    have htl : TgAll p H (xf :: xr) (tf' :: tr) := hts.drop 5
    cases hts with
    | cons ha h' =>
    cases h' with
    | cons hb h' =>
    cases h' with
    | cons hc' h' =>
    cases h' with
    | cons hd h' =>
    cases h' with
    | cons he _ =>
    refine ⟨_, rfl, _, rfl, slA_same ea1 fun t2 H2 s2 e2 => ?_⟩
    have e2' : H2 t2 = some (.tup [xa, xb, xc, xd, xe]) := by
      rw [e2]
      refine congrArg (fun l => some (HO.tup l)) ?_
      unfold cutV
      rw [HT.sIx_none, show ((5 : Int)) = ((5 : Nat) : Int) from rfl, HT.sIx_nat, Nat.min_eq_left (by simp)]
      rfl
    have s02 := s1.trans s2
    refine ⟨t2, _, rfl, SqT.of e2', rfl, _, _, rfl, _, _, rfl, _, _, rfl, _, _, rfl, _, _, rfl, rfl, ?_⟩
    have q1 : ∀ H', Same H H' → Q (.bl (ta.within 0 30 && (tb.within 0 9999 && (tc.within 0 9999 && (td.within 0 3 && tailT fx.length ta.toI te (tf' :: tr)))))) H' := q
    clear q
    refine ⟨_, rfl, p, xa, ta, 0, 30, rfl, TgAt.same s02 _ _ ha, fun H3 s3 => ⟨_, rfl, ?_⟩⟩
    have s03 := s02.trans s3
    cases c1 : ta.within 0 30 with
    | false =>
      refine iteT ?_
      have h := q1 _ s03
      rw [c1] at h
      exact h
    | true =>
    refine iteF ?_
    rw [c1, Bool.true_and] at q1
    refine ⟨_, rfl, p, xb, tb, rfl, TgAt.same s03 _ _ hb, fun H4 s4 => ⟨_, rfl, ?_⟩⟩
    have s04 := s03.trans s4
    cases c2 : tb.within 0 9999 with
    | false =>
      refine iteT ?_
      have h := q1 _ s04
      rw [c2] at h
      exact h
    | true =>
    refine iteF ?_
    rw [c2, Bool.true_and] at q1
    refine ⟨_, rfl, p, xc, tc, rfl, TgAt.same s04 _ _ hc', fun H5 s5 => ⟨_, rfl, ?_⟩⟩
    have s05 := s04.trans s5
    cases c3 : tc.within 0 9999 with
    | false =>
      refine iteT ?_
      have h := q1 _ s05
      rw [c3] at h
      exact h
    | true =>
    refine iteF ?_
    rw [c3, Bool.true_and] at q1
    refine ⟨_, rfl, p, xd, td, 0, 3, rfl, TgAt.same s05 _ _ hd, fun H6 s6 => ⟨_, rfl, ?_⟩⟩
    have s06 := s05.trans s6
    cases c4 : td.within 0 3 with
    | false =>
      refine iteT ?_
      have h := q1 _ s06
      rw [c4] at h
      exact h
    | true =>
    refine iteF ?_
    rw [c4, Bool.true_and] at q1
    obtain ⟨num, rfl, _, _⟩ := Tg.within_int c1
    cases ha
    have he6 := TgAt.same s06 _ _ he
    have cut5 : ∀ xa' xb' xc' xd' xe' : V, cutV (xa' :: xb' :: xc' :: xd' :: xe' :: xf :: xr) (some (5 : Int)) none = xf :: xr := fun _ _ _ _ _ => by
      unfold cutV
      rw [HT.sIx_none, show ((5 : Int)) = ((5 : Nat) : Int) from rfl, HT.sIx_nat, Nat.min_eq_left (by simp)]
      show List.take _ (xf :: xr) = _
      rw [List.take_of_length_le (by simp)]
    refine ⟨_, rfl, _, rfl, he6.knd, _, rfl, ?_⟩
    by_cases cd : xe = .str "deed"
    · rw [decide_eq_true cd]
      refine iteT ?_
      rw [tailT_deed ((he.str_iff _).mp cd)] at q1
      refine ⟨_, rfl, _, rfl, _, rfl, _, rfl, ?_⟩
      dsimp only [tNoPart]
      refine slA_same (s06 _ _ ea) fun t7 H7 s7 e7 => ?_
      rw [cut5] at e7
      have s07 := s06.trans s7
      exact ⟨p, fa, t7, fx, _, _, num, rfl, s07 _ _ ef, e7, TgAll.same s07 _ _ htl, fun H8 s8 => q1 _ (s07.trans s8)⟩
    rw [decide_eq_false cd]
    refine iteF ?_
    have hnd : te ≠ .str "deed" := fun z => cd ((he.str_iff _).mpr z)
    refine ⟨_, rfl, a_ACT_WORDS, [("paid" : Str), "void", "undone"], rfl, .inr (AW.2 _), he6.knd, _, rfl, ?_⟩
    by_cases ca : xe ∈ ([("paid" : Str), "void", "undone"] : List Str).map V.str
    · simp only [Bool.false_eq_true, if_false]
      rw [decide_eq_true ca]
      refine iteT ?_
      obtain ⟨z, hz, hze⟩ := List.mem_map.mp ca
      have hte : te = .str z := (he.str_iff z).mp hze.symm
      rw [tailT_act hte (fun e => hnd (by rw [hte, e])) hz] at q1
      refine ⟨_, rfl, _, rfl, _, rfl, ?_⟩
      dsimp only [tNoPart]
      refine slA_same (s06 _ _ ea) fun t7 H7 s7 e7 => ?_
      rw [cut5] at e7
      have s07 := s06.trans s7
      exact ⟨p, t7, _, _, num, rfl, e7, TgAll.same s07 _ _ htl, fun H8 s8 => q1 _ (s07.trans s8)⟩
    · simp only [Bool.false_eq_true, if_false]
      rw [decide_eq_false ca]
      refine iteF ?_
      rw [tailT_no hnd fun z hz e => ca (List.mem_map.mpr ⟨z, hz, ((he.str_iff z).mpr e).symm⟩)] at q1
      exact q1 _ s06
end
end Deed

namespace Deed
open PySem PySem.Spec PyProof.Rows L2 LamX
theorem tup_at {p : Addr} {H : Hp} {xs : List V} {ts : List Tg} (h : TgAll p H xs ts) {i : Nat} {t : Tg} (ht : ts[i]? = some t) : ∃ x, xs[i]? = some x ∧ TgAt p H x t := by
  have hi : i < ts.length := (List.getElem?_eq_some_iff.mp ht).1
  have hi' : i < xs.length := by rw [h.length]; exact hi
  exact ⟨xs[i], List.getElem?_eq_getElem hi', h.at (List.getElem?_eq_getElem hi') ht⟩
theorem log_small {i : Int} (h : i.natAbs < 2 ^ 64) : i.natAbs.log2 < 1920 := by
  by_cases h0 : i.natAbs = 0
  · rw [h0]
    decide
  · have := (Nat.log2_lt h0).mpr h
    omega
theorem folk_tg {p : Addr} {H : Hp} {t : Addr} {n : Nat} (h : FolkAt H t n) (hn : n ≤ 300) : ∃ ts, TgAt p H (.ref t) (.tup ts) ∧ ts.length = n ∧ FitsN 3 (.tup ts) ∧ ts.all isPersonT = true := by
  obtain ⟨xs, e, hl, hp⟩ := h
  have key : ∀ xs : List V, (∀ x ∈ xs, PersonAt H x) → ∃ ts, TgAll p H xs ts ∧ (∀ t ∈ ts, FitsN 2 t) ∧ ts.all isPersonT = true := by
    intro xs
    induction xs with
    | nil => exact fun _ => ⟨[], .nil, ⟨fun _ h => (nomatch h), rfl⟩⟩
    | cons x r ih =>
      intro hx
      obtain ⟨ts, h1, h2, h3⟩ := ih fun y hy => hx y (List.mem_cons_of_mem _ hy)
      obtain ⟨a, b, d, rfl, ea, hb0, hb1, hd⟩ := hx x List.mem_cons_self
      obtain ⟨td, htd, hfd, hdd⟩ : ∃ td, TgAt p H d td ∧ FitsN 1 td ∧ diedT b td = true := by
        rcases hd with rfl | ⟨i, rfl, hi0, hi1⟩
        · exact ⟨.non, .non, trivial, rfl⟩
        · exact ⟨.int i, .int i, log_small (by omega), by show (decide (b + 1 ≤ i) && decide (i ≤ 9999)) = true; rw [decide_eq_true (by omega : b + 1 ≤ i), decide_eq_true hi1]; rfl⟩
      refine ⟨.tup [.int b, td] :: ts, .cons (.tup ea (.cons (.int b) (.cons htd .nil))) h1, fun u hu => ?_, ?_⟩
      rotate_left
      · rw [List.all_cons, h3, Bool.and_true]
        show ((decide (-9999 ≤ b) && decide (b ≤ 9999)) && diedT b td) = true
        rw [hdd, decide_eq_true hb0, decide_eq_true (by omega : b ≤ 9999)]
        rfl
      rcases List.mem_cons.mp hu with rfl | hu
      · refine ⟨by show 2 ≤ 300; decide, fun y hy => ?_⟩
        simp only [List.mem_cons, List.not_mem_nil, or_false] at hy
        rcases hy with rfl | rfl
        · exact log_small (by omega)
        · exact hfd
      · exact h2 u hu
  obtain ⟨ts, h1, h2, h3⟩ := key xs hp
  have hl2 := h1.length
  exact ⟨ts, .tup e h1, by omega, ⟨by omega, h2⟩, h3⟩
end Deed

namespace Deed
open PySem PySem.Spec PyProof.Rows L2
section
variable {X : Cx}
/-- x = {k: v for ..}, x an own name -/
theorem ps_setDc {i : Nat} {y : Str} {py : Pos} {kx vx tg iter : Expr} {ifs : List Expr} {scope : Scope} {own : List (Str × Nat)} {pos spos : Pos} {wi : TI} {g : TG} {tt : TT} {tk tv : TE} (cal : X.calm = true) (nd : X.N.Nodup) (yi : X.N[i]? = some y) (yl : X.env.scope.names.lookup y = some .local)
    (sw : swapsWith (.DictComp kx vx [⟨tg, iter, ifs, 0⟩] scope pos) (some (.Name y py)) spos.line X.env = pure true) (pi : PI X tg iter wi) (blk : BlkOk X.N X.env.scope scope own)
    (pg : ∀ (s : Shared) (H : Hp) (C : Addr) (cl : List (Str × Addr)) (fp : List Addr), PG (X.blk s H scope (compEnvC scope cl C X.env) fp) tg g) (pt : ∀ (s : Shared) (H : Hp) (C : Addr) (cl : List (Str × Addr)) (fp : List Addr), PTs (X.blk s H scope (compEnvC scope cl C X.env) fp) ifs tt)
    (pk : ∀ (s : Shared) (H : Hp) (C : Addr) (cl : List (Str × Addr)) (fp : List Addr), PE (X.blk s H scope (compEnvC scope cl C X.env) fp) kx tk) (pw : ∀ (s : Shared) (H : Hp) (C : Addr) (cl : List (Str × Addr)) (fp : List Addr), PE (X.blk s H scope (compEnvC scope cl C X.env) fp) vx tv)
    (fo : ∀ x, foldedSetIterable iter X.env x = pure x := by intro _; rfl) : PS X (.Assign [.Name y py] (.DictComp kx vx [⟨tg, iter, ifs, 0⟩] scope pos) spos) (tAsg (tDc wi g tt tk tv (own.map (·.2))) (gName i)) := by
  refine ⟨fun pins s σ H D I hh => ?_⟩
  rw [exec_Assign_Name_used _ _ _ _ sw]
  refine wpAny_bind (wpAny_standAt (wpAny_bind ?_))
  show wpAny _ X.A (do let _ ← comprehension (.DictComp kx vx [⟨tg, iter, ifs, 0⟩] scope pos) scope X.env (firstIterPos [⟨tg, iter, ifs, 0⟩] pos) newDict false (eval iter X.env) (some (assign (.Name y py) X.env))) _ _ s
  have ht : tDc wi g tt tk tv (own.map (·.2)) σ H (fun x H1 => gName i x σ H1 D.nx) := hh
  refine wpAny_bind (thn (dc_core (Qf := fun _ s' => SP X pins D .next s') cal nd I pi blk pg pt pk pw fo ht fun L C s1 m H1 I1 q nC fp => ?_) fun _ s2 hq => wpAny_pure (wpAny_pure hq))
  show wpAny _ _ (assign (.Name y py) X.env (.ref L)) _ _ _
  refine wpAny_assign_Name (store_ok2 (v := V.ref L) I1 nd yi (.inl yl) rfl (fun s2 I2 ⟨c, sb, hc⟩ => ?_) (.inr yl))
  obtain ⟨f0, f1, f2, f3, f4, f5⟩ := fp
  have nc : C ≠ c := by
    rcases hc with e | e
    · rw [e]
      exact f1
    · exact fun z => f4 y c e z.symm
  refine ⟨m, nC.sameBut sb nc, fun h3 sb3 => ⟨_, H1, ?_, q⟩⟩
  exact I2.turned (t' := s2.toks) (fun b o hb e => (sb3.2 b hb).trans e) f0 f1 f3 f4 f5
theorem swD_true {kx vx : Expr} {gs : List Comprehension} {scope : Scope} {pos py : Pos} {y : Str} {l : Nat} {env : Env} (fk : env.scope.kind = .function) (yl : env.scope.names.lookup y = some .local) (hl : (py.line == pos.line) = true)
    (no : (scope.names.any fun (n, k) => n == y && (k == .local || k == .cell)) = false) : swapsWith (.DictComp kx vx gs scope pos) (some (.Name y py)) l env = pure true := by
  have k1 : env.kindOf y = some .local := yl
  have k2 : env.blockKind = .function := by
    unfold Env.blockKind
    rw [fk]
    rfl
  unfold swapsWith
  simp only [k2, k1, no, Expr.pos, hl]
  rfl
end
end Deed

namespace Deed
open PySem PySem.Spec PyProof.Rows L2 LamX
/-! ### books, of whatever kind -/
theorem within_ints : ∀ {ts : List Tg} {lo hi : Int}, ts.all (Tg.within lo hi) = true → ts = (ts.map Tg.toI).map Tg.int
  | [], _, _, _ => rfl
  | t :: ts, lo, hi, h => by
    rw [List.all_cons, Bool.and_eq_true] at h
    obtain ⟨i, rfl, _⟩ := Tg.within_int h.1
    have := within_ints h.2
    rw [List.map_cons, List.map_cons, ← this]
    rfl
theorem entT_shape {n : Int} {t : Tg} (h : isEntT n t = true) : ∃ num b c d z f r, t = .tup (.int num :: b :: c :: d :: .str z :: f :: r) ∧ ((z = "deed" ∧ ∃ (g : Tg) (rs : List Int) (u : Tg), r = [g, .tup (rs.map Tg.int), u] ∧ rs.length ≤ 2) ∨ (z ≠ "deed" ∧ z ∈ [("paid" : Str), "void", "undone"] ∧ ∃ o, f = .int o ∧ r = [])) := by
  match t, h with
  | .tup (a :: b :: c :: d :: e :: f :: r), h =>
    have h' : (a.within 0 30 && (b.within 0 9999 && (c.within 0 9999 && (d.within 0 3 && tailT n a.toI e (f :: r))))) = true := h
    simp only [Bool.and_eq_true] at h'
    obtain ⟨h1, _, _, _, h5⟩ := h'
    obtain ⟨num, rfl, _⟩ := Tg.within_int h1
    match e, h5 with
    | .str z, h5 =>
      have h5' : (if z = "deed" then deedTailT n num (f :: r) else decide (z ∈ [("paid" : Str), "void", "undone"]) && actTailT num (f :: r)) = true := h5
      refine ⟨num, b, c, d, z, f, r, rfl, ?_⟩
      by_cases hz : z = "deed"
      · rw [if_pos hz] at h5'
        refine .inl ⟨hz, ?_⟩
        match r, h5' with
        | [g, tr, u], h5' =>
          have h6 : (f.within 0 (n - 1) && (g.within 0 (n - 1) && (!decide (f.toI = g.toI) && (risT 2 num tr && (risT 3 n u && (!hasI f.toI u && !hasI g.toI u)))))) = true := h5'
          simp only [Bool.and_eq_true] at h6
          have h7 := h6.2.2.2.1
          match tr, h7 with
          | .tup rs, h7 =>
            have h8 : (decide ((rs.length : Int) ≤ 2) && (rs.all (Tg.within 0 (num - 1)) && risI (rs.map Tg.toI))) = true := h7
            simp only [Bool.and_eq_true] at h8
            have h9 : (rs.length : Int) ≤ 2 := of_decide_eq_true h8.1
            exact ⟨g, rs.map Tg.toI, u, by rw [← within_ints h8.2.1], by rw [List.length_map]; omega⟩
      · rw [if_neg hz, Bool.and_eq_true] at h5'
        refine .inr ⟨hz, of_decide_eq_true h5'.1, ?_⟩
        match r, h5'.2 with
        | [], h6 =>
          have h7 : f.within 0 (num - 1) = true := h6
          obtain ⟨o, rfl, _⟩ := Tg.within_int h7
          exact ⟨o, rfl, rfl⟩
theorem TgAll.int_only {p : Addr} {H : Hp} : ∀ {rs : List Int} {xs : List V}, TgAll p H xs (rs.map Tg.int) → xs = rs.map V.int
  | [], _, h => by
    cases h
    rfl
  | i :: r, _, h => by
    cases h with
    | cons h1 h2 =>
      cases h1
      rw [TgAll.int_only h2]
      rfl
def numT : Tg → Int | .tup (a :: _) => a.toI | _ => 0
def wordT : Tg → Str | .tup (_ :: _ :: _ :: _ :: .str z :: _) => z | _ => ""
def ofT : Tg → Int | .tup (_ :: _ :: _ :: _ :: _ :: f :: _) => f.toI | _ => 0
def restsT : Tg → List Int | .tup (_ :: _ :: _ :: _ :: _ :: _ :: _ :: .tup rs :: _) => rs.map Tg.toI | _ => []
def wdT (ts : List Tg) : List (Key × V) := ts.foldl (fun kvs t => putK kvs (.inl (numT t)) (.str (wordT t))) []
def WdOk (kvs : List (Key × V)) : Prop := ∀ kv ∈ kvs, ∃ x, kv.2 = V.str x
theorem WdOk.put {kvs : List (Key × V)} (h : WdOk kvs) (k : Key) (x : Str) : WdOk (putK kvs k (.str x)) := by
  unfold putK
  split
  · intro kv hkv
    obtain ⟨kv', h1, rfl⟩ := List.mem_map.mp hkv
    split
    · exact ⟨x, rfl⟩
    · exact h kv' h1
  · intro kv hkv
    rcases List.mem_append.mp hkv with h1 | h1
    · exact h kv h1
    · rw [List.mem_singleton.mp h1]
      exact ⟨x, rfl⟩
theorem putK_len {kvs : List (Key × V)} {k : Key} {v : V} : (putK kvs k v).length ≤ kvs.length + 1 := by
  unfold putK
  split
  · rw [List.length_map]
    omega
  · rw [List.length_append]
    exact Nat.le_refl _
theorem wdT_ok : ∀ (ts : List Tg) (kvs : List (Key × V)), WdOk kvs → WdOk (ts.foldl (fun kvs t => putK kvs (.inl (numT t)) (.str (wordT t))) kvs)
  | [], _, h => h
  | t :: ts, kvs, h => wdT_ok ts _ (h.put _ _)
theorem wdT_len : ∀ (ts : List Tg) (kvs : List (Key × V)), (ts.foldl (fun kvs t => putK kvs (.inl (numT t)) (.str (wordT t))) kvs).length ≤ kvs.length + ts.length
  | [], _ => Nat.le_refl _
  | t :: ts, kvs => by
    have h1 := wdT_len ts (putK kvs (.inl (numT t)) (.str (wordT t)))
    have h2 := putK_len (kvs := kvs) (k := .inl (numT t)) (v := .str (wordT t))
    rw [List.foldl_cons, List.length_cons]
    omega
def getW (kvs : List (Key × V)) (r : Int) : V := (valV kvs (.inl r)).getD .non
theorem getW_or {kvs : List (Key × V)} (h : WdOk kvs) (r : Int) : getW kvs r = .non ∨ ∃ x, getW kvs r = .str x := by
  unfold getW valV
  cases hf : kvs.find? fun kv => decide (kv.1 = (Sum.inl r : Key)) with
  | none => exact .inl rfl
  | some kv =>
    obtain ⟨x, hx⟩ := h kv (List.mem_of_find?_eq_some hf)
    exact .inr ⟨x, hx⟩
theorem getW_scal {kvs : List (Key × V)} (h : WdOk kvs) (r : Int) (x : Str) : scal (getW kvs r) (.str x) = true := by
  rcases getW_or h r with e | ⟨y, e⟩ <;> rw [e] <;> rfl
theorem getW_knd {kvs : List (Key × V)} (h : WdOk kvs) (r : Int) (H : Hp) : Knd H (getW kvs r) := by
  rcases getW_or h r with e | ⟨y, e⟩ <;> rw [e]
  · exact .non
  · exact .str y
def fitT (kvs : List (Key × V)) (t : Tg) : Bool :=
  if wordT t = "deed" then (restsT t).all (fun r => decide (getW kvs r = .str "deed"))
  else if wordT t = "undone" then decide (getW kvs (ofT t) ∈ ([("paid" : Str), "void", "undone"] : List Str).map V.str)
  else decide (getW kvs (ofT t) = .str "deed")
def isBookT : Tg → Bool
  | .tup [f, a, .tup es] => isFolkT f && (a.within 0 9999 && (decide (es.length ≤ 16) && (es.all (isEntT (lenT f)) && (decide ((wdT es).length = es.length) && es.all (fitT (wdT es))))))
  | _ => false
section
variable {P : Program} {w : World} {K : PySem.W.Frag} {mg : Str → Option Value} {base : Heap}
abbrev sIsAgeG : Stmt := topS 17
abbrev nIsAgeG : List Str := ["thing"]
abbrev pIsAgeG : List Str := ["thing"]
theorem scIsAgeG : FnScope nIsAgeG pIsAgeG (defScope sIsAgeG) := ⟨rfl, rfl, rfl, by decide +kernel, rfl, by decide +kernel, by decide +kernel⟩
theorem ok_IsAgeG {f : Addr} {fd : FuncData} {k : Nat} (F : Fun K "is_age" "is_age" sIsAgeG f fd) (C_is_within : CallOk P w K mg base k "is_within" pIsWithin spWi) (iLAST_DAY : MgInt mg "LAST_DAY" 9999) : FnOk P w K mg base CX0 (k + 1) f fd pIsAgeG (spB1 (Tg.within 0 9999)) := by
  refine F.ok scIsAgeG (fun vs H Q E h => ?_) (fun cdv A outer s H vs Q E hr h => ?_)
  · obtain ⟨p, v, t, rfl, _⟩ := h
    rfl
  · obtain ⟨p, v, t, rfl, hT, q⟩ := h
    refine ⟨_, pss_one (ps_ret (pe_call C_is_within.ok hr (by rfl) C_is_within.g C_is_within.kp C_is_within.b .nil pass0 (pa_cons (pv 0) (pa_cons pe_int (pa_cons (pe_num (by rfl) iLAST_DAY) pa_nil))))), ?_⟩
    exact ⟨_, rfl, p, v, t, 0, 9999, rfl, hT, q⟩
abbrev sNFit : Stmt := topS 25
abbrev nNFit : List Str := ["words", "entry", "rest"]
abbrev pNFit : List Str := ["words", "entry"]
theorem scNFit : FnScope nNFit pNFit (defScope sNFit) := ⟨rfl, rfl, rfl, by decide +kernel, rfl, by decide +kernel, by decide +kernel⟩
def spNFit : Sp := fun vs H Q _ => ∃ (p wd : Addr) (kvs : List (Key × V)) (v : V) (t : Tg) (n : Int), vs = [.ref wd, v] ∧ H wd = some (.dK kvs) ∧ WdOk kvs ∧ TgAt p H v t ∧ isEntT n t = true ∧ ∀ H', Same H H' → Q (.bl (fitT kvs t)) H'
theorem ok_NFit {f : Addr} {fd : FuncData} {k : Nat} {aC : Addr} (F : Fun K "names_fit" "names_fit" sNFit f fd) (m_all : mg "all" = none) (mW : MgInt mg "WORD" 4) (mR : MgInt mg "RESTS" 7) (mO : MgInt mg "OF" 5) (AW : ActWG K mg aC) : FnOk P w K mg base CX0 (k + 1) f fd pNFit spNFit := by
  refine F.ok scNFit (fun vs H Q E h => ?_) (fun cdv A outer s H vs Q E hr h => ?_)
  · obtain ⟨p, wd, kvs, v, t, n, rfl, _⟩ := h
    rfl
  · obtain ⟨p, wd, kvs, v, t, n, rfl, ewd, hwd, hT, hent, q⟩ := h
    have nd := scNFit.nd
    have hu := hu_of hr
    have gC := AW.1
    refine ⟨_, pss_cons (ps_if (pt_cmpR op_eq (pe_ix ix_tup (pv 1) (pe_num (by rfl) mW) (fun _ _ => rfl)) pe_str (nomark _)) (pss_one (ps_ret (pe_callB (cr_all rfl) (by rfl) m_all (by decide +kernel) (pa_cons (pe_lc (own := [("rest", 2)]) (g := gName 2) (by rfl) nd (pi_tup (pe_ix ix_tup (pv 1) (pe_num (by rfl) mR) (fun _ _ => rfl))) (blkOk_by (own := [("rest", 2)]) (N := nNFit) (sc := defScope sNFit) (by decide +kernel)) (fun _ _ _ _ _ => pg_name (i := 2) nd rfl (Or.inl rfl)) (fun _ _ _ _ _ => pts_nil)
          (fun _ _ _ _ _ => show PE _ _ (tOp rEq (tDGet1 (tVar 0) (tVar 2)) (tC (.str "deed"))) from pe_cmpR op_eq (pe_dget1 hu (pv 0) (pv 2) ⟨rfl, rfl, rfl, rfl⟩) pe_str (nomark _))) pa_nil)))) pss_nil)
      (pss_cons (ps_if (pt_cmpR op_eq (pe_ix ix_tup (pv 1) (pe_num (by rfl) mW) (fun _ _ => rfl)) pe_str (nomark _)) (pss_one (ps_ret (pe_cmpR (op_inTS hr.units) (pe_dget1 hu (pv 0) (pe_ix ix_tup (pv 1) (pe_num (by rfl) mO) (fun _ _ => rfl)) ⟨rfl, rfl, rfl, rfl⟩) (show PE _ _ (tC (.ref aC)) from pe_glob (by rfl) gC rfl) (by rfl)))) pss_nil)
      (pss_one (ps_ret (pe_cmpR op_eq (pe_dget1 hu (pv 0) (pe_ix ix_tup (pv 1) (pe_num (by rfl) mO) (fun _ _ => rfl)) ⟨rfl, rfl, rfl, rfl⟩) pe_str (nomark _))))), ?_⟩
    obtain ⟨num, b, c, d, z, ff, r, rfl, hsh⟩ := entT_shape hent
    obtain ⟨a, xs, ts, rfl, ets, ea, hts⟩ := hT.tupOf rfl
    injection ets with ets
    subst ets
    obtain ⟨xz, gz, hz4⟩ := tup_at hts (i := 4) rfl
    obtain ⟨xf, gf, hf5⟩ := tup_at hts (i := 5) rfl
    cases hz4
    refine ⟨_, rfl, a, xs, 4, _, rfl, rfl, SqT.of ea, atI_nat (j := 4) gz, rfl, _, rfl, ?_⟩
    have q1 : ∀ H', Same H H' → Q (.bl (if z = "deed" then (restsT (.tup (.int num :: b :: c :: d :: .str z :: ff :: r))).all (fun r => decide (getW kvs r = .str "deed")) else if z = "undone" then decide (getW kvs ff.toI ∈ ([("paid" : Str), "void", "undone"] : List Str).map V.str) else decide (getW kvs ff.toI = .str "deed"))) H' := q
    rcases hsh with ⟨rfl, g, rs, u, rfl, hrl⟩ | ⟨hnd, hza, o, rfl, rfl⟩
    · rw [show decide (V.str "deed" = V.str "deed") = true from decide_eq_true rfl]
      refine iteT ?_
      simp only [if_true] at q1
      obtain ⟨xr, gr, hr7⟩ := tup_at hts (i := 7) rfl
      obtain ⟨ra, rxs, rts, rfl, erts, era, hrts⟩ := hr7.tupOf rfl
      injection erts with erts
      subst erts
      have hrx : rxs = rs.map V.int := TgAll.int_only hrts
      subst hrx
      have q2 : ∀ H', Same H H' → Q (.bl (rs.all (fun r => decide (getW kvs r = .str "deed")))) H' := by
        have e : restsT (.tup [.int num, b, c, d, .str "deed", ff, g, .tup (rs.map Tg.int), u]) = rs := by
          show (rs.map Tg.int).map Tg.toI = rs
          rw [List.map_map]
          exact List.map_id'' (fun _ => rfl) rs
        rw [e] at q1
        exact q1
      refine ⟨_, rfl, a, xs, 7, _, rfl, rfl, SqT.of ea, atI_nat (j := 7) gr, ra, rfl, ⟨_, SqT.of era⟩, fun M nM => ?_⟩
      refine lc_sameM (walk_tup (xs := rs.map V.int)) rs (fun y => .bl (decide (getW kvs y = .str "deed"))) (by rw [List.length_map]) (by omega) nM (fun H s => SqT.of (s _ _ era)) ?_ ?_
      · rintro i y x H2' H2 hy s2 ⟨rfl, hx⟩ Q1 q1'
        rw [List.getElem?_map, hy] at hx
        injection hx with hx
        subst hx
        exact ⟨rfl, _, rfl, wd, rfl, .inl ⟨_, .inl (s2 _ _ ewd)⟩, _, rfl, _, DGet.k (k := Sum.inl y) (s2 _ _ ewd), getW_scal hwd y _, q1' _ (same_refl _)⟩
      intro H2 s2 eM
      refine ⟨M, rs.map (fun r => decide (getW kvs r = .str "deed")), rfl, SqL.of (by rw [eM, List.map_map]; rfl), ?_⟩
      rw [all_map_id]
      exact q2 _ s2
    · rw [show decide (V.str z = V.str "deed") = false from decide_eq_false fun e => hnd (by injection e)]
      refine iteF ?_
      rw [if_neg hnd] at q1
      cases hf5
      have q2 := q1 H (same_refl _)
      refine ⟨_, rfl, a, xs, 4, _, rfl, rfl, SqT.of ea, atI_nat (j := 4) gz, rfl, _, rfl, ?_⟩
      by_cases hun : z = "undone"
      · rw [show decide (V.str z = V.str "undone") = true from decide_eq_true (by rw [hun])]
        refine iteT ?_
        rw [if_pos hun] at q2
        refine ⟨_, rfl, wd, rfl, .inl ⟨_, .inl ewd⟩, _, rfl, a, xs, 5, _, rfl, rfl, SqT.of ea, atI_nat (j := 5) gf, _, DGet.k (k := Sum.inl o) ewd, aC, [("paid" : Str), "void", "undone"], rfl, .inr (AW.2 _), getW_knd hwd o _, ?_⟩
        simp only [Bool.false_eq_true, if_false]
        exact q2
      · rw [show decide (V.str z = V.str "undone") = false from decide_eq_false fun e => hun (by injection e)]
        refine iteF ?_
        rw [if_neg hun] at q2
        exact ⟨_, rfl, wd, rfl, .inl ⟨_, .inl ewd⟩, _, rfl, a, xs, 5, _, rfl, rfl, SqT.of ea, atI_nat (j := 5) gf, _, DGet.k (k := Sum.inl o) ewd, getW_scal hwd o _, q2⟩
end
end Deed

namespace Deed
open PySem PySem.Spec PyProof.Rows L2 LamX
/-! entries as things; what an entry more is -/
def entT (e : En) : Tg := match e.kd with
  | .deed g t rs ws => .tup [.int e.num, .int e.day, .int e.wri, .int e.hand, .str "deed", .int g, .int t, .tup (rs.map Tg.int), .tup (ws.map Tg.int)]
  | .act x o => .tup [.int e.num, .int e.day, .int e.wri, .int e.hand, .str x, .int o]
theorem EntAt.tg {p : Addr} {H : Hp} {a : Addr} {e : En} (h : EntAt H a e) : TgAt p H (.ref a) (entT e) := by
  unfold EntAt at h
  unfold entT
  cases hkd : e.kd with
  | deed g t rs ws =>
    rw [hkd] at h
    obtain ⟨r, w, h1, h2, h3⟩ := h
    exact .tup h1 (.cons (.int _) (.cons (.int _) (.cons (.int _) (.cons (.int _) (.cons (.str _) (.cons (.int _) (.cons (.int _) (.cons (.tup h2 (TgAll.ints rs)) (.cons (.tup h3 (TgAll.ints ws)) .nil)))))))))
  | act x o =>
    rw [hkd] at h
    exact .tup h (.cons (.int _) (.cons (.int _) (.cons (.int _) (.cons (.int _) (.cons (.str _) (.cons (.int _) .nil))))))
theorem all_int (lo hi : Int) (rs : List Int) : ((rs.map Tg.int).all (Tg.within lo hi) = true) ↔ ∀ r ∈ rs, lo ≤ r ∧ r ≤ hi := by
  rw [List.all_map, List.all_eq_true]
  constructor
  · intro h r hr
    have := h r hr
    simp only [Function.comp_apply, Tg.within, Bool.and_eq_true, decide_eq_true_eq] at this
    exact this
  · intro h r hr
    simp only [Function.comp_apply, Tg.within, Bool.and_eq_true, decide_eq_true_eq]
    exact h r hr
theorem toI_int (rs : List Int) : (rs.map Tg.int).map Tg.toI = rs := by
  rw [List.map_map]
  exact (List.map_congr_left fun _ _ => rfl).trans (List.map_id _)
theorem risT_int {m l : Int} {rs : List Int} : (risT m l (.tup (rs.map Tg.int)) = true) ↔ (rs.length : Int) ≤ m ∧ (∀ r ∈ rs, 0 ≤ r ∧ r ≤ l - 1) ∧ rs.Pairwise (· < ·) := by
  unfold risT
  rw [Bool.and_eq_true, Bool.and_eq_true, all_int, toI_int, risI_iff, decide_eq_true_eq, List.length_map]
/-- an entry as is_entry asks -/
def EntOk (n : Nat) (e : En) : Prop := (0 ≤ e.num ∧ e.num ≤ 30) ∧ (0 ≤ e.day ∧ e.day ≤ 9999) ∧ (0 ≤ e.wri ∧ e.wri ≤ 9999) ∧ (0 ≤ e.hand ∧ e.hand ≤ 3) ∧ match e.kd with
  | .deed g t rs ws => (0 ≤ g ∧ g ≤ (n : Int) - 1) ∧ (0 ≤ t ∧ t ≤ (n : Int) - 1) ∧ g ≠ t ∧ ((rs.length : Int) ≤ 2 ∧ (∀ r ∈ rs, 0 ≤ r ∧ r ≤ e.num - 1) ∧ rs.Pairwise (· < ·)) ∧ ((ws.length : Int) ≤ 3 ∧ (∀ r ∈ ws, 0 ≤ r ∧ r ≤ (n : Int) - 1) ∧ ws.Pairwise (· < ·)) ∧ g ∉ ws ∧ t ∉ ws
  | .act x o => x ∈ [("paid" : Str), "void", "undone"] ∧ (0 ≤ o ∧ o ≤ e.num - 1)
theorem isEntT_iff {n : Nat} {e : En} (hx : ∀ x o, e.kd = .act x o → x ≠ "deed") : (isEntT n (entT e) = true) ↔ EntOk n e := by
  unfold entT EntOk
  cases hk : e.kd with
  | deed g t rs ws =>
    show ((Tg.int e.num).within 0 30 && ((Tg.int e.day).within 0 9999 && ((Tg.int e.wri).within 0 9999 && ((Tg.int e.hand).within 0 3 && deedTailT n e.num [.int g, .int t, .tup (rs.map Tg.int), .tup (ws.map Tg.int)])))) = true ↔ _
    have hw : ∀ x, (hasI x (.tup (ws.map Tg.int))) = decide (x ∈ ws) := fun x => by
      show decide (x ∈ (ws.map Tg.int).map Tg.toI) = _
      rw [toI_int]
    show ((Tg.int e.num).within 0 30 && ((Tg.int e.day).within 0 9999 && ((Tg.int e.wri).within 0 9999 && ((Tg.int e.hand).within 0 3 && ((Tg.int g).within 0 ((n : Int) - 1) && ((Tg.int t).within 0 ((n : Int) - 1) && (!decide (g = t) && (risT 2 e.num (.tup (rs.map Tg.int)) && (risT 3 n (.tup (ws.map Tg.int)) && (!hasI g (.tup (ws.map Tg.int)) && !hasI t (.tup (ws.map Tg.int)))))))))))) = true ↔ _
    simp only [Bool.and_eq_true, Tg.within, decide_eq_true_eq, risT_int, hw, Bool.not_eq_true', decide_eq_false_iff_not, ne_eq]
  | act x o =>
    have hne := hx x o hk
    show ((Tg.int e.num).within 0 30 && ((Tg.int e.day).within 0 9999 && ((Tg.int e.wri).within 0 9999 && ((Tg.int e.hand).within 0 3 && (if x = "deed" then deedTailT n e.num [.int o] else decide (x ∈ [("paid" : Str), "void", "undone"]) && actTailT e.num [.int o]))))) = true ↔ _
    rw [if_neg hne]
    unfold actTailT
    simp only [Bool.and_eq_true, Tg.within, decide_eq_true_eq]
/-- an act may be of what is no less than it -/
def EnWk (n : Nat) (ds as : List Int) (e : En) : Prop := match e.kd with
  | .deed _ _ rs _ => ∀ r ∈ rs, r ∈ ds
  | .act x o => (x = "undone" ∧ o ∈ as) ∨ ((x = "paid" ∨ x = "void") ∧ o ∈ ds)
theorem EnOk.wk {n : Nat} {ds as : List Int} {e : En} (h : EnOk n ds as e) : EnWk n ds as e := by
  unfold EnOk at h
  unfold EnWk
  obtain ⟨_, _, _, d⟩ := h
  cases hk : e.kd with
  | deed g t rs ws =>
    rw [hk] at d
    exact fun r hr => (d.2.2.2.2.2.1 r hr).1
  | act x o =>
    rw [hk] at d
    exact d.1
theorem EnWk.neD {n : Nat} {ds as : List Int} {e : En} (h : EnWk n ds as e) : ∀ x o, e.kd = .act x o → x ≠ "deed" := fun x o hk z => by
  unfold EnWk at h
  rw [hk, z] at h
  rcases h with ⟨h, _⟩ | ⟨h | h, _⟩ <;> exact absurd h (by decide)
theorem EnWk.word {n : Nat} {ds as : List Int} {e : En} (h : EnWk n ds as e) : e.word = "deed" ↔ e.isDeed = true := by
  unfold En.word En.isDeed
  cases hk : e.kd with
  | deed g t rs ws => exact ⟨fun _ => rfl, fun _ => rfl⟩
  | act x o => exact ⟨fun z => absurd z (h.neD x o hk), fun z => nomatch z⟩
/-- as few names -/
theorem EnOk.entOk {n : Nat} {ds as : List Int} {e : En} (h : EnOk n ds as e) (hn : 0 ≤ e.num ∧ e.num ≤ 30) (hd : ∀ d ∈ ds, 0 ≤ d) (ha : ∀ d ∈ as, 0 ≤ d) : EntOk n e := by
  unfold EnOk at h
  unfold EntOk
  obtain ⟨a, b, c, d⟩ := h
  refine ⟨hn, a, b, c, ?_⟩
  cases hk : e.kd with
  | deed g t rs ws =>
    rw [hk] at d
    obtain ⟨d1, d2, d3, d4, d5, d6, d7, d8, d9⟩ := d
    exact ⟨⟨d1.1, by omega⟩, ⟨d2.1, by omega⟩, d3, ⟨by omega, fun r hr => ⟨hd r (d6 r hr).1, by have := (d6 r hr).2; omega⟩, d5⟩, ⟨by omega, fun r hr => ⟨(d9 r hr).1, by have := (d9 r hr).2.1; omega⟩, d8⟩, fun z => (d9 g z).2.2.1 rfl, fun z => (d9 t z).2.2.2 rfl⟩
  | act x o =>
    rw [hk] at d
    refine ⟨?_, ?_, by omega⟩
    · rcases d.1 with ⟨z, _⟩ | ⟨z | z, _⟩ <;> rw [z] <;> decide
    · rcases d.1 with ⟨_, z⟩ | ⟨_, z⟩
      · exact ha o z
      · exact hd o z
theorem EntOk.enOk {n : Nat} {ds as : List Int} {e : En} (h : EntOk n e) (hd : ∀ r ∈ e.rests, r ∈ ds) (ha : e.isDeed = false → (e.word = "undone" ∧ e.of ∈ as) ∨ ((e.word = "paid" ∨ e.word = "void") ∧ e.of ∈ ds)) : EnOk n ds as e := by
  unfold EntOk at h
  unfold EnOk
  obtain ⟨_, a, b, c, d⟩ := h
  refine ⟨a, b, c, ?_⟩
  unfold En.rests at hd
  unfold En.isDeed En.word En.of at ha
  cases hk : e.kd with
  | deed g t rs ws =>
    rw [hk] at d hd
    obtain ⟨d1, d2, d3, ⟨d4, d5, d6⟩, ⟨d7, d8, d9⟩, d10, d11⟩ := d
    exact ⟨⟨d1.1, by omega⟩, ⟨d2.1, by omega⟩, d3, by omega, d6, fun r hr => ⟨hd r hr, by have := (d5 r hr).2; omega⟩, by omega, d9, fun x hx => ⟨(d8 x hx).1, by have := (d8 x hx).2; omega, fun z => d10 (z ▸ hx), fun z => d11 (z ▸ hx)⟩⟩
  | act x o =>
    rw [hk] at d ha
    exact ⟨ha rfl, by omega⟩
end Deed

namespace Deed
open PySem PySem.Spec PyProof.Rows L2 LamX RZ
/-! ### whether names fit -/
abbrev wdk (es : List En) : List (Key × V) := es.map fun e => (Sum.inl e.num, V.str e.word)
theorem valV_none {α : Type} {f : α → Int} {g : α → V} {l : List α} {r : Int} (h : ∀ z ∈ l, f z ≠ r) : valV (l.map fun z => ((Sum.inl (f z) : Key), g z)) (.inl r) = none := by
  induction l with
  | nil => rfl
  | cons y l ih =>
    show Option.map (·.2) (List.find? (fun kv => decide (kv.1 = (Sum.inl r : Key))) ((Sum.inl (f y), g y) :: l.map fun z => ((Sum.inl (f z) : Key), g z))) = _
    rw [List.find?_cons]
    have hne : ¬ (Sum.inl (f y) : Key) = Sum.inl r := fun q => h y List.mem_cons_self (Sum.inl.inj q)
    rw [decide_eq_false hne]
    exact ih fun z hz => h z (List.mem_cons_of_mem _ hz)
structure EsOk (es : List En) : Prop where
  nd : (es.map (·.num)).Nodup
  wd : ∀ e ∈ es, (e.word = "deed" ↔ e.isDeed = true)
  aw : ∀ e ∈ es, e.isDeed = false → e.word ∈ ([("paid" : Str), "void", "undone"] : List Str)
theorem num_one {es : List En} (nd : (es.map (·.num)).Nodup) {u v : En} (hu : u ∈ es) (hv : v ∈ es) (e : u.num = v.num) : u = v := by
  induction es with
  | nil => cases hu
  | cons x l ih =>
    have h2 := List.nodup_cons.mp (show (x.num :: l.map (·.num)).Nodup from nd)
    rcases List.mem_cons.mp hu with h1 | h1
    · rcases List.mem_cons.mp hv with h3 | h3
      · rw [h1, h3]
      · exact absurd (show x.num ∈ l.map (·.num) from List.mem_map.mpr ⟨v, h3, by rw [← e, h1]⟩) h2.1
    · rcases List.mem_cons.mp hv with h3 | h3
      · exact absurd (show x.num ∈ l.map (·.num) from List.mem_map.mpr ⟨u, h1, by rw [e, h3]⟩) h2.1
      · exact ih h2.2 h1 h3
theorem get_deed {es : List En} (h : EsOk es) (r : Int) : decide ((valV (wdk es) (.inl r)).getD .non = V.str "deed") = decide (r ∈ dn es) := by
  by_cases hr : ∃ u ∈ es, u.num = r
  · obtain ⟨u, hu, rfl⟩ := hr
    rw [valV_map (f := fun e : En => e.num) (g := fun e : En => V.str e.word) h.nd hu]
    refine decide_eq_decide.mpr ⟨fun z => ?_, fun z => ?_⟩
    · injection z with z
      exact mem_dn.mpr ⟨u, hu, (h.wd u hu).mp z, rfl⟩
    · obtain ⟨v, hv, hd, e⟩ := mem_dn.mp z
      have := num_one h.nd hv hu e
      subst this
      show V.str v.word = V.str "deed"
      rw [(h.wd v hv).mpr hd]
  · rw [valV_none (f := fun e : En => e.num) (g := fun e : En => V.str e.word) fun z hz e => hr ⟨z, hz, e⟩]
    refine decide_eq_decide.mpr ⟨fun z => (by cases z), fun z => ?_⟩
    obtain ⟨v, hv, _, e⟩ := mem_dn.mp z
    exact absurd ⟨v, hv, e⟩ hr
theorem mem_an' {es : List En} {r : Int} : r ∈ an es ↔ ∃ u ∈ es, u.isDeed = false ∧ u.num = r := by
  unfold an
  rw [List.mem_map]
  constructor
  · rintro ⟨u, hu, e⟩
    obtain ⟨h1, h2⟩ := List.mem_filter.mp hu
    exact ⟨u, h1, by simpa using h2, e⟩
  · rintro ⟨u, hu, hd, e⟩
    exact ⟨u, List.mem_filter.mpr ⟨hu, by simp [hd]⟩, e⟩
theorem get_act {es : List En} (h : EsOk es) (r : Int) : inV ((valV (wdk es) (.inl r)).getD .non) [V.str "paid", V.str "void", V.str "undone"] = decide (r ∈ an es) := by
  by_cases hr : ∃ u ∈ es, u.num = r
  · obtain ⟨u, hu, rfl⟩ := hr
    rw [valV_map (f := fun e : En => e.num) (g := fun e : En => V.str e.word) h.nd hu]
    refine (mem_inS (x := u.word) (ws := ["paid", "void", "undone"])).trans (decide_eq_decide.mpr ⟨fun z => ?_, fun z => ?_⟩)
    · refine mem_an'.mpr ⟨u, hu, ?_, rfl⟩
      cases hd : u.isDeed with
      | false => rfl
      | true =>
        rw [(h.wd u hu).mpr hd] at z
        exact absurd z (by decide +kernel)
    · obtain ⟨v, hv, hd, e⟩ := mem_an'.mp z
      have := num_one h.nd hv hu e
      subst this
      exact h.aw v hv hd
  · rw [valV_none (f := fun e : En => e.num) (g := fun e : En => V.str e.word) fun z hz e => hr ⟨z, hz, e⟩]
    have : ¬ r ∈ an es := fun z => by
      obtain ⟨v, hv, _, e⟩ := mem_an'.mp z
      exact hr ⟨v, hv, e⟩
    rw [decide_eq_false this]
    rfl
end Deed

namespace Deed
open PySem PySem.Spec PyProof.Rows L2 LamX
def fitE (es : List En) (e : En) : Bool := if e.isDeed = true then e.rests.all (fun r => decide (r ∈ dn es)) else if e.word = "undone" then decide (e.of ∈ an es) else decide (e.of ∈ dn es)
theorem BkOk.esOk {n : Nat} {es : List En} (h : BkOk n es) : EsOk es := by
  refine ⟨h.nd, fun e he => (h.ok e he).word, fun e he hd => ?_⟩
  have h4 := (h.ok e he).2.2.2
  unfold En.isDeed at hd
  unfold En.word
  cases hk : e.kd with
  | deed g t rs ws => rw [hk] at hd; cases hd
  | act x o =>
    rw [hk] at h4
    rcases h4.1 with ⟨z, _⟩ | ⟨z | z, _⟩ <;> (show x ∈ _; rw [z]; decide)
theorem wordT_ent (e : En) : wordT (entT e) = e.word := by
  unfold entT En.word
  cases e.kd <;> rfl
theorem restsT_ent {e : En} (h : e.isDeed = true) : restsT (entT e) = e.rests := by
  unfold entT En.rests
  unfold En.isDeed at h
  cases hk : e.kd with
  | deed g t rs ws => exact toI_int rs
  | act x o => rw [hk] at h; cases h
theorem ofT_ent {e : En} (h : e.isDeed = false) : ofT (entT e) = e.of := by
  unfold entT En.of
  unfold En.isDeed at h
  cases hk : e.kd with
  | deed g t rs ws => rw [hk] at h; cases h
  | act x o => rfl
theorem numT_ent (e : En) : numT (entT e) = e.num := by
  unfold entT
  cases e.kd <;> rfl
theorem wdk_ok (es : List En) : WdOk (wdk es) := fun kv hkv => by
  obtain ⟨e, _, rfl⟩ := List.mem_map.mp hkv
  exact ⟨_, rfl⟩
theorem fitT_ent {es : List En} (hs : EsOk es) {e : En} (hw : e.word = "deed" ↔ e.isDeed = true) : fitT (wdk es) (entT e) = fitE es e := by
  unfold fitT fitE
  rw [wordT_ent]
  cases hd : e.isDeed with
  | true =>
    rw [if_pos (hw.mpr hd), if_pos rfl, restsT_ent hd]
    congr 1
    funext r
    exact get_deed hs r
  | false =>
    rw [if_neg (fun z => by rw [hw.mp z] at hd; cases hd), if_neg (show ¬ (false = true) by decide), ofT_ent hd]
    by_cases hu : e.word = "undone"
    · rw [if_pos hu, if_pos hu, ← get_act hs e.of]
      show decide (getW (wdk es) e.of ∈ ([("paid" : Str), "void", "undone"] : List Str).map V.str) = inV (getW (wdk es) e.of) (([("paid" : Str), "void", "undone"] : List Str).map V.str)
      rcases getW_or (wdk_ok es) e.of with z | ⟨x, z⟩ <;> rw [z]
      · exact (decide_eq_false (by simp)).trans (by rfl)
      · rw [mem_inS]
        exact decide_eq_decide.mpr ⟨fun q => by
          obtain ⟨y, hy, e⟩ := List.mem_map.mp q
          injection e with e
          exact e ▸ hy, fun q => List.mem_map.mpr ⟨x, q, rfl⟩⟩
    · rw [if_neg hu, if_neg hu]
      exact get_deed hs e.of
theorem dn_app (es : List En) (e : En) : dn (es ++ [e]) = dn es ++ (if e.isDeed = true then [e.num] else []) := by
  unfold dn
  rw [List.filter_append, List.map_append, List.filter_cons]
  cases e.isDeed <;> rfl
theorem an_app (es : List En) (e : En) : an (es ++ [e]) = an es ++ (if e.isDeed = true then [] else [e.num]) := by
  unfold an
  rw [List.filter_append, List.map_append, List.filter_cons]
  cases e.isDeed <;> rfl
/-- what a good entry more names is there already -/
theorem more_names {n : Nat} {es : List En} {e : En} (h : BkOk n (es ++ [e])) : (∀ r ∈ e.rests, r ∈ dn es) ∧ (e.isDeed = false → (e.word = "undone" ∧ e.of ∈ an es) ∨ ((e.word = "paid" ∨ e.word = "void") ∧ e.of ∈ dn es)) := by
  have h4 := (h.ok e (by simp)).2.2.2
  have ne : ∀ {r : Int}, r < e.num → r ∈ dn (es ++ [e]) → r ∈ dn es := fun {r} hl hr => by
    rw [dn_app] at hr
    rcases List.mem_append.mp hr with h | h
    · exact h
    · cases hd : e.isDeed with
      | true =>
        rw [hd, if_pos rfl] at h
        have := List.mem_singleton.mp h
        omega
      | false =>
        rw [hd, if_neg (by decide)] at h
        cases h
  have na : ∀ {r : Int}, r < e.num → r ∈ an (es ++ [e]) → r ∈ an es := fun {r} hl hr => by
    rw [an_app] at hr
    rcases List.mem_append.mp hr with h | h
    · exact h
    · cases hd : e.isDeed with
      | false =>
        rw [hd, if_neg (by decide)] at h
        have := List.mem_singleton.mp h
        omega
      | true =>
        rw [hd, if_pos rfl] at h
        cases h
  unfold En.rests En.isDeed En.word En.of
  cases hk : e.kd with
  | deed g t rs ws =>
    rw [hk] at h4
    exact ⟨fun r hr => ne (h4.2.2.2.2.2.1 r hr).2 (h4.2.2.2.2.2.1 r hr).1, fun z => nomatch z⟩
  | act x o =>
    rw [hk] at h4
    refine ⟨fun r hr => (nomatch hr), fun _ => ?_⟩
    rcases h4.1 with ⟨z, ho⟩ | ⟨z, ho⟩
    · exact .inl ⟨z, na h4.2 ho⟩
    · exact .inr ⟨z, ne h4.2 ho⟩
theorem BkOk.less {n : Nat} {es : List En} {e : En} (h : BkOk n (es ++ [e])) : EntOk n e ∧ e.num ∉ es.map (·.num) ∧ (e.word = "deed" ↔ e.isDeed = true) ∧ fitE es e = true := by
  have he : e ∈ es ++ [e] := by simp
  have hr := h.rng e he
  have hdn : ∀ d ∈ dn (es ++ [e]), 0 ≤ d := fun d hd => by
    obtain ⟨u, hu, _, rfl⟩ := mem_dn.mp hd
    exact (h.rng u hu).1
  have han : ∀ d ∈ an (es ++ [e]), 0 ≤ d := fun d hd => by
    obtain ⟨u, hu, _, rfl⟩ := mem_an.mp hd
    exact (h.rng u hu).1
  refine ⟨(h.ok e he).entOk hr hdn han, ?_, (h.ok e he).word, ?_⟩
  · have nd := h.nd
    rw [List.map_append, List.map_cons, List.map_nil] at nd
    intro z
    exact (List.nodup_append.mp nd).2.2 _ z _ (by simp) rfl
  · obtain ⟨m1, m2⟩ := more_names h
    unfold fitE
    cases hd : e.isDeed with
    | true =>
      rw [if_pos rfl, List.all_eq_true]
      exact fun r hr => decide_eq_true (m1 r hr)
    | false =>
      rw [if_neg (by decide)]
      rcases m2 hd with ⟨z, ho⟩ | ⟨z, ho⟩
      · rw [if_pos z]
        exact decide_eq_true ho
      · rw [if_neg (fun q => by rcases z with z | z <;> (rw [z] at q; exact absurd q (by decide)))]
        exact decide_eq_true ho
theorem wdk_snoc {es : List En} {e : En} (h : e.num ∉ es.map (·.num)) : putK (wdk es) (.inl e.num) (.str e.word) = wdk (es ++ [e]) := by
  rw [putK_new]
  · rw [show wdk (es ++ [e]) = wdk es ++ [(Sum.inl e.num, V.str e.word)] from List.map_append]
  · intro z
    obtain ⟨kv, hkv, e2⟩ := List.mem_map.mp z
    obtain ⟨u, hu, rfl⟩ := List.mem_map.mp hkv
    exact h (List.mem_map.mpr ⟨u, hu, Sum.inl.inj e2⟩)
end Deed

namespace Deed
open PySem PySem.Spec PyProof.Rows L2 LamX
section
variable {P : Program} {w : World} {K : PySem.W.Frag} {mg : Str → Option Value} {base : Heap} {T : List (Addr × Str)}
abbrev sWithE : Stmt := topS 44
abbrev nWithE : List Str := ["book", "entry", "folk", "age", "entries", "words", "other"]
abbrev pWithE : List Str := ["book", "entry"]
theorem scWithE : FnScope nWithE pWithE (defScope sWithE) := ⟨rfl, rfl, rfl, by decide +kernel, rfl, by decide +kernel, by decide +kernel⟩
def spWithE : Sp := fun vs H Q _ => ∃ (b fk t a : Addr) (n : Nat) (age : Int) (zs : List (Addr × En)) (e : En), vs = [.ref b, .ref a] ∧ BookAt H b fk t n age zs ∧ EntAt H a e ∧ BkOk n (ens zs ++ [e]) ∧ zs.length < 16 ∧ ∀ b' t' H', Same H H' → BookAt H' b' fk t' n age (zs ++ [(a, e)]) → Q (.ref b') H'
theorem ok_WithE {f : Addr} {fd : FuncData} {k : Nat} (F : Fun K "with_entry" "with_entry" sWithE f fd) (C_is_entry : CallOk P w K mg base k "is_entry" pIsEntG spEntG) (C_names_fit : CallOk P w K mg base k "names_fit" pNFit spNFit) (m_len : mg "len" = none) (iNUMBER : MgInt mg "NUMBER" 0) (iWORD : MgInt mg "WORD" 4) (iMOST_ENTRIES : MgInt mg "MOST_ENTRIES" 16) : FnOk P w K mg base CX0 (k + 1) f fd pWithE spWithE := by
  refine F.ok scWithE (fun vs H Q E h => ?_) (fun cdv A outer s H vs Q E hr h => ?_)
  · obtain ⟨b, fk, t, a, n, age, zs, e, rfl, _⟩ := h
    rfl
  · obtain ⟨b, fk, t, a, n, age, zs, e, rfl, hB, hE, hM, hl, q⟩ := h
    have nd := scWithE.nd
    have hu := hu_of hr
    refine ⟨_, pss_cons (ps_asg (pv 0) (pg_tup (by rfl) (pgs_cons (pg_name (i := 2) nd rfl (.inl rfl)) (pgs_cons (pg_name (i := 3) nd rfl (.inl rfl)) (pgs_cons (pg_name (i := 4) nd rfl (.inl rfl)) pgs_nil)))))
      (pss_cons (ps_if (pt_not (pt_val (pe_call C_is_entry.ok hr (by rfl) C_is_entry.g C_is_entry.kp C_is_entry.b .nil pass0 (pa_cons (pv 2) (pa_cons (pv 1) pa_nil))))) pss_never pss_nil)
      (pss_cons (ps_setDc (i := 5) (own := [("other", 6)]) (g := gName 6) (by rfl) nd rfl rfl (swD_true rfl rfl rfl (by decide +kernel)) (pi_tup (pv 4)) (blkOk_by (own := [("other", 6)]) (N := nWithE) (sc := defScope sWithE) (by decide +kernel)) (fun _ _ _ _ _ => pg_name (i := 6) nd rfl (Or.inl rfl)) (fun _ _ _ _ _ => pts_nil)
          (fun _ _ _ _ _ => show PE _ _ (tOp (rIxT K) (tVar 6) (tC (.int 0))) from pe_ix ix_tup (pv 6) (pe_num (by rfl) iNUMBER) (fun _ _ => rfl)) (fun _ _ _ _ _ => show PE _ _ (tOp (rIxT K) (tVar 6) (tC (.int 4))) from pe_ix ix_tup (pv 6) (pe_num (by rfl) iWORD) (fun _ _ => rfl)))
      (pss_cons (ps_if (pt_cmp (pc_din hu (pe_ix ix_tup (pv 1) (pe_num (by rfl) iNUMBER) (fun _ _ => rfl)) (pv 5))) pss_never pss_nil)
      (pss_cons (ps_if (pt_not (pt_val (pe_call C_names_fit.ok hr (by rfl) C_names_fit.g C_names_fit.kp C_names_fit.b .nil pass0 (pa_cons (pv 5) (pa_cons (pv 1) pa_nil))))) pss_never pss_nil)
      (pss_cons (ps_if (pt_cmpR op_ge (pe_callB call_len_seq (by rfl) m_len (by decide +kernel) (pa_cons (pv 4) pa_nil)) (pe_num (by rfl) iMOST_ENTRIES) (nomark _)) pss_never pss_nil)
      (pss_one (ps_ret (pe_tup (pa_cons (pv 2) (pa_cons (pv 3) (pa_cons (pe_op op_catA (pv 4) (pe_tup (pa_cons (pv 1) pa_nil))) pa_nil))))))))))), ?_⟩
    obtain ⟨hEo, hnum, hwd, hfit⟩ := hM.less
    have hneD : ∀ x o, e.kd = .act x o → x ≠ "deed" := fun x o hk z => by
      have h1 : e.word = "deed" := by
        unfold En.word
        rw [hk]
        exact z
      have h2 := hwd.mp h1
      unfold En.isDeed at h2
      rw [hk] at h2
      cases h2
    have hisE : isEntT n (entT e) = true := (isEntT_iff hneD).mpr hEo
    refine ⟨_, rfl, b, _, rfl, SqT.of hB.at_, rfl, _, _, rfl, _, _, rfl, _, _, rfl, rfl, ?_⟩
    obtain ⟨ts, hts, htl, _, hfo⟩ := folk_tg (p := b) hB.folk (by have := hB.n6; omega)
    refine ⟨_, rfl, _, rfl, b, _, _, _, _, rfl, hts, hE.tg, fun H1 s1 => ⟨_, rfl, ?_⟩⟩
    have hf1 : (isFolkT (.tup ts) && isEntT (lenT (.tup ts)) (entT e)) = true := by
      have h1 : isFolkT (.tup ts) = true := by
        show ((decide (1 ≤ ts.length) && decide (ts.length ≤ 6)) && ts.all isPersonT) = true
        rw [hfo, htl, decide_eq_true (by have := hB.n2; omega), decide_eq_true hB.n6]
        rfl
      have h2 : lenT (.tup ts) = n := by
        show ((ts.length : Nat) : Int) = n
        rw [htl]
      rw [h1, h2, hisE]
      rfl
    rw [hf1]
    refine iteF ?_
    have et1 := s1 _ _ hB.ents
    refine ⟨_, rfl, t, rfl, ⟨_, SqT.of et1⟩, fun W nW => ?_⟩
    refine dc_tup (K := K) (a := t) (xs := refs zs) (fun i H' => H' W = some (.dK (wdk ((ens zs).take i))) ∧ Same H1 H') ⟨upd_same, same_new nW _⟩ (fun i H' _ h => SqT.of (h.2 _ _ et1)) ?_ ?_
    · rintro i x H' hx ⟨eW, sm⟩
      rw [List.getElem?_map] at hx
      cases hz : zs[i]? with
      | none => rw [hz] at hx; cases hx
      | some z =>
        rw [hz] at hx
        injection hx with hx
        subst hx
        have hzm := List.mem_of_getElem? hz
        obtain ⟨xs, ex, g0, _, _, _, g4⟩ := ((hB.ent z hzm).kp ((Same.tup (s1.trans sm)))).tup
        have hz2 : (ens zs)[i]? = some z.2 := by rw [List.getElem?_map, hz]; rfl
        have hni : z.2.num ∉ ((ens zs).take i).map (·.num) := by
          have nd := hB.ok.nd
          have hsp : (ens zs).take (i + 1) = (ens zs).take i ++ [z.2] := take_more hz2
          have nd2 : (((ens zs).take (i + 1)).map (·.num)).Nodup := ((List.take_sublist _ _).map _).nodup nd
          rw [hsp, List.map_append] at nd2
          intro q
          exact (List.nodup_append.mp nd2).2.2 _ q _ (by simp) rfl
        refine ⟨rfl, ?_⟩
        unfold tYes
        dsimp only
        rw [if_pos rfl]
        refine ⟨_, rfl, z.1, xs, 0, _, rfl, rfl, SqT.of ex, g0, _, rfl, z.1, xs, 4, _, rfl, rfl, SqT.of ex, g4, _, Sum.inl z.2.num, rfl, eW, small1000 (by have := hB.len; rw [List.length_map, List.length_take, List.length_map]; omega), ?_, same_put nW sm _⟩
        rw [upd_same, wdk_snoc hni, ← take_more hz2]
    rintro H2 ⟨eW, s2⟩
    have s02 := s1.trans s2
    rw [show (refs zs).length = (ens zs).length by rw [List.length_map, List.length_map], List.take_length] at eW
    obtain ⟨xe, exe, g0, _, _, _, g4⟩ := (hE.kp (Same.tup s02)).tup
    have hno : DGet H2 W (.int e.num) none := by
      have h4 := DGet.k (k := Sum.inl e.num) eW
      rw [valV_none (fun q hq => ?_)] at h4
      · exact h4
      · exact fun z => hnum (List.mem_map.mpr ⟨q, hq, z⟩)
    refine ⟨_, rfl, a, xe, 0, _, rfl, rfl, SqT.of exe, g0, _, rfl, W, _, rfl, hno, _, rfl, ?_⟩
    refine iteF ?_
    refine ⟨_, rfl, _, rfl, b, W, wdk (ens zs), _, _, n, rfl, eW, wdk_ok _, (hE.kp (Same.tup s02)).tg, hisE, fun H3 s3 => ⟨_, rfl, ?_⟩⟩
    rw [fitT_ent hB.ok.esOk hwd, hfit]
    refine iteF ?_
    have s03 := s02.trans s3
    refine ⟨_, rfl, t, _, rfl, .inr (SqT.of (s03 _ _ hB.ents)), _, _, rfl, rfl, _, rfl, ?_⟩
    rw [decide_eq_false (show ¬ (((refs zs).length : Nat) : Int) ≥ 16 by rw [List.length_map]; omega)]
    refine iteF ?_
    refine ⟨_, rfl, _, rfl, _, rfl, _, rfl, (by show 1 ≤ sizeLine; decide), fun t1 nt1 => ?_⟩
    have s4 := same_new nt1 (.tup [.ref a])
    have e4 : (upd H3 t1 (.tup [.ref a])) t1 = some (.tup [.ref a]) := upd_same
    generalize upd H3 t1 (.tup [.ref a]) = H4 at s4 e4
    have s04 := s03.trans s4
    refine catA_same (s04 _ _ hB.ents) e4 (by rw [List.length_map]; show zs.length + 1 ≤ 1000; omega) fun t2 H5 s5 e5 => ?_
    refine ⟨(by show 3 ≤ sizeLine; decide), fun t3 nt3 => ?_⟩
    have s6 := same_new nt3 (.tup [.ref fk, .int age, .ref t2])
    have e6 : (upd H5 t3 (.tup [.ref fk, .int age, .ref t2])) t3 = some (.tup [.ref fk, .int age, .ref t2]) := upd_same
    generalize upd H5 t3 (.tup [.ref fk, .int age, .ref t2]) = H6 at s6 e6
    have s06 := s04.trans (s5.trans s6)
    have hB6 := hB.kp (Same.tup s06)
    refine q t3 t2 H6 s06 ⟨e6, hB6.folk, hB6.n2, hB6.n6, hB6.age0, hB6.age1, ?_, fun z hz => ?_, ?_, by rw [List.length_append]; show zs.length + 1 ≤ 16; omega⟩
    · rw [s6 _ _ e5]
      simp [refs]
    · rcases List.mem_append.mp hz with hz | hz
      · exact hB6.ent z hz
      · rw [List.mem_singleton.mp hz]
        exact hE.kp (Same.tup s06)
    · rw [show ens (zs ++ [(a, e)]) = ens zs ++ [e] by simp [ens]]
      exact hM
abbrev sNamedIn : Stmt := topS 43
abbrev nNamedIn : List Str := ["entry"]
abbrev pNamedIn : List Str := ["entry"]
theorem scNamedIn : FnScope nNamedIn pNamedIn (defScope sNamedIn) := ⟨rfl, rfl, rfl, by decide +kernel, rfl, by decide +kernel, by decide +kernel⟩
def spNamedIn : Sp := fun vs H Q _ => ∃ (a : Addr) (e : En), vs = [.ref a] ∧ EntAt H a e ∧ (e.word = "deed" ↔ e.isDeed = true) ∧ ∀ l H', Same H H' → H' l = some (.tup (e.names.map V.int)) → Q (.ref l) H'
theorem ok_NamedIn {f : Addr} {fd : FuncData} {k : Nat} (F : Fun K "named_in" "named_in" sNamedIn f fd) (iWORD : MgInt mg "WORD" 4) (iRESTS : MgInt mg "RESTS" 7) (iOF : MgInt mg "OF" 5) : FnOk P w K mg base CX0 (k + 1) f fd pNamedIn spNamedIn := by
  refine F.ok scNamedIn (fun vs H Q E h => ?_) (fun cdv A outer s H vs Q E hr h => ?_)
  · obtain ⟨a, e, rfl, _⟩ := h
    rfl
  · obtain ⟨a, e, rfl, hE, hw, q⟩ := h
    have nd := scNamedIn.nd
    refine ⟨_, pss_cons (ps_if (pt_cmpR op_eq (pe_ix ix_tup (pv 0) (pe_num (by rfl) iWORD) (fun _ _ => rfl)) pe_str (nomark _)) (pss_one (ps_ret (pe_ix ix_tup (pv 0) (pe_num (by rfl) iRESTS) (fun _ _ => rfl)))) pss_nil)
      (pss_one (ps_ret (pe_tup (pa_cons (pe_ix ix_tup (pv 0) (pe_num (by rfl) iOF) (fun _ _ => rfl)) pa_nil)))), ?_⟩
    obtain ⟨xs, ex, _, _, _, _, g4⟩ := hE.tup
    refine ⟨_, rfl, a, xs, 4, _, rfl, rfl, SqT.of ex, g4, rfl, _, rfl, ?_⟩
    cases hd : e.isDeed with
    | true =>
      rw [decide_eq_true (congrArg V.str (hw.mpr hd))]
      refine iteT ?_
      obtain ⟨xs7, r, ex7, g7, er⟩ := hE.seven hd
      have en : e.names = e.rests := by
        unfold En.names En.rests
        unfold En.isDeed at hd
        cases hk : e.kd with
        | deed g t rs ws => rfl
        | act x o => rw [hk] at hd; cases hd
      rw [en] at q
      exact ⟨_, rfl, a, xs7, 7, _, rfl, rfl, SqT.of ex7, g7, q r H (same_refl _) er⟩
    | false =>
      rw [decide_eq_false (fun z => by
        injection z with z
        rw [hw.mp z] at hd
        cases hd)]
      refine iteF ?_
      obtain ⟨xs5, ex5, g5⟩ := hE.five hd
      have en : e.names = [e.of] := by
        unfold En.names En.of
        unfold En.isDeed at hd
        cases hk : e.kd with
        | deed g t rs ws => rw [hk] at hd; cases hd
        | act x o => rfl
      rw [en] at q
      exact ⟨_, rfl, a, xs5, 5, _, rfl, rfl, SqT.of ex5, g5, (by show 1 ≤ sizeLine; decide), fun l nl => q l _ (same_new nl _) upd_same⟩
end
end Deed

namespace Deed
open PySem PySem.Spec PyProof.Rows L2 LamX
section
variable {P : Program} {w : World} {K : PySem.W.Frag} {mg : Str → Option Value} {base : Heap} {T : List (Addr × Str)} {fW fA : Addr} {dW dA : FuncData}
def spCkDeed (T : List (Addr × Str)) : Sp := fun vs H Q _ => ∃ (b fk t : Addr) (n : Nat) (age : Int) (zs : List (Addr × En)) (e : En), vs = [.ref b, .int e.num] ∧ BookAt H b fk t n age zs ∧ Tabs T H ∧ e ∈ ens zs ∧ e.isDeed = true ∧ ∀ H', ExtN H H' → Tabs T H' → Q .non H'
end
end Deed

namespace Deed
open PySem PySem.Spec PyProof.Rows L2 LamX
section
variable {P : Program} {w : World} {K : PySem.W.Frag} {mg : Str → Option Value} {base : Heap} {T : List (Addr × Str)} {fCk fAl : Addr} {dCk dAl : FuncData}
abbrev pStOf : List Str := ["book", "deed", "d", "k"]
def spStOf (T : List (Addr × Str)) : Sp := fun vs H Q _ => ∃ (b fk t : Addr) (n : Nat) (age : Int) (zs : List (Addr × En)) (e : En) (d k : Int), vs = [.ref b, .int e.num, .int d, .int k] ∧ BookAt H b fk t n age zs ∧ Tabs T H ∧ e ∈ ens zs ∧ e.isDeed = true ∧ (0 ≤ d ∧ d ≤ 9999) ∧ (0 ≤ k ∧ k ≤ 9999) ∧
  ∀ H', ExtN H H' → Tabs T H' → Q (.str (st (ens zs) d k e)) H'
end
end Deed

namespace Deed
open PySem PySem.Spec PyProof.Rows L2 LamX
theorem wdE_get {H : Hp} {wd : Addr} {es : List En} {d k : Int} {zs ys : List (Addr × En)} (hD : DeedsUp zs ys) (e : H wd = some (.dK (wdE es d k (ens ys)))) {u : En} (hu : u ∈ ens zs) (hd : u.isDeed = true) : DGet H wd (.int u.num) (some (.str (st es d k u))) := by
  obtain ⟨v, hv, rfl⟩ := List.mem_map.mp ((hD.2.1 u).mpr ⟨hu, hd⟩)
  have h4 := DGet.k (k := Sum.inl v.2.num) e
  have hnd := hD.nodup
  rw [show (ens ys).map (·.num) = ys.map (fun z => z.2.num) by simp [ens, List.map_map, Function.comp_def]] at hnd
  have hv1 := valV_map (f := fun z : Addr × En => z.2.num) (g := fun z : Addr × En => V.str (st es d k z.2)) hnd hv
  rw [show wdE es d k (ens ys) = ys.map (fun z : Addr × En => ((Sum.inl z.2.num : Key), V.str (st es d k z.2))) by simp [wdE, ens, List.map_map, Function.comp_def], hv1] at h4
  exact h4
theorem deedsUp_of {zs zs' : List (Addr × En)} (hl : zs.length ≤ 16) (pm : zs'.Perm zs) (so : zs'.Pairwise (fun a b => a.2.num < b.2.num)) : DeedsUp zs (zs'.filter fun z => z.2.isDeed) := by
  refine ⟨so.filter _, fun x => ?_, ?_⟩
  · constructor
    · intro hx
      obtain ⟨z, hz, rfl⟩ := List.mem_map.mp hx
      exact ⟨List.mem_map.mpr ⟨z, pm.mem_iff.mp (List.mem_filter.mp hz).1, rfl⟩, (List.mem_filter.mp hz).2⟩
    · rintro ⟨hx, hd⟩
      obtain ⟨z, hz, rfl⟩ := List.mem_map.mp hx
      exact List.mem_map.mpr ⟨z, List.mem_filter.mpr ⟨pm.mem_iff.mpr hz, hd⟩, rfl⟩
  · have h1 := List.length_filter_le (fun z : Addr × En => z.2.isDeed) zs'
    have h2 := pm.length_eq
    omega
/-- words of a book, at d as known at k -/
def WdD (H : Hp) (a : Addr) (zs : List (Addr × En)) (d k : Int) : Prop := ∃ us, DeedsUp zs us ∧ H a = some (.dK (wdE (ens zs) d k (ens us)))
theorem WdD.ext {H H' : Hp} {a : Addr} {zs : List (Addr × En)} {d k : Int} (h : WdD H a zs d k) (e : ExtN H H') : WdD H' a zs d k := by
  obtain ⟨us, h1, h2⟩ := h
  exact ⟨us, h1, e _ _ h2 fun _ z => by cases z⟩
theorem WdD.get {H : Hp} {a : Addr} {zs : List (Addr × En)} {d k : Int} (h : WdD H a zs d k) {e : En} (he : e ∈ ens zs) (hd : e.isDeed = true) : DGet H a (.int e.num) (some (.str (st (ens zs) d k e))) := by
  obtain ⟨us, h1, h2⟩ := h
  exact wdE_get h1 h2 he hd
/-- rows of a parting -/
abbrev Row4 := Int × Int × Str × Str
def tup4 (r : Row4) : List V := [.int r.1, .int r.2.1, .str r.2.2.1, .str r.2.2.2]
def T4At (H : Hp) (p : Addr) (rs : List Row4) : Prop := ∃ zs : List (Addr × Row4), H p = some (.lst (zs.map fun z => V.ref z.1)) ∧ zs.map (·.2) = rs ∧ ∀ z ∈ zs, H z.1 = some (.tup (tup4 z.2))
theorem T4At.ext {H H' : Hp} {p : Addr} {rs : List Row4} (h : T4At H p rs) (e : ExtN H H') : T4At H' p rs := by
  obtain ⟨zs, h1, h2, h3⟩ := h
  exact ⟨zs, e _ _ h1 (fun _ z => by cases z), h2, fun z hz => e _ _ (h3 z hz) fun _ z => by cases z⟩
def row4D (r : Row4) : PyData := .tuple [.int r.1, .int r.2.1, .str r.2.2.1, .str r.2.2.2]
def rows4D (rs : List Row4) : PyData := .list (rs.map row4D)
theorem dp_rows4 {K : PySem.W.Frag} {H : Hp} : ∀ (zs : List (Addr × Row4)), (∀ z ∈ zs, H z.1 = some (.tup (tup4 z.2))) → DpAll K H (zs.map fun z => V.ref z.1) ((zs.map (·.2)).map row4D)
  | [], _ => .nil
  | z :: r, h => .cons (.tup (SqT.of (h z List.mem_cons_self)) (.cons (.int _) (.cons (.int _) (.cons (.str _) (.cons (.str _) .nil))))) (dp_rows4 r fun x hx => h x (List.mem_cons_of_mem _ hx))
theorem T4At.dp {K : PySem.W.Frag} {H : Hp} {p : Addr} {rs : List Row4} (h : T4At H p rs) : Dp K H (.ref p) (rows4D rs) := by
  obtain ⟨zs, h1, rfl, h3⟩ := h
  exact .lst (SqL.of h1) (dp_rows4 zs h3)
theorem lay_rows4 : ∀ l : List Row4, (∀ q ∈ l, PyData.strOk q.2.2.1 = true ∧ PyData.strOk q.2.2.2 = true) → PyData.canLayAll0 (l.map row4D) = true
  | [], _ => by simp [PyData.canLayAll0]
  | q :: r, h => by
    have h1 := h q List.mem_cons_self
    simp [PyData.canLayAll0, row4D, PyData.canLay0, h1.1, h1.2, lay_rows4 r fun x hx => h x (List.mem_cons_of_mem _ hx)]
theorem depth_rows4 : ∀ l : List Row4, PyData.depthAll (l.map row4D) ≤ 3
  | [] => by simp [PyData.depthAll]
  | q :: r => by
    have h := depth_rows4 r
    simp only [List.map_cons, PyData.depthAll, PyData.depth, row4D]
    omega
theorem shaped_rows4 (l : List Row4) (hok : ∀ q ∈ l, PyData.strOk q.2.2.1 = true ∧ PyData.strOk q.2.2.2 = true) : SeqAt.shaped (rows4D l) = true := by
  have h1 := depth_rows4 l
  have h2 : PyData.depth (rows4D l) ≤ 64 := by
    unfold rows4D
    simp only [PyData.depth]
    omega
  show (PyData.canLay0 (rows4D l) && decide (PyData.depth (rows4D l) ≤ 64)) = true
  rw [Bool.and_eq_true]
  exact ⟨by unfold rows4D; simp only [PyData.canLay0]; exact lay_rows4 l hok, decide_eq_true h2⟩
theorem eqvAll_rows4 : ∀ l : List Row4, PyData.eqvAll (l.map row4D) (l.map row4D) = true
  | [] => by simp [PyData.eqvAll]
  | q :: r => by simp [PyData.eqvAll, row4D, PyData.eqv, eqvAll_rows4 r]
theorem eqv_rows4 (l : List Row4) : PyData.eqv (rows4D l) (rows4D l) = true := by
  unfold rows4D
  simp only [PyData.eqv]
  exact eqvAll_rows4 l
/-! ### what parts two books: the mathematics -/
theorem find_deed2 {n : Nat} {es : List En} (hB : BkOk n es) {e : En} (he : e ∈ es) (hd : e.isDeed = true) : es.find? (isD e.num) = some e := by
  cases hf : es.find? (isD e.num) with
  | none =>
    rw [List.find?_eq_none] at hf
    exact absurd (show isD e.num e = true by unfold isD; rw [hd]; simp) (hf e he)
  | some u =>
    have h1 := List.find?_some hf
    have h2 := List.mem_of_find?_eq_some hf
    unfold isD at h1
    rw [Bool.and_eq_true] at h1
    rw [num_inj hB h2 he (of_decide_eq_true h1.2)]
/-- one deed's row -/
def part1 (es es' : List En) (k : Int) (D : List Int) (e e' : En) : List Row4 :=
  match D.find? fun d => !decide (st es d k e = st es' d k e') with
  | some d => [(e.num, d, st es d k e, st es' d k e')]
  | none => []
def partAt (es es' : List En) (k : Int) (D : List Int) (m : Int) : List Row4 := match es.find? (isD m), es'.find? (isD m) with
  | some e, some e' => part1 es es' k D e e'
  | _, _ => []
def partsAll (es es' : List En) (k : Int) (D : List Int) (ns : List Int) : List Row4 := ns.flatMap (partAt es es' k D)
theorem part1_ok {es es' : List En} {k : Int} {D : List Int} {e e' : En} : ∀ q ∈ part1 es es' k D e e', PyData.strOk q.2.2.1 = true ∧ PyData.strOk q.2.2.2 = true := by
  intro q hq
  unfold part1 at hq
  cases hf : D.find? fun d => !decide (st es d k e = st es' d k e') with
  | none => rw [hf] at hq; cases hq
  | some d =>
    rw [hf] at hq
    rw [List.mem_singleton.mp hq]
    exact ⟨st_ok _ _ _ _, st_ok _ _ _ _⟩
theorem partsAll_ok {es es' : List En} {k : Int} {D ns : List Int} : ∀ q ∈ partsAll es es' k D ns, PyData.strOk q.2.2.1 = true ∧ PyData.strOk q.2.2.2 = true := by
  intro q hq
  obtain ⟨m, _, h⟩ := List.mem_flatMap.mp hq
  unfold partAt at h
  split at h
  · exact part1_ok q h
  · cases h
theorem partAt_len (es es' : List En) (k : Int) (D : List Int) (m : Int) : (partAt es es' k D m).length ≤ 1 := by
  unfold partAt
  split
  · unfold part1
    split <;> simp
  · simp
theorem partsAll_len (es es' : List En) (k : Int) (D : List Int) : ∀ ns : List Int, (partsAll es es' k D ns).length ≤ ns.length
  | [] => by simp [partsAll]
  | n :: r => by
    have h1 := partAt_len es es' k D n
    have h2 := partsAll_len es es' k D r
    unfold partsAll at h2 ⊢
    rw [List.flatMap_cons, List.length_append, List.length_cons]
    omega
/-- the days of both -/
structure Days2 (es es' : List En) (D : List Int) : Prop where
  up : D.Pairwise (· < ·)
  mem : ∀ x, x ∈ D ↔ x = 0 ∨ (∃ e ∈ es, e.day = x) ∨ ∃ e ∈ es', e.day = x
theorem Days2.one {es es' : List En} {D D' : List Int} (h : Days2 es es' D) (h' : Days2 es es' D') : D = D' := up_one h.up h'.up fun x => by rw [h.mem, h'.mem]
end Deed

namespace Deed
open PySem PySem.Spec PyProof.Rows L2 LamX
/-- a list of words of a book, day by day -/
def WdsAt (H : Hp) (l : Addr) (zs : List (Addr × En)) (k : Int) (D : List Int) : Prop := ∃ as : List (Addr × Int), H l = some (.lst (as.map fun z => V.ref z.1)) ∧ as.map (·.2) = D ∧ ∀ z ∈ as, WdD H z.1 zs z.2 k
theorem WdsAt.ext {H H' : Hp} {l : Addr} {zs : List (Addr × En)} {k : Int} {D : List Int} (h : WdsAt H l zs k D) (e : ExtN H H') : WdsAt H' l zs k D := by
  obtain ⟨as, h1, h2, h3⟩ := h
  exact ⟨as, e _ _ h1 (fun _ z => by cases z), h2, fun z hz => (h3 z hz).ext e⟩
section
variable {P : Program} {w : World} {K : PySem.W.Frag} {mg : Str → Option Value} {base : Heap} {T : List (Addr × Str)}
def spFirstP : Sp := fun vs H Q _ => ∃ (dl l1 l2 : Addr) (n n' : Nat) (zs zs' : List (Addr × En)) (e e' : En) (k : Int) (D : List Int), vs = [.int e.num, .ref dl, .ref l1, .ref l2] ∧ BkOk n (ens zs) ∧ BkOk n' (ens zs') ∧ e ∈ ens zs ∧ e.isDeed = true ∧ e' ∈ ens zs' ∧ e'.isDeed = true ∧ e'.num = e.num ∧ H dl = some (.lst (D.map V.int)) ∧ WdsAt H l1 zs k D ∧ WdsAt H l2 zs' k D ∧
  ∀ p H', Same H H' → H p = none → T4At H' p (part1 (ens zs) (ens zs') k D e e') → Q (.ref p) H'
end
end Deed

namespace Deed
open PySem PySem.Spec PyProof.Rows L2 LamX
theorem DaysAt.rng {n : Nat} {es : List En} {pl : Bool} {D : List Int} (h : DaysAt es pl D) (hB : BkOk n es) : ∀ x ∈ D, 0 ≤ x ∧ x ≤ 9999 := fun x hx => by
  rcases (h.2 x).mp hx with rfl | ⟨e, he, rfl⟩
  · exact ⟨Int.le_refl _, by decide⟩
  · have h1 := hB.ok e he
    unfold dayAt
    cases pl with
    | true => exact h1.1
    | false => exact h1.2.1
theorem Days2.rng {n n' : Nat} {es es' : List En} {D : List Int} (h : Days2 es es' D) (hB : BkOk n es) (hB' : BkOk n' es') : ∀ x ∈ D, 0 ≤ x ∧ x ≤ 9999 := fun x hx => by
  rcases (h.mem x).mp hx with rfl | ⟨e, he, rfl⟩ | ⟨e, he, rfl⟩
  · exact ⟨Int.le_refl _, by decide⟩
  · exact (hB.ok e he).1
  · exact (hB'.ok e he).1
theorem T4At.app {H : Hp} {p b : Addr} {rs rs' : List Row4} (h : T4At H p rs) (h' : T4At H b rs') : ∃ xs ys : List V, H p = some (.lst xs) ∧ H b = some (.lst ys) ∧ xs.length = rs.length ∧ ys.length = rs'.length ∧ T4At (upd H p (.lst (xs ++ ys))) p (rs ++ rs') := by
  obtain ⟨zs, h1, rfl, h3⟩ := h
  obtain ⟨zs', g1, rfl, g3⟩ := h'
  refine ⟨_, _, h1, g1, by simp, by simp, zs ++ zs', by rw [upd_same, List.map_append], by rw [List.map_append], fun z hz => ?_⟩
  have hz2 : H z.1 = some (.tup (tup4 z.2)) := by
    rcases List.mem_append.mp hz with hz | hz
    · exact h3 z hz
    · exact g3 z hz
  rw [upd_ne fun q => by rw [q, h1] at hz2; cases hz2]
  exact hz2
section
variable {P : Program} {w : World} {K : PySem.W.Frag} {mg : Str → Option Value} {base : Heap} {T : List (Addr × Str)}
def spPartOf (T : List (Addr × Str)) : Sp := fun vs H Q _ => ∃ (b fk t b' fk' t' : Addr) (n n' : Nat) (age age' : Int) (zs zs' : List (Addr × En)) (k : Int), vs = [.ref b, .ref b', .int k] ∧ BookAt H b fk t n age zs ∧ BookAt H b' fk' t' n' age' zs' ∧ Tabs T H ∧ (0 ≤ k ∧ k ≤ 9999) ∧
  ∀ (p : Addr) (D ns : List Int) (H' : Hp), ExtN H H' → Tabs T H' → Fresh H p → Days2 (ens zs) (ens zs') D → ns.Pairwise (· < ·) → (∀ x, x ∈ ns ↔ x ∈ dn (ens zs)) → T4At H' p (partsAll (ens zs) (ens zs') k D ns) → Q (.ref p) H'
end
end Deed

namespace Deed
open PySem PySem.Spec PyProof.Rows L2 LamX
/-- which acts are in force, as a dict -/
abbrev fks (es : List En) (d k : Int) (us : List (Addr × En)) : List (Key × V) := us.map fun z => (Sum.inl z.2.num, V.bl (frc es d k z.2))
structure ForcesAt (H : Hp) (fa : Addr) (zs us : List (Addr × En)) (d k : Int) : Prop where
  dn : us.Pairwise (fun a b => b.2.num < a.2.num)
  mem : ∀ z, z ∈ us ↔ z ∈ zs ∧ z.2.isDeed = false
  at_ : H fa = some (.dK (fks (ens zs) d k us))
theorem fks_get {es : List En} {d k : Int} {us : List (Addr × En)} (up : us.Pairwise (fun a b => b.2.num < a.2.num)) {z : Addr × En} (hz : z ∈ us) : valV (fks es d k us) (.inl z.2.num) = some (.bl (frc es d k z.2)) :=
  valV_map (f := fun z : Addr × En => z.2.num) (g := fun z : Addr × En => V.bl (frc es d k z.2)) (by
    rw [List.nodup_iff_pairwise_ne, List.pairwise_map]
    exact up.imp fun h => by omega) hz
section
variable {P : Program} {w : World} {K : PySem.W.Frag} {mg : Str → Option Value} {base : Heap} {T : List (Addr × Str)}
def spIsOp : Sp := fun vs H Q _ => ∃ (a : Addr) (e : En) (d k : Int), vs = [.ref a, .int d, .int k] ∧ EntAt H a e ∧ Q (.bl (isOpen d k e)) H
def spForces : Sp := fun vs H Q _ => ∃ (ed : Addr) (n : Nat) (zs : List (Addr × En)) (d k : Int), vs = [.ref ed, .int d, .int k] ∧ EdAt H ed n zs ∧ ∀ fa us H', Same H H' → H fa = none → ForcesAt H' fa zs us d k → Q (.ref fa) H'
end
end Deed

namespace Deed
open PySem PySem.Spec PyProof.Rows L2 LamX
theorem putK_last {kvs : List (Key × V)} {k : Key} {v v' : V} (h : k ∉ kvs.map (·.1)) : putK (kvs ++ [(k, v)]) k v' = kvs ++ [(k, v')] := by
  unfold putK
  rw [if_pos (by simp), List.map_append]
  congr 1
  · refine (List.map_congr_left fun kv hkv => ?_).trans (List.map_id kvs)
    rw [if_neg (fun e => h (List.mem_map.mpr ⟨kv, hkv, e⟩))]
    rfl
  · simp
/-- what the words of acts in force tell -/
def actWds (es : List En) (d k m : Int) (us : List (Addr × En)) : List Str := (us.filter fun u => frc es d k u.2 && decide (u.2.of = m)).map fun u => u.2.word
theorem actWds_in {n : Nat} {zs us : List (Addr × En)} (hB : BkOk n (ens zs)) {d k m : Int} (hu : ∀ z, z ∈ us ↔ z ∈ zs ∧ z.2.isDeed = false) {x : Str} (hx : x ≠ "deed") : decide (x ∈ actWds (ens zs) d k m us) = anyF (ens zs) d k x m := by
  rw [Bool.eq_iff_iff, decide_eq_true_iff]
  unfold actWds anyF
  rw [List.mem_map, List.any_eq_true]
  constructor
  · rintro ⟨u, h, rfl⟩
    obtain ⟨h1, h2⟩ := List.mem_filter.mp h
    rw [Bool.and_eq_true] at h2
    refine ⟨u.2, List.mem_map.mpr ⟨u, ((hu u).mp h1).1, rfl⟩, ?_⟩
    unfold isOn
    rw [h2.1, h2.2]
    simp
  · rintro ⟨e, he, h⟩
    rw [Bool.and_eq_true] at h
    obtain ⟨a1, a2, a3⟩ := isOn_act (hB.ok e he) hx h.1
    obtain ⟨u, hu1, rfl⟩ := List.mem_map.mp he
    refine ⟨u, List.mem_filter.mpr ⟨(hu u).mpr ⟨hu1, a1⟩, ?_⟩, a2⟩
    rw [h.2, decide_eq_true a3]
    rfl
section
variable {P : Program} {w : World} {K : PySem.W.Frag} {mg : Str → Option Value} {base : Heap} {T : List (Addr × Str)}
def spLStanding : Sp := fun vs H Q _ => ∃ (b fk t : Addr) (n : Nat) (age : Int) (zs : List (Addr × En)) (d k : Int), vs = [.ref b, .int d, .int k] ∧ BookAt H b fk t n age zs ∧ ∀ fo H', Same H H' → H fo = none → WdD H' fo zs d k → Q (.ref fo) H'
end
end Deed

namespace Deed
open PySem PySem.Spec PyProof.Rows L2 LamX
section
variable {P : Program} {w : World} {K : PySem.W.Frag} {mg : Str → Option Value} {base : Heap} {T : List (Addr × Str)}
def spLDays2 : Sp := fun vs H Q _ => ∃ (b fk t b' fk' t' : Addr) (n n' : Nat) (age age' : Int) (zs zs' : List (Addr × En)), vs = [.ref b, .ref b'] ∧ BookAt H b fk t n age zs ∧ BookAt H b' fk' t' n' age' zs' ∧
  ∀ (p : Addr) (D : List Int) (H' : Hp), Same H H' → H p = none → Days2 (ens zs) (ens zs') D → D.length ≤ 33 → H' p = some (.lst (D.map V.int)) → Q (.ref p) H'
end
end Deed

namespace Deed
open PySem PySem.Spec PyProof.Rows L2 LamX
/-- (day, what the one's deeds are, what the other's are), for each day -/
abbrev R3 := Int × Addr × Addr
def Rows3 (H : Hp) (M : Addr) (zs zs' : List (Addr × En)) (k : Int) (D : List Int) : Prop := ∃ as : List (Addr × R3), H M = some (.lst (as.map fun a => V.ref a.1)) ∧ as.map (fun a => a.2.1) = D ∧ ∀ a ∈ as, H a.1 = some (.tup [.int a.2.1, .ref a.2.2.1, .ref a.2.2.2]) ∧ WdD H a.2.2.1 zs a.2.1 k ∧ WdD H a.2.2.2 zs' a.2.1 k
theorem WdD.same {H H' : Hp} {a : Addr} {zs : List (Addr × En)} {d k : Int} (h : WdD H a zs d k) (s : Same H H') : WdD H' a zs d k := by
  obtain ⟨us, h1, h2⟩ := h
  exact ⟨us, h1, s _ _ h2⟩
theorem WdD.put {H : Hp} {a M : Addr} {zs : List (Addr × En)} {d k : Int} {xs : List V} {o : HO} (h : WdD H a zs d k) (e : H M = some (.lst xs)) : WdD (upd H M o) a zs d k := by
  obtain ⟨us, h1, h2⟩ := h
  exact ⟨us, h1, by rw [upd_ne fun q => by rw [q, e] at h2; cases h2]; exact h2⟩
theorem T4At.same {H H' : Hp} {p : Addr} {rs : List Row4} (h : T4At H p rs) (s : Same H H') : T4At H' p rs := by
  obtain ⟨zs, h1, h2, h3⟩ := h
  exact ⟨zs, s _ _ h1, h2, fun z hz => s _ _ (h3 z hz)⟩
theorem find_head {α : Type} {p : α → Bool} : ∀ l : List α, (l.filter p).take 1 = match l.find? p with
    | some x => [x]
    | none => []
  | [] => rfl
  | x :: r => by
    rw [List.filter_cons, List.find?_cons]
    cases h : p x with
    | true => rfl
    | false => exact find_head r
section
variable {P : Program} {w : World} {K : PySem.W.Frag} {mg : Str → Option Value} {base : Heap} {T : List (Addr × Str)}
def spLParting : Sp := fun vs H Q _ => ∃ (b fk t b' fk' t' : Addr) (n n' : Nat) (age age' : Int) (zs zs' : List (Addr × En)) (k : Int), vs = [.ref b, .ref b', .int k] ∧ BookAt H b fk t n age zs ∧ BookAt H b' fk' t' n' age' zs' ∧
  ∀ (p : Addr) (D ns : List Int) (H' : Hp), Same H H' → H p = none → Days2 (ens zs) (ens zs') D → ns.Pairwise (· < ·) → (∀ x, x ∈ ns ↔ x ∈ dn (ens zs)) → T4At H' p (partsAll (ens zs) (ens zs') k D ns) → Q (.ref p) H'
end
end Deed

namespace Deed
open PySem PySem.Spec PyProof.Rows L2 LamX
section
variable {P : Program} {w : World} {K : PySem.W.Frag} {mg : Str → Option Value} {base : Heap} {T : List (Addr × Str)}
abbrev sLNamed : Stmt := topS 59
abbrev nLNamed : List Str := ["_law_entry"]
abbrev pLNamed : List Str := ["_law_entry"]
theorem scLNamed : FnScope nLNamed pLNamed (defScope sLNamed) := ⟨rfl, rfl, rfl, by decide +kernel, rfl, by decide +kernel, by decide +kernel⟩
def spLNamed : Sp := fun vs H Q _ => ∃ (a : Addr) (e : En) (n : Nat) (ds as : List Int), vs = [.ref a] ∧ EntAt H a e ∧ EnOk n ds as e ∧ ∀ l H', Same H H' → H' l = some (.lst (e.names.map V.int)) → Q (.ref l) H'
theorem ok_LNamed {f : Addr} {fd : FuncData} {k : Nat} (F : Fun K "_law_named" "_law_named" sLNamed f fd) (m_list : mg "list" = none) : FnOk P w K mg base CX0 (k + 1) f fd pLNamed spLNamed := by
  refine F.ok scLNamed (fun vs H Q E h => ?_) (fun cdv A outer s H vs Q E hr h => ?_)
  · obtain ⟨a, e, n, ds, as, rfl, _⟩ := h
    rfl
  · obtain ⟨a, e, n, ds, as, rfl, hE, hO, q⟩ := h
    have nd := scLNamed.nd
    refine ⟨_, pss_cons (ps_if (pt_cmpR op_eq (pe_ix ix_tup (pv 0) pe_int (fun _ _ => rfl)) pe_str (nomark _)) (pss_one (ps_ret (pe_callTy call_list_of (by rfl) m_list (by decide +kernel) (pa_cons (pe_ix ix_tup (pv 0) pe_int (fun _ _ => rfl)) pa_nil)))) pss_nil)
      (pss_one (ps_ret (pe_lst (pa_cons (pe_ix ix_tup (pv 0) pe_int (fun _ _ => rfl)) pa_nil)))), ?_⟩
    obtain ⟨xs, ex, _, _, _, _, g4⟩ := hE.tup
    refine ⟨_, rfl, a, xs, 4, _, rfl, rfl, SqT.of ex, g4, rfl, _, rfl, ?_⟩
    cases hd : e.isDeed with
    | true =>
      rw [decide_eq_true (congrArg V.str (hO.word.mpr hd))]
      refine iteT ?_
      obtain ⟨xs7, r, ex7, g7, er⟩ := hE.seven hd
      have en : e.names = e.rests := by
        unfold En.names En.rests
        unfold En.isDeed at hd
        cases hk : e.kd with
        | deed g t rs ws => rfl
        | act x o => rw [hk] at hd; cases hd
      rw [en] at q
      refine ⟨_, rfl, a, xs7, 7, _, rfl, rfl, SqT.of ex7, g7, r, _, rfl, .inr (SqT.of er), fun l1 nl1 => ?_⟩
      exact q l1 _ (same_new nl1 _) upd_same
    | false =>
      rw [decide_eq_false (fun z => by
        injection z with z
        rw [hO.word.mp z] at hd
        cases hd)]
      refine iteF ?_
      obtain ⟨xs5, ex5, g5⟩ := hE.five hd
      have en : e.names = [e.of] := by
        unfold En.names En.of
        unfold En.isDeed at hd
        cases hk : e.kd with
        | deed g t rs ws => rw [hk] at hd; cases hd
        | act x o => rfl
      rw [en] at q
      refine ⟨_, rfl, a, xs5, 5, _, rfl, rfl, SqT.of ex5, g5, (by show 1 ≤ sizeLine; decide), fun l2 nl2 => ?_⟩
      exact q l2 _ (same_new nl2 _) upd_same
def spLOther : Sp := fun vs H Q _ => ∃ (p b fk t : Addr) (n : Nat) (age : Int) (zs : List (Addr × En)), vs = [.ref p, .ref b] ∧ PenAt H p ∧ BookAt H b fk t n age zs ∧ ∀ b' t' zs' H', Kp p H H' → PenAt H' p → BookAt H' b' fk t' n age zs' → Q (.ref b') H'
end
end Deed

namespace Deed
open PySem PySem.Spec PyProof.Rows L2 LamX
theorem dec_intE (a b : Int) : decide (V.int a = V.int b) = decide (a = b) := by
  by_cases h : a = b
  · rw [decide_eq_true (by rw [h]), decide_eq_true h]
  · rw [decide_eq_false (fun z => h (by injection z)), decide_eq_false h]
section
variable {P : Program} {w : World} {K : PySem.W.Frag} {mg : Str → Option Value} {base : Heap} {T : List (Addr × Str)}
abbrev sWoutE : Stmt := topS 45
abbrev nWoutE : List Str := ["book", "number", "folk", "age", "entries", "naming", "entry"]
abbrev pWoutE : List Str := ["book", "number"]
theorem scWoutE : FnScope nWoutE pWoutE (defScope sWoutE) := ⟨rfl, rfl, rfl, by decide +kernel, rfl, by decide +kernel, by decide +kernel⟩
def spWoutE : Sp := fun vs H Q _ => ∃ (b fk t : Addr) (n : Nat) (age m : Int) (zs : List (Addr × En)), vs = [.ref b, .int m] ∧ BookAt H b fk t n age zs ∧ m ∈ (ens zs).map (·.num) ∧ (∀ u ∈ ens zs, m ∉ u.names) ∧ BkOk n (ens (zs.filter fun z => !decide (z.2.num = m))) ∧ ∀ b' t' H', Same H H' → BookAt H' b' fk t' n age (zs.filter fun z => !decide (z.2.num = m)) → Q (.ref b') H'
theorem ok_WoutE {f : Addr} {fd : FuncData} {k : Nat} (F : Fun K "without_entry" "without_entry" sWoutE f fd) (C_is_whole : CallOk P w K mg base k "is_whole" pIsWhole (spB1 Tg.isW)) (C_named_in : CallOk P w K mg base k "named_in" pNamedIn spNamedIn) (m_tuple : mg "tuple" = none) (iNUMBER : MgInt mg "NUMBER" 0) : FnOk P w K mg base CX0 (k + 1) f fd pWoutE spWoutE := by
  refine F.ok scWoutE (fun vs H Q E h => ?_) (fun cdv A outer s H vs Q E hr h => ?_)
  · obtain ⟨b, fk, t, n, age, m, zs, rfl, _⟩ := h
    rfl
  · obtain ⟨b, fk, t, n, age, m, zs, rfl, hB, hm, hno, hgo, q⟩ := h
    have nd := scWoutE.nd
    have hu := hu_of hr
    refine ⟨_, pss_cons (ps_asg (pv 0) (pg_tup (by rfl) (pgs_cons (pg_name (i := 2) nd rfl (.inl rfl)) (pgs_cons (pg_name (i := 3) nd rfl (.inl rfl)) (pgs_cons (pg_name (i := 4) nd rfl (.inl rfl)) pgs_nil)))))
      (pss_cons (ps_if (PW.pt (pw_or (pt_not (pt_val (pe_call C_is_whole.ok hr (by rfl) C_is_whole.g C_is_whole.kp C_is_whole.b .nil pass0 (pa_cons (pv 1) pa_nil)))) (pw_or1 (pt_cmpR op_notIn_seq (pv 1) (pe_lc (own := [("entry", 6)]) (g := gName 6) (by rfl) nd (pi_tup (pv 4)) (blkOk_by (own := [("entry", 6)]) (N := nWoutE) (sc := defScope sWoutE) (by decide +kernel)) (fun _ _ _ _ _ => (pg_name (i := 6) nd rfl (.inl rfl))) (fun _ _ _ _ _ => pts_nil)
          (fun _ _ _ _ _ => show PE _ _ (tOp (rIxT K) (tVar 6) (tC (.int 0))) from (pe_ix (ix_tupK (K := K) (by rfl)) (pv 6) (pe_num (by rfl) iNUMBER) (fun _ _ => rfl)))) (by rfl))))) pss_never pss_nil)
      (pss_cons (ps_setLc (i := 5) (own := [("entry", 6)]) (g := gName 6) (by rfl) nd rfl rfl (sw_true rfl rfl rfl (by decide +kernel)) (pi_tup (pv 4)) (blkOk_by (own := [("entry", 6)]) (N := nWoutE) (sc := defScope sWoutE) (by decide +kernel)) (fun _ _ _ _ _ => (pg_name (i := 6) nd rfl (.inl rfl))) (fun _ _ _ _ _ => (pts_one (pt_cmpR (in_seqK (K := K) (by rfl)) (pv 1) (pe_call C_named_in.ok hr (by rfl) C_named_in.g C_named_in.kp C_named_in.b .nil pass0 (pa_cons (pv 6) pa_nil)) (by rfl))))
          (fun _ _ _ _ _ => (pe_ix (ix_tupK (K := K) (by rfl)) (pv 6) (pe_num (by rfl) iNUMBER) (fun _ _ => rfl))))
      (pss_cons (ps_if (pt_truth (pv 5) (fun _ => rfl)) pss_never pss_nil)
      (pss_one (ps_ret (pe_tup (pa_cons (pv 2) (pa_cons (pv 3) (pa_cons (pe_callTy call_tuple_of (by rfl) m_tuple (by decide +kernel) (pa_cons (pe_lc (own := [("entry", 6)]) (g := gName 6) (by rfl) nd (pi_tup (pv 4)) (blkOk_by (own := [("entry", 6)]) (N := nWoutE) (sc := defScope sWoutE) (by decide +kernel)) (fun _ _ _ _ _ => (pg_name (i := 6) nd rfl (.inl rfl))) (fun _ _ _ _ _ => (pts_one (pt_cmpR op_ne (pe_ix (ix_tupK (K := K) (by rfl)) (pv 6) (pe_num (by rfl) iNUMBER) (fun _ _ => rfl)) (pv 1) (nomark _))))
          (fun _ _ _ _ _ => (pv 6))) pa_nil)) pa_nil))))))))), ?_⟩
    have hzl := hB.len
    refine ⟨_, rfl, b, _, rfl, SqT.of hB.at_, rfl, _, _, rfl, _, _, rfl, _, _, rfl, rfl, ?_⟩
    refine ⟨_, rfl, b, .int m, .int m, rfl, .int m, fun H1 s1 => ⟨_, rfl, ?_⟩⟩
    refine iteF ?_
    have et1 := s1 _ _ hB.ents
    refine ⟨_, rfl, _, rfl, t, rfl, ⟨_, SqT.of et1⟩, fun M1 nM1 => ?_⟩
    refine lc_sameM (walk_tup (xs := refs zs)) zs (fun z => .int z.2.num) (by rw [List.length_map]) (by omega) nM1 (fun H s => SqT.of (s _ _ et1)) ?_ ?_
    · rintro i z x H3' H3 hz s3 ⟨rfl, hx⟩ Q1 q1
      rw [List.getElem?_map, hz] at hx
      injection hx with hx
      subst hx
      obtain ⟨xs, ex, g0, _, _, _, g4⟩ := ((hB.ent z (List.mem_of_getElem? hz)).kp (Same.tup (s1.trans s3))).tup
      exact ⟨rfl, _, rfl, z.1, xs, 0, _, rfl, rfl, SqT.of ex, g0, q1 _ (same_refl _)⟩
    intro H2 s2 eM
    have s02 := s1.trans s2
    have hms : zs.map (fun z => V.int z.2.num) = ((ens zs).map (·.num)).map V.int := by simp [ens, List.map_map, Function.comp_def]
    refine ⟨M1, _, rfl, .inl (SqL.of eM), rfl, by rw [hms]; exact flat_ints _, _, rfl, ?_⟩
    rw [hms, mem_inV, decide_eq_true hm]
    refine iteF ?_
    have et2 := s02 _ _ hB.ents
    refine ⟨_, rfl, t, rfl, ⟨_, SqT.of et2⟩, fun M2 nM2 => ?_⟩
    refine lc_sameV (walk_tup (xs := refs zs)) zs (fun _ => false) (fun z => .int z.2.num) (by rw [List.length_map]) (by omega) nM2 (fun H s => SqT.of (s _ _ et2)) ?_ ?_
    · rintro i z x H3' H3 hz s3 ⟨rfl, hx⟩ Q1 Q0 q1 q0
      rw [List.getElem?_map, hz] at hx
      injection hx with hx
      subst hx
      have hzm := List.mem_of_getElem? hz
      have hez : z.2 ∈ ens zs := List.mem_map.mpr ⟨z, hzm, rfl⟩
      have hE3 := (hB.ent z hzm).kp (Same.tup (s02.trans s3))
      refine ⟨rfl, _, rfl, _, rfl, z.1, z.2, rfl, hE3, (hB.ok.ok z.2 hez).word, fun l H4 s4 e4 => ?_⟩
      refine ⟨l, _, rfl, .inr (SqT.of e4), rfl, flat_ints _, _, rfl, ?_⟩
      rw [mem_inV, decide_eq_false (hno z.2 hez)]
      refine iteF ?_
      exact q0 rfl _ s4
    intro H5 s5 eM2
    rw [List.filter_eq_nil_iff.mpr (fun _ _ => by decide)] at eM2
    refine ⟨_, rfl, _, .inl ⟨_, SqL.of eM2, rfl⟩, ?_⟩
    refine iteF ?_
    have s05 := s02.trans s5
    have et5 := s05 _ _ hB.ents
    refine ⟨_, rfl, _, rfl, _, rfl, t, rfl, ⟨_, SqT.of et5⟩, fun M3 nM3 => ?_⟩
    refine lc_sameV (walk_tup (xs := refs zs)) zs (fun z => !decide (z.2.num = m)) (fun z => .ref z.1) (by rw [List.length_map]) (by omega) nM3 (fun H s => SqT.of (s _ _ et5)) ?_ ?_
    · rintro i z x H6' H6 hz s6 ⟨rfl, hx⟩ Q1 Q0 q1 q0
      rw [List.getElem?_map, hz] at hx
      injection hx with hx
      subst hx
      have hzm := List.mem_of_getElem? hz
      obtain ⟨xs, ex, g0, _, _, _, g4⟩ := ((hB.ent z hzm).kp (Same.tup (s05.trans s6))).tup
      refine ⟨rfl, _, rfl, z.1, xs, 0, _, rfl, rfl, SqT.of ex, g0, _, rfl, rfl, _, rfl, ?_⟩
      rw [dec_intE]
      refine ite2 (fun c => ?_) (fun c => ?_)
      · exact ⟨_, rfl, q1 c _ (same_refl _)⟩
      · exact q0 (Bool.eq_false_iff.mpr c) _ (same_refl _)
    intro H7 s7 eM3
    have s07 := s05.trans s7
    refine ⟨M3, _, rfl, .inl ⟨SqL.of eM3, fun t4 nt4 => ?_⟩⟩
    have s8 := same_new nt4 (.tup ((zs.filter fun z => !decide (z.2.num = m)).map fun z => V.ref z.1))
    have e8 : (upd H7 t4 (.tup ((zs.filter fun z => !decide (z.2.num = m)).map fun z => V.ref z.1))) t4 = some (.tup ((zs.filter fun z => !decide (z.2.num = m)).map fun z => V.ref z.1)) := upd_same
    generalize upd H7 t4 (.tup ((zs.filter fun z => !decide (z.2.num = m)).map fun z => V.ref z.1)) = H8 at s8 e8
    refine ⟨(by show 3 ≤ sizeLine; decide), fun t5 nt5 => ?_⟩
    have s9 := same_new nt5 (.tup [.ref fk, .int age, .ref t4])
    have e9 : (upd H8 t5 (.tup [.ref fk, .int age, .ref t4])) t5 = some (.tup [.ref fk, .int age, .ref t4]) := upd_same
    generalize upd H8 t5 (.tup [.ref fk, .int age, .ref t4]) = H9 at s9 e9
    have s09 := s07.trans (s8.trans s9)
    have hB9 := hB.kp (Same.tup s09)
    exact q t5 t4 H9 s09 ⟨e9, hB9.folk, hB9.n2, hB9.n6, hB9.age0, hB9.age1, s9 _ _ e8, fun z hz => hB9.ent z (List.mem_filter.mp hz).1, hgo, Nat.le_trans (List.length_filter_le _ _) hB9.len⟩
def spLateOf (T : List (Addr × Str)) : Sp := fun vs H Q _ => ∃ (b fk t a : Addr) (n : Nat) (age : Int) (zs : List (Addr × En)) (e : En) (k : Int), vs = [.ref b, .ref a, .int k] ∧ BookAt H b fk t n age zs ∧ EntAt H a e ∧ BkOk n (ens zs ++ [e]) ∧ zs.length < 16 ∧ Tabs T H ∧ (0 ≤ k ∧ k ≤ 9999) ∧
  ∀ (p : Addr) (D ns : List Int) (H' : Hp), ExtN H H' → Tabs T H' → Fresh H p → Days2 (ens zs) (ens zs ++ [e]) D → ns.Pairwise (· < ·) → (∀ x, x ∈ ns ↔ x ∈ dn (ens zs)) → T4At H' p (partsAll (ens zs) (ens zs ++ [e]) k D ns) → Q (.ref p) H'
end
end Deed

namespace Deed
open PySem PySem.Spec PyProof.Rows L2 LamX
theorem get_cases {es : List En} (h : EsOk es) (m : Int) : (∃ u ∈ es, u.num = m ∧ valV (wdk es) (.inl m) = some (.str u.word)) ∨ ((∀ u ∈ es, u.num ≠ m) ∧ valV (wdk es) (.inl m) = none) := by
  by_cases hm : ∃ u ∈ es, u.num = m
  · obtain ⟨u, hu, rfl⟩ := hm
    exact .inl ⟨u, hu, rfl, valV_map (f := fun e : En => e.num) (g := fun e : En => V.str e.word) h.nd hu⟩
  · have hn : ∀ u ∈ es, u.num ≠ m := fun u hu e => hm ⟨u, hu, e⟩
    exact .inr ⟨hn, valV_none (f := fun e : En => e.num) (g := fun e : En => V.str e.word) hn⟩
/-- a name of e is what it should be -/
def wantE (es : List En) (e : En) (m : Int) : Bool := if e.word = "undone" then decide (m ∈ an es) else decide (m ∈ dn es)
theorem want_deed {es : List En} (h : EsOk es) (m : Int) : ∃ x : Str, (valV (wdk es) (.inl m)).getD (.str "") = .str x ∧ decide (x = "deed") = decide (m ∈ dn es) := by
  rcases get_cases h m with ⟨u, hu, rfl, e⟩ | ⟨hn, e⟩
  · rw [e]
    refine ⟨_, rfl, decide_eq_decide.mpr ?_⟩
    rw [h.wd u hu, mem_dn]
    exact ⟨fun z => ⟨u, hu, z, rfl⟩, fun ⟨v, hv, z, e2⟩ => by rw [← num_one h.nd hv hu e2]; exact z⟩
  · rw [e]
    refine ⟨_, rfl, ?_⟩
    rw [decide_eq_false (by decide), decide_eq_false fun z => ?_]
    obtain ⟨v, hv, _, e2⟩ := mem_dn.mp z
    exact hn v hv e2
theorem want_act {es : List En} (h : EsOk es) (m : Int) : ∃ x : Str, (valV (wdk es) (.inl m)).getD (.str "deed") = .str x ∧ (!decide (x = "deed")) = decide (m ∈ an es) := by
  rcases get_cases h m with ⟨u, hu, rfl, e⟩ | ⟨hn, e⟩
  · rw [e]
    refine ⟨_, rfl, ?_⟩
    rw [Bool.eq_iff_iff, Bool.not_eq_true', decide_eq_false_iff_not, decide_eq_true_eq, h.wd u hu, mem_an]
    exact ⟨fun z => ⟨u, hu, Bool.eq_false_iff.mpr z, rfl⟩, fun ⟨v, hv, z, e2⟩ => by rw [← num_one h.nd hv hu e2, z]; decide⟩
  · rw [e]
    refine ⟨_, rfl, ?_⟩
    rw [decide_eq_true (by rfl), Bool.eq_iff_iff, decide_eq_true_eq, mem_an]
    exact ⟨fun z => (nomatch z), fun ⟨v, hv, _, e2⟩ => absurd e2 (hn v hv)⟩
theorem fitE_names {es : List En} {e : En} (hw : e.word = "deed" ↔ e.isDeed = true) : fitE es e = e.names.all (wantE es e) := by
  unfold fitE wantE
  cases hd : e.isDeed with
  | true =>
    have hne : ¬ e.word = "undone" := fun z => by
      have := hw.mpr hd
      rw [z] at this
      exact absurd this (by decide)
    have en : e.names = e.rests := by
      unfold En.names En.rests
      unfold En.isDeed at hd
      cases hk : e.kd with
      | deed g t rs ws => rfl
      | act x o => rw [hk] at hd; cases hd
    rw [if_pos rfl, en]
    simp only [if_neg hne]
  | false =>
    have en : e.names = [e.of] := by
      unfold En.names En.of
      unfold En.isDeed at hd
      cases hk : e.kd with
      | deed g t rs ws => rw [hk] at hd; cases hd
      | act x o => rfl
    rw [if_neg (by decide), en, List.all_cons, List.all_nil, Bool.and_true]
/-- what a law's due is for an entry more -/
def dueS (n : Nat) (es : List En) (e : En) : Str :=
  if isEntT n (entT e) = true then if e.num ∈ es.map (·.num) then "twice" else if fitE es e = true then if es.length = 16 then "many" else "ok" else "name" else "entry"
theorem due_good {n : Nat} {es : List En} {e : En} (h : BkOk n (es ++ [e])) (hl : es.length < 16) (hx : ∀ x o, e.kd = .act x o → x ≠ "deed") : dueS n es e = "ok" := by
  obtain ⟨h1, h2, _, h4⟩ := h.less
  unfold dueS
  rw [if_pos ((isEntT_iff hx).mpr h1), if_neg h2, if_pos h4, if_neg (by omega)]
theorem due_ok {n : Nat} {es : List En} {e : En} (hB : BkOk n es) (hlen : es.length ≤ 16) (hw : e.word = "deed" ↔ e.isDeed = true) (hx : ∀ x o, e.kd = .act x o → x ≠ "deed") (h : dueS n es e = "ok") : BkOk n (es ++ [e]) ∧ es.length < 16 ∧ EntOk n e := by
  unfold dueS at h
  split at h
  · next h1 =>
    split at h
    · exact absurd h (by decide)
    · next h2 =>
      split at h
      · next h3 =>
        split at h
        · exact absurd h (by decide)
        · next h4 =>
          have hE := (isEntT_iff hx).mp h1
          refine ⟨⟨?_, fun x hx => ?_, fun x hx => ?_⟩, by omega, hE⟩
          · rw [List.map_append, List.nodup_append]
            refine ⟨hB.nd, by simp, fun a ha b hb => ?_⟩
            rw [List.map_cons, List.map_nil, List.mem_singleton] at hb
            rw [hb]
            exact fun z => h2 (z ▸ ha)
          · rcases List.mem_append.mp hx with hx | hx
            · exact hB.rng x hx
            · rw [List.mem_singleton.mp hx]
              exact hE.1
          · have m1 : ∀ y ∈ dn es, y ∈ dn (es ++ [e]) := fun y hy => by rw [dn_app]; exact List.mem_append.mpr (.inl hy)
            have m2 : ∀ y ∈ an es, y ∈ an (es ++ [e]) := fun y hy => by rw [an_app]; exact List.mem_append.mpr (.inl hy)
            rcases List.mem_append.mp hx with hx | hx
            · exact (hB.ok x hx).mono m1 m2
            · rw [List.mem_singleton.mp hx]
              refine EnOk.mono (ds := dn es) (as := an es) (hE.enOk (fun r hr => ?_) fun hd => ?_) m1 m2
              · unfold fitE at h3
                cases hd : e.isDeed with
                | true =>
                  rw [hd, if_pos rfl, List.all_eq_true] at h3
                  exact of_decide_eq_true (h3 r hr)
                | false =>
                  unfold En.rests at hr
                  unfold En.isDeed at hd
                  cases hk : e.kd with
                  | deed g t rs ws => rw [hk] at hd; cases hd
                  | act x o => rw [hk] at hr; cases hr
              · have hwa : e.word ∈ [("paid" : Str), "void", "undone"] := by
                  have h5 := hE.2.2.2.2
                  unfold En.word
                  unfold En.isDeed at hd
                  cases hk : e.kd with
                  | deed g t rs ws => rw [hk] at hd; cases hd
                  | act x o => rw [hk] at h5; exact h5.1
                unfold fitE at h3
                rw [hd, if_neg (by decide)] at h3
                by_cases hu : e.word = "undone"
                · rw [if_pos hu] at h3
                  exact .inl ⟨hu, of_decide_eq_true h3⟩
                · rw [if_neg hu] at h3
                  refine .inr ⟨?_, of_decide_eq_true h3⟩
                  simp only [List.mem_cons, List.not_mem_nil, or_false] at hwa
                  rcases hwa with z | z | z
                  · exact .inl z
                  · exact .inr z
                  · exact absurd z hu
      · exact absurd h (by decide)
  · exact absurd h (by decide)
end Deed

namespace Deed
open PySem PySem.Spec PyProof.Rows L2 LamX
section
variable {P : Program} {w : World} {K : PySem.W.Frag} {mg : Str → Option Value} {base : Heap} {T : List (Addr × Str)}
def spLNamedW : Sp := fun vs H Q _ => ∃ (a : Addr) (e : En), vs = [.ref a] ∧ EntAt H a e ∧ (e.word = "deed" ↔ e.isDeed = true) ∧ ∀ l H', Same H H' → H' l = some (.lst (e.names.map V.int)) → Q (.ref l) H'
theorem ok_LNamedW {f : Addr} {fd : FuncData} {k : Nat} (F : Fun K "_law_named" "_law_named" sLNamed f fd) (m_list : mg "list" = none) : FnOk P w K mg base CX0 (k + 1) f fd pLNamed spLNamedW := by
  refine F.ok scLNamed (fun vs H Q E h => ?_) (fun cdv A outer s H vs Q E hr h => ?_)
  · obtain ⟨a, e, rfl, _⟩ := h
    rfl
  · obtain ⟨a, e, rfl, hE, hO, q⟩ := h
    have nd := scLNamed.nd
    refine ⟨_, pss_cons (ps_if (pt_cmpR op_eq (pe_ix ix_tup (pv 0) pe_int (fun _ _ => rfl)) pe_str (nomark _)) (pss_one (ps_ret (pe_callTy call_list_of (by rfl) m_list (by decide +kernel) (pa_cons (pe_ix ix_tup (pv 0) pe_int (fun _ _ => rfl)) pa_nil)))) pss_nil)
      (pss_one (ps_ret (pe_lst (pa_cons (pe_ix ix_tup (pv 0) pe_int (fun _ _ => rfl)) pa_nil)))), ?_⟩
    obtain ⟨xs, ex, _, _, _, _, g4⟩ := hE.tup
    refine ⟨_, rfl, a, xs, 4, _, rfl, rfl, SqT.of ex, g4, rfl, _, rfl, ?_⟩
    cases hd : e.isDeed with
    | true =>
      rw [decide_eq_true (congrArg V.str (hO.mpr hd))]
      refine iteT ?_
      obtain ⟨xs7, r, ex7, g7, er⟩ := hE.seven hd
      have en : e.names = e.rests := by
        unfold En.names En.rests
        unfold En.isDeed at hd
        cases hk : e.kd with
        | deed g t rs ws => rfl
        | act x o => rw [hk] at hd; cases hd
      rw [en] at q
      refine ⟨_, rfl, a, xs7, 7, _, rfl, rfl, SqT.of ex7, g7, r, _, rfl, .inr (SqT.of er), fun l1 nl1 => ?_⟩
      exact q l1 _ (same_new nl1 _) upd_same
    | false =>
      rw [decide_eq_false (fun z => by
        injection z with z
        rw [hO.mp z] at hd
        cases hd)]
      refine iteF ?_
      obtain ⟨xs5, ex5, g5⟩ := hE.five hd
      have en : e.names = [e.of] := by
        unfold En.names En.of
        unfold En.isDeed at hd
        cases hk : e.kd with
        | deed g t rs ws => rw [hk] at hd; cases hd
        | act x o => rfl
      rw [en] at q
      refine ⟨_, rfl, a, xs5, 5, _, rfl, rfl, SqT.of ex5, g5, (by show 1 ≤ sizeLine; decide), fun l2 nl2 => ?_⟩
      exact q l2 _ (same_new nl2 _) upd_same
end
end Deed

namespace Deed
open PySem PySem.Spec PyProof.Rows L2 LamX
theorem dec_strE (a b : Str) : decide (V.str a = V.str b) = decide (a = b) := by
  by_cases h : a = b
  · rw [decide_eq_true (by rw [h]), decide_eq_true h]
  · rw [decide_eq_false (fun z => h (by injection z)), decide_eq_false h]
theorem wdk_nodup {es : List En} (nd : (es.map (·.num)).Nodup) : ((wdk es).map (·.1)).Nodup := by
  have e : (wdk es).map (·.1) = (es.map (·.num)).map Sum.inl := by simp [wdk, List.map_map, Function.comp_def]
  rw [e, List.nodup_iff_pairwise_ne, List.pairwise_map]
  exact (List.nodup_iff_pairwise_ne.mp nd).imp fun h z => h (Sum.inl.inj z)
section
variable {P : Program} {w : World} {K : PySem.W.Frag} {mg : Str → Option Value} {base : Heap} {T : List (Addr × Str)}
abbrev sLDueOf : Stmt := topS 71
abbrev nLDueOf : List Str := ["_law_book", "_law_entry", "_law_words", "_law_number", "_law_wanted", "_law_one"]
abbrev pLDueOf : List Str := ["_law_book", "_law_entry"]
theorem scLDueOf : FnScope nLDueOf pLDueOf (defScope sLDueOf) := ⟨rfl, rfl, rfl, by decide +kernel, rfl, by decide +kernel, by decide +kernel⟩
def spLDueOf : Sp := fun vs H Q _ => ∃ (b fk t a : Addr) (n : Nat) (age : Int) (zs : List (Addr × En)) (e : En), vs = [.ref b, .ref a] ∧ BookAt H b fk t n age zs ∧ EntAt H a e ∧ (e.word = "deed" ↔ e.isDeed = true) ∧ e.names.length ≤ 1000 ∧ ∀ H', Same H H' → Q (.str (dueS n (ens zs) e)) H'
theorem ok_LDueOf {f : Addr} {fd : FuncData} {k : Nat} (F : Fun K "_law_due_of" "_law_due_of" sLDueOf f fd) (C_is_entry : CallOk P w K mg base k "is_entry" pIsEntG spEntG) (C__law_named : CallOk P w K mg base k "_law_named" pLNamed spLNamedW) (m_dict : mg "dict" = none) (m_len : mg "len" = none) (m_int : mg "int" = none) : FnOk P w K mg base CX0 (k + 1) f fd pLDueOf spLDueOf := by
  refine F.ok scLDueOf (fun vs H Q E h => ?_) (fun cdv A outer s H vs Q E hr h => ?_)
  · obtain ⟨b, fk, t, a, n, age, zs, e, rfl, _⟩ := h
    rfl
  · obtain ⟨b, fk, t, a, n, age, zs, e, rfl, hB, hE, hw, hnl, q⟩ := h
    have nd := scLDueOf.nd
    have hu := hu_of hr
    refine ⟨_, pss_cons (ps_if (pt_not (pt_val (pe_call C_is_entry.ok hr (by rfl) C_is_entry.g C_is_entry.kp C_is_entry.b .nil pass0 (pa_cons (pe_ix ix_tup (pv 0) pe_int (fun _ _ => rfl)) (pa_cons (pv 1) pa_nil))))) (pss_one (ps_ret pe_str)) pss_nil)
      (pss_cons (ps_set (i := 2) nd rfl (.inl rfl) (pe_callTy (call_dictP rfl) (by rfl) m_dict (by decide +kernel) (pa_cons (pe_lc (own := [("_law_one", 5)]) (g := gName 5) (by rfl) nd (pi_tup (pe_ix ix_tup (pv 0) pe_int (fun _ _ => rfl))) (blkOk_by (own := [("_law_one", 5)]) (N := nLDueOf) (sc := defScope sLDueOf) (by decide +kernel)) (fun _ _ _ _ _ => (pg_name (i := 5) nd rfl (.inl rfl))) (fun _ _ _ _ _ => pts_nil)
          (fun _ _ _ _ _ => (pe_tup (pa_cons (pe_ix (ix_tupK (K := K) (by rfl)) (pv 5) pe_int (fun _ _ => rfl)) (pa_cons (pe_ix (ix_tupK (K := K) (by rfl)) (pv 5) pe_int (fun _ _ => rfl)) pa_nil))))) pa_nil)))
      (pss_cons (ps_if (pt_cmp (pc_din hu (pe_ix ix_tup (pv 1) pe_int (fun _ _ => rfl)) (pv 2))) (pss_one (ps_ret pe_str)) pss_nil)
      (pss_cons (ps_for PassesOwn.never rfl (pi_list (pe_call C__law_named.ok hr (by rfl) C__law_named.g C__law_named.kp C__law_named.b .nil pass0 (pa_cons (pv 1) pa_nil))) (pg_name (i := 3) nd rfl (.inl rfl))
        (pss_cons (ps_set (i := 4) nd rfl (.inl rfl) (pe_cmpR op_eq (pe_dget2 hu (pv 2) (pv 3) pe_str ⟨rfl, rfl, rfl, rfl⟩) pe_str (nomark _)))
      (pss_cons (ps_if (pt_cmpR op_eq (pe_ix ix_tup (pv 1) pe_int (fun _ _ => rfl)) pe_str (nomark _)) (pss_one (ps_set (i := 4) nd rfl (.inl rfl) (pe_cmpR op_ne (pe_dget2 hu (pv 2) (pv 3) pe_str ⟨rfl, rfl, rfl, rfl⟩) pe_str (nomark _)))) pss_nil)
      (pss_one (ps_if (pt_not (pt_val (pv 4))) (pss_one (ps_ret pe_str)) pss_nil)))))
      (pss_one (ps_ret (pe_ix ix_list (pe_lst (pa_cons pe_str (pa_cons pe_str pa_nil))) (pe_callTy call_int1 (by rfl) m_int (by decide +kernel) (pa_cons (pe_cmpR op_eq (pe_callB call_len_seq (by rfl) m_len (by decide +kernel) (pa_cons (pe_ix ix_tup (pv 0) pe_int (fun _ _ => rfl)) pa_nil)) pe_int (nomark _)) pa_nil)) (fun _ _ => rfl))))))), ?_⟩
    have hzl := hB.len
    have hes := hB.ok.esOk
    obtain ⟨ts, hts, htl, _, hfo⟩ := folk_tg (p := b) hB.folk (by have := hB.n6; omega)
    have hft : isFolkT (.tup ts) = true := by
      show ((decide (1 ≤ ts.length) && decide (ts.length ≤ 6)) && ts.all isPersonT) = true
      rw [hfo, htl, decide_eq_true (by have := hB.n2; omega), decide_eq_true hB.n6]
      rfl
    have hlt : lenT (.tup ts) = n := by
      show ((ts.length : Nat) : Int) = n
      rw [htl]
    refine ⟨_, rfl, b, _, 0, _, rfl, rfl, SqT.of hB.at_, (atI_nat (j := 0) rfl), _, rfl, b, _, _, _, _, rfl, hts, hE.tg, fun H1 s1 => ⟨_, rfl, ?_⟩⟩
    rw [hft, hlt, Bool.true_and]
    unfold dueS at q
    cases hie : isEntT n (entT e) with
    | false =>
      rw [hie, if_neg (by decide)] at q
      exact iteT (q _ s1)
    | true =>
    rw [hie, if_pos rfl] at q
    refine iteF ?_
    have hB1 := hB.kp (Same.tup s1)
    refine ⟨_, rfl, b, _, 2, _, rfl, rfl, SqT.of hB1.at_, (atI_nat (j := 2) rfl), t, rfl, ⟨_, SqT.of hB1.ents⟩, fun D nD => ?_⟩
    refine lc_tup (K := K) (a := t) (xs := refs zs) (fun i H' => ∃ ps : List Addr, H' D = some (.lst (ps.map V.ref)) ∧ Same H1 H' ∧ ps.length = i ∧ Paired (fun p (kv : Key × V) => H' p = some (.tup [kV kv.1, kv.2])) ps (wdk ((ens zs).take i))) ⟨[], upd_same, same_new nD _, rfl, .nil⟩ (fun i H' _ h => ?_) ?_ ?_
    · obtain ⟨_, _, sm, _⟩ := h
      exact SqT.of (sm _ _ hB1.ents)
    · rintro i x H' hx ⟨ps, eD, sm, hpl, hpr⟩
      obtain ⟨z, hz, rfl⟩ := ref_at hx
      have hzm : z ∈ zs := List.mem_of_getElem? hz
      have hi : i < zs.length := (List.getElem?_eq_some_iff.mp hz).1
      obtain ⟨xs, ex, g0, _, _, _, g4⟩ := ((hB1.ent z hzm).kp (Same.tup sm)).tup
      refine ⟨rfl, ?_⟩
      unfold tYes
      dsimp only
      rw [if_pos rfl]
      refine ⟨_, rfl, z.1, xs, 0, _, rfl, rfl, SqT.of ex, g0, _, rfl, z.1, xs, 4, _, rfl, rfl, SqT.of ex, g4, (by show 2 ≤ sizeLine; decide), fun r nr => ?_⟩
      have nrD : D ≠ r := ne_of_none eD nr
      refine ⟨_, by rw [upd_ne nrD]; exact eD, small1000 (by rw [List.length_map]; omega), ps ++ [r], ?_, fun b o e => ?_, ?_, ?_⟩
      · rw [upd_same, List.map_append]
        rfl
      · rw [upd_ne (ne_of_none e nD), upd_ne (ne_of_none (sm _ _ e) nr)]
        exact sm _ _ e
      · rw [List.length_append, hpl]
        rfl
      · have hz2 : (ens zs)[i]? = some z.2 := by rw [List.getElem?_map, hz]; rfl
        have e1 : wdk ((ens zs).take (i + 1)) = wdk ((ens zs).take i) ++ [(Sum.inl z.2.num, V.str z.2.word)] := by
          rw [take_more hz2]
          exact List.map_append
        rw [e1]
        refine Paired.snoc (paired_mono hpr fun p kv hp => ?_) ?_
        · rw [upd_ne (fun z0 => by rw [z0, eD] at hp; cases hp), upd_ne (ne_of_none hp nr)]
          exact hp
        · rw [upd_ne nrD.symm, upd_same]
          rfl
    · rintro H' ⟨ps, eD, sm, hpl, hpr⟩
      have el : (ens zs).take (refs zs).length = ens zs := List.take_of_length_le (by rw [List.length_map, List.length_map]; exact Nat.le_refl _)
      rw [el] at hpr
      refine ⟨D, ps, wdk (ens zs), rfl, SqL.of eD, paired_mono hpr fun p kv hp => SqT.of hp, fun W nW => ?_⟩
      have e2 : mergeK [] (wdk (ens zs)) = wdk (ens zs) := mergeK_new (wdk (ens zs)) [] (by rw [List.nil_append]; exact wdk_nodup hB.ok.nd)
      have s2 : Same H' (upd H' W (.dK (mergeK [] (wdk (ens zs))))) := same_new nW _
      have eW : (upd H' W (.dK (mergeK [] (wdk (ens zs))))) W = some (.dK (wdk (ens zs))) := by rw [upd_same, e2]
      generalize upd H' W (.dK (mergeK [] (wdk (ens zs)))) = H2 at s2 eW
      have s02 := s1.trans (sm.trans s2)
      obtain ⟨xe, exe, g0, _, _, _, g4⟩ := (hE.kp (Same.tup s02)).tup
      by_cases hnm : e.num ∈ (ens zs).map (·.num)
      · rw [if_pos hnm] at q
        obtain ⟨u, hu1, hu2⟩ := List.mem_map.mp hnm
        have hg : DGet H2 W (.int e.num) (some (.str u.word)) := by
          have h4 := DGet.k (k := Sum.inl e.num) eW
          rcases get_cases hes e.num with ⟨v, hv, e3, e4⟩ | ⟨hn, _⟩
          · rw [e4, num_one hes.nd hv hu1 (e3.trans hu2.symm)] at h4
            exact h4
          · exact absurd hu2 (hn u hu1)
        refine ⟨_, rfl, a, xe, 0, _, rfl, rfl, SqT.of exe, g0, _, rfl, W, _, rfl, hg, _, rfl, ?_⟩
        exact iteT (q _ s02)
      · rw [if_neg hnm] at q
        have hg : DGet H2 W (.int e.num) none := by
          have h4 := DGet.k (k := Sum.inl e.num) eW
          rw [valV_none (fun q hq => ?_)] at h4
          · exact h4
          · exact fun z => hnm (List.mem_map.mpr ⟨q, hq, z⟩)
        refine ⟨_, rfl, a, xe, 0, _, rfl, rfl, SqT.of exe, g0, _, rfl, W, _, rfl, hg, _, rfl, ?_⟩
        refine iteF ?_
        refine ⟨_, rfl, a, e, rfl, hE.kp (Same.tup s02), hw, fun l H3 s3 el3 => ?_⟩
        refine ⟨l, rfl, ⟨_, SqL.of el3⟩, ?_⟩
        rw [fitE_names hw] at q
        refine for_list (K := K) (a := l) (xs := e.names.map V.int) (fun i σ H' => ∃ y3 y4 y5, σ = [some (.ref b), some (.ref a), some (.ref W), y3, y4, y5] ∧ Same H3 H' ∧ ((e.names.take i).all (wantE (ens zs) e)) = true) ⟨_, _, _, rfl, same_refl _, rfl⟩ (fun i σ H' _ h => ?_) ?_ ?_
        · obtain ⟨_, _, _, _, sm, _⟩ := h
          exact SqL.of (sm _ _ el3)
        · rintro i x σ H4 hx ⟨y3, y4, y5, rfl, s4, hall⟩
          rw [List.getElem?_map] at hx
          cases hm : e.names[i]? with
          | none => rw [hm] at hx; cases hx
          | some m =>
            rw [hm] at hx
            injection hx with hx
            subst hx
            have eW4 := s4 _ _ (s3 _ _ eW)
            have hgW : ∀ H', Same H4 H' → DGet H' W (.int m) (valV (wdk (ens zs)) (.inl m)) := fun H' s' => DGet.k (k := Sum.inl m) (s' _ _ eW4)
            have s04 := s02.trans (s3.trans s4)
            obtain ⟨xe4, exe4, _, _, _, _, g44⟩ := (hE.kp (Same.tup s04)).tup
            obtain ⟨xd, ed1, ed2⟩ := want_deed hes m
            obtain ⟨xa, ea1, ea2⟩ := want_act hes m
            refine ⟨_, rfl, W, rfl, .inl ⟨_, .inl eW4⟩, _, rfl, _, hgW _ (same_refl _), ?_⟩
            rw [ed1]
            refine ⟨rfl, ?_⟩
            refine ⟨_, rfl, a, xe4, 4, _, rfl, rfl, SqT.of exe4, g44, rfl, _, rfl, ?_⟩
            have hstep : ∀ v : Bool, v = wantE (ens zs) e m → (v = true → ((e.names.take (i + 1)).all (wantE (ens zs) e)) = true) ∧ (v = false → e.names.all (wantE (ens zs) e) = false) := fun v hv => by
              refine ⟨fun c => ?_, fun c => ?_⟩
              · rw [take_more hm, List.all_append, hall, Bool.true_and, List.all_cons, List.all_nil, ← hv, c]
                rfl
              · rw [List.all_eq_false]
                exact ⟨m, List.mem_of_getElem? hm, by rw [← hv, c]; decide⟩
            by_cases hun : e.word = "undone"
            · rw [decide_eq_true (congrArg V.str hun)]
              refine iteT ?_
              refine ⟨_, rfl, W, rfl, .inl ⟨_, .inl eW4⟩, _, rfl, _, hgW _ (same_refl _), ?_⟩
              rw [ea1]
              refine ⟨rfl, ?_⟩
              refine ⟨_, rfl, _, rfl, ?_⟩
              rw [dec_strE xa]
              have hv : (!decide (xa = "deed")) = wantE (ens zs) e m := by
                unfold wantE
                rw [if_pos hun]
                exact ea2
              obtain ⟨a1, a2⟩ := hstep _ hv
              show if (!(!decide (xa = ("deed" : Str)))) = true then _ else _
              generalize (!decide (xa = "deed")) = vb at a1 a2 ⊢
              cases vb with
              | true => exact iteF ⟨_, _, _, rfl, s4, a1 rfl⟩
              | false =>
                refine iteT ?_
                rw [a2 rfl] at q
                exact q _ s04
            · rw [decide_eq_false (show ¬ V.str e.word = V.str "undone" from fun z => hun (by injection z))]
              refine iteF ?_
              refine ⟨_, rfl, _, rfl, ?_⟩
              rw [dec_strE]
              have hv : decide (xd = "deed") = wantE (ens zs) e m := by
                unfold wantE
                rw [if_neg hun]
                exact ed2
              obtain ⟨a1, a2⟩ := hstep _ hv
              generalize decide (xd = "deed") = vb at a1 a2 ⊢
              cases vb with
              | true => exact iteF ⟨_, _, _, rfl, s4, a1 rfl⟩
              | false =>
                refine iteT ?_
                rw [a2 rfl] at q
                exact q _ s04
        · rintro σ H4 ⟨y3, y4, y5, rfl, s4, hall⟩
          rw [List.length_map, List.take_length] at hall
          rw [if_pos hall] at q
          have s04 := s02.trans (s3.trans s4)
          have hB4 := hB.kp (Same.tup s04)
          refine ⟨(by show 2 ≤ sizeLine; decide), fun l3 nl3 => ?_⟩
          have s5 := same_new nl3 (.lst [.str "ok", .str "many"])
          have el : (upd H4 l3 (.lst [.str "ok", .str "many"])) l3 = some (.lst [.str "ok", .str "many"]) := upd_same
          generalize upd H4 l3 (.lst [.str "ok", .str "many"]) = H5 at s5 el
          refine ⟨_, rfl, b, _, 2, _, rfl, rfl, SqT.of (s5 _ _ hB4.at_), (atI_nat (j := 2) rfl), t, _, rfl, .inr (SqT.of (s5 _ _ hB4.ents)), rfl, .inr ⟨_, rfl, ?_⟩⟩
          rw [dec_intE]
          have hll : ((refs zs).length : Int) = ((ens zs).length : Int) := by rw [List.length_map, List.length_map]
          rw [hll]
          by_cases h16 : (ens zs).length = 16
          · rw [if_pos h16] at q
            rw [decide_eq_true (show (((ens zs).length : Nat) : Int) = 16 by omega)]
            exact ⟨l3, _, 1, .str "many", rfl, rfl, SqL.of el, (atI_nat (j := 1) rfl), q _ (s04.trans s5)⟩
          · rw [if_neg h16] at q
            rw [decide_eq_false (show ¬ (((ens zs).length : Nat) : Int) = 16 by omega)]
            exact ⟨l3, _, 0, .str "ok", rfl, rfl, SqL.of el, (atI_nat (j := 0) rfl), q _ (s04.trans s5)⟩
end
end Deed

namespace Deed
open PySem PySem.Spec PyProof.Rows L2 LamX
/-! ### refusals: promises of defs that may raise; a def that calls what it got and tells what was raised -/
section
variable {P : Program} {w : World} {K : PySem.W.Frag} {mg : Str → Option Value} {base : Heap} {k : Nat} {f : Addr} {fd : FuncData} {ps : List Str} {sp sp' : Sp}
theorem FnOk.toX (F : FnOk P w K mg base L2.CX0 k f fd ps sp) : FnOk P w K mg base (L2.CX P w) k f fd ps sp :=
  ⟨F.len, fun A outer s H args us vs Q E hr he hb hv hs => codeAny_mono (F.run A outer s H args us vs Q E hr he hb hv hs) fun r s' hq => by
    cases r with
    | error e => exact (show False from hq).elim
    | ok fl => cases fl <;> exact hq⟩
def orSp (a b : Sp) : Sp := fun vs H Q E => a vs H Q E ∨ b vs H Q E
theorem FnOk.or {CX : CXT} (F : FnOk P w K mg base CX k f fd ps sp) (G : FnOk P w K mg base CX k f fd ps sp') : FnOk P w K mg base CX k f fd ps (orSp sp sp') :=
  ⟨fun vs H Q E h => h.elim (F.len vs H Q E) (G.len vs H Q E), fun A outer s H args us vs Q E hr he hb hv hs => hs.elim (F.run A outer s H args us vs Q E hr he hb hv) (G.run A outer s H args us vs Q E hr he hb hv)⟩
end
/-- an own class of refusals over ValueError, made with a text -/
structure ExcCl (K : PySem.W.Frag) (mg : Str → Option Value) (x : Str) (C : Addr) : Prop where
  xP : PySem.W.excIn K C [.type "ValueError", .type "Exception", .type "BaseException", .type "object"] "ValueError.__new__" = true
  gP : mg x = some (.ref C)
  kP : PySem.W.keepIn K (.ref C) = true
  bP : PySem.W.subIn K (.ref C) (.type "BaseException") = some true
  tP : PySem.W.typeIn K (.ref C) = some (.type "type")
  eP : PySem.W.exmOne K (.ref C) (.ref C) = some true
/-- a def that may raise -/
structure CallX (P : Program) (w : World) (K : PySem.W.Frag) (mg : Str → Option Value) (base : Heap) (L : Nat) (x : Str) (ps : List Str) (sp : Sp) where
  f : Addr
  fd : FuncData
  g : mg x = some (.ref f)
  kp : PySem.W.keepIn K (.ref f) = true
  b : Binds K fd ps []
  ok : FnOk P w K mg base (L2.CX P w) L f fd ps sp
def CallX.mono {P : Program} {w : World} {K : PySem.W.Frag} {mg : Str → Option Value} {base : Heap} {L L' : Nat} {x : Str} {ps : List Str} {sp : Sp} (c : CallX P w K mg base L x ps sp) (h : L ≤ L') : CallX P w K mg base L' x ps sp := ⟨c.f, c.fd, c.g, c.kp, c.b, c.ok.mono h⟩
def Df.callX {P : Program} {w : World} {K : PySem.W.Frag} {mg : Str → Option Value} {base : Heap} {L : Nat} {x : Str} {st : Stmt} {ps : List Str} {f : Addr} {fd : FuncData} {sp : Sp} (D : Df K mg x st ps f fd) (G : FnOk P w K mg base (L2.CX P w) L f fd ps sp) : CallX P w K mg base L x ps sp := ⟨f, fd, D.g, D.F.kp, D.b, G⟩
/-- the words for what is raised, class by class -/
def chain (K : PySem.W.Frag) (Q : VK) : List (Addr × Str) → XK
  | [] => fun _ _ _ => False
  | (C, z) :: r => fun cls d H => ∃ b, PySem.W.exmOne K cls (.ref C) = some b ∧ (b = true → Q (.str z) H) ∧ (b = false → chain K Q r cls d H)
def TWhy (K : PySem.W.Frag) (l : List (Addr × Str)) (ret : Str) : (XK → Hp → VK → Prop) → Hp → VK → Prop := fun tl H Q => tl (chain K Q l) H (fun _ H' => Q (.str ret) H')
theorem chain_many {K : PySem.W.Frag} {Q : VK} {D : Ends} (hD : D.rt = Q) : ∀ {l : List (Addr × Str)} {cls : Value} {d : Option Addr} {σ : L2.St} {H : Hp}, chain K Q l cls d H → wMany K (fun _ _ _ _ => False) D (l.map fun p => (Value.ref p.1, fun _ _ _ => tRet (tC (.str p.2)))) cls d σ H
  | [], _, _, _, _, h => h
  | (C, z) :: r, cls, d, σ, H, h => by
    obtain ⟨b, e1, e2, e3⟩ := h
    exact ⟨b, e1, fun hb a _ => by
      show D.rt (.str z) H
      rw [hD]
      exact e2 hb, fun hb => chain_many hD (e3 hb)⟩
section
variable {X : Cx}
theorem why_gives {Ng : List Str} {x a q ret : Str} {sg : Scope} {g : Addr} {cdg : Value} {j : Nat} {p1 p2 p3 p5 p6 p8 : Pos} {h0 : ExceptHandler} {hds : List ExceptHandler} {l : List (Addr × Str)} (hst : ∀ f : Addr, (L2.start Ng [V.ref f])[0]? = some (some (V.ref f)))
    (hh : ∀ s H, HdsOk (cxOf C8.CX0 X.prog X.w X.K X.mg X.base Ng x sg g cdg X.A X.stack s H C8.E0).nox (h0 :: hds) (l.map fun p => (Value.ref p.1, fun _ _ _ => tRet (tC (.str p.2))))) :
    GivesTo X Ng x sg g cdg [.Try [.Expr (.Call (.Name a p1) [] [] p2) p3] (h0 :: hds) [] [] p8, .Return (some (.Constant (.str ret) j p5)) p6] a q (TWhy X.K l ret) := by
  intro f c' s H Q tl act hc h
  refine ⟨_, pss_cons (ps_try_many (X := (cxOf C8.CX0 X.prog X.w X.K X.mg X.base Ng x sg g cdg X.A X.stack s H C8.E0).nox) (Wout := fun _ _ _ _ => False) (l := l.map fun p => (Value.ref p.1, fun _ _ _ => tRet (tC (.str p.2))))
      (tb := fun W D σ H => ∃ Ech : XK, (∀ cls d σ' H', Ech cls d H' → W cls d σ' H') ∧ σ[0]? = some (some (.ref f)) ∧ H c' = some (CodeO c' q) ∧ tl Ech H (fun _ H' => D.nx σ H'))
      rfl rfl LamX.takes0 (fun W pn xe tk _ => ?_) (hh s H)) (pss_one (ps_ret pe_str)), ?_⟩
  · refine ⟨fun pins s' σ H' D I h' => ?_⟩
    obtain ⟨Ech, hW, h1, h2, h3⟩ := h'
    have hp := act W pn xe Ech p1 p2 tk hW
    have hq := pss_one (ps_expr (pos := p3) hp)
    exact hq.run pins s' σ H' D I ⟨h1, h2, h3⟩
  · exact ⟨chain X.K Q l, fun cls d σ' H' hc => chain_many rfl hc, hst f, hc, h⟩
end
mutual
theorem TgAt.ext {p : Addr} {H H' : Hp} (k : ExtN H H') : ∀ (t : Tg) (v : V), TgAt p H v t → TgAt p H' v t
  | .non, _, h => by cases h; exact .non
  | .bl _, _, h => by cases h; exact .bl _
  | .int _, _, h => by cases h; exact .int _
  | .str _, _, h => by cases h; exact .str _
  | .lst, _, h => by
    cases h with
    | lst n e => exact .lst n (k _ _ e fun _ z => by cases z)
  | .tup ts, _, h => by
    cases h with
    | tup e ha => exact .tup (k _ _ e fun _ z => by cases z) (TgAll.ext k ts _ ha)
  | .dct, _, h => by
    cases h with
    | dct n e => exact .dct n (k _ _ e fun _ z => by cases z)
theorem TgAll.ext {p : Addr} {H H' : Hp} (k : ExtN H H') : ∀ (ts : List Tg) (vs : List V), TgAll p H vs ts → TgAll p H' vs ts
  | [], _, h => by cases h; exact .nil
  | t :: ts, _, h => by
    cases h with
    | cons h1 h2 => exact .cons (TgAt.ext k t _ h1) (TgAll.ext k ts _ h2)
end
end Deed

namespace SupX
open PySem PySem.Spec PyProof.Rows L2 LamX NdefX ClX
/-! super().__init__(text) in an own exception over ValueError -/
/-- what the written part says of the class, of its __init__ at f and of the cell that has the class -/
structure SupC (P : Program) (K : PySem.W.Frag) (C f cc : Addr) (F : NF) : Prop where
  oex : OexC K C
  sup : PySem.W.ks_superIn K C C "__init__" = some (some (.builtin "ValueError.__init__"))
  mro : PySem.W.mroIn K C (.ref C) = some true
  subB : PySem.W.subIn K (.ref C) (.type "ValueError") = some true
  any : PySem.W.nsIn K PySem.cStatics "thirdparty.any" = some none
  cell : ∃ oc od osl, K.lookup cc = some (⟨oc, od, .cell (some (.ref C)), osl⟩ : Obj)
  fn : ∃ oc od doc pm ctv osl, K.lookup f = some (⟨oc, od, .func (F.fd doc pm ctv), osl⟩ : Obj)
  code : ∃ ccl cdd vs ccs file tf, K.lookup F.c = some (⟨ccl, cdd, .fields vs, ccs⟩ : Obj) ∧ vs[2]? = some (.str file tf) ∧ ((P.main.file : Str) == file) = true
  rec_ : PySem.W.codeIn K (.ref F.c) F.qual = true
  top : (P.main.scope.names.lookup ("super" : Str)).isSome = false
section
variable {X : Cx} {pins : List (Addr × Obj)} {σ : L2.St} {H : Hp} {s : Shared} {a C f cc : Addr} {F : NF} {E : Value → Shared → Prop} {body : List Stmt} {p0 p1 p2 p3 p4 : Pos} {ar : Arg} {r : List Arg}
theorem sup_base {whole : Sem Value} {Q : Value → Shared → Prop} (I : Inv X pins σ H s) (S : SupC X.prog X.K C f cc F) (e : H a = some (exo a C none)) (hfu : X.env.func = some f) (hco : X.env.code = .ref F.c)
    (hks : X.env.kindOf "super" = some .globalImplicit) (hkc : X.env.kindOf "__class__" = some .free) (hcl : X.env.cells.lookup ("__class__" : Str) = some cc) (hp : F.params.posonlyargs ++ F.params.args = ar :: r) (hks1 : X.env.kindOf ar.arg = some .local)
    (hN : X.N[0]? = some ar.arg) (hσ : σ[0]? = some (some (.ref a))) (hm : X.mg "super" = none) (h : ∀ s' so, Inv X ((so, PySem.W.ks_superObj C a C) :: pins) σ H s' → Q (.ref so) s') :
    _root_.PySem.wpAt (model X.prog X.w) X.A (.func body X.env) (attributeBase (.Call (.Name "super" p0) [] [] p1) "__init__" X.env whole) Q E s := by
  obtain ⟨hh, g, d, t, os⟩ := s
  have X0 := I.kIn
  obtain ⟨oc, od, doc, pm, ctv, osl, lf⟩ := S.fn
  obtain ⟨ccl, cdd, vs, ccs, file, tf, lc, hvs, hfile⟩ := S.code
  obtain ⟨oc2, od2, osl2, lcell⟩ := S.cell
  obtain ⟨nm, q, N, bs, bm, sn, sub, ab, col, dd, k0, k1, k2, k3, k5, hC, hbm⟩ := S.oex.cls
  obtain ⟨t1, ho⟩ := exo_at I.hok e
  obtain ⟨mb, h1, h2⟩ := I.mod.blt
  obtain ⟨m, hns, hl⟩ := I.loc
  obtain ⟨u, ru, hlk⟩ := hl 0 ar.arg (.ref a) hN hσ (.inl hks1)
  obtain rfl : u = Value.ref a := ru
  have hv : m ar.arg = some (.ref a) := by
    rcases hlk with ⟨_, h⟩ | ⟨h | h, _⟩
    · exact h
    · rw [hks1] at h; cases h
    · rw [hks1] at h; cases h
  refine PySem.ks_wpAt_super_base (env := X.env) hks hkc (by decide) hfu (X0 _ _ lf) rfl (show (F.params.posonlyargs ++ F.params.args).head? = some ar by rw [hp]; rfl) hco (X0 _ _ lc) rfl hvs hfile S.top ?_
  refine PySem.W.ks_loadName_global I.ok.kind hks (PySem.Calls.loadGlobal_builtin (by rw [I.ok.glob]; exact I.mod.glob.keeps I.bk) hm (by rw [I.ok.blt]; exact h1.keeps I.bk) ((h2 _ (by decide)).trans (show bootBuiltins "super" = some (.type "super") by decide +kernel)) ⟨rfl, ?_⟩)
  refine wpAny_loadName_free I.ok.kind hkc hcl ⟨_, X0 _ _ lcell, rfl⟩ ?_
  refine wpAny_loadName_local I.ok.kind hks1 hns hv ?_
  refine PySem.ks_wpAny_isType_cls (X0 _ _ hC) rfl ⟨rfl, ?_⟩
  refine PySem.ks_wpAny_call_super (X0 _ _ hC) rfl ho rfl (fun c z => by cases z) (PySem.W.looks_mroIn X0 S.mro) (fun h' e' k => ?_)
  exact h _ _ (pin_new I k (Nat.le_refl _) e' (fun v z => by cases z))
theorem sup_meth {so : Addr} {pl : Sem Bool} {Q : Value × List Value → Shared → Prop} (I : Inv X ((so, PySem.W.ks_superObj C a C) :: pins) σ H s) (S : SupC X.prog X.K C f cc F) (e : H a = some (exo a C none))
    (h : ∀ s' u, Inv X ((u, PySem.W.kxs_mw "ValueError.__init__" a) :: pins) σ H s' → Q (.ref u, []) s') : wpAny (model X.prog X.w) X.A (getMethod (.ref so) "__init__" pl) Q E s := by
  have X0 := I.kIn
  have hso := pin_at I
  obtain ⟨t1, ho⟩ := exo_at I.hok e
  obtain ⟨hh, g, d, t, os⟩ := s
  have J : PySem.W.InstAt hh a ({ cls := .ref C, dict := none, data := .fields #[.ref t1, .none, .none, .none, .bool false, .none] } : Obj) C none := ⟨ho, rfl, rfl, trivial⟩
  cases hc : PySem.W.clsIn X.K C with
  | none =>
    have z := S.sup
    unfold PySem.W.ks_superIn at z
    rw [hc] at z
    cases z
  | some cd =>
    have z := S.sup
    unfold PySem.W.ks_superIn at z
    rw [hc] at z
    refine PySem.W.kxs_getMethod PySem.W.kxs_ValueError hso (PySem.W.looks_opaque X0 S.any) (l₀ := cd.mro) (fun A Q E s k q => wpAny_bind ((PySem.W.looks_clsIn X0 hc) A _ E s k (wpAny_pure q))) rfl X0 z (J.type.andThen (PySem.W.looks_subIn X0 S.subB)) (PySem.W.ks_ne X0 J hc) (by decide) ?_
    exact h _ _ (pin_new (unpin I) (fun b o e => Heap.get?_push_of_some _ e) (Nat.le_refl _) (Heap.get?_push_at rfl rfl) (fun v z => by cases z))
theorem sup_call {u : Addr} {us : List Value} {Q : Value → Shared → Prop} (I : Inv X ((u, PySem.W.kxs_mw "ValueError.__init__" a) :: pins) σ H s) (T : OexC X.K C) (e : H a = some (exo a C none)) (hl : us.length ≤ sizeLine)
    (h : ∀ s', Inv X pins σ H s' → Q .none s') : wpAny (model X.prog X.w) X.A (call (.ref u) us) Q E s := by
  obtain ⟨nm, q, N, bs, bm, sn, sub, ab, col, dd, k0, k1, k2, k3, k5, hC, hbm⟩ := T.cls
  have hu := pin_at I
  have I0 := unpin I
  obtain ⟨t1, ho⟩ := exo_at I0.hok e
  have hC' := I0.kIn _ _ hC
  obtain ⟨hh, g, d, t, os⟩ := s
  refine wpAny_call (codeAny_of_tree ?_)
  show wpAny _ X.A.in1 (callAny (.ref u) ⟨us, []⟩) _ _ _
  unfold callAny
  refine wpAny_bind (wpAny_load hu ?_)
  dsimp only
  rw [if_pos (by decide)]
  refine PySem.W.KFB.if_so (by decide) ?_
  refine wpAny_bind (PySem.W.check_bound_init F.excBase_ValueError.toExcCallFacts hC' ho rfl ?_)
  refine wpAny_bind (wpAny_pure (wpAny_pure ?_))
  refine ⟨plainId_quiet F.excBase_ValueError.init.plain _, codeAny_builtin F.excBase_ValueError.initEntry ?_⟩
  refine PySem.W.exc_init_tree (cls := .ref C) (t0 := t1) (dv := none) (c2 := .none) (c3 := .none) (b4 := .bool false) ho hl fun h' k hx _ => ?_
  have J := I0.write (t' := t) (x := a) (e := a) (o := exo a C none) (by rw [e]; exact True.intro) (.inl rfl) k ⟨_, hx⟩ (exo_ok hx)
  have eu : upd H a (exo a C none) = H := funext fun b => by
    unfold upd
    split
    · rename_i hb
      rw [hb, e]
    · rfl
  rw [eu] at J
  exact h _ J
end
end SupX

namespace SupX
open PySem PySem.Spec PyProof.Rows L2 LamX NdefX ClX
section
variable {X : Cx} {pins : List (Addr × Obj)} {σ : L2.St} {H : Hp} {s : Shared} {a C f cc : Addr} {F : NF} {body : List Stmt} {p0 p1 p2 p3 p4 : Pos} {ar : Arg} {r : List Arg} {ex : Expr} {es : List Expr} {ta : TA}
/-- super().__init__(e, ..) as a statement -/
theorem sup_stmt {Q : Flow → Shared → Prop} (I : Inv X pins σ H s) (S : SupC X.prog X.K C f cc F) (e : H a = some (exo a C none)) (hfu : X.env.func = some f) (hco : X.env.code = .ref F.c)
    (hks : X.env.kindOf "super" = some .globalImplicit) (hkc : X.env.kindOf "__class__" = some .free) (hcl : X.env.cells.lookup ("__class__" : Str) = some cc) (hp : F.params.posonlyargs ++ F.params.args = ar :: r) (hks1 : X.env.kindOf ar.arg = some .local)
    (hN : X.N[0]? = some ar.arg) (hσ : σ[0]? = some (some (.ref a))) (hm : X.mg "super" = none) (ha : PA X (ex :: es) ta) (hi : interactive X.env = false)
    {R : List V → Hp → Prop} (h : ta σ H R) (hR : ∀ vs H1, R vs H1 → vs.length ≤ 1000 ∧ H1 a = some (exo a C none) ∧ ∀ s', Inv X pins σ H1 s' → Q .next s')
    (hpl : (backTo p3 (starEach es X.env)).any (·.1) = false := by rfl) (he : starEach (ex :: es) X.env = (false, eval ex X.env) :: starEach es X.env := by rfl)
    (hs : swapsWith (.Call (.Attribute (.Call (.Name "super" p0) [] [] p1) "__init__" p2) (ex :: es) [] p3) none p4.line X.env = pure false := by rfl)
    (hev : eval (.Call (.Attribute (.Call (.Name "super" p0) [] [] p1) "__init__" p2) (ex :: es) [] p3) X.env = (do
      let ov ← attributeBase (.Call (.Name "super" p0) [] [] p1) "__init__" X.env (eval (.Call (.Name "super" p0) [] [] p1) X.env)
      standAt p2.atName
      let (f, first) ← holding [ov] (getMethod ov "__init__" (pure false))
      callWith p3 f first (backTo p3 (starEach (ex :: es) X.env)) []) := by rfl) :
    _root_.PySem.wpAt (model X.prog X.w) X.A (.func body X.env) (exec (.Expr (.Call (.Attribute (.Call (.Name "super" p0) [] [] p1) "__init__" p2) (ex :: es) [] p3) p4) X.env) Q X.xe s := by
  refine PySem.ks_wpAt_Expr_any ?_ hi hs
  refine PySem.ks_wpAt_MethodCall (sup_base I S e hfu hco hks hkc hcl hp hks1 hN hσ hm fun s1 so I1 => sup_meth I1 S e fun s2 u I2 => ?_) hev
  rw [he]
  refine PySem.W.kxs_callWith (i := "ValueError.__init__") (x := a) (by show (false || (backTo p3 (starEach es X.env)).any (·.1)) = false; rw [hpl]; rfl) (PySem.Calls.evalArgs_plain ?_)
  have hrun := ha.run p3 _ _ σ H _ I2 h
  rw [he] at hrun
  refine thn hrun fun us s3 hh => ?_
  obtain ⟨vs, H1, I3, r3, hv⟩ := hh
  obtain ⟨hz, ea, q⟩ := hR _ _ hv
  have hlen : us.length ≤ sizeLine := by
    rw [← Paired.length r3, sizeLine_eq]
    omega
  exact ⟨pin_at I3, sup_call I3 S.oex ea hlen fun s4 I4 => q s4 I4⟩
end
section
variable {CX : CXT} {P : Program} {w : World} {K : PySem.W.Frag} {mg : Str → Option Value} {base : Heap} {N ps : List Str} {F : NF} {f C cc : Addr} {k : Nat} {sp : Sp} {oc doc pm ctv : Value} {od : Option Addr} {osl : Array (Option Value)} {p0 p1 p2 p3 p4 : Pos} {ar : Arg} {r : List Arg} {ex : Expr} {es : List Expr} {rest : List Stmt}
/-- the __init__ of such a class -/
theorem sup_fn (lk : K.lookup f = some (⟨oc, od, .func (F.fd doc pm ctv), osl⟩ : Obj)) (S : SupC P K C f cc F) (NS : NScope N ps ["__class__"] F.scope) (hcl : F.cl = [(("__class__" : Str), cc)])
    (hbd : F.body = .Expr (.Call (.Attribute (.Call (.Name "super" p0) [] [] p1) "__init__" p2) (ex :: es) [] p3) p4 :: rest) (hp : F.params.posonlyargs ++ F.params.args = ar :: r) (hps : ps[0]? = some ar.arg) (hss : F.scope.names.lookup ("super" : Str) = some .globalImplicit)
    (hm : mg "super" = none) (len : ∀ vs H Q E, sp vs H Q E → vs.length = ps.length)
    (hbody : ∀ (A : Around) (outer : List Env) (s : Shared) (H : Hp) (vs : List V) (Q : VK) (E : XK), Room k (A.deeper (envF F f s.heap.objs.size)) → sp vs H Q E →
      ∃ (a : Addr) (vs' : List V) (ta : TA) (t : TS), vs = .ref a :: vs' ∧ H a = some (exo a C none) ∧ PA (ncx CX P w K mg base N F f A outer s H E) (ex :: es) ta ∧ PSs (ncx CX P w K mg base N F f A outer s H E) rest t ∧
        ta (startF N vs [some (.ref C)]) H fun us H1 => us.length ≤ 1000 ∧ H1 a = some (exo a C none) ∧ t { nx := fun _ H' => Q .non H', rt := Q } (startF N vs [some (.ref C)]) H1)
    (hpl : ∀ env, (backTo p3 (starEach es env)).any (·.1) = false := by intro _; rfl) (he : ∀ env, starEach (ex :: es) env = (false, eval ex env) :: starEach es env := by intro _; rfl)
    (hs : ∀ env, swapsWith (.Call (.Attribute (.Call (.Name "super" p0) [] [] p1) "__init__" p2) (ex :: es) [] p3) none p4.line env = pure false := by intro _; rfl)
    (hev : ∀ env, eval (.Call (.Attribute (.Call (.Name "super" p0) [] [] p1) "__init__" p2) (ex :: es) [] p3) env = (do
      let ov ← attributeBase (.Call (.Name "super" p0) [] [] p1) "__init__" env (eval (.Call (.Name "super" p0) [] [] p1) env)
      standAt p2.atName
      let (f, first) ← holding [ov] (getMethod ov "__init__" (pure false))
      callWith p3 f first (backTo p3 (starEach (ex :: es) env)) []) := by intro _; rfl) : FnOk P w K mg base CX (k + 1) f (F.fd doc pm ctv) ps sp := by
  refine ⟨len, fun A outer s H args us vs Q E hr e0 hb rv hsp => ?_⟩
  have hl := len _ _ _ _ hsp
  have KX : K.In s.heap := e0.mod.kin.keeps fun b o e => (e0.bs b o e).1
  have lim : s.heap.NoLimit := e0.mod.nolimit.keeps fun b o e => (e0.bs b o e).1
  obtain ⟨oc2, od2, osl2, lcell⟩ := S.cell
  refine PySem.ks_codeAny_call_defAt hr.depth (KX _ _ lk) rfl lim (PySem.W.codeRec_of KX S.rec_) (body := F.body) rfl hb NS.nocell (fun y hy => NS.par y.1 (List.of_mem_zip hy).1) (fun h1 hns kp => ?_) NS.co NS.gen NS.kind
  show _root_.PySem.wpAt (model P w) (A.deeper (envF F f s.heap.objs.size)) (.func F.body (envF F f s.heap.objs.size)) (execs F.body (envF F f s.heap.objs.size)) _ _ _
  have CA : CellsAt F.cl ["__class__"] [some (.ref C)] s.heap H := by
    have hc : s.heap.IsCell cc (some (.ref C)) := ⟨_, KX _ _ lcell, rfl⟩
    have hcn : H cc = none := by
      obtain ⟨o, ho⟩ : ∃ o, base.get? cc = some o := ⟨_, e0.mod.kin _ _ lcell⟩
      exact (e0.bs cc o ho).2
    refine ⟨rfl, fun y c hy => ?_, fun x y c hx hy => ?_, fun i y hi => ?_⟩
    · rw [hcl] at hy
      unfold List.lookup at hy
      split at hy
      · cases hy; exact ⟨hcn, _, hc⟩
      · cases hy
    · rw [hcl] at hx hy
      have key : ∀ z : Str, List.lookup z [(("__class__" : Str), cc)] = some c → z = "__class__" := fun z hz => by
        unfold List.lookup at hz
        split at hz
        · rename_i hq
          exact eq_of_beq hq
        · cases hz
      rw [key x hx, key y hy]
    · cases i with
      | zero =>
        obtain rfl : ("__class__" : Str) = y := Option.some.inj hi
        refine ⟨cc, by rw [hcl]; simp [List.lookup], fun v hv => ?_⟩
        cases hv
        exact ⟨_, rfl, hc⟩
      | succ i => cases hi
  have I : Inv (ncx CX P w K mg base N F f A outer s H E) [] (startF N vs [some (.ref C)]) H { s with heap := h1, toks := s.toks + (ps.zip us).length } := inv_startN NS hr.hd e0 hl rv CA hns kp
  obtain ⟨a, vs', ta, t, rfl, ea, ha, ht, hq⟩ := hbody A outer s H vs Q E (hr.deeper _) hsp
  have hpl0 : N.take (ps.length + 1) = ps ++ [("__class__" : Str)] := NS.pre
  have hN0 : N[0]? = some ar.arg := by
    have h0 : (N.take (ps.length + 1))[0]? = N[0]? := List.getElem?_take_of_lt (by omega)
    rw [← h0, hpl0]
    cases ps with
    | nil => cases hps
    | cons x y => exact hps
  have hloc : F.scope.names.lookup ar.arg = some .local := NS.par _ (List.mem_of_getElem? hps)
  rw [hbd]
  refine PySem.ks_wpAt_execs_cons ?_
  refine sup_stmt (X := ncx CX P w K mg base N F f A outer s H E) I S ea rfl rfl hss (NS.frk _ List.mem_cons_self) (by show List.lookup ("__class__" : Str) F.cl = some cc; rw [hcl]; simp [List.lookup]) hp hloc hN0 rfl hm ha (by show (F.scope.kind == .module && _) = false; rw [NS.kind]; rfl) hq (fun us H1 hr1 => ⟨hr1.1, hr1.2.1, fun s' J => ?_⟩) (hpl _) (he _) (hs _) (hev _)
  refine wpAt_of_wpAny (wpAny_mono (ht.run [] s' _ H1 _ J hr1.2.2) (fun fl s'' hs' => ?_) fun e s'' hs' => hs')
  match fl, hs' with
  | .ret _, ⟨v, _, H2, J2, rv2, q⟩ => exact ⟨v, H2, J2.os, J2.bare, J2.base, J2.hok, rv2, q⟩
  | .next, ⟨_, H2, J2, q⟩ => exact ⟨.non, H2, J2.os, J2.bare, J2.base, J2.hok, rfl, q⟩
  | .brk, ⟨_, _, _, z⟩ => exact z.elim
  | .cont, ⟨_, _, _, z⟩ => exact z.elim
end
end SupX

namespace Deed
open PySem PySem.Spec PyProof.Rows L2 LamX
/-! ### a thing that is an entry; an entry, a book with all their data -/
theorem risT_shape {m l : Int} {u : Tg} (h : risT m l u = true) : ∃ rs : List Int, u = .tup (rs.map Tg.int) := by
  match u, h with
  | .tup rs, h =>
    have h8 : (decide ((rs.length : Int) ≤ m) && (rs.all (Tg.within 0 (l - 1)) && risI (rs.map Tg.toI))) = true := h
    simp only [Bool.and_eq_true] at h8
    exact ⟨rs.map Tg.toI, by rw [← within_ints h8.2.1]⟩
theorem ent_of_tg {n : Int} {t : Tg} (h : isEntT n t = true) : ∃ e : En, t = entT e ∧ ∀ x o, e.kd = .act x o → x ≠ "deed" := by
  match t, h with
  | .tup (a :: b :: c :: d :: e :: f :: r), h =>
    have h' : (a.within 0 30 && (b.within 0 9999 && (c.within 0 9999 && (d.within 0 3 && tailT n a.toI e (f :: r))))) = true := h
    simp only [Bool.and_eq_true] at h'
    obtain ⟨h1, h2, h3, h4, h5⟩ := h'
    obtain ⟨num, rfl, _⟩ := Tg.within_int h1
    obtain ⟨day, rfl, _⟩ := Tg.within_int h2
    obtain ⟨wri, rfl, _⟩ := Tg.within_int h3
    obtain ⟨hand, rfl, _⟩ := Tg.within_int h4
    match e, h5 with
    | .str z, h5 =>
      have h5' : (if z = "deed" then deedTailT n num (f :: r) else decide (z ∈ [("paid" : Str), "void", "undone"]) && actTailT num (f :: r)) = true := h5
      by_cases hz : z = "deed"
      · rw [if_pos hz] at h5'
        match r, h5' with
        | [g, tr, u], h5' =>
          have h6 : (f.within 0 (n - 1) && (g.within 0 (n - 1) && (!decide (f.toI = g.toI) && (risT 2 num tr && (risT 3 n u && (!hasI f.toI u && !hasI g.toI u)))))) = true := h5'
          simp only [Bool.and_eq_true] at h6
          obtain ⟨i1, i2, _, i3, i4, _⟩ := h6
          obtain ⟨gi, rfl, _⟩ := Tg.within_int i1
          obtain ⟨ti, rfl, _⟩ := Tg.within_int i2
          obtain ⟨rs, rfl⟩ := risT_shape i3
          obtain ⟨ws, rfl⟩ := risT_shape i4
          exact ⟨⟨num, day, wri, hand, .deed gi ti rs ws⟩, by rw [hz]; rfl, fun x o q => nomatch q⟩
      · rw [if_neg hz, Bool.and_eq_true] at h5'
        match r, h5'.2 with
        | [], h6 =>
          have h7 : f.within 0 (num - 1) = true := h6
          obtain ⟨o, rfl, _⟩ := Tg.within_int h7
          exact ⟨⟨num, day, wri, hand, .act z o⟩, rfl, fun x o' q => by cases q; exact hz⟩
theorem word_iff {e : En} (h : ∀ x o, e.kd = .act x o → x ≠ "deed") : e.word = "deed" ↔ e.isDeed = true := by
  unfold En.word En.isDeed
  cases hk : e.kd with
  | deed g t rs ws => exact ⟨fun _ => rfl, fun _ => rfl⟩
  | act x o => exact ⟨fun z => absurd z (h x o hk), fun z => nomatch z⟩
theorem entAt_of {p : Addr} {H : Hp} {v : V} {e : En} (h : TgAt p H v (entT e)) : ∃ a, v = .ref a ∧ EntAt H a e := by
  unfold entT at h
  unfold EntAt
  cases hk : e.kd with
  | deed g t rs ws =>
    rw [hk] at h
    cases h with
    | tup ea ha =>
    cases ha with
    | cons h0 ha =>
    cases ha with
    | cons h1 ha =>
    cases ha with
    | cons h2 ha =>
    cases ha with
    | cons h3 ha =>
    cases ha with
    | cons h4 ha =>
    cases ha with
    | cons h5 ha =>
    cases ha with
    | cons h6 ha =>
    cases ha with
    | cons h7 ha =>
    cases ha with
    | cons h8 ha =>
    cases ha
    cases h0; cases h1; cases h2; cases h3; cases h4; cases h5; cases h6
    obtain ⟨ra, rxs, rts, rfl, er, era, hra⟩ := h7.tupOf rfl
    injection er with er
    subst er
    obtain ⟨wa, wxs, wts, rfl, ew, ewa, hwa⟩ := h8.tupOf rfl
    injection ew with ew
    subst ew
    have h9 := TgAll.int_only hra
    have h10 := TgAll.int_only hwa
    subst h9 h10
    exact ⟨_, rfl, ra, wa, ea, era, ewa⟩
  | act x o =>
    rw [hk] at h
    cases h with
    | tup ea ha =>
    cases ha with
    | cons h0 ha =>
    cases ha with
    | cons h1 ha =>
    cases ha with
    | cons h2 ha =>
    cases ha with
    | cons h3 ha =>
    cases ha with
    | cons h4 ha =>
    cases ha with
    | cons h5 ha =>
    cases ha
    cases h0; cases h1; cases h2; cases h3; cases h4; cases h5
    exact ⟨_, rfl, ea⟩
/-- what is due, of a thing of whatever kind -/
def DueT (n : Nat) (es : List En) (te : Tg) (dd : Str) : Prop := (isEntT n te = false ∧ dd = "entry") ∨ ∃ e : En, te = entT e ∧ isEntT n te = true ∧ (∀ x o, e.kd = .act x o → x ≠ "deed") ∧ dd = dueS n es e
theorem dueT_ex (n : Nat) (es : List En) (te : Tg) : ∃ dd, DueT n es te dd := by
  cases h : isEntT n te with
  | false => exact ⟨_, .inl ⟨h, rfl⟩⟩
  | true =>
    obtain ⟨e, he, hx⟩ := ent_of_tg h
    exact ⟨_, .inr ⟨e, he, h, hx, rfl⟩⟩
/-- an entry's data, or a part's -/
def EOk : Nat → PyData → Prop
  | n + 1, .tuple ds => ds.length ≤ 9 ∧ ∀ d ∈ ds, EOk n d
  | _ + 1, .int i => -10000 ≤ i ∧ i ≤ 10000
  | _ + 1, .str x => x = "deed" ∨ x = "paid" ∨ x = "void" ∨ x = "undone"
  | _, _ => False
theorem eok_ints {ns : List Int} (hl : ns.length ≤ 9) (h : ∀ i ∈ ns, -10000 ≤ i ∧ i ≤ 10000) : EOk 2 (.tuple (ns.map PyData.int)) :=
  ⟨by rw [List.length_map]; exact hl, fun d hd => by
    obtain ⟨i, hi, rfl⟩ := List.mem_map.mp hd
    exact h i hi⟩
/-- the data of an entry of a book of few folk, whatever it names -/
theorem entD_ok {n : Nat} {ds as : List Int} {e : En} (hn : n ≤ 6) (hnum : -10000 ≤ e.num ∧ e.num ≤ 10000) (ho : (0 ≤ e.day ∧ e.day ≤ 9999) ∧ (0 ≤ e.wri ∧ e.wri ≤ 9999) ∧ (0 ≤ e.hand ∧ e.hand ≤ 3)) (hk : match e.kd with
    | .deed g t rs ws => (0 ≤ g ∧ g < n) ∧ (0 ≤ t ∧ t < n) ∧ rs.length ≤ 2 ∧ (∀ r ∈ rs, r ∈ ds) ∧ ws.length ≤ 3 ∧ ∀ x ∈ ws, 0 ≤ x ∧ x < n
    | .act x o => (x = "undone" ∧ o ∈ as) ∨ ((x = "paid" ∨ x = "void") ∧ o ∈ ds)) (hds : ∀ x ∈ ds, -10000 ≤ x ∧ x ≤ 10000) (has : ∀ x ∈ as, -10000 ≤ x ∧ x ≤ 10000) : EOk 3 (entD e) := by
  obtain ⟨o1, o2, o3⟩ := ho
  unfold entD
  cases hkd : e.kd with
  | deed g t rs ws =>
    rw [hkd] at hk
    obtain ⟨g1, g2, g3, g4, g5, g6⟩ := hk
    refine ⟨by show 9 ≤ 9; decide, fun d hd => ?_⟩
    simp only [List.mem_cons, List.not_mem_nil, or_false] at hd
    rcases hd with rfl | rfl | rfl | rfl | rfl | rfl | rfl | rfl | rfl
    · exact hnum
    · exact ⟨by omega, by omega⟩
    · exact ⟨by omega, by omega⟩
    · exact ⟨by omega, by omega⟩
    · exact .inl rfl
    · exact ⟨by omega, by omega⟩
    · exact ⟨by omega, by omega⟩
    · exact eok_ints (by omega) fun i hi => hds i (g4 i hi)
    · exact eok_ints (by omega) fun i hi => by have := g6 i hi; omega
  | act x o =>
    rw [hkd] at hk
    refine ⟨by show 6 ≤ 9; decide, fun d hd => ?_⟩
    simp only [List.mem_cons, List.not_mem_nil, or_false] at hd
    rcases hd with rfl | rfl | rfl | rfl | rfl | rfl
    · exact hnum
    · exact ⟨by omega, by omega⟩
    · exact ⟨by omega, by omega⟩
    · exact ⟨by omega, by omega⟩
    · rcases hk with ⟨z, _⟩ | ⟨z | z, _⟩
      · exact .inr (.inr (.inr z))
      · exact .inr (.inl z)
      · exact .inr (.inr (.inl z))
    · rcases hk with ⟨_, z⟩ | ⟨_, z⟩
      · exact has o z
      · exact hds o z
end Deed

namespace Deed
open PySem PySem.Spec PyProof.Rows L2 LamX
section
variable {P : Program} {w : World} {K : PySem.W.Frag} {mg : Str → Option Value} {base : Heap} {T : List (Addr × Str)}
abbrev sActW : Stmt := topS 67
abbrev nActW : List Str := ["_law_pen_here", "_law_number", "_law_deeds", "_law_acts", "_law_word", "_law_some"]
abbrev pActW : List Str := ["_law_pen_here", "_law_number", "_law_deeds", "_law_acts"]
theorem scActW : FnScope nActW pActW (defScope sActW) := ⟨rfl, rfl, rfl, by decide +kernel, rfl, by decide +kernel, by decide +kernel⟩
def spActW (K : PySem.W.Frag) : Sp := fun vs H Q _ => ∃ (p ld la : Addr) (num : Int) (ds as : List Int), vs = [.ref p, .int num, .ref ld, .ref la] ∧ PenAt H p ∧ H ld = some (.lst (ds.map V.int)) ∧ ld ≠ p ∧ H la = some (.lst (as.map V.int)) ∧ la ≠ p ∧ ds ≠ [] ∧ ds.length ≤ 1000 ∧ as.length ≤ 1000 ∧
  ∀ a (e : En) H', Kp p H H' → PenAt H' p → EntAt H' a e → e.num = num → e.isDeed = false → (∀ n, EnWk n ds as e) → ((0 ≤ e.day ∧ e.day ≤ 9999) ∧ (0 ≤ e.wri ∧ e.wri ≤ 9999) ∧ (0 ≤ e.hand ∧ e.hand ≤ 3)) → Q (.ref a) H'
theorem ok_actW {f : Addr} {fd : FuncData} {k : Nat} (F : Fun K "_law_act" "_law_act" sActW f fd) (C__law_draw : CDraw P w K mg base k) (C__law_day : CallOk P w K mg base k "_law_day" pDay spDay) (m_len : mg "len" = none) : FnOk P w K mg base CX0 (k + 1) f fd pActW (spActW K) := by
  refine F.ok scActW (fun vs H Q E h => ?_) (fun cdv A outer s H vs Q E hr h => ?_)
  · obtain ⟨p, ld, la, num, ds, as, rfl, _⟩ := h
    rfl
  · obtain ⟨p, ld, la, num, ds, as, rfl, hP, eld, nld, ela, nla, hne, hdl, hal, q⟩ := h
    have nd := scActW.nd
    refine ⟨_, pss_cons (ps_set (i := 4) nd rfl (.inl rfl) (pe_ix ix_list (pe_lst (pa_cons pe_str (pa_cons pe_str (pa_cons pe_str pa_nil)))) (pe_call C__law_draw.ok hr (by rfl) C__law_draw.g C__law_draw.kp C__law_draw.b .nil pass0 (pa_cons (pv 0) (pa_cons pe_int pa_nil))) (fun _ _ => rfl)))
      (pss_cons (ps_set (i := 5) nd rfl (.inl rfl) (pv 2))
      (pss_cons (ps_if (pt_cmpR op_eq (pv 4) pe_str (nomark _)) (pss_one (ps_set (i := 5) nd rfl (.inl rfl) (pv 3))) pss_nil)
      (pss_cons (ps_if (pt_cmpR (op_eqD hr.units) (pv 5) (pe_lst pa_nil) (nomark _)) (pss_one (ps_par (i := 4) (j := 5) (by rfl) nd rfl rfl (by decide) rfl rfl (pa_cons pe_str (pa_cons (pv 2) pa_nil)) (by rfl))) pss_nil)
      (pss_one (ps_ret (pe_tup (pa_cons (pv 1) (pa_cons (pe_call C__law_day.ok hr (by rfl) C__law_day.g C__law_day.kp C__law_day.b .nil pass0 (pa_cons (pv 0) pa_nil)) (pa_cons (pe_call C__law_day.ok hr (by rfl) C__law_day.g C__law_day.kp C__law_day.b .nil pass0 (pa_cons (pv 0) pa_nil)) (pa_cons (pe_call C__law_draw.ok hr (by rfl) C__law_draw.g C__law_draw.kp C__law_draw.b .nil pass0 (pa_cons (pv 0) (pa_cons pe_int pa_nil))) (pa_cons (pv 4) (pa_cons (pe_ix ix_list (pv 5) (pe_call C__law_draw.ok hr (by rfl) C__law_draw.g C__law_draw.kp C__law_draw.b .nil pass0 (pa_cons (pv 0) (pa_cons (pe_callB call_len_seq (by rfl) m_len (by decide +kernel) (pa_cons (pv 5) pa_nil)) pa_nil))) (fun _ _ => rfl)) pa_nil)))))))))))), ?_⟩
    refine ⟨(by show 3 ≤ sizeLine; decide), fun l1 nl1 => ?_⟩
    refine ⟨_, rfl, p, 3, rfl, hP.new nl1 _, by decide, by decide, fun v0 H1 k1 P1 a0 b0 => ?_⟩
    obtain ⟨_, gx, x, rfl, hx⟩ := pick (xs := [.str "paid", .str "void", .str "undone"]) (fun v => ∃ x : Str, v = .str x ∧ (x = "paid" ∨ x = "void" ∨ x = "undone")) a0 b0 (am1 ⟨_, rfl, .inl rfl⟩ (am1 ⟨_, rfl, .inr (.inl rfl)⟩ (am1 ⟨_, rfl, .inr (.inr rfl)⟩ am0)))
    have k01 : Kp p H H1 := (Kp.new nl1 _).trans k1
    refine ⟨l1, _, _, _, rfl, rfl, SqL.of (k1 _ _ (hP.free nl1) upd_same), gx, ?_⟩
    have eld1 := k01 _ _ nld eld
    have ela1 := k01 _ _ nla ela
    refine ⟨_, rfl, ?_⟩
    refine ⟨_, rfl, rfl, _, rfl, ?_⟩
    refine (Classical.em (x = ("undone" : Str))).elim (fun hu => ?U) (fun hu => ?NU)
    case' U =>
      rw [decide_eq_true (show V.str x = V.str "undone" by rw [hu])]
      refine iteT ?_
      refine ⟨_, rfl, ?_⟩
      refine ⟨_, rfl, Nat.zero_le _, fun l2 nl2 => ?_⟩
      have s2 := same_new nl2 (.lst [])
      have el2 : (upd H1 l2 (.lst [])) l2 = some (.lst (([] : List Int).map V.int)) := upd_same
      generalize upd H1 l2 (.lst []) = H2 at s2 el2
      refine ⟨.list (as.map PyData.int), .list (([] : List Int).map PyData.int), .lst (SqL.of (s2 _ _ ela1)) (dp_ints _), .lst (SqL.of el2) (dp_ints _), shaped_ints _, shaped_ints _, _, rfl, ?_⟩
      rw [eqv_ints]
      refine (Classical.em (as = [])).elim (fun ha => ?A1) (fun ha => ?B1)
      case' A1 =>
        rw [decide_eq_true ha]
        refine iteT ?_
        refine ⟨_, rfl, _, _, rfl, ?A⟩
      case' B1 =>
        rw [decide_eq_false ha]
        refine iteF ?B
    case' NU =>
      rw [decide_eq_false (show ¬ V.str x = V.str "undone" from fun z => hu (by injection z))]
      refine iteF ?_
      refine ⟨_, rfl, Nat.zero_le _, fun l2 nl2 => ?_⟩
      have s2 := same_new nl2 (.lst [])
      have el2 : (upd H1 l2 (.lst [])) l2 = some (.lst (([] : List Int).map V.int)) := upd_same
      generalize upd H1 l2 (.lst []) = H2 at s2 el2
      refine ⟨.list (ds.map PyData.int), .list (([] : List Int).map PyData.int), .lst (SqL.of (s2 _ _ eld1)) (dp_ints _), .lst (SqL.of el2) (dp_ints _), shaped_ints _, shaped_ints _, _, rfl, ?_⟩
      rw [eqv_ints, decide_eq_false hne]
      refine iteF ?C
    case' A1 =>
      obtain ⟨xw, ss, sa, es, nsa, hss, hsl, hcase, exw⟩ : ∃ (xw : Str) (ss : List Int) (sa : Addr), H2 sa = some (.lst (ss.map V.int)) ∧ sa ≠ p ∧ ss ≠ [] ∧ ss.length ≤ 1000 ∧ (∀ o ∈ ss, ((xw = "undone" ∧ o ∈ as) ∨ ((xw = "paid" ∨ xw = "void") ∧ o ∈ ds))) ∧ (xw = "paid" ∧ sa = ld) :=
        ⟨"paid", ds, ld, s2 _ _ eld1, nld, hne, hdl, fun o ho => .inr ⟨.inl rfl, ho⟩, rfl, rfl⟩
      obtain ⟨rfl, rfl⟩ := exw
    case' B1 =>
      obtain ⟨xw, ss, sa, es, nsa, hss, hsl, hcase, exw⟩ : ∃ (xw : Str) (ss : List Int) (sa : Addr), H2 sa = some (.lst (ss.map V.int)) ∧ sa ≠ p ∧ ss ≠ [] ∧ ss.length ≤ 1000 ∧ (∀ o ∈ ss, ((xw = "undone" ∧ o ∈ as) ∨ ((xw = "paid" ∨ xw = "void") ∧ o ∈ ds))) ∧ (xw = x ∧ sa = la) :=
        ⟨x, as, la, s2 _ _ ela1, nla, ha, hal, fun o ho => .inl ⟨hu, ho⟩, rfl, rfl⟩
      obtain ⟨rfl, rfl⟩ := exw
    case' NU =>
      obtain ⟨xw, ss, sa, es, nsa, hss, hsl, hcase, exw⟩ : ∃ (xw : Str) (ss : List Int) (sa : Addr), H2 sa = some (.lst (ss.map V.int)) ∧ sa ≠ p ∧ ss ≠ [] ∧ ss.length ≤ 1000 ∧ (∀ o ∈ ss, ((xw = "undone" ∧ o ∈ as) ∨ ((xw = "paid" ∨ xw = "void") ∧ o ∈ ds))) ∧ (xw = x ∧ sa = ld) :=
        ⟨x, ds, ld, s2 _ _ eld1, nld, hne, hdl, fun o ho => .inr ⟨(by rcases hx with h | h | h; exact .inl h; exact .inr h; exact absurd h hu), ho⟩, rfl, rfl⟩
      obtain ⟨rfl, rfl⟩ := exw
    all_goals
      have P2 : PenAt H2 p := by
        obtain ⟨x1, x2, x3, x4, z1, z2⟩ := P1
        exact ⟨x1, x2, x3, x4, s2 _ _ z1, z2⟩
      have k02 : Kp p H H2 := k01.trans (Kp.same s2)
      refine ⟨_, rfl, _, rfl, p, rfl, P2, fun v1 H3 k3 P3 a1 b1 => ?_⟩
      refine ⟨_, rfl, p, rfl, P3, fun v2 H4 k4 P4 a2 b2 => ?_⟩
      refine ⟨_, rfl, p, 4, rfl, P4, by decide, by decide, fun v3 H5 k5 P5 a3 b3 => ?_⟩
      have k25 : Kp p H2 H5 := k3.trans (k4.trans k5)
      have es5 := k25 _ _ nsa es
      have hlpos : 0 < ss.length := List.length_pos_iff.mpr hss
      refine ⟨_, rfl, _, rfl, _, rfl, _, rfl, _, _, rfl, .inl (SqL.of es5), p, _, rfl, P5, by rw [List.length_map]; omega, by rw [List.length_map]; omega, fun v4 H6 k6 P6 a4 b4 => ?_⟩
      rw [List.length_map] at b4
      have hk : v4.toNat < ss.length := by omega
      refine ⟨_, _, _, .int ss[v4.toNat], rfl, rfl, SqL.of (k6 _ _ nsa es5), at_of (j := v4.toNat) (by omega) (by rw [List.getElem?_map, List.getElem?_eq_getElem hk]; rfl), (by show 6 ≤ sizeLine; decide), fun t3 nt3 => ?_⟩
      exact q t3 ⟨num, v1, v2, v3, .act _ ss[v4.toNat]⟩ _ (k02.trans (k25.trans (k6.trans (Kp.new nt3 _)))) (P6.new nt3 _) upd_same rfl rfl (fun n => hcase _ (List.getElem_mem hk)) ⟨⟨by show 0 ≤ v1; omega, by show v1 ≤ 9999; omega⟩, ⟨by show 0 ≤ v2; omega, by show v2 ≤ 9999; omega⟩, ⟨by show 0 ≤ v3; omega, by show v3 ≤ 3; omega⟩⟩
end
end Deed

namespace Deed
open PySem PySem.Spec PyProof.Rows L2 LamX
section
variable {P : Program} {w : World} {K : PySem.W.Frag} {mg : Str → Option Value} {base : Heap} {T : List (Addr × Str)}
abbrev sLNewEnt : Stmt := topS 68
abbrev nLNewEnt : List Str := ["_law_pen_here", "_law_book", "_law_deeds", "_law_acts", "_law_number", "_law_low", "_law_less_here", "_law_entry", "_law_deed_here", "_law_act_here"]
abbrev pLNewEnt : List Str := ["_law_pen_here", "_law_book"]
theorem scLNewEnt : FnScope nLNewEnt pLNewEnt (defScope sLNewEnt) := ⟨rfl, rfl, rfl, by decide +kernel, rfl, by decide +kernel, by decide +kernel⟩
def spLNewEnt : Sp := fun vs H Q _ => ∃ (p b fk t : Addr) (n : Nat) (age : Int) (zs : List (Addr × En)), vs = [.ref p, .ref b] ∧ PenAt H p ∧ BookAt H b fk t n age zs ∧ ∀ a (e : En) H', Kp p H H' → PenAt H' p → EntAt H' a e → (∃ ds as, EnWk n ds as e) → e.names.length ≤ 2 → EOk 3 (entD e) → Q (.ref a) H'
theorem ok_LNewEnt {f : Addr} {fd : FuncData} {k : Nat} (F : Fun K "_law_new_entry" "_law_new_entry" sLNewEnt f fd) (C__law_draw : CDraw P w K mg base k) (C__law_deed : CallOk P w K mg base k "_law_deed" pDeed (spDeed K)) (C__law_act : CallOk P w K mg base k "_law_act" pActW (spActW K)) (m_sorted : mg "sorted" = none) : FnOk P w K mg base CX0 (k + 1) f fd pLNewEnt spLNewEnt := by
  refine F.ok scLNewEnt (fun vs H Q E h => ?_) (fun cdv A outer s H vs Q E hr h => ?_)
  · obtain ⟨p, b, fk, t, n, age, zs, rfl, _⟩ := h
    rfl
  · obtain ⟨p, b, fk, t, n, age, zs, rfl, hP, hB, q⟩ := h
    have nd := scLNewEnt.nd
    have hu := hu_of hr
    refine ⟨_, pss_cons (ps_set (i := 2) nd rfl (.inl rfl) (pe_callB cr_sortedI (by rfl) m_sorted (by decide +kernel) (pa_cons (pe_lc (own := [("_law_entry", 7)]) (g := gName 7) (by rfl) nd (pi_tup (pe_ix ix_tup (pv 1) pe_int (fun _ _ => rfl))) (blkOk_by (own := [("_law_entry", 7)]) (N := nLNewEnt) (sc := defScope sLNewEnt) (by decide +kernel)) (fun _ _ _ _ _ => (pg_name (i := 7) nd rfl (.inl rfl))) (fun _ _ _ _ _ => (pts_one (pt_cmpR op_eq (pe_ix (ix_tupK (K := K) (by rfl)) (pv 7) pe_int (fun _ _ => rfl)) pe_str (nomark _))))
          (fun _ _ _ _ _ => (pe_ix (ix_tupK (K := K) (by rfl)) (pv 7) pe_int (fun _ _ => rfl)))) pa_nil)))
      (pss_cons (ps_set (i := 3) nd rfl (.inl rfl) (pe_callB cr_sortedI (by rfl) m_sorted (by decide +kernel) (pa_cons (pe_lc (own := [("_law_entry", 7)]) (g := gName 7) (by rfl) nd (pi_tup (pe_ix ix_tup (pv 1) pe_int (fun _ _ => rfl))) (blkOk_by (own := [("_law_entry", 7)]) (N := nLNewEnt) (sc := defScope sLNewEnt) (by decide +kernel)) (fun _ _ _ _ _ => (pg_name (i := 7) nd rfl (.inl rfl))) (fun _ _ _ _ _ => (pts_one (pt_cmpR op_ne (pe_ix (ix_tupK (K := K) (by rfl)) (pv 7) pe_int (fun _ _ => rfl)) pe_str (nomark _))))
          (fun _ _ _ _ _ => (pe_ix (ix_tupK (K := K) (by rfl)) (pv 7) pe_int (fun _ _ => rfl)))) pa_nil)))
      (pss_cons (ps_set (i := 4) nd rfl (.inr rfl) (pe_call C__law_draw.ok hr (by rfl) C__law_draw.g C__law_draw.kp C__law_draw.b .nil pass0 (pa_cons (pv 0) (pa_cons pe_int pa_nil))))
      (pss_cons (ps_if (PW.pt (pw_or (pt_cmpR (op_eqD hr.units) (pv 2) (pe_lst pa_nil) (nomark _)) (pw_or1 (pt_cmpR op_eq (pe_call C__law_draw.ok hr (by rfl) C__law_draw.g C__law_draw.kp C__law_draw.b .nil pass0 (pa_cons (pv 0) (pa_cons pe_int pa_nil))) pe_int (nomark _))))) (pss_one (ps_ret (pe_call C__law_deed.ok hr (by rfl) C__law_deed.g C__law_deed.kp C__law_deed.b .nil pass0 (pa_cons (pv 0) (pa_cons (pv 4) (pa_cons (pe_ix ix_tup (pv 1) pe_int (fun _ _ => rfl)) (pa_cons (pe_lc (own := [("_law_deed_here", 8)]) (g := gName 8) (by rfl) nd (pi_list (pv 2)) (blkOk_by (own := [("_law_deed_here", 8)]) (N := nLNewEnt) (sc := defScope sLNewEnt) (by decide +kernel)) (fun _ _ _ _ _ => (pg_name (i := 8) nd rfl (.inl rfl))) (fun _ _ _ _ _ => (pts_one (pt_cmpR op_lt (pv 8) (pv 4) (nomark _))))
          (fun _ _ _ _ _ => (pv 8))) pa_nil))))))) pss_nil)
      (pss_cons (ps_set (i := 5) nd rfl (.inl rfl) (pe_orT (pe_lc (own := [("_law_deed_here", 8)]) (g := gName 8) (by rfl) nd (pi_list (pv 2)) (blkOk_by (own := [("_law_deed_here", 8)]) (N := nLNewEnt) (sc := defScope sLNewEnt) (by decide +kernel)) (fun _ _ _ _ _ => (pg_name (i := 8) nd rfl (.inl rfl))) (fun _ _ _ _ _ => (pts_one (pt_cmpR op_lt (pv 8) (pv 4) (nomark _))))
          (fun _ _ _ _ _ => (pv 8))) (pe_one (pv 2))))
      (pss_cons (ps_setLc (i := 6) (own := [("_law_act_here", 9)]) (g := gName 9) (by rfl) nd rfl rfl (sw_true rfl rfl rfl (by decide +kernel)) (pi_list (pv 3)) (blkOk_by (own := [("_law_act_here", 9)]) (N := nLNewEnt) (sc := defScope sLNewEnt) (by decide +kernel)) (fun _ _ _ _ _ => (pg_name (i := 9) nd rfl (.inl rfl))) (fun _ _ _ _ _ => (pts_one (pt_cmpR op_lt (pv 9) (pv 4) (nomark _))))
          (fun _ _ _ _ _ => (pv 9)))
      (pss_one (ps_ret (pe_call C__law_act.ok hr (by rfl) C__law_act.g C__law_act.kp C__law_act.b .nil pass0 (pa_cons (pv 0) (pa_cons (pv 4) (pa_cons (pv 5) (pa_cons (pv 6) pa_nil)))))))))))), ?_⟩
    have hzl := hB.len
    have hnd : ∀ (c : Addr × En → Bool), ((zs.filter c).map (fun z => z.2.num)).Nodup := fun c => by
      have h := hB.ok.nd
      rw [show (ens zs).map (·.num) = zs.map (fun z => z.2.num) by simp [ens]] at h
      exact h.sublist ((List.filter_sublist).map _)
    have hle : ∀ (c : Addr × En → Bool), ((zs.filter c).map (fun z => z.2.num)).length ≤ 16 := fun c => by
      have := List.length_filter_le c zs
      rw [List.length_map]
      omega
    refine ⟨_, rfl, b, _, 2, _, rfl, rfl, SqT.of hB.at_, (atI_nat (j := 2) rfl), t, rfl, ⟨_, SqT.of hB.ents⟩, fun M1 nM1 => ?_⟩
    refine lc_sameV (walk_tup (xs := refs zs)) zs (fun z => decide (z.2.word = ("deed" : Str))) (fun z => .int z.2.num) (by rw [List.length_map]) (by omega) nM1 (fun H' s => SqT.of (s _ _ hB.ents)) ?_ ?_
    · rintro i z x H' H1 hz s1 ⟨rfl, hx⟩ Q1 Q0 q1 q0
      rw [List.getElem?_map, hz] at hx
      injection hx with hx
      subst hx
      obtain ⟨es, ex, g0, _, _, _, g4⟩ := ((hB.ent z (List.mem_of_getElem? hz)).kp (Same.tup s1)).tup
      refine ⟨rfl, ?_⟩
      refine ⟨_, rfl, z.1, es, 4, _, rfl, rfl, SqT.of ex, g4, ?_⟩
      refine ⟨rfl, _, rfl, ?_⟩
      rw [dec_strE]
      refine ite2 (fun c => ?_) (fun c => ?_)
      · exact ⟨_, rfl, z.1, es, 0, _, rfl, rfl, SqT.of ex, g0, q1 c _ (fun _ _ h => h)⟩
      · exact q0 (Bool.eq_false_iff.mpr c) _ (fun _ _ h => h)
    intro H1 s1 eM1
    refine ⟨M1, (zs.filter fun z => decide (z.2.word = ("deed" : Str))).map (fun z => z.2.num), rfl, by rw [List.map_map]; exact SqL.of eM1, fun D ld pD uD nld => ?_⟩
    have s2 := s1.trans (same_new nld (.lst (D.map V.int)))
    have eld : (upd H1 ld (.lst (D.map V.int))) ld = some (.lst (D.map V.int)) := upd_same
    generalize upd H1 ld (.lst (D.map V.int)) = H2 at s2 eld
    have hB2 := hB.kp (Same.tup s2)
    refine ⟨_, rfl, b, _, 2, _, rfl, rfl, SqT.of hB2.at_, (atI_nat (j := 2) rfl), t, rfl, ⟨_, SqT.of hB2.ents⟩, fun M2 nM2 => ?_⟩
    refine lc_sameV (walk_tup (xs := refs zs)) zs (fun z => !decide (z.2.word = ("deed" : Str))) (fun z => .int z.2.num) (by rw [List.length_map]) (by omega) nM2 (fun H' s => SqT.of (s _ _ hB2.ents)) ?_ ?_
    · rintro i z x H' H3 hz s1 ⟨rfl, hx⟩ Q1 Q0 q1 q0
      rw [List.getElem?_map, hz] at hx
      injection hx with hx
      subst hx
      obtain ⟨es, ex, g0, _, _, _, g4⟩ := ((hB2.ent z (List.mem_of_getElem? hz)).kp (Same.tup s1)).tup
      refine ⟨rfl, ?_⟩
      refine ⟨_, rfl, z.1, es, 4, _, rfl, rfl, SqT.of ex, g4, ?_⟩
      refine ⟨rfl, _, rfl, ?_⟩
      rw [dec_strE]
      refine ite2 (fun c => ?_) (fun c => ?_)
      · exact ⟨_, rfl, z.1, es, 0, _, rfl, rfl, SqT.of ex, g0, q1 c _ (fun _ _ h => h)⟩
      · exact q0 (Bool.eq_false_iff.mpr c) _ (fun _ _ h => h)
    intro H3 s3 eM2
    refine ⟨M2, (zs.filter fun z => !decide (z.2.word = ("deed" : Str))).map (fun z => z.2.num), rfl, by rw [List.map_map]; exact SqL.of eM2, fun C la pC uC nla => ?_⟩
    have s4 := s3.trans (same_new nla (.lst (C.map V.int)))
    have ela : (upd H3 la (.lst (C.map V.int))) la = some (.lst (C.map V.int)) := upd_same
    generalize upd H3 la (.lst (C.map V.int)) = H4 at s4 ela
    have s04 := s2.trans s4
    have P4 : PenAt H4 p := ExtN.pen (.of s04) hP
    have eld4 := s4 _ _ eld
    have nldp : ld ≠ p := (ExtN.pen (.of s1) hP).free nld
    have nlap : la ≠ p := (ExtN.pen (.of s3) (ExtN.pen (.of s2) hP)).free nla
    have hDn : D.Nodup := pD.nodup_iff.mpr (hnd _)
    have hrng : ∀ (c : Addr × En → Bool) (x : Int), x ∈ (zs.filter c).map (fun z => z.2.num) → -10000 ≤ x ∧ x ≤ 10000 := fun c x hx => by
      obtain ⟨z, hz, rfl⟩ := List.mem_map.mp hx
      have := hB.ok.rng z.2 (List.mem_map.mpr ⟨z, (List.mem_filter.mp hz).1, rfl⟩)
      omega
    have hDb : ∀ x ∈ D, -10000 ≤ x ∧ x ≤ 10000 := fun x hx => hrng _ x (pD.mem_iff.mp hx)
    have hCb : ∀ x ∈ C, -10000 ≤ x ∧ x ≤ 10000 := fun x hx => hrng _ x (pC.mem_iff.mp hx)
    have hDl : D.length ≤ 16 := by rw [pD.length_eq]; exact hle _
    have hCl : C.length ≤ 16 := by rw [pC.length_eq]; exact hle _
    refine ⟨_, rfl, p, 31, rfl, P4, by decide, by decide, fun v H5 k5 P5 a0 b0 => ?_⟩
    refine ⟨_, rfl, Nat.zero_le _, fun l2 nl2 => ?_⟩
    have s6 := same_new nl2 (.lst [])
    have el2 : (upd H5 l2 (.lst [])) l2 = some (.lst (([] : List Int).map V.int)) := upd_same
    generalize upd H5 l2 (.lst []) = H6 at s6 el2
    have k46 : Kp p H4 H6 := k5.trans (Kp.same s6)
    have P6 := ExtN.pen (.of s6) P5
    refine ⟨.list (D.map PyData.int), .list (([] : List Int).map PyData.int), .lst (SqL.of (k46 _ _ nldp eld4)) (dp_ints _), .lst (SqL.of el2) (dp_ints _), shaped_ints _, shaped_ints _, _, rfl, ?_⟩
    rw [eqv_ints]
    refine (Classical.em (D = [])).elim (fun hd => ?A) (fun hd => ?B)
    case' A =>
      rw [decide_eq_true hd]
      refine iteT (iteT ?_)
      have kd := k46
      have Pd := P6
    case' B =>
      rw [decide_eq_false hd]
      refine iteF ⟨_, rfl, p, 3, rfl, P6, by decide, by decide, fun v2 H7 k7 P7 a2 b2 => ⟨rfl, _, rfl, ?_⟩⟩
      rw [dec_intE]
      refine ite2 (fun c => ?_) (fun c => ?E)
      have kd := k46.trans k7
      have Pd := P7
    case E =>
      have kd := k46.trans k7
      have eldd := kd _ _ nldp eld4
      have eladd := kd _ _ nlap ela
      refine ⟨_, rfl, ld, rfl, ⟨_, SqL.of eldd⟩, fun M3 nM3 => ?_⟩
      refine lc_sameV (walk_list (xs := D.map V.int)) D (fun d => decide (d < v)) (fun d => .int d) (by rw [List.length_map]) (by omega) nM3 (fun H' s => SqL.of (s _ _ eldd)) ?_ ?_
      · rintro i z x H' H8 hz s8 ⟨rfl, hx⟩ Q1 Q0 q1 q0
        rw [List.getElem?_map, hz] at hx
        injection hx with hx
        subst hx
        refine ⟨rfl, _, rfl, _, rfl, _, _, rfl, rfl, _, rfl, ?_⟩
        refine ite2 (fun c => ?_) (fun c => ?_)
        · exact ⟨_, rfl, q1 c _ (fun _ _ h => h)⟩
        · exact q0 (Bool.eq_false_iff.mpr c) _ (fun _ _ h => h)
      intro H8 s8 eM3
      have P8 := ExtN.pen (.of s8) P7
      have ela8 := s8 _ _ eladd
      have eld8 := s8 _ _ eldd
      have k08 : Kp p H H8 := (Kp.same s04).trans (kd.trans (Kp.same s8))
      refine (Classical.em (D.filter (fun d => decide (d < v)) = [])).elim (fun hf => ?F) (fun hf => ?G)
      case' F =>
        refine ⟨false, .inl ⟨_, SqL.of eM3, by rw [hf]; rfl⟩, iteF ⟨_, rfl, ?_⟩⟩
        obtain ⟨lo, ls, elo, nlo, hls, hll, hlb, exw⟩ : ∃ (lo : Addr) (ls : List Int), H8 lo = some (.lst (ls.map V.int)) ∧ lo ≠ p ∧ ls ≠ [] ∧ ls.length ≤ 16 ∧ (∀ x ∈ ls, -10000 ≤ x ∧ x ≤ 10000) ∧ lo = ld := ⟨ld, D, eld8, nldp, hd, hDl, hDb, rfl⟩
        obtain rfl := exw
      case' G =>
        refine ⟨true, .inl ⟨_, SqL.of eM3, ?_⟩, iteT ?_⟩
        · cases hq : D.filter (fun d => decide (d < v)) with
          | nil => exact absurd hq hf
          | cons a r => rfl
        obtain ⟨lo, ls, elo, nlo, hls, hll, hlb, exw⟩ : ∃ (lo : Addr) (ls : List Int), H8 lo = some (.lst (ls.map V.int)) ∧ lo ≠ p ∧ ls ≠ [] ∧ ls.length ≤ 16 ∧ (∀ x ∈ ls, -10000 ≤ x ∧ x ≤ 10000) ∧ lo = M3 := ⟨M3, _, eM3, P7.free nM3, hf, by have := List.length_filter_le (fun d => decide (d < v)) D; omega, fun x hx => hDb x ((List.mem_filter.mp hx).1), rfl⟩
        obtain rfl := exw
      all_goals
        refine ⟨_, rfl, la, rfl, ⟨_, SqL.of ela8⟩, fun M4 nM4 => ?_⟩
        refine lc_sameV (walk_list (xs := C.map V.int)) C (fun d => decide (d < v)) (fun d => .int d) (by rw [List.length_map]) (by omega) nM4 (fun H' s => SqL.of (s _ _ ela8)) ?_ ?_
        · rintro i z x H' H9 hz s9 ⟨rfl, hx⟩ Q1 Q0 q1 q0
          rw [List.getElem?_map, hz] at hx
          injection hx with hx
          subst hx
          refine ⟨rfl, _, rfl, _, rfl, _, _, rfl, rfl, _, rfl, ?_⟩
          refine ite2 (fun c => ?_) (fun c => ?_)
          · exact ⟨_, rfl, q1 c _ (fun _ _ h => h)⟩
          · exact q0 (Bool.eq_false_iff.mpr c) _ (fun _ _ h => h)
        intro H9 s9 eM4
        have P9 := ExtN.pen (.of s9) P8
        refine ⟨_, rfl, _, rfl, _, rfl, _, rfl, p, lo, M4, v, ls, C.filter fun d => decide (d < v), rfl, P9, s9 _ _ elo, nlo, eM4, P8.free nM4, hls, by omega, by have := List.length_filter_le (fun d => decide (d < v)) C; omega, fun a e H10 k10 P10 ea en ed wk dok => ?_⟩
        refine q a e H10 (k08.trans ((Kp.same s9).trans k10)) P10 ea ⟨_, _, wk 0⟩ ?_ (entD_ok (ds := ls) (as := C.filter fun d => decide (d < v)) (n := n) hB.n6 (by omega) dok (by
          have h := wk n
          unfold EnWk at h
          unfold En.isDeed at ed
          cases hk : e.kd with
          | deed g t rs ws =>
            rw [hk] at ed
            cases ed
          | act x o =>
            rw [hk] at h
            exact h) hlb fun x hx => hCb x ((List.mem_filter.mp hx).1))
        unfold En.names
        unfold En.isDeed at ed
        cases hk : e.kd with
        | deed g t rs ws =>
          rw [hk] at ed
          cases ed
        | act x o =>
          show 1 ≤ 2
          omega
    all_goals
      have hBd := (hB.kp (Same.tup s04)).kp (kd.tup P4)
      have eldd := kd _ _ nldp eld4
      refine ⟨_, rfl, _, rfl, _, rfl, b, _, 0, _, rfl, rfl, SqT.of hBd.at_, (atI_nat (j := 0) rfl), _, rfl, ld, rfl, ⟨_, SqL.of eldd⟩, fun M3 nM3 => ?_⟩
      refine lc_sameV (walk_list (xs := D.map V.int)) D (fun d => decide (d < v)) (fun d => .int d) (by rw [List.length_map]) (by omega) nM3 (fun H' s => SqL.of (s _ _ eldd)) ?_ ?_
      · rintro i z x H' H8 hz s8 ⟨rfl, hx⟩ Q1 Q0 q1 q0
        rw [List.getElem?_map, hz] at hx
        injection hx with hx
        subst hx
        refine ⟨rfl, _, rfl, _, rfl, _, _, rfl, rfl, _, rfl, ?_⟩
        refine ite2 (fun c => ?_) (fun c => ?_)
        · exact ⟨_, rfl, q1 c _ (fun _ _ h => h)⟩
        · exact q0 (Bool.eq_false_iff.mpr c) _ (fun _ _ h => h)
      intro H8 s8 eM3
      have P8 := ExtN.pen (.of s8) Pd
      refine ⟨p, fk, M3, v, n, D.filter fun d => decide (d < v), rfl, P8, (hBd.kp (Same.tup s8)).folk, hB.n2, hB.n6, eM3, Pd.free nM3, hDn.sublist List.filter_sublist, by have := List.length_filter_le (fun d => decide (d < v)) D; omega, fun d hd => of_decide_eq_true (List.mem_filter.mp hd).2, fun a e H9 k9 P9 ea en ed ok => ?_⟩
      refine q a e H9 ((Kp.same s04).trans (kd.trans ((Kp.same s8).trans k9))) P9 ea ⟨_, _, (ok []).wk⟩ (ok []).names_len (entD_ok (ds := D.filter fun d => decide (d < v)) (as := []) (n := n) hB.n6 (by omega) ⟨(ok []).1, (ok []).2.1, (ok []).2.2.1⟩ (by
        have h := (ok []).2.2.2
        cases hk : e.kd with
        | deed g t rs ws =>
          rw [hk] at h
          obtain ⟨d1, d2, _, d4, _, d6, d7, _, d9⟩ := h
          exact ⟨d1, d2, d4, fun r hr => (d6 r hr).1, d7, fun x hx => ⟨(d9 x hx).1, (d9 x hx).2.1⟩⟩
        | act x o =>
          rw [hk] at h
          exact h.1) (fun x hx => hDb x ((List.mem_filter.mp hx).1)) fun x hx => nomatch hx)
end
end Deed

namespace Deed
open PySem PySem.Spec PyProof.Rows L2 LamX
/-! ### with_entry, refused -/
def spFld (fld : Str) (C : Addr) : Sp := fun vs H Q _ => ∃ (a : Addr) (i : Int), vs = [.ref a, .int i] ∧ H a = some (exo a C none) ∧ ∀ d, H d = none → d ≠ a → Q .non (upd (upd H d (exd d [(fld, .int i)])) a (exo a C (some d)))
/-- an own class of refusals whose __init__ keeps a number -/
structure MkX (P : Program) (w : World) (K : PySem.W.Frag) (mg : Str → Option Value) (base : Heap) (j : Nat) (x fld : Str) (C : Addr) where
  fI : Addr
  fd : FuncData
  ps : List Str
  oex : OexC K C
  g : mg x = some (.ref C)
  iC : PySem.W.findIn K (.ref C) "__init__" = some (some (.ref fI))
  tI : PySem.W.typeIn K (.ref fI) = some (.type "function")
  b : Binds K fd ps []
  ok : FnOk P w K mg base CX0 j fI fd ps (spFld fld C)
def refC (CE CT CN CM : Addr) (x : Str) : Addr := if x = "entry" then CE else if x = "twice" then CT else if x = "name" then CN else CM
theorem ext_made {H : Hp} {a d C : Addr} {fs gs : List (Str × V)} (na : H a = none) (nd : H d = none) : Same H (upd (del (upd (upd (upd H a (exo a C none)) d (exd d fs)) a (exo a C (some d))) a) d (.xd gs)) := fun b o e => by
  have h1 : b ≠ a := ne_of_none e na
  have h2 : b ≠ d := ne_of_none e nd
  rw [upd_ne h2, del_ne h1, upd_ne h1, upd_ne h2, upd_ne h1]
  exact e
section
variable {P : Program} {w : World} {K : PySem.W.Frag} {mg : Str → Option Value} {base : Heap} {T : List (Addr × Str)}
def spWithEX (CE CT CN CM : Addr) : Sp := fun vs H Q E => ∃ (b fk t a : Addr) (n : Nat) (age : Int) (zs : List (Addr × En)) (e : En), vs = [.ref b, .ref a] ∧ BookAt H b fk t n age zs ∧ EntAt H a e ∧ (e.word = "deed" ↔ e.isDeed = true) ∧ dueS n (ens zs) e ≠ "ok" ∧ ∀ d H', Same H H' → (dueS n (ens zs) e = "twice" → ∃ dd, d = some dd ∧ H' dd = some (.xd [("at", .int e.num)])) → E (.ref (refC CE CT CN CM (dueS n (ens zs) e))) d H'
theorem ref_WithE {f CE CT CN CM : Addr} {fd : FuncData} {k j : Nat} (F : Fun K "with_entry" "with_entry" sWithE f fd) (NE : ExcCl K mg "NoEntry" CE) (NN : ExcCl K mg "NoName" CN) (NM : ExcCl K mg "TooMany" CM) (NT : MkX P w K mg base j "Twice" "at" CT) (hj : j + 1 ≤ k) (C_is_entry : CallOk P w K mg base k "is_entry" pIsEntG spEntG) (C_names_fit : CallOk P w K mg base k "names_fit" pNFit spNFit) (m_len : mg "len" = none) (iNUMBER : MgInt mg "NUMBER" 0) (iWORD : MgInt mg "WORD" 4) (iMOST_ENTRIES : MgInt mg "MOST_ENTRIES" 16) : FnOk P w K mg base (L2.CX P w) (k + 1) f fd pWithE (spWithEX CE CT CN CM) := by
  refine F.okX scWithE (fun vs H Q E h => ?_) (fun cdv A outer s H vs Q E hr h => ?_)
  · obtain ⟨b, fk, t, a, n, age, zs, e, rfl, _⟩ := h
    rfl
  · obtain ⟨b, fk, t, a, n, age, zs, e, rfl, hB, hE, hwd, hbad, q⟩ := h
    have nd := scWithE.nd
    have hu := hu_of hr
    have hl := hB.len
    refine ⟨_, pss_cons (ps_asg (pv 0) (pg_tup (by rfl) (pgs_cons (pg_name (i := 2) nd rfl (.inl rfl)) (pgs_cons (pg_name (i := 3) nd rfl (.inl rfl)) (pgs_cons (pg_name (i := 4) nd rfl (.inl rfl)) pgs_nil)))))
      (pss_cons (ps_if (pt_not (pt_val (pe_call C_is_entry.ok hr (by rfl) C_is_entry.g C_is_entry.kp C_is_entry.b .nil pass0 (pa_cons (pv 2) (pa_cons (pv 1) pa_nil))))) (pss_one (ps_raise rfl (takes_of rfl rfl rfl rfl) (pmk_own PySem.F.excBase_ValueError NE.xP NE.gP NE.kP (raises_own NE.bP NE.tP) rfl))) pss_nil)
      (pss_cons (ps_setDc (i := 5) (own := [("other", 6)]) (g := gName 6) (by rfl) nd rfl rfl (swD_true rfl rfl rfl (by decide +kernel)) (pi_tup (pv 4)) (blkOk_by (own := [("other", 6)]) (N := nWithE) (sc := defScope sWithE) (by decide +kernel)) (fun _ _ _ _ _ => pg_name (i := 6) nd rfl (Or.inl rfl)) (fun _ _ _ _ _ => pts_nil)
          (fun _ _ _ _ _ => show PE _ _ (tOp (rIxT K) (tVar 6) (tC (.int 0))) from pe_ix ix_tup (pv 6) (pe_num (by rfl) iNUMBER) (fun _ _ => rfl)) (fun _ _ _ _ _ => show PE _ _ (tOp (rIxT K) (tVar 6) (tC (.int 4))) from pe_ix ix_tup (pv 6) (pe_num (by rfl) iWORD) (fun _ _ => rfl)))
      (pss_cons (ps_if (pt_cmp (pc_din hu (pe_ix ix_tup (pv 1) (pe_num (by rfl) iNUMBER) (fun _ _ => rfl)) (pv 5))) (pss_one (ps_raise rfl (takes_of rfl rfl rfl rfl) (pmk_oex NT.oex NT.iC NT.tI NT.ok (hr.mono hj) NT.b .nil pass0 (by rfl) NT.g (pa_cons (pe_ix ix_tup (pv 1) (pe_num (by rfl) iNUMBER) (fun _ _ => rfl)) pa_nil)))) pss_nil)
      (pss_cons (ps_if (pt_not (pt_val (pe_call C_names_fit.ok hr (by rfl) C_names_fit.g C_names_fit.kp C_names_fit.b .nil pass0 (pa_cons (pv 5) (pa_cons (pv 1) pa_nil))))) (pss_one (ps_raise rfl (takes_of rfl rfl rfl rfl) (pmk_own PySem.F.excBase_ValueError NN.xP NN.gP NN.kP (raises_own NN.bP NN.tP) rfl))) pss_nil)
      (pss_cons (ps_if (pt_cmpR op_ge (pe_callB call_len_seq (by rfl) m_len (by decide +kernel) (pa_cons (pv 4) pa_nil)) (pe_num (by rfl) iMOST_ENTRIES) (nomark _)) (pss_one (ps_raise rfl (takes_of rfl rfl rfl rfl) (pmk_own PySem.F.excBase_ValueError NM.xP NM.gP NM.kP (raises_own NM.bP NM.tP) rfl))) pss_nil)
      (pss_one (ps_ret (pe_tup (pa_cons (pv 2) (pa_cons (pv 3) (pa_cons (pe_op op_catA (pv 4) (pe_tup (pa_cons (pv 1) pa_nil))) pa_nil))))))))))), ?_⟩
    refine ⟨_, rfl, b, _, rfl, SqT.of hB.at_, rfl, _, _, rfl, _, _, rfl, _, _, rfl, rfl, ?_⟩
    obtain ⟨ts, hts, htl, _, hfo⟩ := folk_tg (p := b) hB.folk (by have := hB.n6; omega)
    refine ⟨_, rfl, _, rfl, b, _, _, _, _, rfl, hts, hE.tg, fun H1 s1 => ⟨_, rfl, ?_⟩⟩
    have hf1 : (isFolkT (.tup ts) && isEntT (lenT (.tup ts)) (entT e)) = isEntT n (entT e) := by
      have h1 : isFolkT (.tup ts) = true := by
        show ((decide (1 ≤ ts.length) && decide (ts.length ≤ 6)) && ts.all isPersonT) = true
        rw [hfo, htl, decide_eq_true (by have := hB.n2; omega), decide_eq_true hB.n6]
        rfl
      have h2 : lenT (.tup ts) = n := by
        show ((ts.length : Nat) : Int) = n
        rw [htl]
      rw [h1, h2]
      rfl
    rw [hf1]
    cases hisE : isEntT n (entT e) with
    | false =>
      have hd : dueS n (ens zs) e = "entry" := by
        unfold dueS
        rw [hisE, if_neg (by decide)]
      refine iteT ?_
      have h := q none H1 s1 (fun z => absurd z (by rw [hd]; decide +kernel))
      rw [hd] at h
      exact h
    | true =>
    refine iteF ?_
    have et1 := s1 _ _ hB.ents
    refine ⟨_, rfl, t, rfl, ⟨_, SqT.of et1⟩, fun W nW => ?_⟩
    refine dc_tup (K := K) (a := t) (xs := refs zs) (fun i H' => H' W = some (.dK (wdk ((ens zs).take i))) ∧ Same H1 H') ⟨upd_same, same_new nW _⟩ (fun i H' _ h => SqT.of (h.2 _ _ et1)) ?_ ?_
    · rintro i x H' hx ⟨eW, sm⟩
      rw [List.getElem?_map] at hx
      cases hz : zs[i]? with
      | none => rw [hz] at hx; cases hx
      | some z =>
        rw [hz] at hx
        injection hx with hx
        subst hx
        have hzm := List.mem_of_getElem? hz
        obtain ⟨xs, ex, g0, _, _, _, g4⟩ := ((hB.ent z hzm).kp ((Same.tup (s1.trans sm)))).tup
        have hz2 : (ens zs)[i]? = some z.2 := by rw [List.getElem?_map, hz]; rfl
        have hni : z.2.num ∉ ((ens zs).take i).map (·.num) := by
          have nd := hB.ok.nd
          have hsp : (ens zs).take (i + 1) = (ens zs).take i ++ [z.2] := take_more hz2
          have nd2 : (((ens zs).take (i + 1)).map (·.num)).Nodup := ((List.take_sublist _ _).map _).nodup nd
          rw [hsp, List.map_append] at nd2
          intro q
          exact (List.nodup_append.mp nd2).2.2 _ q _ (by simp) rfl
        refine ⟨rfl, ?_⟩
        unfold tYes
        dsimp only
        rw [if_pos rfl]
        refine ⟨_, rfl, z.1, xs, 0, _, rfl, rfl, SqT.of ex, g0, _, rfl, z.1, xs, 4, _, rfl, rfl, SqT.of ex, g4, _, Sum.inl z.2.num, rfl, eW, small1000 (by have := hB.len; rw [List.length_map, List.length_take, List.length_map]; omega), ?_, same_put nW sm _⟩
        rw [upd_same, wdk_snoc hni, ← take_more hz2]
    rintro H2 ⟨eW, s2⟩
    have s02 := s1.trans s2
    rw [show (refs zs).length = (ens zs).length by rw [List.length_map, List.length_map], List.take_length] at eW
    obtain ⟨xe, exe, g0, _, _, _, g4⟩ := (hE.kp (Same.tup s02)).tup
    by_cases hnum : e.num ∈ (ens zs).map (·.num)
    · have hd : dueS n (ens zs) e = "twice" := by
        unfold dueS
        rw [hisE, if_pos rfl, if_pos hnum]
      obtain ⟨v, hv⟩ : ∃ v, DGet H2 W (.int e.num) (some v) := by
        have h4 := DGet.k (k := Sum.inl e.num) eW
        obtain ⟨u, hu1, hun⟩ := List.mem_map.mp hnum
        cases hx : valV (wdk (ens zs)) (Sum.inl e.num) with
        | some v => rw [hx] at h4; exact ⟨v, h4⟩
        | none =>
          rcases get_cases hB.ok.esOk e.num with ⟨u2, _, _, h5⟩ | ⟨h5, _⟩
          · rw [hx] at h5; cases h5
          · exact absurd hun (h5 u hu1)
      refine ⟨_, rfl, a, xe, 0, _, rfl, rfl, SqT.of exe, g0, _, rfl, W, _, rfl, hv, _, rfl, ?_⟩
      refine iteT ?_
      refine ⟨_, rfl, a, xe, 0, _, rfl, rfl, SqT.of exe, g0, (by show 1 ≤ 1000; decide), fun c nc => ⟨c, e.num, rfl, upd_same, fun d ndn hdc => ⟨rfl, d, [("at", .int e.num)], upd_same, by rw [upd_ne hdc]; exact upd_same, by rw [upd_ne hdc] at ndn; exact ndn, ?_⟩⟩⟩
      rw [upd_ne hdc] at ndn
      have h := q (some d) _ (s02.trans (ext_made (C := CT) (fs := [("at", .int e.num)]) (gs := [("at", .int e.num)]) nc ndn)) (fun _ => ⟨d, rfl, upd_same⟩)
      rw [hd] at h
      exact h
    have hno : DGet H2 W (.int e.num) none := by
      have h4 := DGet.k (k := Sum.inl e.num) eW
      rw [valV_none (fun q hq => ?_)] at h4
      · exact h4
      · exact fun z => hnum (List.mem_map.mpr ⟨q, hq, z⟩)
    refine ⟨_, rfl, a, xe, 0, _, rfl, rfl, SqT.of exe, g0, _, rfl, W, _, rfl, hno, _, rfl, ?_⟩
    refine iteF ?_
    refine ⟨_, rfl, _, rfl, b, W, wdk (ens zs), _, _, n, rfl, eW, wdk_ok _, (hE.kp (Same.tup s02)).tg, hisE, fun H3 s3 => ⟨_, rfl, ?_⟩⟩
    rw [fitT_ent hB.ok.esOk hwd]
    have s03 := s02.trans s3
    cases hfit : fitE (ens zs) e with
    | false =>
      have hd : dueS n (ens zs) e = "name" := by
        unfold dueS
        rw [hisE, if_pos rfl, if_neg hnum, hfit, if_neg (by decide)]
      refine iteT ?_
      have h := q none H3 s03 (fun z => absurd z (by rw [hd]; decide +kernel))
      rw [hd] at h
      exact h
    | true =>
    refine iteF ?_
    by_cases h16 : (ens zs).length = 16
    · have hd : dueS n (ens zs) e = "many" := by
        unfold dueS
        rw [hisE, if_pos rfl, if_neg hnum, hfit, if_pos rfl, if_pos h16]
      rw [List.length_map] at h16
      refine ⟨_, rfl, t, _, rfl, .inr (SqT.of (s03 _ _ hB.ents)), _, _, rfl, rfl, _, rfl, ?_⟩
      rw [decide_eq_true (show (((refs zs).length : Nat) : Int) ≥ 16 by rw [List.length_map]; omega)]
      refine iteT ?_
      have h := q none H3 s03 (fun z => absurd z (by rw [hd]; decide +kernel))
      rw [hd] at h
      exact h
    · refine absurd ?_ hbad
      unfold dueS
      rw [hisE, if_pos rfl, if_neg hnum, hfit, if_pos rfl, if_neg h16]
end
end Deed

namespace Deed
open PySem PySem.Spec PyProof.Rows L2 LamX
/-! ### without_entry, refused as another entry names this one -/
section
variable {P : Program} {w : World} {K : PySem.W.Frag} {mg : Str → Option Value} {base : Heap}
/-- the numbers of the entries that name m -/
abbrev namers (zs : List (Addr × En)) (m : Int) : List Int := (zs.filter fun z => decide (m ∈ z.2.names)).map fun z => z.2.num
def spWoutJ (CJ : Addr) : Sp := fun vs H _ E => ∃ (b fk t : Addr) (n : Nat) (age m : Int) (zs : List (Addr × En)), vs = [.ref b, .int m] ∧ BookAt H b fk t n age zs ∧ m ∈ (ens zs).map (·.num) ∧ namers zs m ≠ [] ∧ ∀ d i H', Same H H' → i ∈ namers zs m → (∀ y ∈ namers zs m, i ≤ y) → H' d = some (.xd [("by", .int i)]) → E (.ref CJ) (some d) H'
theorem ref_WoutJ {f CJ : Addr} {fd : FuncData} {k j : Nat} (F : Fun K "without_entry" "without_entry" sWoutE f fd) (NJ : MkX P w K mg base j "Named" "by" CJ) (hj : j + 1 ≤ k) (C_is_whole : CallOk P w K mg base k "is_whole" pIsWhole (spB1 Tg.isW)) (C_named_in : CallOk P w K mg base k "named_in" pNamedIn spNamedIn) (m_min : mg "min" = none) (iNUMBER : MgInt mg "NUMBER" 0) : FnOk P w K mg base (L2.CX P w) (k + 1) f fd pWoutE (spWoutJ CJ) := by
  refine F.okX scWoutE (fun vs H Q E h => ?_) (fun cdv A outer s H vs Q E hr h => ?_)
  · obtain ⟨b, fk, t, n, age, m, zs, rfl, _⟩ := h
    rfl
  · obtain ⟨b, fk, t, n, age, m, zs, rfl, hB, hm, hna, q⟩ := h
    have nd := scWoutE.nd
    have hu := hu_of hr
    refine ⟨_, pss_cons (ps_asg (pv 0) (pg_tup (by rfl) (pgs_cons (pg_name (i := 2) nd rfl (.inl rfl)) (pgs_cons (pg_name (i := 3) nd rfl (.inl rfl)) (pgs_cons (pg_name (i := 4) nd rfl (.inl rfl)) pgs_nil)))))
      (pss_cons (ps_if (PW.pt (pw_or (pt_not (pt_val (pe_call C_is_whole.ok hr (by rfl) C_is_whole.g C_is_whole.kp C_is_whole.b .nil pass0 (pa_cons (pv 1) pa_nil)))) (pw_or1 (pt_cmpR op_notIn_seq (pv 1) (pe_lc (own := [("entry", 6)]) (g := gName 6) (by rfl) nd (pi_tup (pv 4)) (blkOk_by (own := [("entry", 6)]) (N := nWoutE) (sc := defScope sWoutE) (by decide +kernel)) (fun _ _ _ _ _ => (pg_name (i := 6) nd rfl (.inl rfl))) (fun _ _ _ _ _ => pts_nil)
          (fun _ _ _ _ _ => show PE _ _ (tOp (rIxT K) (tVar 6) (tC (.int 0))) from (pe_ix (ix_tupK (K := K) (by rfl)) (pv 6) (pe_num (by rfl) iNUMBER) (fun _ _ => rfl)))) (by rfl))))) pss_never pss_nil)
      (pss_cons (ps_setLc (i := 5) (own := [("entry", 6)]) (g := gName 6) (by rfl) nd rfl rfl (sw_true rfl rfl rfl (by decide +kernel)) (pi_tup (pv 4)) (blkOk_by (own := [("entry", 6)]) (N := nWoutE) (sc := defScope sWoutE) (by decide +kernel)) (fun _ _ _ _ _ => (pg_name (i := 6) nd rfl (.inl rfl))) (fun _ _ _ _ _ => (pts_one (pt_cmpR (in_seqK (K := K) (by rfl)) (pv 1) (pe_call C_named_in.ok hr (by rfl) C_named_in.g C_named_in.kp C_named_in.b .nil pass0 (pa_cons (pv 6) pa_nil)) (by rfl))))
          (fun _ _ _ _ _ => (pe_ix (ix_tupK (K := K) (by rfl)) (pv 6) (pe_num (by rfl) iNUMBER) (fun _ _ => rfl))))
      (pss_cons (ps_if (pt_truth (pv 5) (fun _ => rfl)) (pss_one (ps_raise rfl (takes_of rfl rfl rfl rfl) (pmk_oex NJ.oex NJ.iC NJ.tI NJ.ok (hr.mono hj) NJ.b .nil pass0 (by rfl) NJ.g (pa_cons (pe_callB (cr_min rfl) (by rfl) m_min (by decide +kernel) (pa_cons (pv 5) pa_nil)) pa_nil)))) pss_nil) pss_never))), ?_⟩
    have hzl := hB.len
    refine ⟨_, rfl, b, _, rfl, SqT.of hB.at_, rfl, _, _, rfl, _, _, rfl, _, _, rfl, rfl, ?_⟩
    refine ⟨_, rfl, b, .int m, .int m, rfl, .int m, fun H1 s1 => ⟨_, rfl, ?_⟩⟩
    refine iteF ?_
    have et1 := s1 _ _ hB.ents
    refine ⟨_, rfl, _, rfl, t, rfl, ⟨_, SqT.of et1⟩, fun M1 nM1 => ?_⟩
    refine lc_sameM (walk_tup (xs := refs zs)) zs (fun z => .int z.2.num) (by rw [List.length_map]) (by omega) nM1 (fun H s => SqT.of (s _ _ et1)) ?_ ?_
    · rintro i z x H3' H3 hz s3 ⟨rfl, hx⟩ Q1 q1
      rw [List.getElem?_map, hz] at hx
      injection hx with hx
      subst hx
      obtain ⟨xs, ex, g0, _, _, _, g4⟩ := ((hB.ent z (List.mem_of_getElem? hz)).kp (Same.tup (s1.trans s3))).tup
      exact ⟨rfl, _, rfl, z.1, xs, 0, _, rfl, rfl, SqT.of ex, g0, q1 _ (same_refl _)⟩
    intro H2 s2 eM
    have s02 := s1.trans s2
    have hms : zs.map (fun z => V.int z.2.num) = ((ens zs).map (·.num)).map V.int := by simp [ens, List.map_map, Function.comp_def]
    refine ⟨M1, _, rfl, .inl (SqL.of eM), rfl, by rw [hms]; exact flat_ints _, _, rfl, ?_⟩
    rw [hms, mem_inV, decide_eq_true hm]
    refine iteF ?_
    have et2 := s02 _ _ hB.ents
    refine ⟨_, rfl, t, rfl, ⟨_, SqT.of et2⟩, fun M2 nM2 => ?_⟩
    refine lc_sameV (walk_tup (xs := refs zs)) zs (fun z => decide (m ∈ z.2.names)) (fun z => .int z.2.num) (by rw [List.length_map]) (by omega) nM2 (fun H s => SqT.of (s _ _ et2)) ?_ ?_
    · rintro i z x H3' H3 hz s3 ⟨rfl, hx⟩ Q1 Q0 q1 q0
      rw [List.getElem?_map, hz] at hx
      injection hx with hx
      subst hx
      have hzm := List.mem_of_getElem? hz
      have hez : z.2 ∈ ens zs := List.mem_map.mpr ⟨z, hzm, rfl⟩
      have hE3 := (hB.ent z hzm).kp (Same.tup (s02.trans s3))
      refine ⟨rfl, _, rfl, _, rfl, z.1, z.2, rfl, hE3, (hB.ok.ok z.2 hez).word, fun l H4 s4 e4 => ?_⟩
      refine ⟨l, _, rfl, .inr (SqT.of e4), rfl, flat_ints _, _, rfl, ?_⟩
      rw [mem_inV]
      refine ite2 (fun c => ?_) (fun c => ?_)
      · obtain ⟨xs, ex, g0, _, _, _, g4⟩ := (hE3.kp (Same.tup s4)).tup
        exact ⟨_, rfl, z.1, xs, 0, _, rfl, rfl, SqT.of ex, g0, q1 c _ s4⟩
      · exact q0 (Bool.eq_false_iff.mpr c) _ s4
    intro H5 s5 eM2
    have eM3 : H5 M2 = some (.lst ((namers zs m).map V.int)) := by rw [eM2, List.map_map]; rfl
    obtain ⟨y, r, hyr⟩ : ∃ y r, namers zs m = y :: r := by
      cases h : namers zs m with
      | nil => exact absurd h hna
      | cons y r => exact ⟨y, r, rfl⟩
    refine ⟨_, rfl, _, .inl ⟨_, SqL.of eM3, rfl⟩, ?_⟩
    have hne : ((namers zs m).map V.int).isEmpty = false := by rw [hyr]; rfl
    rw [hne]
    refine iteT ?_
    have s05 := s02.trans s5
    refine ⟨_, rfl, M2, _, rfl, SqL.of eM3, (by rw [hyr]; exact Nat.succ_pos _), fun i hi hmin => ⟨(by show 1 ≤ 1000; decide), fun c nc => ⟨c, i, rfl, upd_same, fun d ndn hdc => ⟨rfl, d, [("by", .int i)], upd_same, by rw [upd_ne hdc]; exact upd_same, by rw [upd_ne hdc] at ndn; exact ndn, ?_⟩⟩⟩⟩
    rw [upd_ne hdc] at ndn
    exact q d i _ (s05.trans (ext_made (C := CJ) (fs := [("by", .int i)]) (gs := [("by", .int i)]) nc ndn)) hi hmin upd_same
end
end Deed

namespace Deed
open PySem PySem.Spec PyProof.Rows L2 LamX
/-! ### rules that lacked: a list against the empty one, t.index(number), len(set) -/
section
variable {X : Cx}
/-- list == [] -/
def rEqLE (K : PySem.W.Frag) (neg : Bool) : R2 := fun x y H Q => ∃ a b xs, x = .ref a ∧ y = .ref b ∧ SqL K H a xs ∧ SqL K H b [] ∧ Q (.bl (if neg then !xs.isEmpty else xs.isEmpty)) H
theorem op_neLE (hu : X.A.units + 64 < cLine) : OpR X (compareOp .NotEq) (rEqLE X.K true) := by
  intro pins s σ H x y v u Q I rx ry h
  obtain ⟨a, b, xs, rfl, rfl, ha, hb, q⟩ := h
  cases rx
  cases ry
  obtain ⟨its, r, pl, hz⟩ := I.list ha
  obtain ⟨its2, r2, pl2, hz2⟩ := I.list hb
  cases r2
  have hl := r.length
  cases xs with
  | nil =>
    have : its = [] := List.eq_nil_of_length_eq_zero (by rw [← hl]; rfl)
    subst this
    exact SeqAt.RcNeAt.lists (e := fun _ => true) pl.isList pl2.isList rfl (by omega) (fun j h1 h2 => absurd h2 (by simp)) X.prog X.w _ _ ⟨.bl _, H, I, rfl, q⟩
  | cons x xs =>
    cases its with
    | nil => simp at hl
    | cons i is => exact SeqAt.RcNeAt.lists_lengths pl.isList pl2.isList (by simp) (by omega) X.prog X.w _ _ ⟨.bl _, H, I, rfl, q⟩
theorem op_eqLE (hu : X.A.units + 64 < cLine) : OpR X (compareOp .Eq) (rEqLE X.K false) := by
  intro pins s σ H x y v u Q I rx ry h
  obtain ⟨a, b, xs, rfl, rfl, ha, hb, q⟩ := h
  cases rx
  cases ry
  obtain ⟨its, r, pl, hz⟩ := I.list ha
  obtain ⟨its2, r2, pl2, hz2⟩ := I.list hb
  cases r2
  have hl := r.length
  cases xs with
  | nil =>
    have : its = [] := List.eq_nil_of_length_eq_zero (by rw [← hl]; rfl)
    subst this
    exact SeqAt.RcAt.lists (e := fun _ => true) pl.isList pl2.isList rfl (by omega) (fun j h1 h2 => absurd h2 (by simp)) X.prog X.w _ _ ⟨.bl _, H, I, rfl, q⟩
  | cons x xs =>
    cases its with
    | nil => simp at hl
    | cons i is => exact SeqAt.RcAt.lists_lengths pl.isList pl2.isList (by simp) (by omega) X.prog X.w _ _ ⟨.bl _, H, I, rfl, q⟩
/-- t.index(number), which is there -/
def rTupIx (K : PySem.W.Frag) : V → List V → Hp → VK → Prop := fun x xs H Q => ∃ (p : Addr) (ns : List Int) (k : Int), x = .ref p ∧ xs = [.int k] ∧ SqT K H p (ns.map V.int) ∧ k ∈ ns ∧ Q (.int (ns.idxOf k : Nat)) H
theorem mt_tupIx : MtR X "tuple.index" (rTupIx X.K) := by
  intro pins s σ H x xs v us Q I rx rs h
  obtain ⟨p, ns, k, rfl, rfl, hq, hk, q⟩ := h
  cases rx
  obtain ⟨u, rfl, t, rfl⟩ := vals1 rs
  obtain ⟨its, r, pl, hz⟩ := I.tuple hq
  exact SeqAt.tuple_index_ints pl (by simpa using r.ints) hk ⟨.int _, H, I.tok _, ⟨_, rfl⟩, q⟩
/-- len(a set of numbers) -/
def rLenSet (w : World) : List V → Hp → VK → Prop := fun xs H Q => ∃ (a : Addr) (S : Int → Bool) (n : Nat), xs = [.ref a] ∧ H a = some (SetO w a S n) ∧ n < 100000 ∧ ((∀ ks : List Int, ks.Nodup → (∀ k : Int, k ∈ ks ↔ S k = true) → ks.length = n) → Q (.int n) H)
theorem nodup_same : ∀ {l m : List Int}, l.Nodup → m.Nodup → (∀ x, x ∈ l ↔ x ∈ m) → l.length = m.length := fun h1 h2 h => Nat.le_antisymm (nodup_len h1 fun x hx => (h x).mp hx) (nodup_len h2 fun x hx => (h x).mpr hx)
theorem call_lenSet : CallR X (.builtin "len") (rLenSet X.w) := by
  intro pins s σ H xs us Q I r h
  obtain ⟨a, S, n, rfl, ha, hn, q⟩ := h
  rw [Vals.ref1 r]
  obtain ⟨o, es, ep, t, ho, hex, hd, g, nd, hm, hb, hf, hn', _⟩ := setO_get I ha
  refine call_len_set ho hex hd hf (by omega) ⟨.int n, H, (I.tok _), ⟨_, by rw [hn']⟩, q fun ks k1 k2 => ?_⟩
  rw [← hn', nodup_same k1 nd fun x => (k2 x).trans (hm x), List.length_map, Array.length_toList]
end
end Deed
namespace L2
open PySem PySem.Spec PyProof.Rows
/-! ### tuple * number, one too -/
theorem tuple_mul1 (l : Addr) (items : Array Value) (n : Nat) (dd : Option Addr) (sl : Array (Option Value)) (u : Tok) :
    Meets (Builtin.«tuple.__mul__» ⟨[.ref l, .int 1 u], []⟩) (fun _ R s => s.heap.get? l = some { cls := .type "tuple", dict := dd, data := .seq items n, slots := sl } ∧
      R (.ok (.ret (Value.ref l))) s) :=
  .of_wp fun prog w A R s h => by
    obtain ⟨hp, g, d, tk, os⟩ := s
    obtain ⟨hl, h⟩ := h
    have f1 := AutoSeq1.idx_int
    have c0 : (decide ((1 : Int) < -(2 ^ 63)) || decide ((1 : Int) ≥ 2 ^ 63)) = false := by decide
    have c1 : (items.isEmpty || ((1 : Int) == 1)) = true := by rw [show ((1 : Int) == 1) = true from rfl, Bool.or_true]
    wp_walk using wpAny_loadPart' hl
    repeat (first
      | (refine wpAny_ite_false (decide_eq_false (by rw [c0]; exact Bool.false_ne_true)) ?_; wp_walk using wpAny_loadPart' hl)
      | (refine wpAny_ite_true (decide_eq_true (by rw [c1])) ?_; wp_walk using wpAny_loadPart' hl))
    exact ⟨_, rfl, h⟩
def rRepA (K : PySem.W.Frag) : R2 := fun x y H Q => ∃ l k xs, x = .ref l ∧ y = .int k ∧ SqT K H l xs ∧ xs ≠ [] ∧ 1 ≤ k ∧ k ≤ 1000 ∧ xs.length ≤ 1000 ∧ (k = 1 → Q (.ref l) H) ∧ (2 ≤ k → ∀ p, H p = none → Q (.ref p) (upd H p (.tup (List.replicate k.toNat xs).flatten)))
section
variable {X : Cx}
theorem op_repA : OpR X (binaryOp .Mult) (rRepA X.K) := by
  intro pins s σ H x y v u Q I rx ry h
  obtain ⟨l, k, xs, rfl, rfl, hT, hne, h1, h2, hz, q1, q2⟩ := h
  by_cases hk : k = 1
  · subst hk
    cases rx
    obtain ⟨t, rfl⟩ := ry
    obtain ⟨its, r, ⟨⟨cls, dd, data, sl⟩, ho, hc, n, hd⟩, hs⟩ := I.tuple hT
    simp only at hc hd
    subst hc hd
    refine wpAny_binaryOp_repeat_ref (T := "tuple") (U := "int") (by decide) ⟨_, ho, rfl⟩ (fun s' => typeIs_int s' 1 t) noFill_tuple_mul F.fills_int_mul F.slot_int_rmul repeat_tuple F.slot_int_index.lookup
      (call_meets F.slot_int_rmul (typeIs_int s 1 t) F.entry_int_rmul (F.args_int_rmul_2 _ _) (int_rmul_tuple 1 t l its.toArray n dd sl)
        ⟨ho, rfl, ⟨_, ho, rfl⟩, call_meets F.slot_tuple_mul ⟨_, ho, rfl⟩ F.entry_tuple_mul (F.args_tuple_mul_2 _ _) (tuple_mul1 l its.toArray n dd sl t) ⟨ho, ?_⟩⟩)
    exact ⟨.ref l, H, I, rfl, q1 rfl⟩
  · exact op_repT pins s σ H _ _ v u Q I rx ry ⟨l, k, xs, rfl, rfl, hT, hne, by omega, h2, hz, q2 (by omega)⟩
end
end L2
namespace PyProof.Rows
open PySem PySem.Spec
section
variable {prog : Program} {w : World} {A : Around} {E : Value → Shared → Prop} {s : Shared}
theorem collect_tupG {l : Addr} {vs : List Value} {Q : List Value → Shared → Prop} (hl : s.heap.IsTuple l vs.toArray)
    (h : Q vs { s with heap := (s.heap.push (seqObj "list" #[] 0)).update s.heap.objs.size (Obj.mapSeq (· ++ vs.toArray)) }) (hsz : vs.length ≤ sizeLine) :
    wpAny (model prog w) A (collect (.ref l)) Q E s := by
  obtain ⟨o, ho, hc, n, hd⟩ := id hl
  unfold collect
  refine wpAny_bind (wpAny_runValue (codeAny_builtin entry_proto_collect' ?_))
  show wpAny _ _ (do again (.builtin "list.__iadd__" ⟨[← newList [], .ref l], []⟩)) _ _ s
  refine wpAny_bind (wpAny_newList (wpAny_pure ⟨Code.quiet_builtin _ (by decide +kernel), codeAny_builtin entry_list_iadd' ?_⟩))
  show wpAny _ _ (Builtin.List.listExtendWith (.ref s.heap.objs.size) (.ref l) (.ref s.heap.objs.size)) _ _ { s with heap := s.heap.push (seqObj "list" #[] 0) }
  unfold Builtin.List.listExtendWith
  have ho' : (s.heap.push (seqObj "list" #[] 0)).get? l = some o := Heap.get?_push_of_some _ ho
  refine wpAny_bind (wpAny_typeOf (T := "tuple") ⟨o, ho', hc⟩ ?_)
  have ht : (Value.type "tuple" == Value.type "tuple") = true := by rfl
  rw [if_pos (by rw [ht]; simp)]
  refine wpAny_bind (listItems_at ho' hd ?_)
  refine wpAny_bind (listItems_at (xs := #[]) (n := 0) (Heap.get?_push_size _ rfl) rfl ?_)
  rw [if_neg (by simp)]
  refine wpAny_bind (listUpdate_at (xs := #[]) (n := 0) (Heap.get?_push_size _ rfl) rfl ?_ (Nat.zero_le _) (by show (#[] ++ vs.toArray).size ≤ sizeLine + 1; simp only [Array.size_append, List.size_toArray, List.length_nil]; omega))
  refine wpAny_pure ?_
  show wpAny (model prog w) A (do
      let o ← load s.heap.objs.size
      match o.data with
      | .seq xs _ => pure xs.toList
      | _ => unsupported "internal:collect") Q E { s with heap := (s.heap.push (seqObj "list" #[] 0)).update s.heap.objs.size (Obj.mapSeq (· ++ vs.toArray)) }
  refine wpAny_bind (wpAny_load (get?_update_seq (Heap.get?_push_size _ rfl) _) ?_)
  show wpAny _ _ (pure ((#[] : Array Value) ++ vs.toArray).toList) Q E _
  rw [show ((#[] : Array Value) ++ vs.toArray).toList = vs by simp]
  exact wpAny_pure h
theorem sorted_intsT {l : Addr} {vs : List Value} {ns : List Int} {Q : Value → Shared → Prop} (hl : s.heap.IsTuple l vs.toArray) (hI : IntsAre vs ns) (h64 : vs.length < 64)
    (h : ∀ (out : Array Value) (ns' : List Int), IntsAre out.toList ns' → ns'.Perm ns → ns'.Pairwise (· ≤ ·) → Q (.ref (s.heap.objs.size + 1)) { s with heap := sortedAll s.heap vs out }) :
    wpAny (model prog w) A (call (.builtin "sorted") [.ref l]) Q E s := by
  refine Calls.call_function_entry kind_sorted plain_sorted entry_sorted (args_sorted1 _) ?_
  unfold Builtin.«sorted»
  refine wpAny_bind (m := checkCount "sorted" 1 1 _) (wpAny_pure ?_)
  refine wpAny_bind (collect_tupG hl ?_ (by rw [sizeLine_eq]; omega))
  refine wpAny_bind (wpAny_newList ?_)
  have hsz : ((s.heap.push (seqObj "list" #[] 0)).update s.heap.objs.size (Obj.mapSeq (· ++ vs.toArray))).objs.size = s.heap.objs.size + 1 := by
    rw [Heap.size_update, size_push']
  have hoL : (((s.heap.push (seqObj "list" #[] 0)).update s.heap.objs.size (Obj.mapSeq (· ++ vs.toArray))).push (seqObj "list" vs.toArray 0)).get? (s.heap.objs.size + 1) = some (seqObj "list" vs.toArray 0) := by
    rw [← hsz]; exact Heap.get?_push_size _ rfl
  show wpAny _ _ _ _ _ { s with heap := ((s.heap.push (seqObj "list" #[] 0)).update s.heap.objs.size (Obj.mapSeq (· ++ vs.toArray))).push (seqObj "list" vs.toArray 0) }
  rw [hsz]
  refine wpAny_bind (wpAny_holding (wpAny_call_entry slot_list_sort ⟨_, hoL, rfl⟩ entry_list_sort (list_sort_tree hoL hI h64 fun out ns' a1 a2 a3 => ⟨_, rfl, ?_⟩) (args_list_sort _)))
  exact wpAny_pure ⟨_, rfl, h out ns' a1 a2 a3⟩
end
end PyProof.Rows
namespace L2
open PySem PySem.Spec PyProof.Rows
section
variable {X : Cx}
/-- sorted(t), t a tuple of numbers -/
def rSortedTu (K : PySem.W.Frag) : List V → Hp → VK → Prop := fun vs H Q => ∃ (a : Addr) (ns : List Int), vs = [V.ref a] ∧ SqT K H a (ns.map V.int) ∧ ns.length < 64 ∧ ∀ (ns' : List Int) (p : Addr), ns'.Perm ns → ns'.Pairwise (· ≤ ·) → H p = none → Q (.ref p) (upd H p (.lst (ns'.map V.int)))
theorem cr_sortedTu : CallR X (.builtin "sorted") (rSortedTu X.K) := by
  intro pins s σ H vs us Q I r h
  obtain ⟨a, ns, rfl, hs, h64, q⟩ := h
  obtain ⟨its, rv, hl, _⟩ := I.tuple hs
  rw [Vals.ref1 r]
  have hi := rv.ints
  refine PyProof.Rows.sorted_intsT hl hi (by rw [hi.length]; exact h64) fun out ns' h1 h2 h3 => ?_
  obtain ⟨ep, he'⟩ := PyProof.Rows.sortedAll_at s.heap its out
  have hlen : (ns'.map V.int).length ≤ sizeLine := by rw [List.length_map, h2.length_eq]; exact small64 h64
  exact ⟨.ref _, upd H (s.heap.objs.size + 1) (.lst (ns'.map V.int)), I.laid (t' := s.toks) (fun _ _ => PyProof.Rows.sortedAll_old) (Nat.le_succ _) ⟨hlen, out.toList, ep, vals_of_ints h1, he'⟩, rfl, q ns' _ h2 h3 (I.hok.fresh (Nat.le_succ _))⟩
end
end L2

namespace Deed
open PySem PySem.Spec PyProof.Rows L2 LamX
/-! ### what is due of a taking out -/
def dueO (zs : List (Addr × En)) : Tg → Str
  | .int m => if m ∈ (ens zs).map (·.num) then (if namers zs m = [] then "ok" else "named") else "missing"
  | _ => "missing"
section
variable {P : Program} {w : World} {K : PySem.W.Frag} {mg : Str → Option Value} {base : Heap}
abbrev sLDueOut : Stmt := topS 60
abbrev nLDueOut : List Str := ["_law_book", "_law_number", "_law_there", "_law_entry"]
abbrev pLDueOut : List Str := ["_law_book", "_law_number"]
theorem scLDueOut : FnScope nLDueOut pLDueOut (defScope sLDueOut) := ⟨rfl, rfl, rfl, by decide +kernel, rfl, by decide +kernel, by decide +kernel⟩
def spLDueOut : Sp := fun vs H Q _ => ∃ (p b fk t : Addr) (n : Nat) (age : Int) (zs : List (Addr × En)) (v : V) (tn : Tg), vs = [.ref b, v] ∧ BookAt H b fk t n age zs ∧ TgAt p H v tn ∧ ∀ H', Same H H' → Q (.str (dueO zs tn)) H'
theorem ok_LDueOut {f : Addr} {fd : FuncData} {k : Nat} (F : Fun K "_law_due_out" "_law_due_out" sLDueOut f fd) (C_na : CallOk P w K mg base k "_law_named" pLNamed spLNamedW) (m_isinstance : mg "isinstance" = none) (m_int : mg "int" = none) (m_bool : mg "bool" = none) : FnOk P w K mg base CX0 (k + 1) f fd pLDueOut spLDueOut := by
  refine F.ok scLDueOut (fun vs H Q E h => ?_) (fun cdv A outer s H vs Q E hr h => ?_)
  · obtain ⟨p, b, fk, t, n, age, zs, v, tn, rfl, _⟩ := h
    rfl
  · obtain ⟨p, b, fk, t, n, age, zs, v, tn, rfl, hB, hT, q⟩ := h
    have nd := scLDueOut.nd
    have hu := hu_of hr
    have hzl := hB.len
    refine ⟨_, pss_cons (ps_setLc (i := 2) (own := [("_law_entry", 3)]) (g := gName 3) (by rfl) nd rfl rfl (sw_true rfl rfl rfl (by decide +kernel)) (pi_tup (pe_ix ix_tup (pv 0) pe_int (fun _ _ => rfl))) (blkOk_by (own := [("_law_entry", 3)]) (N := nLDueOut) (sc := defScope sLDueOut) (by decide +kernel)) (fun _ _ _ _ _ => (pg_name (i := 3) nd rfl (.inl rfl))) (fun _ _ _ _ _ => pts_nil)
          (fun _ _ _ _ _ => (pe_ix (ix_tupK (K := K) (by rfl)) (pv 3) pe_int (fun _ _ => rfl))))
      (pss_cons (ps_if (PW.pt (pw_or (pt_not (pt_val (pe_callB call_isi (by rfl) m_isinstance (by decide +kernel) (pa_cons (pv 1) (pa_cons (pe_bltn (v := .ty "int") (by rfl) m_int (by decide +kernel) rfl) pa_nil))))) (pw_or (pt_val (pe_callB call_isi (by rfl) m_isinstance (by decide +kernel) (pa_cons (pv 1) (pa_cons (pe_bltn (v := .ty "bool") (by rfl) m_bool (by decide +kernel) rfl) pa_nil)))) (pw_or1 (pt_cmpR op_notIn_seq (pv 1) (pv 2) (by rfl)))))) (pss_one (ps_ret pe_str)) pss_nil)
      (pss_cons (ps_if (pt_cmpR (op_neLE hr.units) (pe_lc (own := [("_law_entry", 3)]) (g := gName 3) (by rfl) nd (pi_tup (pe_ix ix_tup (pv 0) pe_int (fun _ _ => rfl))) (blkOk_by (own := [("_law_entry", 3)]) (N := nLDueOut) (sc := defScope sLDueOut) (by decide +kernel)) (fun _ _ _ _ _ => (pg_name (i := 3) nd rfl (.inl rfl))) (fun _ _ _ _ _ => (pts_one (pt_cmpR (in_seqK (K := K) (by rfl)) (pv 1) (pe_call C_na.ok hr (by rfl) C_na.g C_na.kp C_na.b .nil pass0 (pa_cons (pv 3) pa_nil)) (by rfl))))
          (fun _ _ _ _ _ => (pv 3))) (pe_lst pa_nil) (nomark _)) (pss_one (ps_ret pe_str)) pss_nil)
      (pss_one (ps_ret pe_str)))), ?_⟩
    refine ⟨_, rfl, b, _, 2, _, rfl, rfl, SqT.of hB.at_, (atI_nat (j := 2) rfl), t, rfl, ⟨_, SqT.of hB.ents⟩, fun M1 nM1 => ?_⟩
    refine lc_sameM (walk_tup (xs := refs zs)) zs (fun z => .int z.2.num) (by rw [List.length_map]) (by omega) nM1 (fun H s => SqT.of (s _ _ hB.ents)) ?_ ?_
    · rintro i z x H3' H3 hz s3 ⟨rfl, hx⟩ Q1 q1
      rw [List.getElem?_map, hz] at hx
      injection hx with hx
      subst hx
      obtain ⟨xs, ex, g0, _, _, _, g4⟩ := ((hB.ent z (List.mem_of_getElem? hz)).kp (Same.tup s3)).tup
      exact ⟨rfl, _, rfl, z.1, xs, 0, _, rfl, rfl, SqT.of ex, g0, q1 _ (same_refl _)⟩
    intro H2 s2 eM
    have eM1 : H2 M1 = some (.lst (((ens zs).map (·.num)).map V.int)) := by
      rw [eM]
      simp [ens, List.map_map, Function.comp_def]
    have q2 := q H2 s2
    refine ⟨_, rfl, _, _, _, _, tn.isI, rfl, .ty "int", (TgAt.same s2 _ _ hT).ty, kit_ty tn.kI, _, rfl, ?_⟩
    refine ite2 (fun c => ?_) (fun c => ?_)
    · have e : dueO zs tn = "missing" := by cases tn <;> first | rfl | cases c
      rw [e] at q2
      exact q2
    refine ⟨_, rfl, _, _, _, _, tn.isB, rfl, .ty "bool", (TgAt.same s2 _ _ hT).ty, kit_ty tn.kB, _, rfl, ?_⟩
    refine ite2 (fun c1 => ?_) (fun c1 => ?_)
    · have e : dueO zs tn = "missing" := by cases tn <;> first | rfl | cases c1
      rw [e] at q2
      exact q2
    obtain ⟨m, rfl⟩ : ∃ m, tn = .int m := by
      cases tn with
      | int m => exact ⟨m, rfl⟩
      | bl _ => exact absurd rfl c1
      | _ => exact absurd rfl c
    cases hT
    refine ⟨_, rfl, _, rfl, M1, _, rfl, .inl (SqL.of eM1), rfl, flat_ints _, _, rfl, ?_⟩
    rw [mem_inV]
    by_cases hm : m ∈ (ens zs).map (·.num)
    case neg =>
      rw [decide_eq_false hm]
      refine iteT ?_
      have e : dueO zs (.int m) = "missing" := if_neg hm
      rw [e] at q2
      exact q2
    rw [decide_eq_true hm]
    refine iteF ?_
    have hB2 := hB.kp (Same.tup s2)
    refine ⟨_, rfl, b, _, 2, _, rfl, rfl, SqT.of hB2.at_, (atI_nat (j := 2) rfl), t, rfl, ⟨_, SqT.of hB2.ents⟩, fun M2 nM2 => ?_⟩
    refine lc_sameV (walk_tup (xs := refs zs)) zs (fun z => decide (m ∈ z.2.names)) (fun z => .ref z.1) (by rw [List.length_map]) (by omega) nM2 (fun H s => SqT.of (s _ _ hB2.ents)) ?_ ?_
    · rintro i z x H3' H3 hz s3 ⟨rfl, hx⟩ Q1 Q0 q1 q0
      rw [List.getElem?_map, hz] at hx
      injection hx with hx
      subst hx
      have hzm := List.mem_of_getElem? hz
      have hez : z.2 ∈ ens zs := List.mem_map.mpr ⟨z, hzm, rfl⟩
      refine ⟨rfl, _, rfl, _, rfl, z.1, z.2, rfl, (hB2.ent z hzm).kp (Same.tup s3), (hB.ok.ok z.2 hez).word, fun l H4 s4 e4 => ?_⟩
      refine ⟨l, _, rfl, .inl (SqL.of e4), rfl, flat_ints _, _, rfl, ?_⟩
      rw [mem_inV]
      refine ite2 (fun c => ?_) (fun c => ?_)
      · exact ⟨_, rfl, q1 c _ s4⟩
      · exact q0 (Bool.eq_false_iff.mpr c) _ s4
    intro H5 s5 eM2
    refine ⟨Nat.zero_le _, fun l3 nl3 => ?_⟩
    have s6 := same_new nl3 (.lst [])
    have e6 : (upd H5 l3 (.lst [])) l3 = some (.lst []) := upd_same
    generalize upd H5 l3 (.lst []) = H6 at s6 e6
    refine ⟨M2, l3, _, rfl, rfl, SqL.of (s6 _ _ eM2), SqL.of e6, _, rfl, ?_⟩
    have q6 := q H6 (s2.trans (s5.trans s6))
    have e1 : dueO zs (.int m) = (if namers zs m = [] then ("ok" : Str) else ("named" : Str)) := if_pos hm
    cases hf : zs.filter fun z => decide (m ∈ z.2.names) with
    | nil =>
      have e2 : namers zs m = [] := by show List.map _ (zs.filter _) = []; rw [hf]; rfl
      rw [e1, if_pos e2] at q6
      exact iteF q6
    | cons y r =>
      have e2 : namers zs m ≠ [] := by show List.map _ (zs.filter _) ≠ []; rw [hf]; exact fun z => nomatch z
      rw [e1, if_neg e2] at q6
      exact iteT q6
end
end Deed

namespace Deed
open PySem PySem.Spec PyProof.Rows L2 LamX
/-! ### a scribe -/
theorem Tabs.ins {T : List (Addr × Str)} {H : Hp} (t : Tabs T H) {d C dx : Addr} {fs : List (Str × V)} (e : H d = some (.ins C dx fs)) (o : HO) : Tabs T (upd H d o) := fun q0 hq0 => by
  obtain ⟨ps, h1, h2, h3⟩ := t q0 hq0
  have n1 : q0.1 ≠ d := fun z0 => by
    rw [z0, e] at h1
    cases h1
  refine ⟨ps, by rw [upd_ne n1]; exact h1, h2, fun pos cv hcv => ?_⟩
  obtain ⟨c0, e1, e2⟩ := h3 pos cv hcv
  refine ⟨c0, e1, ?_⟩
  have n2 : c0 ≠ d := fun z0 => by
    rw [z0, e] at e2
    unfold CodeO at e2
    cases e2
  rw [upd_ne n2]
  exact e2
abbrev sScI : Stmt := inClass (topS 52) 0
abbrev sScT : Stmt := inClass (topS 52) 1
abbrev sScW : Stmt := inClass (topS 52) 2
abbrev sScR : Stmt := inClass (topS 52) 3
abbrev sScB : Stmt := inClass (topS 52) 5
abbrev sScS : Stmt := inClass (topS 52) 6
theorem kKE : ¬ (("kept" : Str) = "earlier") := by decide +kernel
/-- the attributes in the order in which __init__ stores them -/
def sfl (b l : Addr) : List (Str × V) := putF "earlier" (.ref l) (putF "kept" (.ref b) [])
theorem sfl_eq (b l : Addr) : sfl b l = ([("kept", V.ref b), ("earlier", V.ref l)] : List (Str × V)) := by
  show (if ("kept" : Str) = "earlier" then [(("kept" : Str), V.ref l)] else (("kept" : Str), V.ref b) :: putF "earlier" (.ref l) []) = ([("kept", V.ref b), ("earlier", V.ref l)] : List (Str × V))
  rw [if_neg kKE]
  all_goals rfl
theorem sfl_kept (b l : Addr) : (sfl b l).lookup ("kept" : Str) = some (.ref b) := by
  unfold sfl
  rw [lookup_putF, if_neg kKE, lookup_putF, if_pos rfl]
theorem sfl_earlier (b l : Addr) : (sfl b l).lookup ("earlier" : Str) = some (.ref l) := by
  unfold sfl
  rw [lookup_putF, if_pos rfl]
theorem sfl_no (b l : Addr) {m : Str} (h1 : ¬ m = "earlier") (h2 : ¬ m = "kept") : (sfl b l).lookup m = none := by
  unfold sfl
  rw [lookup_putF, if_neg h1, lookup_putF, if_neg h2]
  all_goals rfl
theorem sfl_put (b b' l : Addr) : putF "kept" (.ref b') (sfl b l) = sfl b' l := by
  rw [sfl_eq, sfl_eq]
  show (if ("kept" : Str) = "kept" then (("kept" : Str), V.ref b') :: _ else _) = ([("kept", V.ref b'), ("earlier", V.ref l)] : List (Str × V))
  rw [if_pos rfl]
/-- a Scribe at x: its book at b, the books of before in the list at l -/
structure ScAt (C : Addr) (H : Hp) (x b l : Addr) (es : List V) : Prop where
  ob : ∃ dx, H x = some (.ins C dx (sfl b l))
  ls : H l = some (.lst es)
structure ScT (K : PySem.W.Frag) (mg : Str → Option Value) (C : Addr) : Prop where
  cl : Cls K C
  nK : NoAttr K C "kept"
  nE : NoAttr K C "earlier"
  g : mg "Scribe" = some (.ref C)
/-- all but the scribe, its list and the tables is as it was -/
def XS (x l : Addr) (H H' : Hp) : Prop := ∀ c o, c ≠ x → c ≠ l → H c = some o → (∀ ps, o ≠ .tbl ps) → H' c = some o
theorem XS.refl (x l : Addr) (H : Hp) : XS x l H H := fun _ _ _ _ h _ => h
theorem XS.trans {x l : Addr} {H H1 H2 : Hp} (a : XS x l H H1) (b : XS x l H1 H2) : XS x l H H2 := fun c o n1 n2 h t => b c o n1 n2 (a c o n1 n2 h t) t
theorem XS.ofN {x l : Addr} {H H' : Hp} (e : ExtN H H') : XS x l H H' := fun c o _ _ h t => e c o h t
theorem ScAt.extN {C : Addr} {H H' : Hp} {x b l : Addr} {es : List V} (h : ScAt C H x b l es) (e : ExtN H H') : ScAt C H' x b l es := by
  obtain ⟨⟨dx, h1⟩, h2⟩ := h
  exact ⟨⟨dx, e _ _ h1 fun ps z => by cases z⟩, e _ _ h2 fun ps z => by cases z⟩
theorem XS.tup {C x l : Addr} {H H' : Hp} {b : Addr} {es : List V} (s : XS x l H H') (h : ScAt C H x b l es) : KpT H H' := fun c xs e => by
  obtain ⟨⟨dx, h1⟩, h2⟩ := h
  exact s c _ (fun z => by rw [z, h1] at e; cases e) (fun z => by rw [z, h2] at e; cases e) e fun ps z => by cases z
section
variable {P : Program} {w : World} {K : PySem.W.Frag} {mg : Str → Option Value} {base : Heap} {T : List (Addr × Str)} {C : Addr}
abbrev sByN : Stmt := topS 51
abbrev nByN : List Str := ["book", "folk", "age", "entries"]
abbrev pByN : List Str := ["book"]
theorem scByN : FnScope nByN pByN (defScope sByN) := ⟨rfl, rfl, rfl, by decide +kernel, rfl, by decide +kernel, by decide +kernel⟩
def spByN (T : List (Addr × Str)) : Sp := fun vs H Q _ => ∃ (b fk t : Addr) (n : Nat) (age : Int) (zs : List (Addr × En)), vs = [.ref b] ∧ BookAt H b fk t n age zs ∧ Tabs T H ∧ ∀ b' t' (zs' : List (Addr × En)) H', ExtN H H' → Tabs T H' → BookAt H' b' fk t' n age zs' → zs'.Perm zs → zs'.Pairwise (fun u v => u.2.num < v.2.num) → Q (.ref b') H'
theorem ok_ByN {f : Addr} {fd : FuncData} {k : Nat} (F : Fun K "by_numbers" "by_numbers" sByN f fd) (C_er : CallOk P w K mg base k "entries_rising" ["book"] (spRising T)) (m_tuple : mg "tuple" = none) : FnOk P w K mg base CX0 (k + 1) f fd pByN (spByN T) := by
  refine F.ok scByN (fun vs H Q E h => ?_) (fun cdv A outer s H vs Q E hr h => ?_)
  · obtain ⟨b, fk, t, n, age, zs, rfl, _⟩ := h
    rfl
  · obtain ⟨b, fk, t, n, age, zs, rfl, hB, hT, q⟩ := h
    have nd := scByN.nd
    refine ⟨_, pss_cons (ps_asg (pv 0) (pg_tup (by rfl) (pgs_cons (pg_name (i := 1) nd rfl (.inl rfl)) (pgs_cons (pg_name (i := 2) nd rfl (.inl rfl)) (pgs_cons (pg_name (i := 3) nd rfl (.inl rfl)) pgs_nil)))))
      (pss_one (ps_ret (pe_tup (pa_cons (pv 1) (pa_cons (pv 2) (pa_cons (pe_callTy call_tuple_of (by rfl) m_tuple (by decide +kernel) (pa_cons (pe_call C_er.ok hr (by rfl) C_er.g C_er.kp C_er.b .nil pass0 (pa_cons (pv 0) pa_nil)) pa_nil)) pa_nil)))))), ?_⟩
    refine ⟨_, rfl, b, _, rfl, SqT.of hB.at_, rfl, _, _, rfl, _, _, rfl, _, _, rfl, rfl, ?_⟩
    refine ⟨_, rfl, _, rfl, _, rfl, b, fk, t, n, age, zs, rfl, hB, hT, fun l1 zs' H1 e1 T1 f1 el1 pm so => ?_⟩
    refine ⟨l1, _, rfl, .inl ⟨SqL.of el1, fun t2 nt2 => ?_⟩⟩
    have s2 := same_new nt2 (.tup (refs zs'))
    have e2 : (upd H1 t2 (.tup (refs zs'))) t2 = some (.tup (refs zs')) := upd_same
    generalize (upd H1 t2 (.tup (refs zs'))) = H2 at s2 e2
    refine ⟨(by show 3 ≤ sizeLine; decide), fun b3 nb3 => ?_⟩
    have s3 := same_new nb3 (.tup [.ref fk, .int age, .ref t2])
    have e3 : (upd H2 b3 (.tup [.ref fk, .int age, .ref t2])) b3 = some (.tup [.ref fk, .int age, .ref t2]) := upd_same
    generalize (upd H2 b3 (.tup [.ref fk, .int age, .ref t2])) = H3 at s3 e3
    have e13 : ExtN H H3 := e1.trans ((ExtN.of s2).trans (.of s3))
    have hB3 := hB.kp (ExtN.tup e13)
    exact q b3 t2 zs' H3 e13 ((T1.ext s2).ext s3) ⟨e3, hB3.folk, hB.n2, hB.n6, hB.age0, hB.age1, s3 _ _ e2, fun z hz => hB3.ent z (pm.mem_iff.mp hz), hB.ok.perm (pm.map _), by rw [pm.length_eq]; exact hB.len⟩ pm so
/-! turn_to -/
abbrev nScT : List Str := ["self", "other"]
theorem scScT : FnScope nScT nScT (defScope sScT) := ⟨rfl, rfl, rfl, by decide +kernel, rfl, by decide +kernel, by decide +kernel⟩
def spScT (C : Addr) (T : List (Addr × Str)) : Sp := fun vs H Q _ => ∃ (x b l o fk t : Addr) (es : List V) (n : Nat) (age : Int) (zs : List (Addr × En)), vs = [.ref x, .ref o] ∧ ScAt C H x b l es ∧ es.length ≤ 900 ∧ BookAt H o fk t n age zs ∧ Tabs T H ∧
  ∀ b' t' (zs' : List (Addr × En)) H', XS x l H H' → Tabs T H' → ScAt C H' x b' l (es ++ [.ref b]) → BookAt H' b' fk t' n age zs' → zs'.Perm zs → zs'.Pairwise (fun u v => u.2.num < v.2.num) → Q .non H'
theorem ok_ScT {f : Addr} {fd : FuncData} {k : Nat} (F : Fun K "turn_to" "Scribe.turn_to" sScT f fd) (S : ScT K mg C) (C_bn : CallOk P w K mg base k "by_numbers" pByN (spByN T)) : FnOk P w K mg base CX0 (k + 1) f fd nScT (spScT C T) := by
  refine F.ok scScT (fun vs H Q E h => ?_) (fun cdv A outer s H vs Q E hr h => ?_)
  · obtain ⟨x, b, l, o, fk, t, es, n, age, zs, rfl, _⟩ := h
    rfl
  · obtain ⟨x, b, l, o, fk, t, es, n, age, zs, rfl, hSc, hes, hB, hT, q⟩ := h
    obtain ⟨⟨dx, hx⟩, hl⟩ := id hSc
    have nxl : x ≠ l := fun z => by rw [z, hl] at hx; cases hx
    refine ⟨_, pss_cons (ps_expr (pe_bm PySem.F.plainAttrs_list PySem.F.slot_list_append PySem.F.type_list_append mt_append (pe_fld (pv 0) rfl) (pa_cons (pe_fld (pv 0) rfl) pa_nil)))
      (pss_one (ps_fld (pv 0) (pe_call C_bn.ok hr (by rfl) C_bn.g C_bn.kp C_bn.b .nil pass0 (pa_cons (pv 1) pa_nil)) rfl)), ?_⟩
    refine ⟨_, rfl, x, C, dx, _, _, rfl, hx, S.cl, S.nE, sfl_earlier b l, .inl ⟨rfl, _, SqL.of hl⟩, _, rfl, x, C, dx, _, _, rfl, hx, S.cl, S.nK, sfl_kept b l, l, _, _, rfl, rfl, hl, small1000 (by omega), ?_⟩
    have hx1 : (upd H l (.lst (es ++ [.ref b]))) x = some (.ins C dx (sfl b l)) := by rw [upd_ne nxl]; exact hx
    have hl1 : (upd H l (.lst (es ++ [.ref b]))) l = some (.lst (es ++ [.ref b])) := upd_same
    have xs1 : XS x l H (upd H l (.lst (es ++ [.ref b]))) := fun c u _ n2 e _ => by rw [upd_ne n2]; exact e
    have T1 : Tabs T (upd H l (.lst (es ++ [.ref b]))) := Tabs.put hT hl _
    generalize (upd H l (.lst (es ++ [.ref b]))) = H1 at hx1 hl1 xs1 T1
    have hB1 := hB.kp (xs1.tup hSc)
    refine ⟨_, rfl, o, fk, t, n, age, zs, rfl, hB1, T1, fun b' t' zs' H2 e2 T2 hB2 pm so => ?_⟩
    have hx2 := e2 _ _ hx1 fun ps z => by cases z
    have hl2 := e2 _ _ hl1 fun ps z => by cases z
    refine ⟨_, rfl, x, C, dx, _, rfl, hx2, S.cl, S.nK, (by rw [sfl_eq]; show 2 < 1000; decide), ?_⟩
    rw [sfl_put]
    have nxb : ∀ c xs, H2 c = some (.tup xs) → c ≠ x := fun c xs e z => by rw [z, hx2] at e; cases e
    refine q b' t' zs' _ (fun c u n1 n2 e ht => by rw [upd_ne n1]; exact e2 _ _ (xs1 c u n1 n2 e ht) ht) (Tabs.ins T2 hx2 _) ⟨⟨dx, upd_same⟩, by rw [upd_ne nxl.symm]; exact hl2⟩ (hB2.kp fun c xs e => by rw [upd_ne (nxb c xs e)]; exact e) pm so
end
end Deed

namespace Deed
open PySem PySem.Spec PyProof.Rows L2 LamX
section
variable {P : Program} {w : World} {K : PySem.W.Frag} {mg : Str → Option Value} {base : Heap} {T : List (Addr × Str)} {C : Addr}
/-! __init__ -/
abbrev nScI : List Str := ["self", "folk", "age"]
theorem scScI : FnScope nScI nScI (defScope sScI) := ⟨rfl, rfl, rfl, by decide +kernel, rfl, by decide +kernel, by decide +kernel⟩
def ageT (t : Tg) : Bool := t.within 0 9999
/-- good or refused -/
def spScI (C CF CA : Addr) : Sp := fun vs H Q E => ∃ (p x dx : Addr) (vf va : V) (tf ta : Tg), vs = [.ref x, vf, va] ∧ H x = some (.ins C dx []) ∧ TgAt p H vf tf ∧ TgAt p H va ta ∧
  (isFolkT tf = false → ∀ H', Same H H' → E (.ref CF) none H') ∧ (isFolkT tf = true → ageT ta = false → ∀ H', Same H H' → E (.ref CA) none H') ∧
  (isFolkT tf = true → ageT ta = true → ∀ b t l H', (∀ c o, c ≠ x → H c = some o → H' c = some o) → H b = none → H l = none → ScAt C H' x b l [] → H' b = some (.tup [vf, va, .ref t]) → H' t = some (.tup []) → Q .non H')
theorem ok_ScI {f CF CA : Addr} {fd : FuncData} {k : Nat} (F : Fun K "__init__" "Scribe.__init__" sScI f fd) (S : ScT K mg C) (NF : ExcCl K mg "NoFolk" CF) (NA : ExcCl K mg "NoAge" CA) (C_fo : CallOk P w K mg base k "is_folk" pIsFolkG (spB1 isFolkT)) (C_ag : CallOk P w K mg base k "is_age" pIsAgeG (spB1 ageT)) :
    FnOk P w K mg base (L2.CX P w) (k + 1) f fd nScI (spScI C CF CA) := by
  refine F.okX scScI (fun vs H Q E h => ?_) (fun cdv A outer s H vs Q E hr h => ?_)
  · obtain ⟨p, x, dx, vf, va, tf, ta, rfl, _⟩ := h
    rfl
  · obtain ⟨p, x, dx, vf, va, tf, ta, rfl, hx, hf, ha, q1, q2, q3⟩ := h
    refine ⟨_, pss_cons (ps_if (pt_not (pt_val (pe_call C_fo.ok hr (by rfl) C_fo.g C_fo.kp C_fo.b .nil pass0 (pa_cons (pv 1) pa_nil)))) (pss_one (ps_raise rfl (takes_of rfl rfl rfl rfl) (pmk_own PySem.F.excBase_ValueError NF.xP NF.gP NF.kP (raises_own NF.bP NF.tP) rfl))) pss_nil)
      (pss_cons (ps_if (pt_not (pt_val (pe_call C_ag.ok hr (by rfl) C_ag.g C_ag.kp C_ag.b .nil pass0 (pa_cons (pv 2) pa_nil)))) (pss_one (ps_raise rfl (takes_of rfl rfl rfl rfl) (pmk_own PySem.F.excBase_ValueError NA.xP NA.gP NA.kP (raises_own NA.bP NA.tP) rfl))) pss_nil)
      (pss_cons (ps_fld (pv 0) (pe_tup (pa_cons (pv 1) (pa_cons (pv 2) (pa_cons (pe_tup pa_nil) pa_nil)))) rfl)
      (pss_one (ps_fld (pv 0) (pe_lst pa_nil) rfl)))), ?_⟩
    refine ⟨_, rfl, p, vf, tf, rfl, hf, fun H1 s1 => ⟨_, rfl, ?_⟩⟩
    cases c1 : isFolkT tf with
    | false => exact iteT (q1 c1 H1 s1)
    | true =>
    refine iteF ?_
    refine ⟨_, rfl, p, va, ta, rfl, TgAt.same s1 _ _ ha, fun H2 s2 => ⟨_, rfl, ?_⟩⟩
    cases c2 : ageT ta with
    | false => exact iteT (q2 c1 c2 H2 (s1.trans s2))
    | true =>
    refine iteF ?_
    have s12 := s1.trans s2
    refine ⟨_, rfl, _, rfl, Nat.zero_le _, fun t nt => ?_⟩
    have s3 := same_new nt (.tup [])
    have e3 : (upd H2 t (.tup [])) t = some (.tup []) := upd_same
    generalize (upd H2 t (.tup [])) = H3 at s3 e3
    refine ⟨(by show 3 ≤ sizeLine; decide), fun b nb => ?_⟩
    have s4 := same_new nb (.tup [vf, va, .ref t])
    have e4 : (upd H3 b (.tup [vf, va, .ref t])) b = some (.tup [vf, va, .ref t]) := upd_same
    generalize (upd H3 b (.tup [vf, va, .ref t])) = H4 at s4 e4
    have s14 := s12.trans (s3.trans s4)
    have hx4 := s14 _ _ hx
    refine ⟨_, rfl, x, C, dx, [], rfl, hx4, S.cl, S.nK, (by show 0 < 1000; decide), ?_⟩
    have hx5 : (upd H4 x (.ins C dx (putF "kept" (.ref b) []))) x = some (.ins C dx (putF "kept" (.ref b) [])) := upd_same
    have k5 : ∀ c o, c ≠ x → H4 c = some o → (upd H4 x (.ins C dx (putF "kept" (.ref b) []))) c = some o := fun c o n e => by rw [upd_ne n]; exact e
    generalize (upd H4 x (.ins C dx (putF "kept" (.ref b) []))) = H5 at hx5 k5
    refine ⟨Nat.zero_le _, fun l nl => ?_⟩
    have nlx : x ≠ l := ne_of_none hx5 nl
    have hx6 : (upd H5 l (.lst [])) x = some (.ins C dx (putF "kept" (.ref b) [])) := by rw [upd_ne nlx]; exact hx5
    refine ⟨_, rfl, x, C, dx, _, rfl, hx6, S.cl, S.nE, (by show 1 < 1000; decide), ?_⟩
    have nlo : H l = none := by
      cases z : H l with
      | none => rfl
      | some o =>
        have h1 := k5 l o nlx.symm (s14 _ _ z)
        rw [nl] at h1
        cases h1
    have nbo : H b = none := none_back (s12.trans s3) nb
    have nbx : b ≠ x := fun z => by rw [z, hx4] at e4; cases e4
    have ntx : t ≠ x := fun z => by rw [z] at e3; rw [s4 _ _ (by rw [← z]; rw [z]; exact e3)] at hx4; cases hx4
    have nbl : b ≠ l := fun z => by rw [← z, k5 b _ nbx e4] at nl; cases nl
    have ntl : t ≠ l := fun z => by rw [← z, k5 t _ ntx (s4 _ _ e3)] at nl; cases nl
    refine q3 c1 c2 b t l _ (fun c o n e => ?_) nbo nlo ⟨⟨dx, upd_same⟩, ?_⟩ ?_ ?_
    · have ncl : c ≠ l := fun z => by rw [z, nlo] at e; cases e
      rw [upd_ne n, upd_ne ncl]
      exact k5 c o n (s14 _ _ e)
    · rw [upd_ne nlx.symm]
      exact upd_same
    · rw [upd_ne nbx, upd_ne nbl]
      exact k5 b _ nbx e4
    · rw [upd_ne ntx, upd_ne ntl]
      exact k5 t _ ntx (s4 _ _ e3)
/-! with_entry and without_entry, where they refuse at once -/
def spWithN (CE : Addr) : Sp := fun vs H _ E => ∃ (p b fk t : Addr) (n : Nat) (age : Int) (zs : List (Addr × En)) (v : V) (te : Tg), vs = [.ref b, v] ∧ BookAt H b fk t n age zs ∧ TgAt p H v te ∧ isEntT n te = false ∧ ∀ H', Same H H' → E (.ref CE) none H'
theorem ref_WithN {f CE : Addr} {fd : FuncData} {k : Nat} (F : Fun K "with_entry" "with_entry" sWithE f fd) (NE : ExcCl K mg "NoEntry" CE) (C_is_entry : CallOk P w K mg base k "is_entry" pIsEntG spEntG) : FnOk P w K mg base (L2.CX P w) (k + 1) f fd pWithE (spWithN CE) := by
  refine F.okX scWithE (fun vs H Q E h => ?_) (fun cdv A outer s H vs Q E hr h => ?_)
  · obtain ⟨p, b, fk, t, n, age, zs, v, te, rfl, _⟩ := h
    rfl
  · obtain ⟨p, b, fk, t, n, age, zs, v, te, rfl, hB, ht, hno, q⟩ := h
    have nd := scWithE.nd
    refine ⟨_, pss_cons (ps_asg (pv 0) (pg_tup (by rfl) (pgs_cons (pg_name (i := 2) nd rfl (.inl rfl)) (pgs_cons (pg_name (i := 3) nd rfl (.inl rfl)) (pgs_cons (pg_name (i := 4) nd rfl (.inl rfl)) pgs_nil)))))
      (pss_cons (ps_if (pt_not (pt_val (pe_call C_is_entry.ok hr (by rfl) C_is_entry.g C_is_entry.kp C_is_entry.b .nil pass0 (pa_cons (pv 2) (pa_cons (pv 1) pa_nil))))) (pss_one (ps_raise rfl (takes_of rfl rfl rfl rfl) (pmk_own PySem.F.excBase_ValueError NE.xP NE.gP NE.kP (raises_own NE.bP NE.tP) rfl))) pss_nil) pss_never), ?_⟩
    refine ⟨_, rfl, b, _, rfl, SqT.of hB.at_, rfl, _, _, rfl, _, _, rfl, _, _, rfl, rfl, ?_⟩
    obtain ⟨ts, hts, htl, _, hfo⟩ := folk_tg (p := p) hB.folk (by have := hB.n6; omega)
    refine ⟨_, rfl, _, rfl, p, _, _, _, _, rfl, hts, ht, fun H1 s1 => ⟨_, rfl, ?_⟩⟩
    have hf1 : (isFolkT (.tup ts) && isEntT (lenT (.tup ts)) te) = false := by
      have h2 : lenT (.tup ts) = n := by
        show ((ts.length : Nat) : Int) = n
        rw [htl]
      rw [h2, hno, Bool.and_false]
    rw [hf1]
    exact iteT (q H1 s1)
def numZT (zs : List (Addr × En)) : Tg → Bool
  | .int i => decide (i ∈ (ens zs).map (·.num))
  | _ => false
def spWoutN (CM : Addr) : Sp := fun vs H _ E => ∃ (p b fk t : Addr) (n : Nat) (age : Int) (zs : List (Addr × En)) (v : V) (tn : Tg), vs = [.ref b, v] ∧ BookAt H b fk t n age zs ∧ TgAt p H v tn ∧ numZT zs tn = false ∧ ∀ H', Same H H' → E (.ref CM) none H'
theorem ref_WoutN {f CM : Addr} {fd : FuncData} {k : Nat} (F : Fun K "without_entry" "without_entry" sWoutE f fd) (NM : ExcCl K mg "Missing" CM) (C_is_whole : CallOk P w K mg base k "is_whole" pIsWhole (spB1 Tg.isW)) (iNUMBER : MgInt mg "NUMBER" 0) : FnOk P w K mg base (L2.CX P w) (k + 1) f fd pWoutE (spWoutN CM) := by
  refine F.okX scWoutE (fun vs H Q E h => ?_) (fun cdv A outer s H vs Q E hr h => ?_)
  · obtain ⟨p, b, fk, t, n, age, zs, v, tn, rfl, _⟩ := h
    rfl
  · obtain ⟨p, b, fk, t, n, age, zs, v, tn, rfl, hB, ht, hno, q⟩ := h
    have nd := scWoutE.nd
    have hzl := hB.len
    refine ⟨_, pss_cons (ps_asg (pv 0) (pg_tup (by rfl) (pgs_cons (pg_name (i := 2) nd rfl (.inl rfl)) (pgs_cons (pg_name (i := 3) nd rfl (.inl rfl)) (pgs_cons (pg_name (i := 4) nd rfl (.inl rfl)) pgs_nil)))))
      (pss_cons (ps_if (PW.pt (pw_or (pt_not (pt_val (pe_call C_is_whole.ok hr (by rfl) C_is_whole.g C_is_whole.kp C_is_whole.b .nil pass0 (pa_cons (pv 1) pa_nil)))) (pw_or1 (pt_cmpR op_notIn_seq (pv 1) (pe_lc (own := [("entry", 6)]) (g := gName 6) (by rfl) nd (pi_tup (pv 4)) (blkOk_by (own := [("entry", 6)]) (N := nWoutE) (sc := defScope sWoutE) (by decide +kernel)) (fun _ _ _ _ _ => (pg_name (i := 6) nd rfl (.inl rfl))) (fun _ _ _ _ _ => pts_nil)
          (fun _ _ _ _ _ => show PE _ _ (tOp (rIxT K) (tVar 6) (tC (.int 0))) from (pe_ix (ix_tupK (K := K) (by rfl)) (pv 6) (pe_num (by rfl) iNUMBER) (fun _ _ => rfl)))) (by rfl))))) (pss_one (ps_raise rfl (takes_of rfl rfl rfl rfl) (pmk_own PySem.F.excBase_ValueError NM.xP NM.gP NM.kP (raises_own NM.bP NM.tP) rfl))) pss_nil) pss_never), ?_⟩
    refine ⟨_, rfl, b, _, rfl, SqT.of hB.at_, rfl, _, _, rfl, _, _, rfl, _, _, rfl, rfl, ?_⟩
    refine ⟨_, rfl, p, v, tn, rfl, ht, fun H1 s1 => ⟨_, rfl, ?_⟩⟩
    cases c : tn.isW with
    | false => exact iteT (q H1 s1)
    | true =>
    refine iteF ?_
    obtain ⟨i, rfl⟩ : ∃ i, tn = .int i := by
      cases tn with
      | int i => exact ⟨i, rfl⟩
      | _ => cases c
    cases ht
    have et1 := s1 _ _ hB.ents
    refine ⟨_, rfl, _, rfl, t, rfl, ⟨_, SqT.of et1⟩, fun M1 nM1 => ?_⟩
    refine lc_sameM (walk_tup (xs := refs zs)) zs (fun z => .int z.2.num) (by rw [List.length_map]) (by omega) nM1 (fun H s => SqT.of (s _ _ et1)) ?_ ?_
    · rintro j z x H3' H3 hz s3 ⟨rfl, hx⟩ Q1 q1
      rw [List.getElem?_map, hz] at hx
      injection hx with hx
      subst hx
      obtain ⟨xs, ex, g0, _, _, _, g4⟩ := ((hB.ent z (List.mem_of_getElem? hz)).kp (Same.tup (s1.trans s3))).tup
      exact ⟨rfl, _, rfl, z.1, xs, 0, _, rfl, rfl, SqT.of ex, g0, q1 _ (same_refl _)⟩
    intro H2 s2 eM
    have eM : H2 M1 = some (.lst (((ens zs).map (·.num)).map V.int)) := by
      rw [eM, List.map_map, List.map_map]
      rfl
    refine ⟨M1, _, rfl, .inl (SqL.of eM), rfl, flat_ints _, _, rfl, ?_⟩
    rw [mem_inV]
    have h1 : decide (i ∈ (ens zs).map (·.num)) = false := hno
    rw [h1]
    exact iteT (q H2 (s1.trans s2))
end
end Deed

namespace Deed
open PySem PySem.Spec PyProof.Rows L2 LamX
/-! ### with_entry, without_entry, what is due: of things of whatever kind -/
theorem entT_fits {e : En} (h : EOk 3 (entD e)) : FitsN 3 (entT e) := by
  have i1 : ∀ {i : Int} {n : Nat}, EOk (n + 1) (.int i) → FitsN (n + 1) (.int i) := fun {i n} hi => log_small (by have h1 : -10000 ≤ i ∧ i ≤ 10000 := hi; omega)
  have is_ : ∀ {ns : List Int}, EOk 2 (.tuple (ns.map PyData.int)) → FitsN 2 (.tup (ns.map Tg.int)) := fun {ns} hi => by
    obtain ⟨h1, h2⟩ := hi
    refine ⟨by rw [List.length_map] at h1 ⊢; omega, fun t ht => ?_⟩
    obtain ⟨i, hi, rfl⟩ := List.mem_map.mp ht
    exact i1 (n := 0) (h2 _ (List.mem_map.mpr ⟨i, hi, rfl⟩))
  have wd : ∀ {x : Str}, EOk 2 (.str x) → FitsN 2 (.str x) := fun {x} hx => by
    have h1 : x = "deed" ∨ x = "paid" ∨ x = "void" ∨ x = "undone" := hx
    show x.length ≤ 300
    rcases h1 with rfl | rfl | rfl | rfl <;> decide +kernel
  unfold entD at h
  unfold entT
  cases hk : e.kd with
  | deed g t rs ws =>
    rw [hk] at h
    obtain ⟨_, h2⟩ := h
    refine ⟨by show 9 ≤ 300; decide, fun x hx => ?_⟩
    simp only [List.mem_cons, List.not_mem_nil, or_false] at hx
    rcases hx with rfl | rfl | rfl | rfl | rfl | rfl | rfl | rfl | rfl
    · exact i1 (h2 (.int e.num) (by simp))
    · exact i1 (h2 (.int e.day) (by simp))
    · exact i1 (h2 (.int e.wri) (by simp))
    · exact i1 (h2 (.int e.hand) (by simp))
    · exact wd (h2 (.str "deed") (by simp))
    · exact i1 (h2 (.int g) (by simp))
    · exact i1 (h2 (.int t) (by simp))
    · exact is_ (h2 (.tuple (rs.map PyData.int)) (by simp))
    · exact is_ (h2 (.tuple (ws.map PyData.int)) (by simp))
  | act x o =>
    rw [hk] at h
    obtain ⟨_, h2⟩ := h
    refine ⟨by show 6 ≤ 300; decide, fun y hy => ?_⟩
    simp only [List.mem_cons, List.not_mem_nil, or_false] at hy
    rcases hy with rfl | rfl | rfl | rfl | rfl | rfl
    · exact i1 (h2 (.int e.num) (by simp))
    · exact i1 (h2 (.int e.day) (by simp))
    · exact i1 (h2 (.int e.wri) (by simp))
    · exact i1 (h2 (.int e.hand) (by simp))
    · exact wd (h2 (.str x) (by simp))
    · exact i1 (h2 (.int o) (by simp))
theorem entOk_names {n : Nat} {e : En} (h : EntOk n e) : e.names.length ≤ 1000 := by
  unfold EntOk at h
  unfold En.names
  obtain ⟨_, _, _, _, d⟩ := h
  cases hk : e.kd with
  | deed g t rs ws =>
    rw [hk] at d
    have := d.2.2.2.1.1
    show rs.length ≤ 1000
    omega
  | act x o =>
    show 1 ≤ 1000
    omega
theorem filter_gone {zs : List (Addr × En)} {m : Int} (nd : ((ens zs).map (·.num)).Nodup) (hm : m ∈ (ens zs).map (·.num)) : ∃ A z B, zs = A ++ z :: B ∧ z.2.num = m ∧ (zs.filter fun z => !decide (z.2.num = m)) = A ++ B := by
  obtain ⟨e, he, hem⟩ := List.mem_map.mp hm
  obtain ⟨z, hz, rfl⟩ := List.mem_map.mp he
  obtain ⟨A, B, rfl⟩ := List.append_of_mem hz
  refine ⟨A, z, B, rfl, hem, ?_⟩
  rw [show ((ens (A ++ z :: B)).map (·.num)) = A.map (fun z => z.2.num) ++ z.2.num :: B.map (fun z => z.2.num) by simp [ens, Function.comp_def]] at nd
  obtain ⟨_, n2, n3⟩ := List.nodup_append.mp nd
  have n4 := (List.nodup_cons.mp n2).1
  rw [List.filter_append, List.filter_cons, hem, decide_eq_true rfl]
  simp only [Bool.not_true, Bool.false_eq_true, if_false]
  rw [List.filter_eq_self.mpr (fun x hx => ?_), List.filter_eq_self.mpr (fun x hx => ?_)]
  · rw [decide_eq_false fun q => n4 (by rw [hem]; exact List.mem_map.mpr ⟨x, hx, q⟩)]
    rfl
  · rw [decide_eq_false fun q => n3 x.2.num (List.mem_map.mpr ⟨x, hx, rfl⟩) z.2.num List.mem_cons_self (by rw [q, hem])]
    rfl
theorem namers_nil {zs : List (Addr × En)} {m : Int} (h : namers zs m = []) : ∀ u ∈ ens zs, m ∉ u.names := fun u hu hm => by
  obtain ⟨z, hz, rfl⟩ := List.mem_map.mp hu
  have h1 : z ∈ zs.filter fun z => decide (m ∈ z.2.names) := List.mem_filter.mpr ⟨hz, decide_eq_true hm⟩
  rw [List.map_eq_nil_iff.mp h] at h1
  cases h1
theorem dueO_or (zs : List (Addr × En)) (tn : Tg) : (dueO zs tn = "missing" ∧ numZT zs tn = false) ∨ ∃ m, tn = .int m ∧ m ∈ (ens zs).map (·.num) ∧ ((namers zs m = [] ∧ dueO zs tn = "ok") ∨ (namers zs m ≠ [] ∧ dueO zs tn = "named")) := by
  cases tn with
  | int m =>
    by_cases hm : m ∈ (ens zs).map (·.num)
    · refine .inr ⟨m, rfl, hm, ?_⟩
      have e1 : dueO zs (.int m) = (if namers zs m = [] then ("ok" : Str) else ("named" : Str)) := if_pos hm
      by_cases hn : namers zs m = []
      · exact .inl ⟨hn, by rw [e1, if_pos hn]⟩
      · exact .inr ⟨hn, by rw [e1, if_neg hn]⟩
    · exact .inl ⟨if_neg hm, decide_eq_false hm⟩
  | _ => exact .inl ⟨rfl, rfl⟩
section
variable {P : Program} {w : World} {K : PySem.W.Frag} {mg : Str → Option Value} {base : Heap}
def spWithA (CE CT CN CM : Addr) : Sp := fun vs H Q E => ∃ (p b fk t : Addr) (n : Nat) (age : Int) (zs : List (Addr × En)) (v : V) (te : Tg) (dd : Str), vs = [.ref b, v] ∧ BookAt H b fk t n age zs ∧ TgAt p H v te ∧ DueT n (ens zs) te dd ∧
  ∀ d H', Same H H' → (dd = "twice" → ∃ dx, d = some dx ∧ H' dx = some (.xd [("at", .int (numT te))])) → if dd = "ok" then ∀ u, Q u H' else E (.ref (refC CE CT CN CM dd)) d H'
theorem all_With {f CE CT CN CM : Addr} {fd : FuncData} {k : Nat} (G : FnOk P w K mg base CX0 k f fd pWithE spWithE) (R1 : FnOk P w K mg base (L2.CX P w) k f fd pWithE (spWithEX CE CT CN CM)) (R2 : FnOk P w K mg base (L2.CX P w) k f fd pWithE (spWithN CE)) : FnOk P w K mg base (L2.CX P w) k f fd pWithE (spWithA CE CT CN CM) := by
  refine (Deed.FnOk.or (Deed.FnOk.toX G) (Deed.FnOk.or R1 R2)).imp fun vs H Q E h => ?_
  obtain ⟨p, b, fk, t, n, age, zs, v, te, dd, rfl, hB, hT, hD, q⟩ := h
  rcases hD with ⟨hno, rfl⟩ | ⟨e, rfl, hyes, hx, rfl⟩
  · refine .inr (.inr ⟨p, b, fk, t, n, age, zs, v, te, rfl, hB, hT, hno, fun H' s => ?_⟩)
    have h := q none H' s (fun z => absurd z (by decide))
    rw [if_neg (by decide)] at h
    exact h
  · obtain ⟨a, rfl, hE⟩ := entAt_of hT
    by_cases hok : dueS n (ens zs) e = "ok"
    · obtain ⟨hM, hl, _⟩ := due_ok hB.ok (by rw [List.length_map]; exact hB.len) (word_iff hx) hx hok
      rw [List.length_map] at hl
      exact .inl ⟨b, fk, t, a, n, age, zs, e, rfl, hB, hE, hM, hl, fun b' t' H' s _ => by
        have h := q none H' s (fun z => absurd (hok.symm.trans z) (by decide))
        rw [if_pos hok] at h
        exact h _⟩
    · refine .inr (.inl ⟨b, fk, t, a, n, age, zs, e, rfl, hB, hE, word_iff hx, hok, fun d H' s ht => ?_⟩)
      have h := q d H' s fun z => by
        obtain ⟨dx, h1, h2⟩ := ht z
        exact ⟨dx, h1, by rw [numT_ent]; exact h2⟩
      rw [if_neg hok] at h
      exact h
def spLDueA : Sp := fun vs H Q _ => ∃ (p b fk t : Addr) (n : Nat) (age : Int) (zs : List (Addr × En)) (v : V) (te : Tg) (dd : Str), vs = [.ref b, v] ∧ BookAt H b fk t n age zs ∧ TgAt p H v te ∧ DueT n (ens zs) te dd ∧ ∀ H', Same H H' → Q (.str dd) H'
def spLDueN : Sp := fun vs H Q _ => ∃ (p b fk t : Addr) (n : Nat) (age : Int) (zs : List (Addr × En)) (v : V) (te : Tg), vs = [.ref b, v] ∧ BookAt H b fk t n age zs ∧ TgAt p H v te ∧ isEntT n te = false ∧ ∀ H', Same H H' → Q (.str "entry") H'
theorem no_LDueOf {f : Addr} {fd : FuncData} {k : Nat} (F : Fun K "_law_due_of" "_law_due_of" sLDueOf f fd) (C_is_entry : CallOk P w K mg base k "is_entry" pIsEntG spEntG) : FnOk P w K mg base CX0 (k + 1) f fd pLDueOf spLDueN := by
  refine F.ok scLDueOf (fun vs H Q E h => ?_) (fun cdv A outer s H vs Q E hr h => ?_)
  · obtain ⟨p, b, fk, t, n, age, zs, v, te, rfl, _⟩ := h
    rfl
  · obtain ⟨p, b, fk, t, n, age, zs, v, te, rfl, hB, hT, hno, q⟩ := h
    refine ⟨_, pss_cons (ps_if (pt_not (pt_val (pe_call C_is_entry.ok hr (by rfl) C_is_entry.g C_is_entry.kp C_is_entry.b .nil pass0 (pa_cons (pe_ix ix_tup (pv 0) pe_int (fun _ _ => rfl)) (pa_cons (pv 1) pa_nil))))) (pss_one (ps_ret pe_str)) pss_nil) pss_never, ?_⟩
    obtain ⟨ts, hts, htl, _, _⟩ := folk_tg (p := p) hB.folk (by have := hB.n6; omega)
    refine ⟨_, rfl, b, _, 0, _, rfl, rfl, SqT.of hB.at_, (atI_nat (j := 0) rfl), _, rfl, p, _, _, _, _, rfl, hts, hT, fun H1 s1 => ⟨_, rfl, ?_⟩⟩
    have hlt : lenT (.tup ts) = n := by
      show ((ts.length : Nat) : Int) = n
      rw [htl]
    rw [hlt, hno, Bool.and_false]
    exact iteT (q H1 s1)
theorem all_LDueOf {f : Addr} {fd : FuncData} {k : Nat} (G : FnOk P w K mg base CX0 k f fd pLDueOf spLDueOf) (R : FnOk P w K mg base CX0 k f fd pLDueOf spLDueN) : FnOk P w K mg base CX0 k f fd pLDueOf spLDueA := by
  refine (Deed.FnOk.or G R).imp fun vs H Q E h => ?_
  obtain ⟨p, b, fk, t, n, age, zs, v, te, dd, rfl, hB, hT, hD, q⟩ := h
  rcases hD with ⟨hno, rfl⟩ | ⟨e, rfl, hyes, hx, rfl⟩
  · exact .inr ⟨p, b, fk, t, n, age, zs, v, te, rfl, hB, hT, hno, q⟩
  · obtain ⟨a, rfl, hE⟩ := entAt_of hT
    exact .inl ⟨b, fk, t, a, n, age, zs, e, rfl, hB, hE, word_iff hx, entOk_names ((isEntT_iff hx).mp hyes), q⟩
theorem bk_gone {n : Nat} {zs : List (Addr × En)} {m : Int} (hB : BkOk n (ens zs)) (hm : m ∈ (ens zs).map (·.num)) (h1 : namers zs m = []) : BkOk n (ens (zs.filter fun z => !decide (z.2.num = m))) := by
  obtain ⟨A, z, B, hz, hzm, hf⟩ := filter_gone hB.nd hm
  have h3 := hB
  have h4 := namers_nil h1
  rw [hz] at h3 h4
  rw [show ens (A ++ z :: B) = ens A ++ z.2 :: ens B from List.map_append] at h3 h4
  rw [hf, show ens (A ++ B) = ens A ++ ens B from List.map_append]
  exact h3.gone (by rw [hzm]; exact h4)
def spWoutA (CI CJ : Addr) : Sp := fun vs H Q E => ∃ (p b fk t : Addr) (n : Nat) (age : Int) (zs : List (Addr × En)) (v : V) (tn : Tg), vs = [.ref b, v] ∧ BookAt H b fk t n age zs ∧ TgAt p H v tn ∧
  ∀ b' t' d i H', Same H H' → (dueO zs tn = "ok" → ∀ m, tn = .int m → BookAt H' b' fk t' n age (zs.filter fun z => !decide (z.2.num = m))) →
    (dueO zs tn = "named" → ∀ m, tn = .int m → i ∈ namers zs m ∧ (∀ y ∈ namers zs m, i ≤ y) ∧ ∃ dx, d = some dx ∧ H' dx = some (.xd [("by", .int i)])) →
    if dueO zs tn = "ok" then Q (.ref b') H' else E (.ref (if dueO zs tn = "missing" then CI else CJ)) d H'
theorem all_Wout {f CI CJ : Addr} {fd : FuncData} {k : Nat} (G : FnOk P w K mg base CX0 k f fd pWoutE spWoutE) (R1 : FnOk P w K mg base (L2.CX P w) k f fd pWoutE (spWoutJ CJ)) (R2 : FnOk P w K mg base (L2.CX P w) k f fd pWoutE (spWoutN CI)) : FnOk P w K mg base (L2.CX P w) k f fd pWoutE (spWoutA CI CJ) := by
  refine (Deed.FnOk.or (Deed.FnOk.toX G) (Deed.FnOk.or R1 R2)).imp fun vs H Q E h => ?_
  obtain ⟨p, b, fk, t, n, age, zs, v, tn, rfl, hB, hT, q⟩ := h
  rcases dueO_or zs tn with ⟨h1, h2⟩ | ⟨m, rfl, hm, ⟨h1, h2⟩ | ⟨h1, h2⟩⟩
  · refine .inr (.inr ⟨p, b, fk, t, n, age, zs, v, tn, rfl, hB, hT, h2, fun H' s => ?_⟩)
    have h := q b t none 0 H' s (fun z => absurd (h1.symm.trans z) (by decide)) (fun z => absurd (h1.symm.trans z) (by decide))
    rw [if_neg (by rw [h1]; decide), if_pos h1] at h
    exact h
  · cases hT
    refine .inl ⟨b, fk, t, n, age, m, zs, rfl, hB, hm, namers_nil h1, bk_gone hB.ok hm h1, fun b' t' H' s hB' => ?_⟩
    have h := q b' t' none 0 H' s (fun _ m' e => by cases e; exact hB') (fun z => absurd (h2.symm.trans z) (by decide))
    rw [if_pos h2] at h
    exact h
  · cases hT
    refine .inr (.inl ⟨b, fk, t, n, age, m, zs, rfl, hB, hm, h1, fun d i H' s hi hmin e => ?_⟩)
    have h := q b t (some d) i H' s (fun z => absurd (h2.symm.trans z) (by decide)) (fun _ m' em => by cases em; exact ⟨hi, hmin, d, rfl, e⟩)
    rw [if_neg (by rw [h2]; decide), if_neg (by rw [h2]; decide)] at h
    exact h
end
end Deed

namespace OwnS
open PySem PySem.Spec PyProof.Rows L2
/-! ### len(x), repr(x), x as a truth, bool(x): by an own __len__, __repr__ -/
section
variable {X : Cx} {CX : CXT} {C f : Addr} {fd : FuncData} {ps : List Str} {n : Nat} {sp : Sp} {E : XK}
/-- an own special def called by the machine -/
theorem own_call (F : FnOk X.prog X.w X.K X.mg X.base CX n f fd ps sp) (hb : Binds X.K fd ps []) (hx : Passes CX X E) {A : Around} (hr : Room n A) (hfr : A.frames = X.A.frames) {pins : List (Addr × Obj)} {s : Shared} {σ : L2.St} {H : Hp} {a : Addr} {Q : VK} {R : Value → Shared → Prop} (I : Inv X pins σ H s) (hsp : sp [.ref a] H Q E)
    (back : ∀ u v s' H', Inv X pins σ H' s' → RelV v u → Q v H' → R u s') : wpAny (model X.prog X.w) A (call (.ref f) [.ref a]) R X.xe s := by
  have e0 : Env0 X.prog X.w X.K X.mg X.base A X.stack s H := by
    have e := I.env0
    exact ⟨by rw [hfr]; exact e.frames, e.mod, e.bs, e.bsz, e.funs, e.frf, e.hok, e.bare⟩
  have hl := F.len _ _ _ _ hsp
  have r2 : Vals [V.ref a] [Value.ref a] := .cons rfl .nil
  refine wpAny_call (codeAny_mono (F.run A X.stack s H ⟨[.ref a], []⟩ [.ref a] [.ref a] Q E hr e0 (by
    have := hb s [.ref a] I.kIn (by simpa using hl)
    simpa using this) r2 hsp) fun r s' hq => ?_)
  cases r with
  | error e => exact hx pins σ H s e s' I hq
  | ok fl =>
    cases fl with
    | ret w =>
      obtain ⟨z, H', I', rz, q⟩ := I.after hq
      exact back w z s' H' I' rz q
    | next => exact False.elim hq
    | brk => exact False.elim hq
    | cont => exact False.elim hq
/-- what is needed of a class's own special def -/
structure Spc (K : PySem.W.Frag) (C : Addr) (name : Str) (f : Addr) : Prop where
  hs : PySem.W.findIn K (.ref C) name = some (some (.ref f))
  hf : PySem.W.isFn K (.ref f) = true
/-- the body of len, by an own __len__ -/
theorem len_body (F : FnOk X.prog X.w X.K X.mg X.base CX n f fd ps sp) (S : Spc X.K C "__len__" f) (hb : Binds X.K fd ps []) (hx : Passes CX X E) {A : Around} (hr : Room n A.in1) (hfr : A.in1.frames = X.A.frames) {pins : List (Addr × Obj)} {s : Shared} {σ : L2.St} {H : Hp} {a dx : Addr} {fs : List (Str × V)} {Q : Int → Hp → Prop} {R : Value → Shared → Prop} (I : Inv X pins σ H s) (ha : H a = some (.ins C dx fs))
    (hsp : sp [.ref a] H (fun v H' => ∃ i : Int, v = .int i ∧ 0 ≤ i ∧ i < 2 ^ 63 ∧ Q i H') E) (back : ∀ (i : Int) (t : Tok) s' H', Inv X pins σ H' s' → Q i H' → R (.int i t) s') :
    wpAny (model X.prog X.w) A.in1 (Builtin.«len» ⟨[.ref a], []⟩) (fun fin s' => ∃ r, fin = .done (.ret r) ∧ R r s') X.xe s := by
  obtain ⟨mA, J, _⟩ := ins_get I.hok ha
  obtain ⟨od, J, _⟩ := J.look
  unfold Builtin.«len»
  refine wpAny_bind (m := oneArg "len" _) (wpAny_pure ?_)
  refine wpAny_bind (m := callSpecial? (.ref a) (Str.ofString "__len__")) (PySem.W.special_fn I.kIn J S.hs (beq_iff_eq.mp S.hf) (own_call F hb hx hr hfr I hsp (fun u v s' H' I' rv q => ?_)))
  obtain ⟨i, rfl, h0, h1, q⟩ := q
  obtain ⟨t, rfl⟩ := rv
  refine wpAny_bind (wpAny_holding (wpAny_pure ?_))
  refine wpAny_bind (wpAny_letGo ?_)
  show wpAny _ _ (if i < 0 then _ else _) _ _ _
  rw [if_neg (by omega)]
  show wpAny _ _ (if i ≥ 2 ^ 63 then _ else _) _ _ _
  rw [if_neg (by omega)]
  exact wpAny_bind (wpAny_mkInt (wpAny_pure ⟨_, rfl, back i _ _ H' (I'.tok _) q⟩))
theorem call_lenO (F : FnOk X.prog X.w X.K X.mg X.base CX n f fd ps sp) (S : Spc X.K C "__len__" f) (hb : Binds X.K fd ps []) (hx : Passes CX X E) (hr : Room (n + 1) X.A) :
    CallR X (.builtin "len") (fun xs H Q => ∃ a dx fs, xs = [.ref a] ∧ H a = some (.ins C dx fs) ∧ sp [.ref a] H (fun v H' => ∃ i : Int, v = .int i ∧ 0 ≤ i ∧ i < 2 ^ 63 ∧ Q (.int i) H') E) := by
  intro pins s σ H xs us Q I r h
  obtain ⟨a, dx, fs, rfl, ha, hsp⟩ := h
  obtain rfl := Vals.ref1 r
  refine Calls.call_function_entry kind_len plain_len entry_len (args_len1 _) ?_
  exact len_body F S hb hx hr.in1 rfl (Q := fun i H' => Q (.int i) H') I ha hsp (fun i t s' H' I' q => ⟨.int i, H', I', ⟨t, rfl⟩, q⟩)
theorem call_reprO (F : FnOk X.prog X.w X.K X.mg X.base CX n f fd ps sp) (S : Spc X.K C "__repr__" f) (hb : Binds X.K fd ps []) (hx : Passes CX X E) (hr : Room (n + 1) X.A) :
    CallR X (.builtin "repr") (fun xs H Q => ∃ a dx fs, xs = [.ref a] ∧ H a = some (.ins C dx fs) ∧ sp [.ref a] H (fun v H' => ∃ y : Str, v = .str y ∧ Q (.str y) H') E) := by
  intro pins s σ H xs us Q I r h
  obtain ⟨a, dx, fs, rfl, ha, hsp⟩ := h
  obtain rfl := Vals.ref1 r
  obtain ⟨mA, J, _⟩ := ins_get I.hok ha
  obtain ⟨od, J, _⟩ := J.look
  refine Calls.call_function_entry PySem.F.kind_repr PySem.F.plain_repr PySem.F.entry_repr (PySem.F.args_repr1 _) ?_
  unfold Builtin.«repr»
  refine wpAny_bind (m := oneArg "repr" _) (wpAny_pure ?_)
  refine wpAny_bind (wpAny_cRoomFor hr.in1.units0 ?_)
  refine wpAny_bind (wpAny_bind (J.type.here ((PySem.W.looks_findIn I.kIn S.hs).here ?_)))
  show wpAny _ _ (if (some (Value.ref f)).isNone = true then _ else _) _ _ _
  rw [if_neg (by simp)]
  refine wpAny_bind (m := callSpecialIfBound? (.ref a) (Str.ofString "__repr__") _) (PySem.W.ifBound_K I.kIn J S.hs S.hf (own_call F hb hx hr.in1 rfl I hsp (fun u v s' H' I' rv q => ?_)))
  obtain ⟨y, rfl, q⟩ := q
  obtain ⟨t, rfl⟩ := rv
  refine wpAny_bind (wpAny_isInstance (typeIs_str _ _ _) isSubtype_str_str ?_)
  first
    | exact wpAny_pure ⟨_, rfl, .str y, H', I', ⟨t, rfl⟩, q⟩
    | (rw [if_pos rfl]; exact wpAny_pure ⟨_, rfl, .str y, H', I', ⟨t, rfl⟩, q⟩)
    | (simp only [if_true]; exact wpAny_pure ⟨_, rfl, .str y, H', I', ⟨t, rfl⟩, q⟩)
/-- the truth of an instance, by an own __len__ -/
theorem truthy_own (F : FnOk X.prog X.w X.K X.mg X.base CX n f fd ps sp) (S : Spc X.K C "__len__" f) (nb : PySem.W.findIn X.K (.ref C) "__bool__" = some none) (hb : Binds X.K fd ps []) (hx : Passes CX X E) {A : Around} (hr : Room (n + 1) A) (hfr : A.frames = X.A.frames) {pins : List (Addr × Obj)} {s : Shared} {σ : L2.St} {H : Hp} {a dx : Addr} {fs : List (Str × V)} {Q : Int → Hp → Prop} {R : Bool → Shared → Prop} (I : Inv X pins σ H s) (ha : H a = some (.ins C dx fs))
    (hsp : sp [.ref a] H (fun v H' => ∃ i : Int, v = .int i ∧ 0 ≤ i ∧ i < 2 ^ 63 ∧ Q i H') E) (back : ∀ (i : Int) s' H', Inv X pins σ H' s' → Q i H' → R (i != 0) s') : wpAny (model X.prog X.w) A (truthy (.ref a)) R X.xe s := by
  obtain ⟨mA, J, _⟩ := ins_get I.hok ha
  obtain ⟨od, J, _⟩ := J.look
  have key : wpAny (model X.prog X.w) A (runValue (.builtin "len" ⟨[.ref a], []⟩)) (fun r s' => ∃ (i : Int) (t : Tok), r = .int i t ∧ R (i != 0) s') X.xe s := by
    refine wpAny_runValue (codeAny_builtin entry_len ?_)
    rw [Around.under_plainId plain_len _]
    exact wpAny_mono (len_body F S hb hx hr.in1 hfr I ha hsp (R := fun r s' => ∃ (i : Int) (t : Tok), r = .int i t ∧ R (i != 0) s') (fun i t s' H' I' q => ⟨i, t, rfl, back i s' H' I' q⟩)) (fun fin s' h' => by obtain ⟨r, rfl, hq⟩ := h'; exact hq) fun _ _ e => e
  unfold truthy
  refine wpAny_bind (m := callSpecial? (.ref a) (Str.ofString "__bool__")) (wpAny_bind (wpAny_bind (J.type.here ((PySem.W.looks_findIn I.kIn nb).here (wpAny_pure ?_)))))
  refine wpAny_bind (wpAny_bind (J.type.here ((PySem.W.looks_findIn I.kIn S.hs).here ?_)))
  refine wpAny_bind (wpAny_mono key (fun r s' h' => ?_) fun _ _ e => e)
  obtain ⟨i, t, rfl, h'⟩ := h'
  exact wpAny_pure h'
theorem truO (F : FnOk X.prog X.w X.K X.mg X.base CX n f fd ps sp) (S : Spc X.K C "__len__" f) (nb : PySem.W.findIn X.K (.ref C) "__bool__" = some none) (hb : Binds X.K fd ps []) (hx : Passes CX X E) (hr : Room (n + 1) X.A) :
    TruR X (fun v H Q => ∃ a dx fs, v = .ref a ∧ H a = some (.ins C dx fs) ∧ sp [.ref a] H (fun v H' => ∃ i : Int, v = .int i ∧ 0 ≤ i ∧ i < 2 ^ 63 ∧ Q (i != 0) H') E) := by
  intro pins s σ H x v Q I r h
  obtain ⟨a, dx, fs, rfl, ha, hsp⟩ := h
  cases r
  exact truthy_own F S nb hb hx hr rfl (Q := fun i H' => Q (i != 0) H') I ha hsp (fun i s' H' I' q => ⟨H', I', q⟩)
open PySem.F in
theorem call_boolO (F : FnOk X.prog X.w X.K X.mg X.base CX n f fd ps sp) (S : Spc X.K C "__len__" f) (nb : PySem.W.findIn X.K (.ref C) "__bool__" = some none) (hb : Binds X.K fd ps []) (hx : Passes CX X E) (hr : Room (n + 4) X.A) :
    CallR X (.type "bool") (fun xs H Q => ∃ a dx fs, xs = [.ref a] ∧ H a = some (.ins C dx fs) ∧ sp [.ref a] H (fun v H' => ∃ i : Int, v = .int i ∧ 0 ≤ i ∧ i < 2 ^ 63 ∧ Q (.bl (i != 0)) H') E) := by
  intro pins s σ H xs us Q I r h
  obtain ⟨a, dx, fs, rfl, ha, hsp⟩ := h
  obtain rfl := Vals.ref1 r
  refine callType_codes (T := "bool") (Bi := Builtin.«object.__init__») (Q₁ := fun r s₁ => ∃ b, r = .bool b ∧ EP X pins σ Q r s₁) PySem.F.called_bool (PySem.F.typeCall_bool_1 _) PySem.F.entry_object_init ?_ ?_
  · refine codeAny_of_tree ?_
    show wpAny _ _ (do checkBuiltinCall "bool.__new__" ⟨[.type "bool", .ref a], []⟩; again (.builtin "bool.__new__" ⟨[.type "bool", .ref a], []⟩)) _ _ s
    refine wpAny_bind (wpAny_of_eq (PySem.F.newCall_bool_1 _) (wpAny_pure ⟨plainId_quiet (by decide +kernel) _, codeAny_builtin PySem.F.entry_bool_new ?_⟩))
    rw [Around.under_plainId (by decide +kernel) _]
    have key : ∀ A : Around, Room (n + 1) A → A.frames = X.A.frames → wpAny (model X.prog X.w) A (truthy (.ref a)) (fun b s' => EP X pins σ Q (.bool b) s') X.xe s := fun A hA hf => truthy_own F S nb hb hx hA hf (Q := fun i H' => Q (.bl (i != 0)) H') I ha hsp (fun i s' H' I' q => ⟨.bl (i != 0), H', I', rfl, q⟩)
    have key2 : ∀ (A : Around) (R : Bool → Shared → Prop), Room (n + 1) A → A.frames = X.A.frames → (∀ b s', EP X pins σ Q (.bool b) s' → R b s') → wpAny (model X.prog X.w) A (truthy (.ref a)) R X.xe s := fun A R hA hf hR => wpAny_mono (key A hA hf) (fun b s' h => hR b s' h) fun _ _ e => e
    clear key
    unfold Builtin.«bool.__new__»
    have f1 := PySem.F.conv_sub_bool
    obtain ⟨hp, g, d, tk, os⟩ := s
    repeat (any_goals (first | assumption | (with_reducible refine key2 _ _ ?_ ?_ ?_) | wp_step))
    · exact (hr.mono (show n + 1 + 2 ≤ n + 4 by omega)).in1.in1
    · rfl
    · intro b s' h
      exact wpAny_pure ⟨_, rfl, h⟩
  · rintro obj s₁ ⟨b, rfl, hq⟩
    exact ⟨rfl, PySem.F.args_object_init_2 _ _, object_init_meets PySem.F.called_bool.init.lookup PySem.F.called_bool.made (by decide) X.prog X.w X.A.in1 _ s₁ ⟨rfl, rfl, hq⟩⟩
end
end OwnS

namespace OwnE
open PySem PySem.Spec PyProof.Rows L2
/-! ### x == y and x != y by an own __eq__, with both answers -/
structure EqF (K : PySem.W.Frag) (C f : Addr) : Prop where
  hs : PySem.W.findIn K (.ref C) "__eq__" = some (some (.ref f))
  hf : PySem.W.isFn K (.ref f) = true
  hn : PySem.W.findIn K (.ref C) "__ne__" = some (some (.builtin "object.__ne__"))
  hm : PySem.W.mroIn K C (.type "object") = some true
section
variable {prog : Program} {w : World} {A : Around} {E : Value → Shared → Prop} {s : Shared} {K : PySem.W.Frag} {x C f : Addr} {ox : Obj} {od : Option Obj} {b tb : Value}
theorem check_ne {M : Model} {Q : Unit → Shared → Prop} (X : K.In s.heap) (I : PySem.W.InstAt s.heap x ox C od) (hm : PySem.W.mroIn K C (.type "object") = some true) (h : Q () s) : wpAny M A (checkBuiltinCall "object.__ne__" ⟨[.ref x, b], []⟩) Q E s := by
  obtain ⟨hh, g, dr, t, os⟩ := s
  have L0 := I.type (M := M)
  have L1 := PySem.W.looks_mroIn (M := M) X hm
  simp only [checkBuiltinCall, PySem.F.cmpKind_ne, PySem.F.cmpSplit_ne]
  refine wpAny_bind ?_
  unfold isInstance
  repeat lk
  exact h
theorem ne_K {Q : Value → Shared → Prop} (hu : A.units + 1 < cLine) (X : K.In s.heap) (I : PySem.W.InstAt s.heap x ox C od) (hb : PySem.W.Looks (model prog w) s.heap (typeOf b) tb) (hn : PySem.W.notFirst K C tb = true) (F : EqF K C f)
    (h : wpAny (model prog w) A.in1 (call (.ref f) [.ref x, b]) (fun v s' => ∃ r, v = .bool r ∧ Q (.bool (!r)) s') E s) : wpAny (model prog w) A (richCompare .NotEq (.ref x) b) Q E s := by
  have body : wpAny (model prog w) A.in1 (Builtin.«object.__ne__» ⟨[.ref x, b], []⟩) (fun fin s' => ∃ r, fin = .done (.ret (.bool r)) ∧ Q (.bool r) s') E s := by
    unfold Builtin.«object.__ne__»
    refine wpAny_bind (wpAny_pure ?_)
    refine wpAny_bind (wpAny_cRoomFor (show A.in1.units < cLine from hu) ?_)
    refine wpAny_bind (m := callSpecialIfBound? (.ref x) (Str.ofString "__eq__") [b]) (PySem.W.ifBound_K X I F.hs F.hf (wpAny_mono h (fun r s' hr => ?_) fun _ _ e => e))
    obtain ⟨r, rfl, hq⟩ := hr
    refine wpAny_bind (m := truthy (.bool r)) (wpAny_truthy_bool ?_)
    exact wpAny_pure ⟨_, rfl, hq⟩
  have one : wpAny (model prog w) A (tryCompare (.ref x) (cmpInfo .NotEq).2.1 b) (fun r s' => ∃ v, r = some v ∧ Q v s') E s := by
    unfold tryCompare
    refine wpAny_bind ?_
    simp only [callSpecialIfBound?, bindSpecialIfBound?]
    refine wpAny_holding (wpAny_bind (wpAny_bind (wpAny_bind (I.type.here ((PySem.W.looks_findIn X F.hn).here ?_)))))
    simp only [PySem.F.cmp_object.ne.bind]
    refine wpAny_bind (wpAny_askSetting (wpAny_ite ?_))
    have fin : wpAny (model prog w) A (call (.builtin "object.__ne__") ([.ref x] ++ [b]) >>= fun v => pure (some v)) (fun v s' => wpAny (model prog w) A (match v with | some .notImplemented => pure none | none => pure none | some v => pure (some v)) (fun r s' => ∃ v, r = some v ∧ Q v s') E s') E s := by
      refine wpAny_bind (wpAny_call (codeAny_call_builtin PySem.F.cmp_object.ne.plain PySem.F.cmpEntry_ne (check_ne X I F.hm (wpAny_mono body (fun fn s' hf => ?_) fun _ _ e => e))))
      obtain ⟨r, rfl, hq⟩ := hf
      exact wpAny_pure (wpAny_pure ⟨_, rfl, hq⟩)
    split
    · exact wpAny_bind (wpAny_pure (wpAny_pure fin))
    · exact wpAny_tryCatch (wpAny_bind (wpAny_pure (wpAny_pure fin)))
  unfold richCompare
  simp only [oneThing_ref]
  refine wpAny_holding (wpAny_bind (wpAny_cRoomFor (Nat.lt_of_succ_lt hu) ?_))
  refine wpAny_bind (I.type.here (wpAny_bind (hb.here ?_)))
  split
  · rename_i q
    have e : PySem.W.subIn K tb (.ref C) = some false := by
      rcases Bool.or_eq_true_iff.mp hn with e | e
      · rw [beq_iff_eq.mp e] at q; simp at q
      · exact beq_iff_eq.mp e
    refine wpAny_bind ((PySem.W.looks_subIn X e).here ?_)
    simp only [Bool.false_eq_true, if_false]
    refine wpAny_bind (wpAny_mono one (fun r s' z => ?_) fun _ _ e => e)
    obtain ⟨v, rfl, hq⟩ := z
    exact wpAny_pure hq
  · refine wpAny_bind (wpAny_pure ?_)
    simp only [Bool.false_eq_true, if_false]
    refine wpAny_bind (wpAny_mono one (fun r s' z => ?_) fun _ _ e => e)
    obtain ⟨v, rfl, hq⟩ := z
    exact wpAny_pure hq
end
section
variable {X : Cx} {CX : CXT} {C f : Addr} {fd : FuncData} {ps : List Str} {n : Nat} {sp : Sp} {E : XK}
theorem own_call2 (F : FnOk X.prog X.w X.K X.mg X.base CX n f fd ps sp) (hb : Binds X.K fd ps []) (hx : Passes CX X E) {A : Around} (hr : Room n A) (hfr : A.frames = X.A.frames) {pins : List (Addr × Obj)} {s : Shared} {σ : L2.St} {H : Hp} {a : Addr} {y : V} {u : Value} {Q : VK} {R : Value → Shared → Prop} (I : Inv X pins σ H s) (ry : RelV y u) (hsp : sp [.ref a, y] H Q E)
    (back : ∀ u v s' H', Inv X pins σ H' s' → RelV v u → Q v H' → R u s') : wpAny (model X.prog X.w) A (call (.ref f) [.ref a, u]) R X.xe s := by
  have e0 : Env0 X.prog X.w X.K X.mg X.base A X.stack s H := by
    have e := I.env0
    exact ⟨by rw [hfr]; exact e.frames, e.mod, e.bs, e.bsz, e.funs, e.frf, e.hok, e.bare⟩
  have hl := F.len _ _ _ _ hsp
  have r2 : Vals [V.ref a, y] [Value.ref a, u] := .cons rfl (.cons ry .nil)
  refine wpAny_call (codeAny_mono (F.run A X.stack s H ⟨[.ref a, u], []⟩ [.ref a, u] [.ref a, y] Q E hr e0 (by
    have := hb s [.ref a, u] I.kIn (by simpa using hl)
    simpa using this) r2 hsp) fun r s' hq => ?_)
  cases r with
  | error e => exact hx pins σ H s e s' I hq
  | ok fl =>
    cases fl with
    | ret w =>
      obtain ⟨z, H', I', rz, q⟩ := I.after hq
      exact back w z s' H' I' rz q
    | next => exact False.elim hq
    | brk => exact False.elim hq
    | cont => exact False.elim hq
/-- x == y: what the own == says -/
def rEqO (K : PySem.W.Frag) (C : Addr) (sp : Sp) (E : XK) (sgn : Bool) : R2 := fun x y H Q => ∃ a dx fs t, x = .ref a ∧ H a = some (.ins C dx fs) ∧ TyX K H y t ∧ PySem.W.notFirst K C t = true ∧ sp [.ref a, y] H (fun v H' => ∃ b, v = .bl b ∧ Q (.bl (b == sgn)) H') E
theorem rc_eqO (F : FnOk X.prog X.w X.K X.mg X.base CX n f fd ps sp) (G : EqF X.K C f) (hb : Binds X.K fd ps []) (hx : Passes CX X E) {A : Around} (hr : Room n A) (hfr : A.frames = X.A.frames) {pins : List (Addr × Obj)} {s : Shared} {σ : L2.St} {H : Hp} {a dx : Addr} {fs : List (Str × V)} {y : V} {u t : Value} {Q : VK} {R : Value → Shared → Prop} (I : Inv X pins σ H s) (ry : RelV y u) (ha : H a = some (.ins C dx fs)) (ty : TyX X.K H y t) (nf : PySem.W.notFirst X.K C t = true)
    (hsp : sp [.ref a, y] H (fun v H' => ∃ b, v = .bl b ∧ Q (.bl b) H') E) (back : ∀ b s' H', Inv X pins σ H' s' → Q (.bl b) H' → R (.bool b) s') : wpAny (model X.prog X.w) A (richCompare .Eq (.ref a) u) R X.xe s := by
  obtain ⟨mA, J, _⟩ := ins_get I.hok ha
  obtain ⟨od, J, _⟩ := J.look
  obtain ⟨m, hF⟩ := I.fr
  obtain ⟨P, Z, p, _⟩ := kit_of I ry ty
  refine PySem.W.cmp_K (op := .Eq) hr.units0 hF I.ok.mod.kin J (Z.ty _ _ I.kIn p) nf G.hs G.hf (own_call2 F hb hx hr hfr I ry hsp fun w v s' H' I' rv q => ?_)
  obtain ⟨b, rfl, q⟩ := q
  cases rv
  exact back b s' H' I' q
theorem op_eqO (F : FnOk X.prog X.w X.K X.mg X.base CX n f fd ps sp) (G : EqF X.K C f) (hb : Binds X.K fd ps []) (hx : Passes CX X E) (hr : Room (n + 1) X.A) : OpR X (compareOp .Eq) (rEqO X.K C sp E true) := by
  intro pins s σ H x y v u Q I rx ry hq
  obtain ⟨a, dx, fs, t, rfl, ha, ty, nf, hsp⟩ := hq
  cases rx
  show wpAny (model X.prog X.w) X.A (richCompare .Eq (.ref a) u) (EP X pins σ Q) X.xe s
  exact rc_eqO F G hb hx (hr.mono (by omega)) rfl (Q := fun v H' => ∃ b, v = .bl b ∧ Q (.bl (b == true)) H') I ry ha ty nf (by simpa using hsp) (fun b s' H' I' q => by obtain ⟨b', e, q⟩ := q; cases e; exact ⟨.bl b, H', I', rfl, by simpa using q⟩)
theorem op_neO (F : FnOk X.prog X.w X.K X.mg X.base CX n f fd ps sp) (G : EqF X.K C f) (hb : Binds X.K fd ps []) (hx : Passes CX X E) (hr : Room (n + 1) X.A) : OpR X (compareOp .NotEq) (rEqO X.K C sp E false) := by
  intro pins s σ H x y v u Q I rx ry hq
  obtain ⟨a, dx, fs, t, rfl, ha, ty, nf, hsp⟩ := hq
  cases rx
  show wpAny (model X.prog X.w) X.A (richCompare .NotEq (.ref a) u) (EP X pins σ Q) X.xe s
  obtain ⟨mA, J, _⟩ := ins_get I.hok ha
  obtain ⟨od, J, _⟩ := J.look
  obtain ⟨P, Z, p, _⟩ := kit_of I ry ty
  refine ne_K (by have := hr.in1.units0; exact this) I.kIn J (Z.ty _ _ I.kIn p) nf G (own_call2 F hb hx hr.in1 rfl I ry hsp fun w v s' H' I' rv q => ?_)
  obtain ⟨b, rfl, q⟩ := q
  cases rv
  refine ⟨b, rfl, .bl (!b), H', I', rfl, ?_⟩
  cases b <;> exact q
end
end OwnE

namespace OwnE
open PySem PySem.Spec PyProof.Rows L2
open AutoSeq1 (wpAny_loadPart')
open MeetsSeq MeetsSeq2 MeetsSeq3 SeqRoads2
section
variable {prog : Program} {w : World} {A : Around} {E : Value → Shared → Prop} {s : Shared}
/-- x in [y] -/
theorem in_one {l : Addr} {n : Nat} {items : Array Value} {y x : Value} {Q : Value → Shared → Prop} (h0 : items[((0 : Nat) : Int).toNat]? = some y) (h1 : items[((1 : Nat) : Int).toNat]? = none) (hl : s.heap.get? l = some { cls := .type "list", data := .seq items n })
    (h : wpAny (model prog w) A.in1 (eqBool y x) (fun b s' => (∃ m, s'.heap.get? l = some { cls := .type "list", data := .seq items m }) ∧ Q (.bool b) s') E s) : wpAny (model prog w) A (compareOp .In x (.ref l)) Q E s := by
  have last : ∀ s2 : Shared, (∃ m, s2.heap.get? l = some { cls := .type "list", data := .seq items m }) → Q (.bool false) s2 → wpAny (model prog w) A.in1 (Builtin.«list.__contains__.loop» ⟨[.ref l, x, rawInt ((1 : Nat) : Int)], []⟩) (GQ.FinOf prog w A (wants (fun v s' => ∃ b, v = .bool b ∧ Q (.bool b) s') E)) (fun e s' => wants (fun v s' => ∃ b, v = .bool b ∧ Q (.bool b) s') E (.error e) s') s2 := by
    rintro s2 ⟨m, hl2⟩ q
    obtain ⟨hp2, g2, d2, tk2, os2⟩ := s2
    wp_walk using wpAny_loadPart' hl2
    rw [h1]
    wp_walk
    exact ⟨_, rfl, q⟩
  have first : wpAny (model prog w) A.in1 (Builtin.«list.__contains__.loop» ⟨[.ref l, x, rawInt ((0 : Nat) : Int)], []⟩) (GQ.FinOf prog w A (wants (fun v s' => ∃ b, v = .bool b ∧ Q (.bool b) s') E)) (fun e s' => wants (fun v s' => ∃ b, v = .bool b ∧ Q (.bool b) s') E (.error e) s') s := by
    obtain ⟨hp, g, d, tk, os⟩ := s
    wp_walk using wpAny_loadPart' hl
    rw [h0]
    refine wpAny_bind (wpAny_mono h (fun b s2 h2 => ?_) fun _ _ e => e)
    obtain ⟨h3, q⟩ := h2
    have l2 := last s2 h3
    obtain ⟨hp2, g2, d2, tk2, os2⟩ := s2
    have hc : (((0 : Nat) : Int) + 1) = ((1 : Nat) : Int) := by decide
    cases b with
    | true =>
      wp_walk
      exact ⟨_, rfl, q⟩
    | false =>
      wp_walk
      refine ⟨plainId_quiet plain_contains_loop _, codeAny_builtin entry_contains_loop ?_⟩
      rw [Around.under_plainId plain_contains_loop _]
      exact l2 q
  show wpAny _ A (do return .bool (← contains (.ref l) x)) Q E s
  refine wpAny_bind (wpAny_contains_slot ⟨_, hl, rfl⟩ F.slot_list_contains (wpAny_mono (GQ.call_here (Q := fun v s' => ∃ b, v = .bool b ∧ Q (.bool b) s') F.slot_list_contains ⟨_, hl, rfl⟩ F.entry_list_contains (F.args_list_contains_2 _ _) ?_) (fun v s' hv => ?_) fun _ _ e => e))
  · obtain ⟨hp, g, d, tk, os⟩ := s
    wp_walk using wpAny_loadPart' hl
    refine ⟨plainId_quiet plain_contains_loop _, codeAny_builtin entry_contains_loop ?_⟩
    rw [Around.under_plainId plain_contains_loop _]
    exact first
  · obtain ⟨b, rfl, hq⟩ := hv
    exact wpAny_truthy_bool (wpAny_pure hq)
end
section
variable {X : Cx} {CX : CXT} {C f : Addr} {fd : FuncData} {ps : List Str} {n : Nat} {sp : Sp} {E : XK}
/-- x in [y], y an instance with an own == -/
def rInO (C : Addr) (sp : Sp) (E : XK) : R2 := fun x y H Q => ∃ a b l dx gs dy fs, x = .ref b ∧ y = .ref l ∧ H l = some (.lst [.ref a]) ∧ H a = some (.ins C dx fs) ∧ H b = some (.ins C dy gs) ∧ (a = b → Q (.bl true) H) ∧
  (a ≠ b → sp [.ref a, .ref b] H (fun v H' => ∃ r, v = .bl r ∧ H' l = some (.lst [.ref a]) ∧ Q (.bl r) H') E)
theorem op_inO (F : FnOk X.prog X.w X.K X.mg X.base CX n f fd ps sp) (G : EqF X.K C f) (hb : Binds X.K fd ps []) (hx : Passes CX X E) (hr : Room (n + 1) X.A) : OpR X (compareOp .In) (rInO C sp E) := by
  intro pins s σ H x y v u Q I rx ry hq
  obtain ⟨a, b, l, dx, gs, dy, fs, rfl, rfl, hl, ha, hb', q1, q2⟩ := hq
  cases rx
  cases ry
  obtain ⟨z, its, k, r, e⟩ := I.hok l _ hl
  obtain ⟨u, rfl, ru⟩ : ∃ u, its = [u] ∧ RelV (.ref a) u := by
    cases r with
    | cons r t =>
      cases t
      exact ⟨_, rfl, r⟩
  cases ru
  refine in_one (by rfl) (by rfl) e ?_
  by_cases hab : a = b
  · subst hab
    exact SeqAt.EqAt.same (A := X.A.in1) (s := s) (.ref a) X.prog X.w X.xe _ ⟨⟨_, e⟩, .bl true, H, I, rfl, q1 rfl⟩
  · refine GQ.eqBool_refG hab ?_
    obtain ⟨mA, J, _⟩ := ins_get I.hok ha
    obtain ⟨od, J, _⟩ := J.look
    obtain ⟨mB, J', _⟩ := ins_get I.hok hb'
    obtain ⟨od', J', _⟩ := J'.look
    obtain ⟨m, hF⟩ := I.fr
    refine PySem.W.cmp_K (op := .Eq) (tb := .ref C) hr.in1.units0 hF I.ok.mod.kin J J'.type (by simp [PySem.W.notFirst]) G.hs G.hf (own_call2 F hb hx hr.in1 rfl I (show RelV (.ref b) (Value.ref b) from rfl) (q2 hab) fun w v s' H' I' rv q => ?_)
    obtain ⟨r', rfl, el, q⟩ := q
    cases rv
    obtain ⟨z', its', k', r2, e'⟩ := I'.hok l _ el
    obtain rfl : its' = [.ref a] := by
      cases r2 with
      | cons r t =>
        cases t
        cases r
        rfl
    exact ⟨r', rfl, ⟨_, e'⟩, .bl r', H', I', rfl, q⟩
end
end OwnE

namespace Deed
open PySem PySem.Spec PyProof.Rows L2 LamX
/-- a method of a class -/
structure CallM (P : Program) (w : World) (K : PySem.W.Frag) (mg : Str → Option Value) (base : Heap) (CX : CXT) (L : Nat) (C : Addr) (m : Str) (ps : List Str) (sp : Sp) where
  f : Addr
  fd : FuncData
  h : Meth K C m f
  b : Binds K fd ps []
  ok : FnOk P w K mg base CX L f fd ps sp
def CallM.mono {P : Program} {w : World} {K : PySem.W.Frag} {mg : Str → Option Value} {base : Heap} {CX : CXT} {L L' : Nat} {C : Addr} {m : Str} {ps : List Str} {sp : Sp} (c : CallM P w K mg base CX L C m ps sp) (h : L ≤ L') : CallM P w K mg base CX L' C m ps sp := ⟨c.f, c.fd, c.h, c.b, c.ok.mono h⟩
/-- an own special def of a class -/
structure CallS (P : Program) (w : World) (K : PySem.W.Frag) (mg : Str → Option Value) (base : Heap) (L : Nat) (C : Addr) (m : Str) (ps : List Str) (sp : Sp) where
  f : Addr
  fd : FuncData
  h : OwnS.Spc K C m f
  b : Binds K fd ps []
  ok : FnOk P w K mg base CX0 L f fd ps sp
def CallS.mono {P : Program} {w : World} {K : PySem.W.Frag} {mg : Str → Option Value} {base : Heap} {L L' : Nat} {C : Addr} {m : Str} {ps : List Str} {sp : Sp} (c : CallS P w K mg base L C m ps sp) (h : L ≤ L') : CallS P w K mg base L' C m ps sp := ⟨c.f, c.fd, c.h, c.b, c.ok.mono h⟩
/-- how many deeds and acts, as a text -/
def cntT (a b : Nat) : Str := ((("Scribe(" : Str) ++ PySem.Str.ofString (toString (a : Int)) ++ (" deeds, " : Str)) ++ PySem.Str.ofString (toString (b : Int))) ++ (" acts)" : Str)
abbrev nDe (zs : List (Addr × En)) : Nat := (zs.filter fun z => z.2.isDeed).length
abbrev nAc (zs : List (Addr × En)) : Nat := (zs.filter fun z => !z.2.isDeed).length
section
variable {P : Program} {w : World} {K : PySem.W.Frag} {mg : Str → Option Value} {base : Heap} {T : List (Addr × Str)} {C : Addr}
/-! book -/
abbrev nScB : List Str := ["self"]
theorem scScB : FnScope nScB nScB (defScope sScB) := ⟨rfl, rfl, rfl, by decide +kernel, rfl, by decide +kernel, by decide +kernel⟩
def spScB (C : Addr) : Sp := fun vs H Q _ => ∃ (x b l : Addr) (es : List V), vs = [.ref x] ∧ ScAt C H x b l es ∧ Q (.ref b) H
theorem ok_ScB {f : Addr} {fd : FuncData} {k : Nat} (F : Fun K "book" "Scribe.book" sScB f fd) (S : ScT K mg C) : FnOk P w K mg base CX0 (k + 1) f fd nScB (spScB C) := by
  refine F.ok scScB (fun vs H Q E h => ?_) (fun cdv A outer s H vs Q E hr h => ?_)
  · obtain ⟨x, b, l, es, rfl, _⟩ := h
    rfl
  · obtain ⟨x, b, l, es, rfl, hSc, q⟩ := h
    obtain ⟨⟨dx, hx⟩, hll⟩ := id hSc
    refine ⟨_, pss_one (ps_ret (pe_fld (pv 0) rfl)), ?_⟩
    exact ⟨_, rfl, x, C, dx, _, _, rfl, hx, S.cl, S.nK, sfl_kept b l, q⟩
/-! undo -/
abbrev sScU : Stmt := inClass (topS 52) 4
theorem scScU : FnScope nScB nScB (defScope sScU) := ⟨rfl, rfl, rfl, by decide +kernel, rfl, by decide +kernel, by decide +kernel⟩
theorem sfl_putE (b l l' : Addr) : putF "earlier" (.ref l') (sfl b l) = sfl b l' := by
  rw [sfl_eq, sfl_eq]
  show (if ("kept" : Str) = "earlier" then _ else (("kept" : Str), V.ref b) :: (if ("earlier" : Str) = "earlier" then (("earlier" : Str), V.ref l') :: _ else _)) = ([("kept", V.ref b), ("earlier", V.ref l')] : List (Str × V))
  rw [if_neg kKE, if_pos rfl]
def spScU (C CG : Addr) (T : List (Addr × Str)) : Sp := fun vs H Q E => ∃ (x b l : Addr) (es : List V), vs = [.ref x] ∧ ScAt C H x b l es ∧ Tabs T H ∧ (es = [] → E (.ref CG) none H) ∧
  (∀ fs r0, es = fs ++ [r0] → ∃ r, r0 = .ref r ∧ ∀ H', XS x l H H' → Tabs T H' → ScAt C H' x r l fs → Q .non H')
theorem ok_ScU {f CG : Addr} {fd : FuncData} {k : Nat} (F : Fun K "undo" "Scribe.undo" sScU f fd) (S : ScT K mg C) (NG : ExcCl K mg "NothingDone" CG) : FnOk P w K mg base (L2.CX P w) (k + 1) f fd nScB (spScU C CG T) := by
  refine F.okX scScU (fun vs H Q E h => ?_) (fun cdv A outer s H vs Q E hr h => ?_)
  · obtain ⟨x, b, l, es, rfl, _⟩ := h
    rfl
  · obtain ⟨x, b, l, es, rfl, hSc, hT, q1, q2⟩ := h
    obtain ⟨⟨dx, hx⟩, hl⟩ := id hSc
    have nxl : x ≠ l := fun z => by rw [z, hl] at hx; cases hx
    refine ⟨_, pss_cons (ps_if (pt_not (pt_truth (pe_fld (pv 0) rfl) (fun _ => rfl))) (pss_one (ps_raise rfl (takes_of rfl rfl rfl rfl) (pmk_own PySem.F.excBase_ValueError NG.xP NG.gP NG.kP (raises_own NG.bP NG.tP) rfl))) pss_nil)
      (pss_one (ps_fld (pv 0) (pe_bm0 PySem.F.plainAttrs_list PySem.F.slot_list_pop PySem.F.type_list_pop mt_pop (pe_fld (pv 0) rfl)) rfl)), ?_⟩
    refine ⟨_, rfl, x, C, dx, _, _, rfl, hx, S.cl, S.nE, sfl_earlier b l, _, .inl ⟨_, SqL.of hl, rfl⟩, ?_⟩
    rcases List.eq_nil_or_concat es with rfl | ⟨fs, r0, rfl⟩
    · exact iteT (q1 rfl)
    rw [List.concat_eq_append] at hl hSc q2 ⊢
    have hne : (fs ++ [r0]).isEmpty = false := by cases fs <;> rfl
    rw [hne]
    refine iteF ?_
    refine ⟨_, rfl, x, C, dx, _, _, rfl, hx, S.cl, S.nE, sfl_earlier b l, .inl ⟨rfl, _, SqL.of hl⟩, l, _, r0, rfl, rfl, hl, (by rw [List.length_append, List.getElem?_append_right (by simp)]; simp), ?_⟩
    obtain ⟨r, rfl, q3⟩ := q2 fs r0 rfl
    rw [List.dropLast_concat]
    have hx1 : (upd H l (.lst fs)) x = some (.ins C dx (sfl b l)) := by rw [upd_ne nxl]; exact hx
    have hl1 : (upd H l (.lst fs)) l = some (.lst fs) := upd_same
    have xs1 : XS x l H (upd H l (.lst fs)) := fun c u _ n2 e _ => by rw [upd_ne n2]; exact e
    have T1 : Tabs T (upd H l (.lst fs)) := Tabs.put hT hl _
    generalize (upd H l (.lst fs)) = H1 at hx1 hl1 xs1 T1
    refine ⟨_, rfl, x, C, dx, _, rfl, hx1, S.cl, S.nK, (by rw [sfl_eq]; show 2 < 1000; decide), ?_⟩
    rw [sfl_put]
    exact q3 _ (fun c u n1 n2 e ht => by rw [upd_ne n1]; exact xs1 c u n1 n2 e ht) (Tabs.ins T1 hx1 _) ⟨⟨dx, upd_same⟩, by rw [upd_ne nxl.symm]; exact hl1⟩
/-! write -/
abbrev nScW : List Str := ["self", "entry"]
theorem scScW : FnScope nScW nScW (defScope sScW) := ⟨rfl, rfl, rfl, by decide +kernel, rfl, by decide +kernel, by decide +kernel⟩
def spScW (C : Addr) (T : List (Addr × Str)) : Sp := fun vs H Q _ => ∃ (x b l fk t a : Addr) (es : List V) (n : Nat) (age : Int) (zs : List (Addr × En)) (e : En), vs = [.ref x, .ref a] ∧ ScAt C H x b l es ∧ es.length ≤ 900 ∧ BookAt H b fk t n age zs ∧ EntAt H a e ∧ BkOk n (ens zs ++ [e]) ∧ zs.length < 16 ∧ Tabs T H ∧
  ∀ b' t' (zs' : List (Addr × En)) H', XS x l H H' → Tabs T H' → ScAt C H' x b' l (es ++ [.ref b]) → BookAt H' b' fk t' n age zs' → zs'.Perm (zs ++ [(a, e)]) → zs'.Pairwise (fun u v => u.2.num < v.2.num) → Q .non H'
theorem ok_ScW {f : Addr} {fd : FuncData} {k : Nat} (F : Fun K "write" "Scribe.write" sScW f fd) (S : ScT K mg C) (C_t : CallM P w K mg base CX0 k C "turn_to" nScT (spScT C T)) (C_w : CallOk P w K mg base k "with_entry" pWithE spWithE) : FnOk P w K mg base CX0 (k + 1) f fd nScW (spScW C T) := by
  refine F.ok scScW (fun vs H Q E h => ?_) (fun cdv A outer s H vs Q E hr h => ?_)
  · obtain ⟨x, b, l, fk, t, a, es, n, age, zs, e, rfl, _⟩ := h
    rfl
  · obtain ⟨x, b, l, fk, t, a, es, n, age, zs, e, rfl, hSc, hes, hB, hE, hM, hl, hT, q⟩ := h
    obtain ⟨⟨dx, hx⟩, hll⟩ := id hSc
    refine ⟨_, pss_one (ps_expr (pe_meth (pv 0) S.cl C_t.h C_t.ok hr C_t.b .nil pass0 (pa_cons (pe_call C_w.ok hr (by rfl) C_w.g C_w.kp C_w.b .nil pass0 (pa_cons (pe_fld (pv 0) rfl) (pa_cons (pv 1) pa_nil))) pa_nil))), ?_⟩
    refine ⟨_, rfl, x, dx, _, rfl, hx, sfl_no b l (by decide +kernel) (by decide +kernel), _, rfl, x, C, dx, _, _, rfl, hx, S.cl, S.nK, sfl_kept b l, _, rfl, b, fk, t, a, n, age, zs, e, rfl, hB, hE, hM, hl, fun b' t' H1 s1 hB1 => ?_⟩
    refine ⟨x, b, l, b', fk, t', es, n, age, _, rfl, hSc.extN (.of s1), hes, hB1, hT.ext s1, fun b2 t2 zs2 H2 xs T2 hSc2 hB2 pm so => ?_⟩
    exact q b2 t2 zs2 H2 (fun c o n1 n2 e0 ht => xs c o n1 n2 (s1 _ _ e0) ht) T2 hSc2 hB2 pm so
def spScWX (C CE CT CN CM : Addr) : Sp := fun vs H _ E => ∃ (p x b l fk t : Addr) (es : List V) (n : Nat) (age : Int) (zs : List (Addr × En)) (v : V) (te : Tg) (dd : Str), vs = [.ref x, v] ∧ ScAt C H x b l es ∧ BookAt H b fk t n age zs ∧ TgAt p H v te ∧ DueT n (ens zs) te dd ∧ dd ≠ "ok" ∧
  ∀ d H', Same H H' → (dd = "twice" → ∃ dx, d = some dx ∧ H' dx = some (.xd [("at", .int (numT te))])) → E (.ref (refC CE CT CN CM dd)) d H'
theorem ref_ScWX {f CE CT CN CM : Addr} {fd : FuncData} {k : Nat} (F : Fun K "write" "Scribe.write" sScW f fd) (S : ScT K mg C) (C_t : CallM P w K mg base CX0 k C "turn_to" nScT (spScT C T)) (C_w : CallX P w K mg base k "with_entry" pWithE (spWithA CE CT CN CM)) : FnOk P w K mg base (L2.CX P w) (k + 1) f fd nScW (spScWX C CE CT CN CM) := by
  refine F.okX scScW (fun vs H Q E h => ?_) (fun cdv A outer s H vs Q E hr h => ?_)
  · obtain ⟨p, x, b, l, fk, t, es, n, age, zs, v, te, dd, rfl, _⟩ := h
    rfl
  · obtain ⟨p, x, b, l, fk, t, es, n, age, zs, v, te, dd, rfl, hSc, hB, hv, hD, hno, q⟩ := h
    obtain ⟨⟨dx, hx⟩, hll⟩ := id hSc
    refine ⟨_, pss_one (ps_expr (pe_meth (pv 0) S.cl C_t.h C_t.ok hr C_t.b .nil pass0 (pa_cons (pe_call C_w.ok hr (by rfl) C_w.g C_w.kp C_w.b .nil (passes_call (takes_of rfl rfl rfl rfl) (fun _ _ _ _ h => h)) (pa_cons (pe_fld (pv 0) rfl) (pa_cons (pv 1) pa_nil))) pa_nil))), ?_⟩
    refine ⟨_, rfl, x, dx, _, rfl, hx, sfl_no b l (by decide +kernel) (by decide +kernel), _, rfl, x, C, dx, _, _, rfl, hx, S.cl, S.nK, sfl_kept b l, _, rfl, p, b, fk, t, n, age, zs, v, te, dd, rfl, hB, hv, hD, fun d H' s' ht => ?_⟩
    rw [if_neg hno]
    exact q d H' s' ht
/-- good or refused -/
def spScWA (C CE CT CN CM : Addr) (T : List (Addr × Str)) : Sp := fun vs H Q E => ∃ (p x b l fk t : Addr) (es : List V) (n : Nat) (age : Int) (zs : List (Addr × En)) (v : V) (te : Tg) (dd : Str), vs = [.ref x, v] ∧ ScAt C H x b l es ∧ es.length ≤ 900 ∧ BookAt H b fk t n age zs ∧ TgAt p H v te ∧ DueT n (ens zs) te dd ∧ Tabs T H ∧
  (dd = "ok" → ∀ a e b' t' (zs' : List (Addr × En)) H', v = .ref a → te = entT e → EntAt H a e → XS x l H H' → Tabs T H' → ScAt C H' x b' l (es ++ [.ref b]) → BookAt H' b' fk t' n age zs' → zs'.Perm (zs ++ [(a, e)]) → zs'.Pairwise (fun u v => u.2.num < v.2.num) → Q .non H') ∧
  (dd ≠ "ok" → ∀ d H', Same H H' → (dd = "twice" → ∃ dx, d = some dx ∧ H' dx = some (.xd [("at", .int (numT te))])) → E (.ref (refC CE CT CN CM dd)) d H')
theorem all_ScW {f CE CT CN CM : Addr} {fd : FuncData} {k : Nat} (G : FnOk P w K mg base CX0 k f fd nScW (spScW C T)) (R : FnOk P w K mg base (L2.CX P w) k f fd nScW (spScWX C CE CT CN CM)) : FnOk P w K mg base (L2.CX P w) k f fd nScW (spScWA C CE CT CN CM T) := by
  refine (Deed.FnOk.or (Deed.FnOk.toX G) R).imp fun vs H Q E h => ?_
  obtain ⟨p, x, b, l, fk, t, es, n, age, zs, v, te, dd, rfl, hSc, hes, hB, hv, hD, hT, q1, q2⟩ := h
  by_cases hok : dd = "ok"
  · rcases hD with ⟨_, rfl⟩ | ⟨e, rfl, hyes, hx, rfl⟩
    · exact absurd hok (by decide)
    obtain ⟨a, rfl, hE⟩ := entAt_of hv
    obtain ⟨hM, hl, _⟩ := due_ok hB.ok (by rw [List.length_map]; exact hB.len) (word_iff hx) hx hok
    rw [List.length_map] at hl
    exact .inl ⟨x, b, l, fk, t, a, es, n, age, zs, e, rfl, hSc, hes, hB, hE, hM, hl, hT, fun b' t' zs' H' xs T' hSc' hB' pm so => q1 hok a e b' t' zs' H' rfl rfl hE xs T' hSc' hB' pm so⟩
  · exact .inr ⟨p, x, b, l, fk, t, es, n, age, zs, v, te, dd, rfl, hSc, hB, hv, hD, hok, q2 hok⟩
/-! tear -/
abbrev nScR : List Str := ["self", "number"]
theorem scScR : FnScope nScR nScR (defScope sScR) := ⟨rfl, rfl, rfl, by decide +kernel, rfl, by decide +kernel, by decide +kernel⟩
def spScR (C : Addr) (T : List (Addr × Str)) : Sp := fun vs H Q _ => ∃ (x b l fk t : Addr) (es : List V) (n : Nat) (age m : Int) (zs : List (Addr × En)), vs = [.ref x, .int m] ∧ ScAt C H x b l es ∧ es.length ≤ 900 ∧ BookAt H b fk t n age zs ∧ m ∈ (ens zs).map (·.num) ∧ namers zs m = [] ∧ Tabs T H ∧
  ∀ b' t' (zs' : List (Addr × En)) H', XS x l H H' → Tabs T H' → ScAt C H' x b' l (es ++ [.ref b]) → BookAt H' b' fk t' n age zs' → zs'.Perm (zs.filter fun z => !decide (z.2.num = m)) → zs'.Pairwise (fun u v => u.2.num < v.2.num) → Q .non H'
theorem ok_ScR {f : Addr} {fd : FuncData} {k : Nat} (F : Fun K "tear" "Scribe.tear" sScR f fd) (S : ScT K mg C) (C_t : CallM P w K mg base CX0 k C "turn_to" nScT (spScT C T)) (C_w : CallOk P w K mg base k "without_entry" pWoutE spWoutE) : FnOk P w K mg base CX0 (k + 1) f fd nScR (spScR C T) := by
  refine F.ok scScR (fun vs H Q E h => ?_) (fun cdv A outer s H vs Q E hr h => ?_)
  · obtain ⟨x, b, l, fk, t, es, n, age, m, zs, rfl, _⟩ := h
    rfl
  · obtain ⟨x, b, l, fk, t, es, n, age, m, zs, rfl, hSc, hes, hB, hm, hna, hT, q⟩ := h
    obtain ⟨⟨dx, hx⟩, hll⟩ := id hSc
    refine ⟨_, pss_one (ps_expr (pe_meth (pv 0) S.cl C_t.h C_t.ok hr C_t.b .nil pass0 (pa_cons (pe_call C_w.ok hr (by rfl) C_w.g C_w.kp C_w.b .nil pass0 (pa_cons (pe_fld (pv 0) rfl) (pa_cons (pv 1) pa_nil))) pa_nil))), ?_⟩
    refine ⟨_, rfl, x, dx, _, rfl, hx, sfl_no b l (by decide +kernel) (by decide +kernel), _, rfl, x, C, dx, _, _, rfl, hx, S.cl, S.nK, sfl_kept b l, _, rfl, b, fk, t, n, age, m, zs, rfl, hB, hm, namers_nil hna, bk_gone hB.ok hm hna, fun b' t' H1 s1 hB1 => ?_⟩
    refine ⟨x, b, l, b', fk, t', es, n, age, _, rfl, hSc.extN (.of s1), hes, hB1, hT.ext s1, fun b2 t2 zs2 H2 xs T2 hSc2 hB2 pm so => ?_⟩
    exact q b2 t2 zs2 H2 (fun c o n1 n2 e0 ht => xs c o n1 n2 (s1 _ _ e0) ht) T2 hSc2 hB2 pm so
def spScRX (C CI CJ : Addr) : Sp := fun vs H _ E => ∃ (p x b l fk t : Addr) (es : List V) (n : Nat) (age : Int) (zs : List (Addr × En)) (v : V) (tn : Tg), vs = [.ref x, v] ∧ ScAt C H x b l es ∧ BookAt H b fk t n age zs ∧ TgAt p H v tn ∧ dueO zs tn ≠ "ok" ∧
  ∀ d i H', Same H H' → (dueO zs tn = "named" → ∀ m, tn = .int m → i ∈ namers zs m ∧ (∀ y ∈ namers zs m, i ≤ y) ∧ ∃ dx, d = some dx ∧ H' dx = some (.xd [("by", .int i)])) → E (.ref (if dueO zs tn = "missing" then CI else CJ)) d H'
theorem ref_ScRX {f CI CJ : Addr} {fd : FuncData} {k : Nat} (F : Fun K "tear" "Scribe.tear" sScR f fd) (S : ScT K mg C) (C_t : CallM P w K mg base CX0 k C "turn_to" nScT (spScT C T)) (C_w : CallX P w K mg base k "without_entry" pWoutE (spWoutA CI CJ)) : FnOk P w K mg base (L2.CX P w) (k + 1) f fd nScR (spScRX C CI CJ) := by
  refine F.okX scScR (fun vs H Q E h => ?_) (fun cdv A outer s H vs Q E hr h => ?_)
  · obtain ⟨p, x, b, l, fk, t, es, n, age, zs, v, tn, rfl, _⟩ := h
    rfl
  · obtain ⟨p, x, b, l, fk, t, es, n, age, zs, v, tn, rfl, hSc, hB, hv, hno, q⟩ := h
    obtain ⟨⟨dx, hx⟩, hll⟩ := id hSc
    refine ⟨_, pss_one (ps_expr (pe_meth (pv 0) S.cl C_t.h C_t.ok hr C_t.b .nil pass0 (pa_cons (pe_call C_w.ok hr (by rfl) C_w.g C_w.kp C_w.b .nil (passes_call (takes_of rfl rfl rfl rfl) (fun _ _ _ _ h => h)) (pa_cons (pe_fld (pv 0) rfl) (pa_cons (pv 1) pa_nil))) pa_nil))), ?_⟩
    refine ⟨_, rfl, x, dx, _, rfl, hx, sfl_no b l (by decide +kernel) (by decide +kernel), _, rfl, x, C, dx, _, _, rfl, hx, S.cl, S.nK, sfl_kept b l, _, rfl, p, b, fk, t, n, age, zs, v, tn, rfl, hB, hv, fun b' t' d i H' s' _ hn => ?_⟩
    rw [if_neg hno]
    exact q d i H' s' hn
/-- good or refused -/
def spScRA (C CI CJ : Addr) (T : List (Addr × Str)) : Sp := fun vs H Q E => ∃ (p x b l fk t : Addr) (es : List V) (n : Nat) (age m : Int) (zs : List (Addr × En)), vs = [.ref x, .int m] ∧ ScAt C H x b l es ∧ es.length ≤ 900 ∧ BookAt H b fk t n age zs ∧ Tabs T H ∧
  (dueO zs (.int m) = "ok" → ∀ b' t' (zs' : List (Addr × En)) H', XS x l H H' → Tabs T H' → ScAt C H' x b' l (es ++ [.ref b]) → BookAt H' b' fk t' n age zs' → zs'.Perm (zs.filter fun z => !decide (z.2.num = m)) → zs'.Pairwise (fun u v => u.2.num < v.2.num) → Q .non H') ∧
  (dueO zs (.int m) ≠ "ok" → ∀ d i H', Same H H' → (dueO zs (.int m) = "named" → i ∈ namers zs m ∧ (∀ y ∈ namers zs m, i ≤ y) ∧ ∃ dx, d = some dx ∧ H' dx = some (.xd [("by", .int i)])) → E (.ref (if dueO zs (.int m) = "missing" then CI else CJ)) d H')
theorem all_ScR {f CI CJ : Addr} {fd : FuncData} {k : Nat} (G : FnOk P w K mg base CX0 k f fd nScR (spScR C T)) (R : FnOk P w K mg base (L2.CX P w) k f fd nScR (spScRX C CI CJ)) : FnOk P w K mg base (L2.CX P w) k f fd nScR (spScRA C CI CJ T) := by
  refine (Deed.FnOk.or (Deed.FnOk.toX G) R).imp fun vs H Q E h => ?_
  obtain ⟨p, x, b, l, fk, t, es, n, age, m, zs, rfl, hSc, hes, hB, hT, q1, q2⟩ := h
  by_cases hok : dueO zs (.int m) = "ok"
  · rcases dueO_or zs (.int m) with ⟨h, _⟩ | ⟨m', hm', hm, ⟨hna, _⟩ | ⟨_, h⟩⟩
    · exact absurd (h.symm.trans hok) (by decide)
    · cases hm'
      exact .inl ⟨x, b, l, fk, t, es, n, age, m, zs, rfl, hSc, hes, hB, hm, hna, hT, q1 hok⟩
    · exact absurd (h.symm.trans hok) (by decide)
  · exact .inr ⟨p, x, b, l, fk, t, es, n, age, zs, .int m, .int m, rfl, hSc, hB, .int m, hok, fun d i H' s' hn => q2 hok d i H' s' fun z => hn z m rfl⟩
/-! __eq__ -/
abbrev sScE : Stmt := inClass (topS 52) 9
abbrev nScE : List Str := ["self", "other"]
theorem scScE : FnScope nScE nScE (defScope sScE) := ⟨rfl, rfl, rfl, by decide +kernel, rfl, by decide +kernel, by decide +kernel⟩
def spScE (K : PySem.W.Frag) (C : Addr) : Sp := fun vs H Q _ => ∃ (x b l : Addr) (es : List V) (y : V), vs = [.ref x, y] ∧ ScAt C H x b l es ∧
  ((∃ (x2 b2 l2 : Addr) (d d2 : PyData), y = .ref x2 ∧ (∃ dx, H x2 = some (.ins C dx (sfl b2 l2))) ∧ Dp K H (.ref b) d ∧ Dp K H (.ref b2) d2 ∧ SeqAt.shaped d = true ∧ SeqAt.shaped d2 = true ∧ Q (.bl (PyData.eqv d d2)) H) ∨
    ∃ t, TyX K H y t ∧ PySem.W.kitOne K t (.ref C) = some false ∧ Q (.bl false) H)
theorem ok_ScE {f : Addr} {fd : FuncData} {k : Nat} (F : Fun K "__eq__" "Scribe.__eq__" sScE f fd) (S : ScT K mg C) (c : C8.InsC K C) (m_isi : mg "isinstance" = none) : FnOk P w K mg base CX0 (k + 1) f fd nScE (spScE K C) := by
  refine F.ok scScE (fun vs H Q E h => ?_) (fun cdv A outer s H vs Q E hr h => ?_)
  · obtain ⟨x, b, l, es, y, rfl, _⟩ := h
    rfl
  · obtain ⟨x, b, l, es, y, rfl, hSc, h⟩ := h
    obtain ⟨⟨dx, hx⟩, hll⟩ := id hSc
    refine ⟨_, pss_one (ps_ret (pe_and (pe_callB call_isi (by rfl) m_isi (by decide +kernel) (pa_cons (pv 1) (pa_cons (pe_glob (v := .ref C) (by rfl) S.g rfl) pa_nil))) (pe_one (pe_cmpR (op_eqD hr.units) (pe_fld (pv 0) rfl) (pe_fld (pv 1) rfl) (nomark _))))), ?_⟩
    rcases h with ⟨x2, b2, l2, d, d2, rfl, ⟨dx2, hx2⟩, hd, hd2, s1, s2, q⟩ | ⟨t, ty, hk, q⟩
    · refine ⟨_, rfl, _, .ref C, .ref C, .ref C, true, rfl, .own C, .base (.ins hx2 c.cl c.ha c.hn c.htk c.hm), c.me, ?_⟩
      refine ⟨true, rfl, ?_⟩
      rw [if_pos rfl]
      refine ⟨_, rfl, x, C, dx, _, _, rfl, hx, S.cl, S.nK, sfl_kept b l, _, rfl, x2, C, dx2, _, _, rfl, hx2, S.cl, S.nK, sfl_kept b2 l2, d, d2, hd, hd2, s1, s2, q⟩
    · refine ⟨_, rfl, _, .ref C, t, .ref C, false, rfl, .own C, ty, hk, ?_⟩
      exact ⟨false, rfl, q⟩
/-! twin -/
abbrev sScN : Stmt := inClass (topS 52) 7
abbrev nScN : List Str := ["self", "other"]
theorem scScN : FnScope nScN ["self"] (defScope sScN) := ⟨rfl, rfl, rfl, by decide +kernel, rfl, by decide +kernel, by decide +kernel⟩
/-- a class made by its __init__ -/
structure CallK (P : Program) (w : World) (K : PySem.W.Frag) (mg : Str → Option Value) (base : Heap) (CX : CXT) (L : Nat) (x : Str) (C : Addr) (ps : List Str) (sp : Sp) where
  f : Addr
  fd : FuncData
  g : mg x = some (.ref C)
  m : Mk K C f
  b : Binds K fd ps []
  ok : FnOk P w K mg base CX L f fd ps sp
def CallK.mono {P : Program} {w : World} {K : PySem.W.Frag} {mg : Str → Option Value} {base : Heap} {CX : CXT} {L L' : Nat} {x : Str} {C : Addr} {ps : List Str} {sp : Sp} (c : CallK P w K mg base CX L x C ps sp) (h : L ≤ L') : CallK P w K mg base CX L' x C ps sp := ⟨c.f, c.fd, c.g, c.m, c.b, c.ok.mono h⟩
theorem passN {X : Cx} {P : Program} {w : World} : Passes (L2.CX P w) X (fun _ _ _ => False) := fun _ _ _ _ _ _ _ h => by
  obtain ⟨_, _, _, _, _, _, _, _, _, _, _, _, hE⟩ := h
  exact hE.elim
def spScN (C : Addr) : Sp := fun vs H Q _ => ∃ (x b l fk t : Addr) (es : List V) (n : Nat) (age : Int) (zs : List (Addr × En)), vs = [.ref x] ∧ ScAt C H x b l es ∧ es.length ≤ 900 ∧ BookAt H b fk t n age zs ∧
  ∀ y l2 H', Same H H' → H y = none → H l2 = none → ScAt C H' y b l2 es → Q (.ref y) H'
theorem ok_ScN {f CF CA : Addr} {fd : FuncData} {k : Nat} (F : Fun K "twin" "Scribe.twin" sScN f fd) (S : ScT K mg C) (C_mk : CallK P w K mg base (L2.CX P w) k "Scribe" C nScI (spScI C CF CA)) (m_list : mg "list" = none) : FnOk P w K mg base CX0 (k + 2) f fd ["self"] (spScN C) := by
  refine F.ok scScN (fun vs H Q E h => ?_) (fun cdv A outer s H vs Q E hr h => ?_)
  · obtain ⟨x, b, l, fk, t, es, n, age, zs, rfl, _⟩ := h
    rfl
  · obtain ⟨x, b, l, fk, t, es, n, age, zs, rfl, hSc, hes, hB, q⟩ := h
    obtain ⟨⟨dx, hx⟩, hll⟩ := id hSc
    have nd := scScN.nd
    refine ⟨_, pss_cons (ps_set (i := 1) nd rfl (.inl rfl) (pe_make C_mk.m C_mk.ok (hr.mono (by omega)) (by rfl) C_mk.g C_mk.b .nil passN (pa_cons (pe_ix ix_tup (pe_fld (pv 0) rfl) pe_int (fun _ _ => rfl)) (pa_cons (pe_ix ix_tup (pe_fld (pv 0) rfl) pe_int (fun _ _ => rfl)) pa_nil))))
      (pss_cons (ps_fld (pv 1) (pe_fld (pv 0) rfl) rfl)
      (pss_cons (ps_fld (pv 1) (pe_callTy call_list_of (by rfl) m_list (by decide +kernel) (pa_cons (pe_fld (pv 0) rfl) pa_nil)) rfl)
      (pss_one (ps_ret (pv 1))))), ?_⟩
    refine ⟨_, rfl, x, C, dx, _, _, rfl, hx, S.cl, S.nK, sfl_kept b l, b, _, 0, _, rfl, rfl, SqT.of hB.at_, (atI_nat (j := 0) rfl), _, rfl, x, C, dx, _, _, rfl, hx, S.cl, S.nK, sfl_kept b l, b, _, 1, _, rfl, rfl, SqT.of hB.at_, (atI_nat (j := 1) rfl), fun y dy ny ndy ne => ?_⟩
    have sy : Same H (upd (upd H dy (.own y)) y (.ins C dy [])) := (same_new ndy _).trans (same_new (by rw [upd_ne ne.symm]; exact ny) _)
    have ey : (upd (upd H dy (.own y)) y (.ins C dy [])) y = some (.ins C dy []) := upd_same
    generalize (upd (upd H dy (.own y)) y (.ins C dy [])) = H1 at sy ey
    obtain ⟨ts, hts, htl, _, hfo⟩ := folk_tg (p := x) hB.folk (by have := hB.n6; omega)
    have hfk : isFolkT (.tup ts) = true := by
      show ((decide (1 ≤ ts.length) && decide (ts.length ≤ 6)) && ts.all isPersonT) = true
      rw [hfo, htl, decide_eq_true (by have := hB.n2; omega), decide_eq_true hB.n6]
      rfl
    have hag : ageT (.int age) = true := by
      show (decide (0 ≤ age) && decide (age ≤ 9999)) = true
      rw [decide_eq_true hB.age0, decide_eq_true hB.age1]
      rfl
    refine ⟨x, y, dy, _, _, _, _, rfl, ey, TgAt.same sy _ _ hts, .int age, fun d1 H7 s7 => ?_, fun d1 d2 H7 s7 => ?_, fun d1 d2 b0 t0 l0 H2 s2 nb nl hS2 eb et => ⟨rfl, ?_⟩⟩
    · rw [hfk] at d1; cases d1
    · rw [hag] at d2; cases d2
    have s02 : Same H H2 := fun a o ea => s2 a o (fun z => by rw [z, ny] at ea; cases ea) (sy _ _ ea)
    obtain ⟨⟨dz, hy2⟩, hl02⟩ := hS2
    refine ⟨_, rfl, x, C, dx, _, _, rfl, s02 _ _ hx, S.cl, S.nK, sfl_kept b l, _, rfl, y, C, dz, _, rfl, hy2, S.cl, S.nK, (by rw [sfl_eq]; show 2 < 1000; decide), ?_⟩
    rw [sfl_put]
    have s3 : Same H (upd H2 y (.ins C dz (sfl b l0))) := fun a o ea => by rw [upd_ne fun z => by rw [z, ny] at ea; cases ea]; exact s02 a o ea
    have hy3 : (upd H2 y (.ins C dz (sfl b l0))) y = some (.ins C dz (sfl b l0)) := upd_same
    generalize (upd H2 y (.ins C dz (sfl b l0))) = H3 at s3 hy3
    refine ⟨_, rfl, x, C, dx, _, _, rfl, s3 _ _ hx, S.cl, S.nE, sfl_earlier b l, l, es, rfl, .inl (SqL.of (s3 _ _ hll)), fun l2 nl2 => ?_⟩
    have nly : y ≠ l2 := ne_of_none hy3 nl2
    have hy4 : (upd H3 l2 (.lst es)) y = some (.ins C dz (sfl b l0)) := by rw [upd_ne nly]; exact hy3
    have hl4 : (upd H3 l2 (.lst es)) l2 = some (.lst es) := upd_same
    have s4 : Same H (upd H3 l2 (.lst es)) := s3.trans (same_new nl2 _)
    generalize (upd H3 l2 (.lst es)) = H4 at hy4 hl4 s4
    refine ⟨_, rfl, y, C, dz, _, rfl, hy4, S.cl, S.nE, (by rw [sfl_eq]; show 2 < 1000; decide), ?_⟩
    rw [sfl_putE]
    refine ⟨_, rfl, ?_⟩
    refine q y l2 _ (fun a o ea => by rw [upd_ne fun z => by rw [z, ny] at ea; cases ea]; exact s4 a o ea) ny (none_back s3 nl2) ⟨⟨dz, upd_same⟩, by rw [upd_ne nly.symm]; exact hl4⟩
end
end Deed

namespace Deed
open PySem PySem.Spec PyProof.Rows L2 LamX
theorem eqv_ent_self (e : En) : PyData.eqv (entD e) (entD e) = true := by
  unfold entD
  cases e.kd <;> simp [PyData.eqv, PyData.eqvAll, eqvAll_ints]
/-- what is told of an entry more, of an entry less, as data -/
def inD (dd : Str) (i : Int) : PyData := if dd = "ok" then .none else if dd = "twice" then .tuple [.str "!twice", .int i] else .str (("\x21" : Str) ++ dd)
def outD (dd : Str) (i : Int) : PyData := if dd = "ok" then .none else if dd = "named" then .tuple [.str "!named", .int i] else .str (("\x21" : Str) ++ dd)
def TolV (H : Hp) (u : V) (key txt dd : Str) (i : Int) : Prop := (dd = "ok" ∧ u = .non) ∨ (dd ≠ "ok" ∧ dd = key ∧ ∃ t, u = .ref t ∧ H t = some (.tup [.str txt, .int i])) ∨ (dd ≠ "ok" ∧ dd ≠ key ∧ u = .str (("\x21" : Str) ++ dd))
abbrev InV (H : Hp) (u : V) (dd : Str) (i : Int) : Prop := TolV H u "twice" "\x21twice" dd i
abbrev OutV (H : Hp) (u : V) (dd : Str) (i : Int) : Prop := TolV H u "named" "\x21named" dd i
theorem TolV.kp {H H' : Hp} {u : V} {key txt dd : Str} {i : Int} (h : TolV H u key txt dd i) (k : KpT H H') : TolV H' u key txt dd i := by
  rcases h with h | ⟨h1, h2, t, h3, h4⟩ | h
  · exact .inl h
  · exact .inr (.inl ⟨h1, h2, t, h3, k _ _ h4⟩)
  · exact .inr (.inr h)
theorem TolV.non {H : Hp} {u : V} {key txt dd : Str} {i : Int} (h : TolV H u key txt dd i) : u = .non ↔ dd = "ok" := by
  rcases h with ⟨h1, h2⟩ | ⟨h1, h2, t, h3, h4⟩ | ⟨h1, h2, h3⟩
  · exact ⟨fun _ => h1, fun _ => h2⟩
  · exact ⟨fun z => (by rw [h3] at z; cases z), fun z => absurd z h1⟩
  · exact ⟨fun z => (by rw [h3] at z; cases z), fun z => absurd z h1⟩
theorem TolV.in_dp {K : PySem.W.Frag} {H : Hp} {u : V} {dd : Str} {i : Int} (h : InV H u dd i) : Dp K H u (inD dd i) := by
  unfold inD
  rcases h with ⟨h1, rfl⟩ | ⟨h1, h2, t, rfl, h4⟩ | ⟨h1, h2, rfl⟩
  · rw [if_pos h1]
    exact .non
  · rw [if_neg h1, if_pos h2]
    exact .tup (SqT.of h4) (.cons (.str _) (.cons (.int _) .nil))
  · rw [if_neg h1, if_neg h2]
    exact .str _
theorem TolV.out_dp {K : PySem.W.Frag} {H : Hp} {u : V} {dd : Str} {i : Int} (h : OutV H u dd i) : Dp K H u (outD dd i) := by
  unfold outD
  rcases h with ⟨h1, rfl⟩ | ⟨h1, h2, t, rfl, h4⟩ | ⟨h1, h2, rfl⟩
  · rw [if_pos h1]
    exact .non
  · rw [if_neg h1, if_pos h2]
    exact .tup (SqT.of h4) (.cons (.str _) (.cons (.int _) .nil))
  · rw [if_neg h1, if_neg h2]
    exact .str _
section
variable {P : Program} {w : World} {K : PySem.W.Frag} {mg : Str → Option Value} {base : Heap} {T : List (Addr × Str)} {C : Addr}
abbrev sLLess : Stmt := topS 62
abbrev nLLess : List Str := ["_law_book", "_law_number", "_law_entry"]
abbrev pLLess : List Str := ["_law_book", "_law_number"]
theorem scLLess : FnScope nLLess pLLess (defScope sLLess) := ⟨rfl, rfl, rfl, by decide +kernel, rfl, by decide +kernel, by decide +kernel⟩
def spLLess : Sp := fun vs H Q _ => ∃ (b fk t : Addr) (n : Nat) (age m : Int) (zs : List (Addr × En)), vs = [.ref b, .int m] ∧ BookAt H b fk t n age zs ∧ m ∈ (ens zs).map (·.num) ∧ namers zs m = [] ∧ ∀ b' t' H', Same H H' → BookAt H' b' fk t' n age (zs.filter fun z => !decide (z.2.num = m)) → Q (.ref b') H'
theorem ok_LLess {f : Addr} {fd : FuncData} {k : Nat} (F : Fun K "_law_less" "_law_less" sLLess f fd) (m_tuple : mg "tuple" = none) : FnOk P w K mg base CX0 (k + 1) f fd pLLess spLLess := by
  refine F.ok scLLess (fun vs H Q E h => ?_) (fun cdv A outer s H vs Q E hr h => ?_)
  · obtain ⟨b, fk, t, n, age, m, zs, rfl, _⟩ := h
    rfl
  · obtain ⟨b, fk, t, n, age, mm, zs, rfl, hB, hm, hna, q⟩ := h
    have nd := scLLess.nd
    have len := hB.len
    refine ⟨_, pss_one (ps_ret (pe_tup (pa_cons (pe_ix ix_tup (pv 0) pe_int (fun _ _ => rfl)) (pa_cons (pe_ix ix_tup (pv 0) pe_int (fun _ _ => rfl)) (pa_cons (pe_callTy call_tuple_of (by rfl) m_tuple (by decide +kernel) (pa_cons (pe_lc (own := [("_law_entry", 2)]) (g := gName 2) (by rfl) nd (pi_tup (pe_ix ix_tup (pv 0) pe_int (fun _ _ => rfl))) (blkOk_by (own := [("_law_entry", 2)]) (N := nLLess) (sc := defScope sLLess) (by decide +kernel)) (fun _ _ _ _ _ => (pg_name (i := 2) nd rfl (.inl rfl))) (fun _ _ _ _ _ => (pts_one (pt_cmpR op_ne (pe_ix (ix_tupK (K := K) (by rfl)) (pv 2) pe_int (fun _ _ => rfl)) (pv 1) (nomark _))))
          (fun _ _ _ _ _ => (pv 2))) pa_nil)) pa_nil))))), ?_⟩
    refine ⟨_, rfl, b, _, 0, _, rfl, rfl, SqT.of hB.at_, atI_nat (j := 0) rfl, _, rfl, b, _, 1, _, rfl, rfl, SqT.of hB.at_, atI_nat (j := 1) rfl, _, rfl, b, _, 2, _, rfl, rfl, SqT.of hB.at_, (atI_nat (j := 2) rfl), t, rfl, ⟨_, SqT.of hB.ents⟩, fun M11 nM11 => ?_⟩
    refine lc_sameV (walk_tup (xs := refs zs)) zs (fun z => !decide (z.2.num = mm)) (fun z => .ref z.1) (by rw [List.length_map]) (by omega) nM11 (fun H s => SqT.of (s _ _ hB.ents)) ?_ ?_
    · rintro i' z x' H3' H3'' hz s3 ⟨rfl, hx'⟩ Q1 Q0 q1 q0
      rw [List.getElem?_map, hz] at hx'
      injection hx' with hx'
      subst hx'
      obtain ⟨xs, ex, g0, _⟩ := ((hB.ent z (List.mem_of_getElem? hz)).kp (Same.tup s3)).tup
      refine ⟨rfl, _, rfl, z.1, xs, 0, _, rfl, rfl, SqT.of ex, g0, _, rfl, rfl, _, rfl, ?_⟩
      rw [dec_intE]
      refine ite2 (fun c => ?_) (fun c => ?_)
      · exact ⟨_, rfl, q1 c _ (same_refl _)⟩
      · exact q0 (Bool.eq_false_iff.mpr c) _ (same_refl _)
    intro Hj sj eM11
    refine ⟨M11, _, rfl, .inl ⟨SqL.of eM11, fun t12 nt12 => ?_⟩⟩
    have s12 := same_new nt12 (.tup ((zs.filter fun z => !decide (z.2.num = mm)).map fun z => V.ref z.1))
    have e12 : (upd Hj t12 (.tup ((zs.filter fun z => !decide (z.2.num = mm)).map fun z => V.ref z.1))) t12 = some (.tup ((zs.filter fun z => !decide (z.2.num = mm)).map fun z => V.ref z.1)) := upd_same
    generalize upd Hj t12 (.tup ((zs.filter fun z => !decide (z.2.num = mm)).map fun z => V.ref z.1)) = Hk at s12 e12
    refine ⟨(by show 3 ≤ sizeLine; decide), fun t14 nt14 => ?_⟩
    have s14 := same_new nt14 (.tup [.ref fk, .int age, .ref t12])
    have e14 : (upd Hk t14 (.tup [.ref fk, .int age, .ref t12])) t14 = some (.tup [.ref fk, .int age, .ref t12]) := upd_same
    generalize upd Hk t14 (.tup [.ref fk, .int age, .ref t12]) = Hm at s14 e14
    have sm := sj.trans (s12.trans s14)
    have hBm := hB.kp (Same.tup sm)
    exact q t14 t12 Hm sm ⟨e14, hBm.folk, hBm.n2, hBm.n6, hBm.age0, hBm.age1, s14 _ _ e12, fun z hz => hBm.ent z (List.mem_filter.mp hz).1, bk_gone hB.ok hm hna, Nat.le_trans (List.length_filter_le _ _) hBm.len⟩
abbrev sLDueIn : Stmt := topS 72
abbrev nLDueIn : List Str := ["_law_book", "_law_entry", "_law_due"]
abbrev pLDueIn : List Str := ["_law_book", "_law_entry"]
theorem scLDueIn : FnScope nLDueIn pLDueIn (defScope sLDueIn) := ⟨rfl, rfl, rfl, by decide +kernel, rfl, by decide +kernel, by decide +kernel⟩
def spLDueIn : Sp := fun vs H Q _ => ∃ (p b fk t : Addr) (n : Nat) (age : Int) (zs : List (Addr × En)) (v : V) (te : Tg) (dd : Str), vs = [.ref b, v] ∧ BookAt H b fk t n age zs ∧ TgAt p H v te ∧ DueT n (ens zs) te dd ∧ ∀ u H', Same H H' → InV H' u dd (numT te) → Q u H'
theorem due_words {n : Nat} {es : List En} {te : Tg} {dd : Str} (h : DueT n es te dd) : dd = "entry" ∨ dd = "twice" ∨ dd = "name" ∨ dd = "many" ∨ dd = "ok" := by
  rcases h with ⟨_, rfl⟩ | ⟨e, _, _, _, rfl⟩
  · exact .inl rfl
  · unfold dueS
    split
    · split
      · exact .inr (.inl rfl)
      · split
        · split
          · exact .inr (.inr (.inr (.inl rfl)))
          · exact .inr (.inr (.inr (.inr rfl)))
        · exact .inr (.inr (.inl rfl))
    · exact .inl rfl
theorem ok_LDueIn {f : Addr} {fd : FuncData} {k : Nat} (F : Fun K "_law_due_in" "_law_due_in" sLDueIn f fd) (C__law_due_of : CallOk P w K mg base k "_law_due_of" pLDueOf spLDueA) : FnOk P w K mg base CX0 (k + 1) f fd pLDueIn spLDueIn := by
  refine F.ok scLDueIn (fun vs H Q E h => ?_) (fun cdv A outer s H vs Q E hr h => ?_)
  · obtain ⟨p, b, fk, t, n, age, zs, v, te, dd, rfl, _⟩ := h
    rfl
  · obtain ⟨p, b, fk, t, n, age, zs, v, te, dd, rfl, hB, hT, hD, q⟩ := h
    have nd := scLDueIn.nd
    refine ⟨_, pss_cons (ps_set (i := 2) nd rfl (.inl rfl) (pe_call C__law_due_of.ok hr (by rfl) C__law_due_of.g C__law_due_of.kp C__law_due_of.b .nil pass0 (pa_cons (pv 0) (pa_cons (pv 1) pa_nil))))
      (pss_cons (ps_if (pt_cmpR op_eq (pv 2) pe_str (nomark _)) (pss_one (ps_ret pe_non)) pss_nil)
      (pss_one (ps_ret (pe_ifExp (pt_cmpR op_eq (pv 2) pe_str (nomark _)) (pe_tup (pa_cons pe_str (pa_cons (pe_ix ix_tup (pv 1) pe_int (fun _ _ => rfl)) pa_nil))) (pe_op op_add_str pe_str (pv 2)))))), ?_⟩
    refine ⟨_, rfl, _, rfl, p, b, fk, t, n, age, zs, v, te, dd, rfl, hB, hT, hD, fun H1 s1 => ?_⟩
    refine ⟨_, rfl, rfl, _, rfl, ?_⟩
    rw [dec_strE]
    refine ite2 (fun c => ?_) (fun c => ?_)
    · have c := of_decide_eq_true c
      exact q _ H1 s1 (.inl ⟨c, rfl⟩)
    have c : ¬ dd = "ok" := fun z => c (decide_eq_true z)
    refine ⟨_, rfl, rfl, _, rfl, ?_⟩
    rw [dec_strE]
    refine ite2 (fun c2 => ?_) (fun c2 => ?_)
    · have c2 := of_decide_eq_true c2
      obtain ⟨e, ete, hyes, hx, hdd⟩ : ∃ e : En, te = entT e ∧ isEntT n te = true ∧ (∀ x o, e.kd = .act x o → x ≠ "deed") ∧ dd = dueS n (ens zs) e := by
        rcases hD with ⟨_, h⟩ | h
        · rw [h] at c2
          exact absurd c2 (by decide)
        · exact h
      obtain ⟨av, eav, hE⟩ := entAt_of (ete ▸ TgAt.same s1 _ _ hT)
      subst eav
      obtain ⟨xs, ex, g0, _⟩ := hE.tup
      refine ⟨_, rfl, av, xs, 0, _, rfl, rfl, SqT.of ex, g0, (by show 2 ≤ sizeLine; decide), fun t2 nt2 => ?_⟩
      refine q _ _ (s1.trans (same_new nt2 _)) (.inr (.inl ⟨c, c2, t2, rfl, ?_⟩))
      rw [ete, numT_ent]
      exact upd_same
    · have c2 : ¬ dd = "twice" := fun z => c2 (decide_eq_true z)
      refine ⟨_, rfl, _, _, rfl, rfl, ?_, ?_⟩
      · rcases due_words hD with h | h | h | h | h <;> rw [h] <;> first | decide +kernel | skip
      exact q _ H1 s1 (.inr (.inr ⟨c, c2, rfl⟩))
abbrev sLDueLess : Stmt := topS 61
abbrev nLDueLess : List Str := ["_law_book", "_law_number", "_law_due", "_law_entry"]
abbrev pLDueLess : List Str := ["_law_book", "_law_number"]
theorem scLDueLess : FnScope nLDueLess pLDueLess (defScope sLDueLess) := ⟨rfl, rfl, rfl, by decide +kernel, rfl, by decide +kernel, by decide +kernel⟩
def spLDueLess : Sp := fun vs H Q _ => ∃ (b fk t : Addr) (n : Nat) (age m : Int) (zs : List (Addr × En)), vs = [.ref b, .int m] ∧ BookAt H b fk t n age zs ∧ ∀ u i H', Same H H' → OutV H' u (dueO zs (.int m)) i → (dueO zs (.int m) = "named" → i ∈ namers zs m ∧ ∀ y ∈ namers zs m, i ≤ y) → Q u H'
theorem ok_LDueLess {f : Addr} {fd : FuncData} {k : Nat} (F : Fun K "_law_due_less" "_law_due_less" sLDueLess f fd) (C__law_due_out : CallOk P w K mg base k "_law_due_out" pLDueOut spLDueOut) (C__law_named : CallOk P w K mg base k "_law_named" pLNamed spLNamedW) (m_min : mg "min" = none) : FnOk P w K mg base CX0 (k + 1) f fd pLDueLess spLDueLess := by
  refine F.ok scLDueLess (fun vs H Q E h => ?_) (fun cdv A outer s H vs Q E hr h => ?_)
  · obtain ⟨b, fk, t, n, age, m, zs, rfl, _⟩ := h
    rfl
  · obtain ⟨b, fk, t, n, age, mm, zs, rfl, hB, q⟩ := h
    have nd := scLDueLess.nd
    have len := hB.len
    refine ⟨_, pss_cons (ps_set (i := 2) nd rfl (.inl rfl) (pe_call C__law_due_out.ok hr (by rfl) C__law_due_out.g C__law_due_out.kp C__law_due_out.b .nil pass0 (pa_cons (pv 0) (pa_cons (pv 1) pa_nil))))
      (pss_cons (ps_if (pt_cmpR op_eq (pv 2) pe_str (nomark _)) (pss_one (ps_ret (pe_tup (pa_cons pe_str (pa_cons (pe_callB (cr_min rfl) (by rfl) m_min (by decide +kernel) (pa_cons (pe_lc (own := [("_law_entry", 3)]) (g := gName 3) (by rfl) nd (pi_tup (pe_ix ix_tup (pv 0) pe_int (fun _ _ => rfl))) (blkOk_by (own := [("_law_entry", 3)]) (N := nLDueLess) (sc := defScope sLDueLess) (by decide +kernel)) (fun _ _ _ _ _ => (pg_name (i := 3) nd rfl (.inl rfl))) (fun _ _ _ _ _ => (pts_one (pt_cmpR (in_seqK (K := K) (by rfl)) (pv 1) (pe_call C__law_named.ok hr (by rfl) C__law_named.g C__law_named.kp C__law_named.b .nil pass0 (pa_cons (pv 3) pa_nil)) (by rfl))))
          (fun _ _ _ _ _ => (pe_ix (ix_tupK (K := K) (by rfl)) (pv 3) pe_int (fun _ _ => rfl)))) pa_nil)) pa_nil))))) pss_nil)
      (pss_one (ps_ret (pe_ifExp (pt_cmpR op_eq (pv 2) pe_str (nomark _)) pe_non (pe_op op_add_str pe_str (pv 2)))))), ?_⟩
    refine ⟨_, rfl, _, rfl, b, b, fk, t, n, age, zs, .int mm, .int mm, rfl, hB, .int mm, fun H1 s1 => ?_⟩
    have hB1 := hB.kp (Same.tup s1)
    refine ⟨_, rfl, rfl, _, rfl, ?_⟩
    rw [dec_strE]
    refine ite2 (fun c => ?_) (fun c => ?_)
    · have c := of_decide_eq_true c
      have hna : namers zs mm ≠ [] := by
        rcases dueO_or zs (.int mm) with ⟨h, _⟩ | ⟨m', h0, hm, ⟨_, h⟩ | ⟨h1, _⟩⟩
        · exact absurd (h.symm.trans c) (by decide)
        · exact absurd (h.symm.trans c) (by decide)
        · cases h0
          exact h1
      refine ⟨_, rfl, b, _, 2, _, rfl, rfl, SqT.of hB1.at_, (atI_nat (j := 2) rfl), t, rfl, ⟨_, SqT.of hB1.ents⟩, fun M10 nM10 => ?_⟩
      refine lc_sameV (walk_tup (xs := refs zs)) zs (fun z => decide (mm ∈ z.2.names)) (fun z => .int z.2.num) (by rw [List.length_map]) (by omega) nM10 (fun H s => SqT.of (s _ _ hB1.ents)) ?_ ?_
      · rintro i' z x' H3' H3'' hz s3 ⟨rfl, hx'⟩ Q1 Q0 q1 q0
        rw [List.getElem?_map, hz] at hx'
        injection hx' with hx'
        subst hx'
        have hzm := List.mem_of_getElem? hz
        have hez : z.2 ∈ ens zs := List.mem_map.mpr ⟨z, hzm, rfl⟩
        have hEz := (hB1.ent z hzm).kp (Same.tup s3)
        refine ⟨rfl, _, rfl, _, rfl, z.1, z.2, rfl, hEz, (hB.ok.ok z.2 hez).word, fun l H4' s4' e4' => ?_⟩
        refine ⟨l, _, rfl, .inl (SqL.of e4'), rfl, flat_ints _, _, rfl, ?_⟩
        rw [mem_inV]
        refine ite2 (fun c => ?_) (fun c => ?_)
        · obtain ⟨xs, ex, g0, _⟩ := (hEz.kp (Same.tup s4')).tup
          exact ⟨_, rfl, z.1, xs, 0, _, rfl, rfl, SqT.of ex, g0, q1 c _ s4'⟩
        · exact q0 (Bool.eq_false_iff.mpr c) _ s4'
      intro Hi si eM2
      have eM3 : Hi M10 = some (.lst ((namers zs mm).map V.int)) := by rw [eM2, List.map_map]; rfl
      refine ⟨M10, _, rfl, SqL.of eM3, List.length_pos_iff.mpr hna, fun i1 hi1 hmin1 => ⟨(by show 2 ≤ sizeLine; decide), fun t2 nt2 => ?_⟩⟩
      exact q _ i1 _ (s1.trans (si.trans (same_new nt2 _))) (.inr (.inl ⟨by rw [c]; decide, c, t2, rfl, upd_same⟩)) (fun _ => ⟨hi1, hmin1⟩)
    have c : ¬ dueO zs (.int mm) = "named" := fun z => c (decide_eq_true z)
    refine ⟨_, rfl, rfl, _, rfl, ?_⟩
    rw [dec_strE]
    refine ite2 (fun c2 => ?_) (fun c2 => ?_)
    · exact q _ 0 H1 s1 (.inl ⟨of_decide_eq_true c2, rfl⟩) (fun z => absurd z c)
    · have c2 : ¬ dueO zs (.int mm) = "ok" := fun z => c2 (decide_eq_true z)
      refine ⟨_, rfl, _, _, rfl, rfl, ?_, ?_⟩
      · rcases dueO_or zs (.int mm) with ⟨h, _⟩ | ⟨m', h0, hm, ⟨_, h⟩ | ⟨_, h⟩⟩ <;> rw [h] <;> decide +kernel
      exact q _ 0 H1 s1 (.inr (.inr ⟨c2, c, rfl⟩)) (fun z => absurd z c)
end
end Deed

namespace Deed
open PySem PySem.Spec PyProof.Rows L2
/-! ### enumerate of a list or a tuple: true is a list -/
set_option maxHeartbeats 1000000 in
theorem enumNew1 {v : Value} {o : Obj} {G : Heap → Prop} (B : Begins v o G) :
    Meets (Builtin.«enumerate.__new__» ⟨[.type "enumerate", v], []⟩) (fun _ R t => G t.heap ∧ R (.ok (.ret (.ref (t.heap.push o).objs.size))) { t with heap := (t.heap.push o).push { cls := .type "enumerate", data := .fields #[.none, .bool false, .ref t.heap.objs.size, rawInt 0, .none, .none] } }) := by
  refine .of_wp fun prog w A R t h => ?_
  obtain ⟨hp, gs, dd, tk, os⟩ := t
  obtain ⟨hG, hR⟩ := h
  have sb := sub_enumerate
  have it1 : ∀ {A' : Around} {E : Value → Shared → Prop} {Q : Value → Shared → Prop}, Q (.ref hp.objs.size) ⟨hp.push o, gs, dd, tk, os⟩ → wpAny (model prog w) A' (pyIter v) Q E ⟨hp, gs, dd, tk, os⟩ := fun q => B.iter prog w _ _ ⟨hp, gs, dd, tk, os⟩ _ hG q
  wp_walk using it1
  refine wpAny_stack_any fun k => wpAny_pure ?_
  split
  · next c _ _ _ _ _ =>
    cases (c == Value.type "enumerate") <;> (wp_walk using it1; exact ⟨_, rfl, hR⟩)
  · wp_walk using it1
    exact ⟨_, rfl, hR⟩
section
variable {prog : Program} {w : World} {A : Around} {E : Value → Shared → Prop} {s : Shared}
theorem callEnum1 {v : Value} {o : Obj} {G : Heap → Prop} {Q : Value → Shared → Prop} (B : Begins v o G) (hG : G s.heap)
    (q : ∀ h1, IsEnum h1 (s.heap.objs.size + 1) s.heap.objs.size 0 .none → h1.get? s.heap.objs.size = some o → (∀ c x, s.heap.get? c = some x → h1.get? c = some x) → Q (.ref (s.heap.objs.size + 1)) { s with heap := h1 }) : wpAny (model prog w) A (call (.type "enumerate") [v]) Q E s := by
  refine callType_new F.called_enumerate (by decide) (F.typeCall_enumerate_1 v) (F.newCall_enumerate_1 v) (fun ob => F.args_object_init_2 ob v) F.entry_enumerate_new (enumNew1 B) ⟨hG, ?_⟩
  have sz : (s.heap.push o).objs.size = s.heap.objs.size + 1 := Heap.size_push ..
  show _ ∧ _
  rw [sz]
  have en := Heap.get?_push_size (s.heap.push o) (o := { cls := .type "enumerate", data := .fields #[.none, .bool false, .ref s.heap.objs.size, rawInt 0, .none, .none] }) rfl
  rw [sz] at en
  exact ⟨⟨_, en, rfl⟩, q _ en (Heap.get?_push_of_some _ (Heap.get?_push_size _ B.free)) fun c x z => Heap.get?_push_of_some _ (Heap.get?_push_of_some _ z)⟩
end
def ItEB (K : PySem.W.Frag) (c : Bool) (a : Addr) : It :=
  ⟨fun i H => ∃ (xs : List V) (x : V), Sq2 K c H a xs ∧ xs[i]? = some x,
    fun i H v H' => ∃ T x, v = .ref T ∧ H T = none ∧ H' = upd H T (.tup [.int (i : Nat), x]) ∧ ∀ xs, Sq2 K c H a xs → xs[i]? = some x,
    fun i H => ∃ xs : List V, Sq2 K c H a xs ∧ xs.length = i⟩
theorem turn_enumB {P : Program} {w : World} {K : PySem.W.Frag} {elts : List Expr} {kk : Nat} {tpos : Pos} {c : Bool} {a e it : Addr} (ne : e ≠ it) (na : a ≠ it) (nae : a ≠ e) :
    Turn P w K (.Tuple elts kk tpos) (ItEB K c a) [e, it] e (fun i h => (∃ old, IsEnum h e it ((i : Nat) : Int) old) ∧ IterB c h it a i) where
  mem := List.mem_cons_self
  obj := fun i h st b hb => by
    obtain ⟨⟨old, he⟩, k1⟩ := st
    rcases (show b = e ∨ b = it by simpa using hb) with rfl | rfl
    · exact ⟨_, he, fun v q => by cases q⟩
    · exact k1.obj
  keep := fun i h h' st k => by
    obtain ⟨⟨old, he⟩, k1⟩ := st
    exact ⟨⟨old, k e (by simp) _ he⟩, k1.at (k it (by simp))⟩
  item := by
    intro X eP ew eK cal i pins s σ H E I hf st hg
    subst eP ew eK
    obtain ⟨⟨old, he⟩, k1⟩ := st
    obtain ⟨xs, x, qa, gx⟩ := hg
    obtain ⟨va, ra, pa, _⟩ := sq2_is I qa
    obtain ⟨u, hu, ru⟩ := ra.get gx
    have hh : X.A.in1.handled = none := I.ok.hd cal
    have el : e < s.heap.objs.size := Heap.lt_size he
    have li : i < va.toArray.size := by simpa using (List.getElem?_eq_some_iff.mp hu).1
    refine wpAny_pyNext_enum_itemD (drawsB hh c it a na va.toArray) he ⟨k1, pa⟩ li ne (by simp [ne, nae.symm]) fun x1 h1 tk p1 ho st1 hT hsz hk => ?_
    obtain rfl : u = x1 := by simpa [hu] using p1
    refine ⟨_, rfl, wpAny_letOwnedTupleGo_enum (s := { s with heap := h1, toks := tk + 1 }) ho fun h2 e2 sb => ?_⟩
    have hT2 : h2.get? s.heap.objs.size = some { cls := .type "tuple", data := .seq #[.int i tk, u] } := (sb.2 _ (Nat.ne_of_gt el)).trans hT
    have ok : ObjOk X.prog X.w (upd H s.heap.objs.size (.tup [.int (i : Nat), x])) h2 s.heap.objs.size (.tup [.int (i : Nat), x]) := ⟨by show 2 ≤ sizeLine; decide, [.int i tk, u], .cons ⟨_, rfl⟩ (.cons ru .nil), ⟨_, hT2, rfl, _, rfl⟩⟩
    have I2 : Inv X pins σ (upd H s.heap.objs.size (.tup [.int (i : Nat), x])) { s with heap := h2, toks := tk + 1 } := by
      refine I.turnedNew (ch := [e, it]) (fun b o hb q => ?_) hf (Nat.le_refl _) ok
      simp only [List.mem_cons, List.not_mem_nil, or_false, not_or] at hb
      exact (sb.2 b hb.1).trans (hk b o hb.1 hb.2 q)
    refine ⟨.ref s.heap.objs.size, _, I2, rfl, ⟨_, x, rfl, I.hok.fresh (Nat.le_refl _), rfl, fun l hl => ?_⟩, ⟨⟨u, ?_⟩, ?_⟩, fun b hb => ?_⟩
    · rw [sq2_inj I hl qa]
      exact gx
    · rw [show ((i + 1 : Nat) : Int) = (i : Int) + 1 from rfl]
      exact e2
    · exact st1.1.at fun o q => (sb.2 _ ne.symm).trans q
    · have hlt : b < s.heap.objs.size := by
        obtain ⟨o1, e1, _⟩ := k1.obj
        rcases (show b = e ∨ b = it by simpa using hb) with rfl | rfl
        · exact el
        · exact Heap.lt_size e1
      rw [upd_ne (Nat.ne_of_lt hlt)]
      exact (hf b hb).1
  done := by
    intro X eP ew eK cal i pins s σ H E I hf st hg
    subst eP ew eK
    obtain ⟨⟨old, he⟩, k1⟩ := st
    obtain ⟨xs, qa, rfl⟩ := hg
    obtain ⟨va, ra, pa, _⟩ := sq2_is I qa
    have hh : X.A.in1.handled = none := I.ok.hd cal
    have la : va.toArray.size = xs.length := by simpa using ra.length.symm
    refine wpAny_pyNext_enum_endD (drawsB hh c it a na va.toArray) he ⟨by rw [la]; exact k1, pa⟩ fun h1 ex => ⟨rfl, ?_⟩
    refine I.turnedL (t' := s.toks) (ch := [e, it]) (fun b o hb q => ?_) hf
    simp only [List.mem_cons, List.not_mem_nil, or_false, not_or] at hb
    exact ex b o hb.2 q
  self := fun A i s Q E st q => by
    obtain ⟨⟨old, he⟩, _⟩ := st
    exact wpAny_pyIter_enum he q
def iEnumB (K : PySem.W.Frag) (c : Bool) (ta : TA) : TI := fun σ H R => ta σ H fun vs H1 => ∃ a xs, vs = [.ref a] ∧ Sq2 K c H1 a xs ∧ R (ItEB K c a) H1
theorem pi_enumB (c : Bool) {X : Cx} {x : Expr} {ta : TA} {p pos tpos : Pos} {elts : List Expr} {kk : Nat} (hg : Gl X "enumerate") (hm : X.mg "enumerate" = none) (ha : PA X [x] ta) (hs : starEach [x] X.env = [(false, eval x X.env)] := by rfl) : PI X (.Tuple elts kk tpos) (.Call (.Name "enumerate" p) [x] [] pos) (iEnumB X.K c ta) := by
  refine ⟨fun pins s σ H R I h => Call_ (ld_blt I hg hm boot_enumerate (PyProof.Rows.callWith_type1 (thn (ha.run pos pins s σ H _ I h) fun us s1 ⟨vs, H1, I1, r1, q1⟩ => ?_) hs rfl))⟩
  obtain ⟨a, xs, ex, qa, q⟩ := q1
  subst ex
  obtain ⟨va, ra, pa, la⟩ := sq2_is I1 qa
  obtain ⟨o1, B1, it1⟩ := begB c a va.toArray
  cases r1 with
  | cons r rr =>
    cases rr
    cases r
    refine callEnum1 B1 pa fun h1 he g1 hk => wpAny_pyIter_enum he ?_
    have I2 : Inv X pins σ H1 { s1 with heap := h1 } := I1.kept (t' := s1.toks) hk
    refine ⟨s1.heap.objs.size + 1, [s1.heap.objs.size + 1, s1.heap.objs.size], _, _, H1, rfl, I2, turn_enumB (Nat.succ_ne_self _) (Nat.ne_of_lt la) (Nat.ne_of_lt (Nat.lt_succ_of_lt la)), ⟨⟨.none, he⟩, it1 _ _ g1⟩, fun b hb => ?_, q⟩
    have hle : s1.heap.objs.size ≤ b := by
      rcases (show b = s1.heap.objs.size + 1 ∨ b = s1.heap.objs.size by simpa using hb) with rfl | rfl
      · exact Nat.le_add_right _ 1
      · exact Nat.le_refl _
    exact I1.fpOk hle (I1.hok.fresh hle)
theorem walk_enumB {K : PySem.W.Frag} {c : Bool} {a : Addr} {xs : List V} : Walk (ItEB K c a) xs.length (fun H => Sq2 K c H a xs) (YPair (fun i => some (.int (i : Nat))) (fun i => xs[i]?)) := by
  refine ⟨fun i H hi q => ⟨xs, xs[i], q, List.getElem?_eq_getElem hi⟩, fun H q => ⟨xs, q, rfl⟩, fun i H v H' _ q y => ?_⟩
  obtain ⟨T, x, t1, t2, t3, t4⟩ := y
  exact ⟨T, .int (i : Nat), x, t1, t2, t3, rfl, t4 xs q⟩
end Deed

namespace Deed
section
open PySem PySem.Spec PySem.W PyProof.Rows L2 LamX
/-! ### a book by its numbers, by places -/
abbrev RowP : Type := (Addr × En) × Nat
def rowPD (y : RowP) : PyData := .tuple [.int y.1.2.num, .int (y.2 : Int)]
theorem alike_rowP (y u : RowP) : alike (rowPD y) (rowPD u) = true := by
  unfold rowPD
  simp [alike, alikeAll]
theorem lt_rowP {y u : RowP} (h : y.1.2.num < u.1.2.num) : dataLt (rowPD y) (rowPD u) = true := by
  unfold rowPD
  rw [dataLt_tuple, dataLt_all_no (by simp [alike]) (by simp [PyData.eqv]; omega), dataLt_int]
  exact decide_eq_true h
theorem depth_rowP (y : RowP) : (rowPD y).depth ≤ 8 := by
  unfold rowPD
  simp [PyData.depth, PyData.depthAll]
end
open PySem PySem.Spec PyProof.Rows L2 LamX
theorem zipIdx_fst {α : Type} : ∀ (l : List α) (k : Nat), (l.zipIdx k).map (·.1) = l
  | [], _ => rfl
  | a :: r, k => by rw [List.zipIdx_cons, List.map_cons, zipIdx_fst r]
section
variable {P : Program} {w : World} {K : PySem.W.Frag} {mg : Str → Option Value} {base : Heap} {T : List (Addr × Str)} {C : Addr}
abbrev sLByNumber : Stmt := topS 73
abbrev nLByNumber : List Str := ["_law_book", "_law_rows", "_law_at", "_law_entry", "_law_number"]
abbrev pLByNumber : List Str := ["_law_book"]
theorem scLByNumber : FnScope nLByNumber pLByNumber (defScope sLByNumber) := ⟨rfl, rfl, rfl, by decide +kernel, rfl, by decide +kernel, by decide +kernel⟩
def spLByNumber : Sp := fun vs H Q _ => ∃ (b fk t : Addr) (n : Nat) (age : Int) (zs : List (Addr × En)), vs = [.ref b] ∧ BookAt H b fk t n age zs ∧ ∀ b' t' (zs' : List (Addr × En)) H', Same H H' → BookAt H' b' fk t' n age zs' → zs'.Perm zs → zs'.Pairwise (fun u v => u.2.num < v.2.num) → Q (.ref b') H'
theorem ok_LByNumber {f : Addr} {fd : FuncData} {k : Nat} (F : Fun K "_law_by_number" "_law_by_number" sLByNumber f fd) (m_enumerate : mg "enumerate" = none) (m_sorted : mg "sorted" = none) (m_tuple : mg "tuple" = none) : FnOk P w K mg base CX0 (k + 1) f fd pLByNumber spLByNumber := by
  refine F.ok scLByNumber (fun vs H Q E h => ?_) (fun cdv A outer s H vs Q E hr h => ?_)
  · obtain ⟨b, fk, t, n, age, zs, rfl, _⟩ := h
    rfl
  · obtain ⟨b, fk, t, n, age, zs, rfl, hB, q⟩ := h
    have nd := scLByNumber.nd
    have hlen := hB.len
    refine ⟨_, pss_cons (ps_set (i := 1) nd rfl (.inl rfl) (pe_callB (cr_sortedDp rowPD hr.units) (by rfl) m_sorted (by decide +kernel) (pa_cons (pe_lc (own := [("_law_at", 2), ("_law_entry", 3)]) (g := gTup K 2 (gCons (gName 2) (gCons (gName 3) gNil))) (by rfl) nd (pi_enumB false (by rfl) m_enumerate (pa_cons (pe_ix ix_tup (pv 0) pe_int (fun _ _ => rfl)) pa_nil)) (blkOk_by (own := [("_law_at", 2), ("_law_entry", 3)]) (N := nLByNumber) (sc := defScope sLByNumber) (by decide +kernel)) (fun _ _ _ _ _ => (pg_tup (by rfl) (pgs_cons (pg_name (i := 2) nd rfl (.inl rfl)) (pgs_cons (pg_name (i := 3) nd rfl (.inl rfl)) pgs_nil)))) (fun _ _ _ _ _ => pts_nil)
          (fun _ _ _ _ _ => (pe_tup (pa_cons (pe_ix (ix_tupK (K := K) (by rfl)) (pv 3) pe_int (fun _ _ => rfl)) (pa_cons (pv 2) pa_nil))))) pa_nil)))
      (pss_one (ps_ret (pe_tup (pa_cons (pe_ix ix_tup (pv 0) pe_int (fun _ _ => rfl)) (pa_cons (pe_ix ix_tup (pv 0) pe_int (fun _ _ => rfl)) (pa_cons (pe_callTy call_tuple_of (by rfl) m_tuple (by decide +kernel) (pa_cons (pe_lc (own := [("_law_number", 4), ("_law_at", 2)]) (g := gTup K 2 (gCons (gName 4) (gCons (gName 2) gNil))) (by rfl) nd (pi_list (pv 1)) (blkOk_by (own := [("_law_number", 4), ("_law_at", 2)]) (N := nLByNumber) (sc := defScope sLByNumber) (by decide +kernel)) (fun _ _ _ _ _ => (pg_tup (by rfl) (pgs_cons (pg_name (i := 4) nd rfl (.inl rfl)) (pgs_cons (pg_name (i := 2) nd rfl (.inl rfl)) pgs_nil)))) (fun _ _ _ _ _ => pts_nil)
          (fun _ _ _ _ _ => (pe_ix (ix_tupK (K := K) (by rfl)) (pe_ix (ix_tupK (K := K) (by rfl)) (pv 0) pe_int (fun _ _ => rfl)) (pv 2) (fun _ _ => rfl)))) pa_nil)) pa_nil)))))), ?_⟩
    refine ⟨_, rfl, b, _, 2, _, rfl, rfl, SqT.of hB.at_, (atI_nat (j := 2) rfl), t, _, rfl, SqT.of hB.ents, fun M nM => ?_⟩
    refine lc_sameT (walk_enumB (c := false) (xs := refs zs)) zs.zipIdx (fun _ => true) (fun y => [.int y.1.2.num, .int (y.2 : Int)]) (by rw [List.length_zipIdx, List.length_map]) (by rw [List.length_zipIdx]; omega) nM (fun H s => SqT.of (s _ _ hB.ents)) ?_ ?_
    · rintro j y x H2 H2' hy s2 ⟨T0, xx, yy, rfl, nT, rfl, hxx, hyy⟩ Q1 Q0 q1 q0
      rw [List.getElem?_zipIdx] at hy
      cases hz : zs[j]? with
      | none => rw [hz] at hy; cases hy
      | some z =>
        rw [hz] at hy
        injection hy with hy
        subst hy
        injection hxx with hxx
        subst hxx
        dsimp only at hyy
        rw [List.getElem?_map, hz] at hyy
        injection hyy with hyy
        subst hyy
        have s3 := same_new nT (.tup [.int (j : Nat), .ref z.1])
        have eT : (upd H2 T0 (.tup [.int (j : Nat), .ref z.1])) T0 = some (.tup [.int (j : Nat), .ref z.1]) := upd_same
        generalize (upd H2 T0 (.tup [.int (j : Nat), .ref z.1])) = H3 at s3 eT
        obtain ⟨es, ex, g0, _⟩ := ((hB.ent z (List.mem_of_getElem? hz)).kp (Same.tup (s2.trans s3))).tup
        refine ⟨T0, _, rfl, SqT.of eT, rfl, _, _, rfl, _, _, rfl, rfl, rfl, ?_⟩
        unfold tYes
        dsimp only
        rw [if_pos rfl]
        refine ⟨_, rfl, z.1, es, 0, _, rfl, rfl, SqT.of ex, g0, _, rfl, (by show 2 ≤ sizeLine; decide), fun t1 nt1 => ?_⟩
        refine q1 rfl t1 _ (s3.trans (same_new nt1 _)) ?_
        rw [upd_same]
        show some (HO.tup [.int z.2.num, .int ((j : Nat) : Int)]) = some (HO.tup [.int z.2.num, .int ((0 + j : Nat) : Int)])
        rw [Nat.zero_add]
    intro H2 zs1 s2 eM hz1 hv1
    have hz1' : zs1.map (·.2) = zs.zipIdx := by rw [hz1]; exact List.filter_eq_self.mpr fun _ _ => rfl
    have zsV : (zs1.map fun z => ((V.ref z.1, z.2) : V × RowP)).map (·.1) = zs1.map fun z => V.ref z.1 := by rw [List.map_map]; rfl
    refine ⟨M, zs1.map fun z => (V.ref z.1, z.2), rfl, SqL.of (by rw [eM, zsV]), fun z hz => ?_, alike_rowP, fun y => ⟨_, _, rfl⟩, depth_rowP, fun ys r pm so nr => ?_⟩
    · obtain ⟨u, hu, rfl⟩ := List.mem_map.mp hz
      exact .tup (SqT.of (hv1 u hu)) (.cons (.int _) (.cons (.int _) .nil))
    have s3 := same_new nr (.lst (ys.map (·.1)))
    have e3 : (upd H2 r (.lst (ys.map (·.1)))) r = some (.lst (ys.map (·.1))) := upd_same
    generalize (upd H2 r (.lst (ys.map (·.1)))) = H3 at s3 e3
    have s03 := s2.trans s3
    have hB3 := hB.kp (Same.tup s03)
    -- what the rows are
    have hrow : ∀ y ∈ ys, ∃ ad, y.1 = .ref ad ∧ H3 ad = some (.tup [.int y.2.1.2.num, .int (y.2.2 : Int)]) ∧ zs[y.2.2]? = some y.2.1 := fun y hy => by
      obtain ⟨u, hu, rfl⟩ := List.mem_map.mp (pm.mem_iff.mp hy)
      refine ⟨u.1, rfl, s3 _ _ (hv1 u hu), ?_⟩
      have h1 : u.2 ∈ zs.zipIdx := by rw [← hz1']; exact List.mem_map.mpr ⟨u, hu, rfl⟩
      obtain ⟨j, hj⟩ := List.getElem?_of_mem h1
      rw [List.getElem?_zipIdx] at hj
      cases hz : zs[j]? with
      | none => rw [hz] at hj; cases hj
      | some z =>
        rw [hz] at hj
        injection hj with hj
        rw [← hj]
        show zs[0 + j]? = some z
        rw [Nat.zero_add, hz]
    have pz : (ys.map fun y => y.2.1).Perm zs := by
      have h1 := pm.map fun y : V × RowP => y.2.1
      rw [List.map_map] at h1
      have h2 : zs1.map ((fun y : V × RowP => y.2.1) ∘ fun z => (V.ref z.1, z.2)) = zs := by
        rw [show ((fun y : V × RowP => y.2.1) ∘ fun z : Addr × RowP => (V.ref z.1, z.2)) = ((·.1) ∘ (·.2) : Addr × RowP → Addr × En) from rfl, ← List.map_map, hz1', zipIdx_fst]
      rw [h2] at h1
      exact h1
    have hlen2 : ys.length ≤ 16 := by
      have := pz.length_eq
      rw [List.length_map] at this
      omega
    have sz : (ys.map fun y => y.2.1).Pairwise (fun u v => u.2.num < v.2.num) := by
      have hnd : ((ys.map fun y => y.2.1).map fun z => z.2.num).Nodup := by
        have h1 := hB.ok.nd
        rw [show (ens zs).map (·.num) = zs.map fun z => z.2.num by simp [ens]] at h1
        exact (pz.map _).nodup_iff.mpr h1
      rw [List.map_map] at hnd
      refine List.pairwise_map.mpr ?_
      have h2 := List.pairwise_map.mp hnd
      refine (so.and h2).imp fun {u v} h => ?_
      obtain ⟨h3, h4⟩ := h
      rcases Int.lt_trichotomy u.2.1.2.num v.2.1.2.num with h5 | h5 | h5
      · exact h5
      · exact absurd h5 h4
      · rw [lt_rowP h5] at h3
        cases h3
    refine ⟨_, rfl, b, _, 0, _, rfl, rfl, SqT.of hB3.at_, atI_nat (j := 0) rfl, _, rfl, b, _, 1, _, rfl, rfl, SqT.of hB3.at_, atI_nat (j := 1) rfl, _, rfl, r, rfl, ⟨_, SqL.of e3⟩, fun M4 nM4 => ?_⟩
    refine lc_sameM (walk_list (xs := ys.map (·.1))) ys (fun y => .ref y.2.1.1) (by rw [List.length_map]) (by omega) nM4 (fun H s => SqL.of (s _ _ e3)) ?_ ?_
    · rintro j y x H4 H4' hy s4 ⟨rfl, hx⟩ Q1 q1
      rw [List.getElem?_map, hy] at hx
      injection hx with hx
      subst hx
      obtain ⟨ad, hya, ead, hza⟩ := hrow y (List.mem_of_getElem? hy)
      rw [show ((fun x : V × RowP => x.1) y) = V.ref ad from hya]
      have hB4 := hB3.kp (Same.tup s4)
      refine ⟨ad, _, rfl, SqT.of (s4 _ _ ead), rfl, _, _, rfl, _, _, rfl, rfl, rfl, ?_⟩
      exact ⟨_, rfl, b, _, 2, _, rfl, rfl, SqT.of hB4.at_, (atI_nat (j := 2) rfl), _, rfl, t, _, (y.2.2 : Int), _, rfl, rfl, SqT.of hB4.ents, atI_nat (j := y.2.2) (by rw [List.getElem?_map, hza]; rfl), q1 _ (same_refl _)⟩
    intro H5 s5 eM5
    refine ⟨M4, _, rfl, .inl ⟨SqL.of eM5, fun t6 nt6 => ?_⟩⟩
    have s6 := same_new nt6 (.tup (ys.map fun y => V.ref y.2.1.1))
    have e6 : (upd H5 t6 (.tup (ys.map fun y => V.ref y.2.1.1))) t6 = some (.tup (ys.map fun y => V.ref y.2.1.1)) := upd_same
    generalize (upd H5 t6 (.tup (ys.map fun y => V.ref y.2.1.1))) = H6 at s6 e6
    refine ⟨(by show 3 ≤ sizeLine; decide), fun t7 nt7 => ?_⟩
    have s7 := same_new nt7 (.tup [.ref fk, .int age, .ref t6])
    have e7 : (upd H6 t7 (.tup [.ref fk, .int age, .ref t6])) t7 = some (.tup [.ref fk, .int age, .ref t6]) := upd_same
    generalize (upd H6 t7 (.tup [.ref fk, .int age, .ref t6])) = H7 at s7 e7
    have s37 := s5.trans (s6.trans s7)
    have hB7 := hB3.kp (Same.tup s37)
    refine q t7 t6 (ys.map fun y => y.2.1) H7 (s03.trans s37) ⟨e7, hB7.folk, hB7.n2, hB7.n6, hB7.age0, hB7.age1, ?_, fun z hz => hB7.ent z (pz.mem_iff.mp hz), hB.ok.perm (pz.map _), by rw [pz.length_eq]; exact hlen⟩ pz sz
    rw [s7 _ _ e6]
    show _ = some (HO.tup (List.map (fun z : Addr × En => V.ref z.1) (List.map (fun y : V × RowP => y.2.1) ys)))
    rw [List.map_map]
    rfl
abbrev sLWith : Stmt := topS 74
abbrev nLWith : List Str := ["_law_book", "_law_entry"]
abbrev pLWith : List Str := ["_law_book", "_law_entry"]
theorem scLWith : FnScope nLWith pLWith (defScope sLWith) := ⟨rfl, rfl, rfl, by decide +kernel, rfl, by decide +kernel, by decide +kernel⟩
def spLWith : Sp := fun vs H Q _ => ∃ (b fk t a : Addr) (n : Nat) (age : Int) (zs : List (Addr × En)) (e : En), vs = [.ref b, .ref a] ∧ BookAt H b fk t n age zs ∧ EntAt H a e ∧ BkOk n (ens zs ++ [e]) ∧ zs.length < 16 ∧ ∀ b' t' (zs' : List (Addr × En)) H', Same H H' → BookAt H' b' fk t' n age zs' → zs'.Perm (zs ++ [(a, e)]) → zs'.Pairwise (fun u v => u.2.num < v.2.num) → Q (.ref b') H'
theorem ok_LWith {f : Addr} {fd : FuncData} {k : Nat} (F : Fun K "_law_with" "_law_with" sLWith f fd) (C__law_by_number : CallOk P w K mg base k "_law_by_number" pLByNumber spLByNumber) : FnOk P w K mg base CX0 (k + 1) f fd pLWith spLWith := by
  refine F.ok scLWith (fun vs H Q E h => ?_) (fun cdv A outer s H vs Q E hr h => ?_)
  · obtain ⟨b, fk, t, a, n, age, zs, e, rfl, _⟩ := h
    rfl
  · obtain ⟨b, fk, t, a, n, age, zs, e, rfl, hB, hE, hM, hl, q⟩ := h
    have nd := scLWith.nd
    refine ⟨_, pss_one (ps_ret (pe_call C__law_by_number.ok hr (by rfl) C__law_by_number.g C__law_by_number.kp C__law_by_number.b .nil pass0 (pa_cons (pe_tup (pa_cons (pe_ix ix_tup (pv 0) pe_int (fun _ _ => rfl)) (pa_cons (pe_ix ix_tup (pv 0) pe_int (fun _ _ => rfl)) (pa_cons (pe_op op_catA (pe_ix ix_tup (pv 0) pe_int (fun _ _ => rfl)) (pe_tup (pa_cons (pv 1) pa_nil))) pa_nil)))) pa_nil))), ?_⟩
    refine ⟨_, rfl, b, _, 0, _, rfl, rfl, SqT.of hB.at_, atI_nat (j := 0) rfl, _, rfl, b, _, 1, _, rfl, rfl, SqT.of hB.at_, atI_nat (j := 1) rfl, _, rfl, b, _, 2, _, rfl, rfl, SqT.of hB.at_, atI_nat (j := 2) rfl, _, rfl, (by show 1 ≤ sizeLine; decide), fun t12 nt12 => ?_⟩
    have s12 := same_new nt12 (.tup [.ref a])
    have e12 : (upd H t12 (.tup [.ref a])) t12 = some (.tup [.ref a]) := upd_same
    generalize upd H t12 (.tup [.ref a]) = H12 at s12 e12
    refine catA_same (s12 _ _ hB.ents) e12 (by rw [List.length_map]; show zs.length + 1 ≤ 1000; omega) fun t13 H13 s13 e13 => ?_
    refine ⟨(by show 3 ≤ sizeLine; decide), fun t14 nt14 => ?_⟩
    have s14 := same_new nt14 (.tup [.ref fk, .int age, .ref t13])
    have e14 : (upd H13 t14 (.tup [.ref fk, .int age, .ref t13])) t14 = some (.tup [.ref fk, .int age, .ref t13]) := upd_same
    generalize upd H13 t14 (.tup [.ref fk, .int age, .ref t13]) = H14 at s14 e14
    have s114 := s12.trans (s13.trans s14)
    have hB14 := hB.kp (Same.tup s114)
    have ens1 : ens (zs ++ [(a, e)]) = ens zs ++ [e] := by simp [ens]
    have hG : BookAt H14 t14 fk t13 n age (zs ++ [(a, e)]) := by
      refine ⟨e14, hB14.folk, hB14.n2, hB14.n6, hB14.age0, hB14.age1, ?_, fun z hz => ?_, ?_, by rw [List.length_append]; show zs.length + 1 ≤ 16; omega⟩
      · rw [s14 _ _ e13]
        simp [refs]
      · rcases List.mem_append.mp hz with hz | hz
        · exact hB14.ent z hz
        · rw [List.mem_singleton.mp hz]
          exact hE.kp (Same.tup s114)
      · rw [ens1]
        exact hM
    exact ⟨t14, fk, t13, n, age, _, rfl, hG, fun b' t' zs' H' s' hB' pm so => q b' t' zs' H' (s114.trans s') hB' pm so⟩
end
end Deed

namespace Deed
open PySem PySem.Spec PyProof.Rows L2 LamX
/-! ### books as data -/
def perD (q : Int × Option Int) : PyData := .tuple [.int q.1, match q.2 with | none => .none | some i => .int i]
def bkD (ps : List (Int × Option Int)) (age : Int) (es : List En) : PyData := .tuple [.tuple (ps.map perD), .int age, .tuple (es.map entD)]
theorem PersonAt.dp {K : PySem.W.Frag} {H : Hp} {x : V} (h : PersonAt H x) : ∃ q, Dp K H x (perD q) := by
  obtain ⟨a, b, d, rfl, h1, _, _, h2⟩ := h
  rcases h2 with rfl | ⟨i, rfl, _⟩
  · exact ⟨(b, none), .tup (SqT.of h1) (.cons (.int _) (.cons .non .nil))⟩
  · exact ⟨(b, some i), .tup (SqT.of h1) (.cons (.int _) (.cons (.int _) .nil))⟩
theorem dp_folk {K : PySem.W.Frag} {H : Hp} : ∀ xs : List V, (∀ x ∈ xs, PersonAt H x) → ∃ ps : List (Int × Option Int), DpAll K H xs (ps.map perD)
  | [], _ => ⟨[], .nil⟩
  | x :: r, h => by
    obtain ⟨q, hq⟩ := (h x List.mem_cons_self).dp (K := K)
    obtain ⟨ps, hp⟩ := dp_folk (K := K) r fun y hy => h y (List.mem_cons_of_mem _ hy)
    exact ⟨q :: ps, .cons hq hp⟩
theorem BookAt.dp {K : PySem.W.Frag} {H : Hp} {b b' fk t t' : Addr} {n : Nat} {age : Int} {zs zs' : List (Addr × En)} (h : BookAt H b fk t n age zs) (h' : BookAt H b' fk t' n age zs') : ∃ ps, Dp K H (.ref b) (bkD ps age (ens zs)) ∧ Dp K H (.ref b') (bkD ps age (ens zs')) := by
  obtain ⟨xs, ef, _, hx⟩ := h.folk
  obtain ⟨ps, hp⟩ := dp_folk (K := K) xs hx
  exact ⟨ps, .tup (SqT.of h.at_) (.cons (.tup (SqT.of ef) hp) (.cons (.int _) (.cons (.tup (SqT.of h.ents) (dp_ents zs h.ent)) .nil))), .tup (SqT.of h'.at_) (.cons (.tup (SqT.of ef) hp) (.cons (.int _) (.cons (.tup (SqT.of h'.ents) (dp_ents zs' h'.ent)) .nil)))⟩
theorem depth_per (q : Int × Option Int) : (perD q).depth ≤ 3 := by
  unfold perD
  obtain ⟨b, o⟩ := q
  cases o <;> simp [PyData.depth, PyData.depthAll]
theorem depth_pers : ∀ ps : List (Int × Option Int), PyData.depthAll (ps.map perD) ≤ 4
  | [] => by simp [PyData.depthAll]
  | q :: r => by
    have h1 := depth_per q
    have h2 := depth_pers r
    simp only [List.map_cons, PyData.depthAll]
    omega
theorem lay_pers : ∀ ps : List (Int × Option Int), PyData.canLayAll0 (ps.map perD) = true
  | [] => by simp [PyData.canLayAll0]
  | q :: r => by
    obtain ⟨b, o⟩ := q
    have h := lay_pers r
    cases o <;> simp [perD, PyData.canLayAll0, PyData.canLay0, h]
theorem shaped_bk {n : Nat} {ds as : List Int} (ps : List (Int × Option Int)) (age : Int) (es : List En) (h : ∀ e ∈ es, EnOk n ds as e) : SeqAt.shaped (bkD ps age es) = true := by
  have h1 := depth_ents es
  have h0 := depth_pers ps
  have h2 : PyData.depth (bkD ps age es) ≤ 64 := by
    unfold bkD
    simp only [PyData.depth, PyData.depthAll]
    omega
  show (PyData.canLay0 (bkD ps age es) && decide (PyData.depth (bkD ps age es) ≤ 64)) = true
  rw [Bool.and_eq_true]
  refine ⟨?_, decide_eq_true h2⟩
  have h3 := lay_ents es h
  have h4 := lay_pers ps
  simp [bkD, PyData.canLay0, PyData.canLayAll0, h3, h4]
theorem eqv_pers : ∀ ps : List (Int × Option Int), PyData.eqvAll (ps.map perD) (ps.map perD) = true
  | [] => by simp [PyData.eqvAll]
  | q :: r => by
    obtain ⟨b, o⟩ := q
    have h := eqv_pers r
    cases o <;> simp [perD, PyData.eqvAll, PyData.eqv, h]
theorem eqv_entsA : ∀ es : List En, PyData.eqvAll (es.map entD) (es.map entD) = true
  | [] => by simp [PyData.eqvAll]
  | e :: r => by
    have h := eqv_entsA r
    simp [PyData.eqvAll, eqv_ent_self e, h]
theorem eqv_bk (ps : List (Int × Option Int)) (age : Int) (es : List En) : PyData.eqv (bkD ps age es) (bkD ps age es) = true := by
  simp [bkD, PyData.eqv, PyData.eqvAll, eqv_pers, eqv_entsA]
end Deed

namespace Deed
open PySem PySem.Spec PyProof.Rows L2 LamX
theorem ScAt.xp {H H' : Hp} {x b l p : Addr} {es : List V} (h : ScAt C H x b l es) (k : XP p H H') (P : PenAt H p) (nl : l ≠ p) : ScAt C H' x b l es := by
  obtain ⟨⟨dx, h1⟩, h2⟩ := h
  obtain ⟨_, _, _, _, z1, _⟩ := P
  exact ⟨⟨dx, k _ _ (fun z => by rw [z, z1] at h1; cases h1) h1 fun ps z => by cases z⟩, k _ _ nl h2 fun ps z => by cases z⟩
end Deed

namespace MixX
open PySem PySem.Spec PyProof.Rows L2
/-! ### except clauses, some of them with a name -/
abbrev Suite := Addr → Value → Option Addr → TS
/-- the clauses, and what they wish of an exception of the body -/
inductive Mix (X : Cx) (W0 : WX) : List ExceptHandler → (Ends → WX) → Prop
  | done : Mix X W0 [] (fun _ => W0)
  | bare {x : Str} {c : Value} {ts : Suite} {q : Stmt} {qs : List Stmt} {p1 p2 : Pos} {more : List ExceptHandler} {R : Ends → WX} (hc : Names X x c)
      (run : ∀ (a : Addr) (oe : Obj) (cls : Value) (d : Option Addr) (l : List (Addr × Obj)), Zc cls d oe → (∃ vs, oe.data = .fields vs) → PSs (X.suite a ((a, oe) :: l)) (q :: qs) (ts a cls d)) (r : Mix X W0 more R) :
      Mix X W0 (.ExceptHandler (some (.Name x p1)) none (q :: qs) p2 :: more) (fun D => wMany X.K (R D) D [(c, ts)])
  | named {x n : Str} {i : Nat} {c : Value} {ts : Suite} {q : Stmt} {qs : List Stmt} {p1 p2 : Pos} {more : List ExceptHandler} {R : Ends → WX} (hN : X.N.Nodup) (hi : X.N[i]? = some n) (hl : X.env.kindOf n = some .local) (hc : Names X x c)
      (run : ∀ (a : Addr) (oe : Obj) (cls : Value) (d : Option Addr) (l : List (Addr × Obj)), Zc cls d oe → (∃ vs, oe.data = .fields vs) → PSs (X.suite a ((a, oe) :: l)) (q :: qs) (ts a cls d)) (r : Mix X W0 more R) :
      Mix X W0 (.ExceptHandler (some (.Name x p1)) (some n) (q :: qs) p2 :: more) (fun D => wAs X.K c i ts (R D) D)
/-- an exception that is caught: noted here, its flight ended -/
structure Caught (X : Cx) (pins : List (Addr × Obj)) (a : Addr) (B : Heap) (sI : Shared) (σ : L2.St) (H : Hp) (cls : Value) (d : Option Addr) (s : Shared) : Prop where
  inv : Inv X pins σ H sI
  nb : ∀ b o, sI.heap.get? b = some o → b ∉ frs X.stack → B.get? b = some o
  up : sI.heap.UpToSlots s.heap
  fl : HandSPX.FlyingZ B (X.env :: X.outer) a (Zc cls d) s.heap
  na : H a = none
  os : s.os = sI.os
  ag : AllBare s.gens
section
variable {X : Cx} {pins : List (Addr × Obj)} {a : Addr} {B : Heap} {sI s : Shared} {σ : L2.St} {H : Hp} {cls : Value} {d : Option Addr} {D : Ends} {W0 : WX}
theorem Caught.here (C : Caught X pins a B sI σ H cls d s) : Inv X pins σ H s := C.inv.landed C.nb C.fl.1 C.up C.os C.ag
theorem Caught.heap (C : Caught X pins a B sI σ H cls d s) {g : Heap} (f : HandSPX.FlyingZ B (X.env :: X.outer) a (Zc cls d) g) (u : s.heap.UpToSlots g) : Caught X pins a B sI σ H cls d { s with heap := g } :=
  ⟨C.inv, C.nb, C.up.trans u, f, C.na, C.os, C.ag⟩
/-- it is no frame's -/
theorem Caught.away (C : Caught X pins a B sI σ H cls d s) : a ∉ frs (X.env :: X.outer) := fun m => by
  obtain ⟨oe, vs, g, _, dt⟩ := C.fl.there
  obtain ⟨_, o2, g2, no⟩ := C.fl.2.2.1.mem m
  have : oe = o2 := Option.some.inj (g.symm.trans g2)
  subst this
  exact no _ dt
/-- in the suite -/
theorem Caught.suite (C : Caught X pins a B sI σ H cls d s) (hf : X.env.frame = some X.env.locals) : ∃ oe, s.heap.get? a = some oe ∧ Zc cls d oe ∧ (∃ vs, oe.data = .fields vs) ∧ Inv (X.suite a ((a, oe) :: (X.pn ++ pins))) [] σ H s := by
  obtain ⟨oe, vs, g, z, dt⟩ := C.fl.there
  have nl : a ≠ X.env.locals := fun e => C.away (List.mem_filterMap.mpr ⟨_, List.mem_cons_self, by rw [e]; exact hf⟩)
  have nf : a ∉ X.fs := fun m => by
    obtain ⟨y, hy, e⟩ := List.mem_filterMap.mp m
    exact C.away (List.mem_filterMap.mpr ⟨y, List.mem_cons_of_mem _ hy, e⟩)
  exact ⟨oe, g, z, ⟨vs, dt⟩, C.here.suite g dt C.na nl nf⟩
/-- the class of the clause is looked at -/
theorem Caught.test (C : Caught X pins a B sI σ H cls d s) (hf : X.env.frame = some X.env.locals) {x : Str} {c : Value} {b : Bool} {p1 p2 : Pos} (hc : Names X x c) (hb : PySem.W.exmOne X.K cls c = some b) {Q : Except Value Flow → Shared → Prop} (h : Q (.ok (if b = true then .brk else .next)) s) :
    codeAny (model X.prog X.w) (X.A.mark (some (.ref a))) (.handlers (.ref a) [.ExceptHandler (some (.Name x p1)) none [] p2] X.env) Q s := by
  obtain ⟨oe, g, z, _, S⟩ := C.suite hf
  have looks : PySem.W.Looks (model X.prog X.w) s.heap (typeOf (.ref a)) cls := fun A Q E t k q => wpAny_typeOf_ref (k _ _ g) (z.1.symm ▸ q)
  have one := PySem.W.exm_one (M := model X.prog X.w) C.here.kIn looks hb
  refine codeAny_handlers_test ?_
  obtain ⟨gl, db, known | ⟨un, bt, nn⟩⟩ := hc
  · exact ld_glob (X := X.suite a ((a, oe) :: (X.pn ++ pins))) S gl known (one.here h) db
  · exact ld_blt (X := X.suite a ((a, oe) :: (X.pn ++ pins))) S gl un bt (one.here h) nn db
theorem run_mix (hs : X.stack = X.env :: X.outer) (hf : X.env.frame = some X.env.locals) (tk : Takes X W0) {hds : List ExceptHandler} {R : Ends → WX} (m : Mix X W0 hds R) :
    ∀ {s : Shared}, Caught X pins a B sI σ H cls d s → R D cls d σ H → wpAny (model X.prog X.w) X.A (handleBy (.ref a) X.env hds) (SP X pins D) X.xe s := by
  induction m with
  | done =>
    intro s C w
    refine wpAny_handleBy_nil ?_
    obtain ⟨_, _, _, oe, vs, T, oT, ts, g, _, dt, v1, _⟩ := id C.fl
    have hT : ¬ ((Value.ref T == Value.none) = true) := by simp
    have go : wpAny (model X.prog X.w) X.A (setFlight (.ref a) X.env.frame) (fun _ t => wpAny (model X.prog X.w) X.A (throw (.ref a) : Sem Flow) (SP X pins D) X.xe t) X.xe s := by
      rw [hf]
      refine HandSPX.setFlight_upZ C.fl fun g' held u => wpAny_throw (tk _ _ ?_)
      have sky : Sky B X.stack a (Zc cls d) X.env.locals g' := .inr (.inr (hs ▸ held))
      exact ⟨a, B, sI, pins, σ, H, cls, d, rfl, C.inv, C.nb, C.up.trans u, sky, C.na, C.os, C.ag, w⟩
    unfold PySem.passOn
    refine wpAny_bind (wpAny_field g dt v1 ?_)
    rw [if_neg hT]
    first
      | exact wpAny_bind go
      | exact wpAny_bind (wpAny_pure (wpAny_bind go))
  | @bare x c ts q qs p1 p2 more R hc run r ih =>
    intro s C w
    obtain ⟨b, e1, yes, no⟩ := w
    refine wpAny_handleBy_cons (C.test hf hc e1 ?_) (by intro z; cases z)
    cases b with
    | false => exact ih C (no rfl)
    | true =>
      refine codeAny_handlers_suite (HandSPX.lands_againZ C.fl fun g f u => ?_)
      obtain ⟨oe, _, z, fs, S⟩ := (C.heap f u).suite hf
      refine wpAny_mono ((run a oe cls d (X.pn ++ pins) z fs).run [] _ _ _ _ S (yes rfl a C.na)) (fun fl s6 hsp => ?_) (fun _ _ k => k.elim)
      have ok := C.inv.ok
      cases fl with
      | next => exact let ⟨_, _, J, k⟩ := hsp; ⟨_, _, J.unsuite ok, k⟩
      | brk => exact let ⟨_, _, J, k⟩ := hsp; ⟨_, _, J.unsuite ok, k⟩
      | cont => exact let ⟨_, _, J, k⟩ := hsp; ⟨_, _, J.unsuite ok, k⟩
      | ret y => exact let ⟨_, _, _, J, rv, k⟩ := hsp; ⟨_, _, _, J.unsuite ok, rv, k⟩
  | @named x n i c ts q qs p1 p2 more R hN hi hl hc run r ih =>
    intro s C w
    obtain ⟨b, e1, yes, no⟩ := w
    refine wpAny_handleBy_cons (C.test hf hc e1 ?_) (by intro z; cases z)
    cases b with
    | false => exact ih C (no rfl)
    | true =>
      refine codeAny_handlers_suite_as (HandSPX.lands_againZ C.fl fun g f u => ?_)
      obtain ⟨oe, _, z, fs, S⟩ := (C.heap f u).suite hf
      refine store_ok (X := X.suite a ((a, oe) :: (X.pn ++ pins))) (v := .ref a) S hN hi (.inl hl) rfl (fun s5 S5 => ?_) (.inr hl)
      refine wpAny_mono ((run a oe cls d (X.pn ++ pins) z fs).run [] s5 _ _ _ S5 (yes rfl a C.na)) (fun fl s6 hsp => ?_) (fun _ _ k => k.elim)
      have ok := C.inv.ok
      cases fl with
      | next => exact let ⟨_, _, J, k⟩ := hsp; gone_ok (J.unsuite ok) hN hi hl fun s7 J7 => ⟨_, _, J7, k⟩
      | brk => exact let ⟨_, _, J, k⟩ := hsp; gone_ok (J.unsuite ok) hN hi hl fun s7 J7 => ⟨_, _, J7, k⟩
      | cont => exact let ⟨_, _, J, k⟩ := hsp; gone_ok (J.unsuite ok) hN hi hl fun s7 J7 => ⟨_, _, J7, k⟩
      | ret y => exact let ⟨_, _, _, J, rv, k⟩ := hsp; gone_ok (J.unsuite ok) hN hi hl fun s7 J7 => ⟨_, _, _, J7, rv, k⟩
theorem ps_try_mix {body : List Stmt} {h₀ : ExceptHandler} {hds : List ExceptHandler} {R : Ends → WX} {pos : Pos} {tb : WX → TS} (hs : X.stack = X.env :: X.outer) (hf : X.env.frame = some X.env.locals) (tk : Takes X W0)
    (hb : ∀ (W : WX) (l : List (Addr × Obj)) (xe : Value → Shared → Prop), Takes (X.tr l xe) W → PassesOwn (model X.prog X.w) X.A X.env xe → PSs (X.tr l xe) body (tb W)) (m : Mix X W0 (h₀ :: hds) R) :
    PS X (.Try body (h₀ :: hds) [] [] pos) (fun D σ H => tb (R D) D σ H) := by
  refine ⟨fun pins s σ H D I h => wpAny_Try_except ?_⟩
  have ok := I.ok
  have fr : X.A.frames = some (X.env :: X.outer) := ok.frames.trans (by rw [hs])
  let xe : Value → Shared → Prop := fun e t => wpAny (model X.prog X.w) X.A (noteFrame e X.env) (fun _ t2 => wpAny (model X.prog X.w) X.A (setFlight e none) (fun _ t3 => wpAny (model X.prog X.w) X.A (handleBy e X.env (h₀ :: hds)) (SP X pins D) X.xe t3) X.xe t2) X.xe t
  have takes : Takes (X.tr (X.pn ++ pins) xe) (R D) := fun u t xx => by
    obtain ⟨a, B, sI, pins', σ', H', cls, d, rfl, J, nb, up, sky, na, os, ag, w⟩ := xx
    have sky2 : Sky B (X.env :: X.outer) a (Zc cls d) X.env.locals t.heap := hs ▸ sky
    show wpAny (model X.prog X.w) X.A (noteFrame (.ref a) X.env) _ _ _
    exact Sky.land Zc.steady fr hf sky2 fun g f u => run_mix hs hf tk m (s := { t with heap := g }) ⟨J.ofTry ok, nb, up.trans u, f, na, os, ag⟩ w
  refine wpAny_mono ((hb (R D) (X.pn ++ pins) xe takes PassesOwn.looking).run [] s σ H D (I.toTry _) h) (fun fl t hsp => ?_) (fun _ _ k => k)
  cases fl with
  | next => exact let ⟨_, _, J, k⟩ := hsp; wpAny_execs_nil ⟨_, _, J.ofTry ok, k⟩
  | brk => exact let ⟨_, _, J, k⟩ := hsp; ⟨_, _, J.ofTry ok, k⟩
  | cont => exact let ⟨_, _, J, k⟩ := hsp; ⟨_, _, J.ofTry ok, k⟩
  | ret y => exact let ⟨_, _, _, J, rv, k⟩ := hsp; ⟨_, _, _, J.ofTry ok, rv, k⟩
end
end MixX

namespace Deed
open PySem PySem.Spec PyProof.Rows L2 LamX
structure Exm7 (K : PySem.W.Frag) (CE CT CN CM CI CJ CD : Addr) : Prop where
  ee : PySem.W.exmOne K (.ref CE) (.ref CE) = some true
  te : PySem.W.exmOne K (.ref CT) (.ref CE) = some false
  tt : PySem.W.exmOne K (.ref CT) (.ref CT) = some true
  ne : PySem.W.exmOne K (.ref CN) (.ref CE) = some false
  nt : PySem.W.exmOne K (.ref CN) (.ref CT) = some false
  nn : PySem.W.exmOne K (.ref CN) (.ref CN) = some true
  me : PySem.W.exmOne K (.ref CM) (.ref CE) = some false
  mt : PySem.W.exmOne K (.ref CM) (.ref CT) = some false
  mn : PySem.W.exmOne K (.ref CM) (.ref CN) = some false
  mm : PySem.W.exmOne K (.ref CM) (.ref CM) = some true
  de : PySem.W.exmOne K (.ref CD) (.ref CE) = some false
  dt : PySem.W.exmOne K (.ref CD) (.ref CT) = some false
  dn : PySem.W.exmOne K (.ref CD) (.ref CN) = some false
  dm : PySem.W.exmOne K (.ref CD) (.ref CM) = some false
  di : PySem.W.exmOne K (.ref CD) (.ref CI) = some false
  dj : PySem.W.exmOne K (.ref CD) (.ref CJ) = some false
  dd : PySem.W.exmOne K (.ref CD) (.ref CD) = some true
/-- rows of refusals that Exm7 lacks -/
structure ExmR (K : PySem.W.Frag) (CE CT CN CM CI CJ : Addr) : Prop where
  ie : PySem.W.exmOne K (.ref CI) (.ref CE) = some false
  it : PySem.W.exmOne K (.ref CI) (.ref CT) = some false
  in_ : PySem.W.exmOne K (.ref CI) (.ref CN) = some false
  im : PySem.W.exmOne K (.ref CI) (.ref CM) = some false
  ii : PySem.W.exmOne K (.ref CI) (.ref CI) = some true
  je : PySem.W.exmOne K (.ref CJ) (.ref CE) = some false
  jt : PySem.W.exmOne K (.ref CJ) (.ref CT) = some false
  jn : PySem.W.exmOne K (.ref CJ) (.ref CN) = some false
  jm : PySem.W.exmOne K (.ref CJ) (.ref CM) = some false
  ji : PySem.W.exmOne K (.ref CJ) (.ref CI) = some false
  jj : PySem.W.exmOne K (.ref CJ) (.ref CJ) = some true
end Deed

namespace Deed
open PySem PySem.Spec PyProof.Rows L2 LamX
/-! ### what is told, or which refusal -/
structure Cl7 where
  (E T N M I J G : Addr)
def saidX (c : Cl7) (Q : VK) : XK := fun cls d H =>
  (cls = .ref c.E ∧ Q (.str "\x21entry") H) ∨ (cls = .ref c.T ∧ ∃ (dd : Addr) (i : Int), d = some dd ∧ H dd = some (.xd [("at", .int i)]) ∧ ∀ t, H t = none → Q (.ref t) (upd H t (.tup [.str "\x21twice", .int i]))) ∨
  (cls = .ref c.N ∧ Q (.str "\x21name") H) ∨ (cls = .ref c.M ∧ Q (.str "\x21many") H) ∨ (cls = .ref c.I ∧ Q (.str "\x21missing") H) ∨
  (cls = .ref c.J ∧ ∃ (dd : Addr) (i : Int), d = some dd ∧ H dd = some (.xd [("by", .int i)]) ∧ ∀ t, H t = none → Q (.ref t) (upd H t (.tup [.str "\x21named", .int i]))) ∨ (cls = .ref c.G ∧ Q (.str "\x21nothing") H)
def TSaid (c : Cl7) : (XK → Hp → VK → Prop) → Hp → VK → Prop := fun tl H Q => tl (saidX c Q) H Q
theorem takes_len {X : Cx} {W : WX} (tk : Takes X W) : Takes X (fun cls d σ H => σ.length = X.N.length → W cls d σ H) := fun u s' xx => by
  obtain ⟨a, B, sI, pins, σ, H, cls, d, e, I, nb, up, sky, na, os, ag, w⟩ := xx
  exact tk u s' ⟨a, B, sI, pins, σ, H, cls, d, e, I, nb, up, sky, na, os, ag, w I.len⟩
section
variable {X : Cx}
theorem said_gives {Ng : List Str} {x a q : Str} {sg : Scope} {g : Addr} {c : Cl7} {cdg : Value} {p1 p2 p3 p8 : Pos} {h0 : ExceptHandler} {hds : List ExceptHandler} {R : Ends → WX} (hst : ∀ f : Addr, (L2.start Ng [V.ref f])[0]? = some (some (.ref f)))
    (hh : ∀ s H, MixX.Mix (cxOf C8.CX0 X.prog X.w X.K X.mg X.base Ng x sg g cdg X.A X.stack s H C8.E0).nox (fun _ _ _ _ => False) (h0 :: hds) R)
    (hR : ∀ (Q : VK) (D : Ends) (cls : Value) (d : Option Addr) (σ : L2.St) (H : Hp), D.rt = Q → σ.length = Ng.length → saidX c Q cls d H → R D cls d σ H) :
    GivesTo X Ng x sg g cdg [.Try [.Return (some (.Call (.Name a p1) [] [] p2)) p3] (h0 :: hds) [] [] p8] a q (TSaid c) := by
  intro f c' s H Q tl act hc h
  refine ⟨_, pss_one (MixX.ps_try_mix (X := (cxOf C8.CX0 X.prog X.w X.K X.mg X.base Ng x sg g cdg X.A X.stack s H C8.E0).nox) (W0 := fun _ _ _ _ => False) (R := R)
      (tb := fun W D σ H => ∃ Ech : XK, (∀ cls d σ' H', Ech cls d H' → σ'.length = Ng.length → W cls d σ' H') ∧ σ[0]? = some (some (.ref f)) ∧ H c' = some (CodeO c' q) ∧ tl Ech H D.rt)
      rfl rfl LamX.takes0 (fun W pn xe tk _ => ?_) (hh s H)), ?_⟩
  · refine ⟨fun pins s' σ H' D I h' => ?_⟩
    obtain ⟨Ech, hW, h1, h2, h3⟩ := h'
    have hp := act _ pn xe Ech p1 p2 (takes_len tk) (fun cls d σ' H'' e l => hW cls d σ' H'' e l)
    have hq := pss_one (ps_ret (pos := p3) hp)
    exact hq.run pins s' σ H' D I ⟨h1, h2, h3⟩
  · exact ⟨saidX c Q, fun cls d σ' H' e l => hR Q _ cls d σ' H' rfl l e, hst f, hc, h⟩
end
abbrev sLSaid : Stmt := topS 58
abbrev nLSaid : List Str := ["_law_call", "e"]
theorem scLSaid : FnScope nLSaid ["_law_call"] (defScope sLSaid) := ⟨rfl, rfl, rfl, by decide +kernel, rfl, by decide +kernel, by decide +kernel⟩
/-- what is asked of the classes -/
structure Sd7 (K : PySem.W.Frag) (mg : Str → Option Value) (c : Cl7) : Prop where
  M : Exm7 K c.E c.T c.N c.M c.I c.J c.G
  M2 : ExmR K c.E c.T c.N c.M c.I c.J
  e : mg "NoEntry" = some (.ref c.E)
  t : mg "Twice" = some (.ref c.T)
  n : mg "NoName" = some (.ref c.N)
  m : mg "TooMany" = some (.ref c.M)
  i : mg "Missing" = some (.ref c.I)
  j : mg "Named" = some (.ref c.J)
  g : mg "NothingDone" = some (.ref c.G)
  xt : XfC K c.T
  xj : XfC K c.J
  nt : PySem.W.findIn K (.ref c.T) "at" = some none
  nj : PySem.W.findIn K (.ref c.J) "by" = some none
def tTold (z fld : Str) (C : Addr) (a : Addr) (cls : Value) (d : Option Addr) : TS := tRet (tTup (tCons (tC (.str z)) (tCons (tXf a cls d C fld (tVar 1)) tNil)))
abbrev rSaid (K : PySem.W.Frag) (c : Cl7) : Ends → WX := fun D => wMany K (wAs K (.ref c.T) 1 (tTold "\x21twice" "at" c.T) (wMany K (wMany K (wMany K (wAs K (.ref c.J) 1 (tTold "\x21named" "by" c.J) (wMany K (fun _ _ _ _ => False) D [(.ref c.G, fun _ _ _ => tRet (tC (.str "\x21nothing")))]) D) D [(.ref c.I, fun _ _ _ => tRet (tC (.str "\x21missing")))]) D [(.ref c.M, fun _ _ _ => tRet (tC (.str "\x21many")))]) D [(.ref c.N, fun _ _ _ => tRet (tC (.str "\x21name")))]) D) D [(.ref c.E, fun _ _ _ => tRet (tC (.str "\x21entry")))]
theorem said_mix {K : PySem.W.Frag} {mg : Str → Option Value} {c : Cl7} {X : Cx} (hK : X.K = K) (hmg : X.mg = mg) (S : Sd7 K mg c) {Q : VK} {D : Ends} {cls : Value} {d : Option Addr} {σ : L2.St} {H : Hp} (hQ : D.rt = Q) (hl : σ.length = 2) (h : saidX c Q cls d H) : rSaid K c D cls d σ H := by
  subst hQ
  have h1 : ∀ a : Addr, (σ.set 1 (some (V.ref a)))[1]? = some (some (V.ref a)) := fun a => by
    rw [List.getElem?_set_self (by rw [hl]; decide)]
  have M := S.M
  have M2 := S.M2
  rcases h with ⟨rfl, q⟩ | ⟨rfl, dd, i, rfl, ed, q⟩ | ⟨rfl, q⟩ | ⟨rfl, q⟩ | ⟨rfl, q⟩ | ⟨rfl, dd, i, rfl, ed, q⟩ | ⟨rfl, q⟩
  · exact ⟨true, M.ee, fun _ a _ => q, fun z => nomatch z⟩
  · refine ⟨false, M.te, fun z => (nomatch z), fun _ => ⟨true, M.tt, fun _ a na => ?_, fun z => nomatch z⟩⟩
    exact ⟨_, h1 a, rfl, rfl, dd, _, .int i, rfl, ed, rfl, (by show 2 ≤ sizeLine; decide), fun t nt => q t nt⟩
  · exact ⟨false, M.ne, fun z => (nomatch z), fun _ => ⟨false, M.nt, fun z => (nomatch z), fun _ => ⟨true, M.nn, fun _ a _ => q, fun z => nomatch z⟩⟩⟩
  · exact ⟨false, M.me, fun z => (nomatch z), fun _ => ⟨false, M.mt, fun z => (nomatch z), fun _ => ⟨false, M.mn, fun z => (nomatch z), fun _ => ⟨true, M.mm, fun _ a _ => q, fun z => nomatch z⟩⟩⟩⟩
  · exact ⟨false, M2.ie, fun z => (nomatch z), fun _ => ⟨false, M2.it, fun z => (nomatch z), fun _ => ⟨false, M2.in_, fun z => (nomatch z), fun _ => ⟨false, M2.im, fun z => (nomatch z), fun _ => ⟨true, M2.ii, fun _ a _ => q, fun z => nomatch z⟩⟩⟩⟩⟩
  · refine ⟨false, M2.je, fun z => (nomatch z), fun _ => ⟨false, M2.jt, fun z => (nomatch z), fun _ => ⟨false, M2.jn, fun z => (nomatch z), fun _ => ⟨false, M2.jm, fun z => (nomatch z), fun _ => ⟨false, M2.ji, fun z => (nomatch z), fun _ => ⟨true, M2.jj, fun _ a na => ?_, fun z => nomatch z⟩⟩⟩⟩⟩⟩
    exact ⟨_, h1 a, rfl, rfl, dd, _, .int i, rfl, ed, rfl, (by show 2 ≤ sizeLine; decide), fun t nt => q t nt⟩
  · exact ⟨false, M.de, fun z => (nomatch z), fun _ => ⟨false, M.dt, fun z => (nomatch z), fun _ => ⟨false, M.dn, fun z => (nomatch z), fun _ => ⟨false, M.dm, fun z => (nomatch z), fun _ => ⟨false, M.di, fun z => (nomatch z), fun _ => ⟨false, M.dj, fun z => (nomatch z), fun _ => ⟨true, M.dd, fun _ a _ => q, fun z => nomatch z⟩⟩⟩⟩⟩⟩⟩
/-- _law_said(lambda: ..) -/
theorem pe_said {X : Cx} {T : List (Addr × Str)} {g c P : Addr} {cl : Cl7} {gd : FuncData} {k : Nat} {params : Arguments} {body : Expr} {scope : Scope} {t : XK → TE} {p lpos pos : Pos} (D : Df X.K X.mg "_law_said" sLSaid ["_law_call"] g gd) (S : Sd7 X.K X.mg cl) (hg : Gl X "_law_said")
    (TB : TabB X.base X.mg c P) (hcode : X.env.code = .ref c) (hmT : (P, X.env.qual ++ "<lambda>") ∈ T) (hu : ∀ p ∈ T, p.1 = P → p.2 = X.env.qual ++ "<lambda>") (hr : Room (k + 2) X.A) (L : LamS X.env.scope scope) (hdef : defaultsOf params X.env = ([], []))
    (hbind : ∀ (q : Str) (cl : List (Str × Addr)) (pm cv ctv : Value), bindArgs (PySem.W.kla_fn "<lambda>" q params body scope cl pm cv ctv) ⟨[], []⟩ = pure [])
    (hbody : ∀ (A : Around) (outer : List Env) (s : Shared) (H : Hp) (E : XK) (f c' : Addr), Room k (A.deeper (lamEnv X scope s.heap.objs.size f c')) → PE (lamCx X A outer s H E scope f c') body (t E)) :
    PE X (.Call (.Name "_law_said" p) [.Lambda params body scope lpos] [] pos) (tLam T (TSaid cl) t) := by
  obtain ⟨oc, od, kV, doc, pm, an, cdv, ct, osl, e, lk, hcd⟩ := D.F.ex
  have hb := D.b
  rw [e] at lk hb
  exact pe_lamcall (Ng := nLSaid) (a := "_law_call") hg D.g D.F.kp lk hcd hb scLSaid rfl (.inl rfl)
    (said_gives (c := cl) (R := rSaid X.K cl) (fun _ => rfl) (fun s H => MixX.Mix.bare (X := (cxOf C8.CX0 X.prog X.w X.K X.mg X.base nLSaid "_law_said" (defScope sLSaid) g cdv X.A X.stack s H C8.E0).nox) (x := "NoEntry") (c := .ref cl.E) ⟨rfl, by decide, .inl S.e⟩ (fun a oe cls d l _ _ => pss_one (ps_ret pe_str))
      (MixX.Mix.named (X := (cxOf C8.CX0 X.prog X.w X.K X.mg X.base nLSaid "_law_said" (defScope sLSaid) g cdv X.A X.stack s H C8.E0).nox) (n := "e") (i := 1) scLSaid.nd rfl rfl (x := "Twice") (c := .ref cl.T) ⟨rfl, by decide, .inl S.t⟩
        (fun a oe cls d l hz hf => pss_one (ps_ret (pe_tup (pa_cons pe_str (pa_cons (pe_xf (X := (cxOf C8.CX0 X.prog X.w X.K X.mg X.base nLSaid "_law_said" (defScope sLSaid) g cdv X.A X.stack s H C8.E0).nox) (C := cl.T) S.xt S.nt hz hf (pv 1)) pa_nil)))))
      (MixX.Mix.bare (X := (cxOf C8.CX0 X.prog X.w X.K X.mg X.base nLSaid "_law_said" (defScope sLSaid) g cdv X.A X.stack s H C8.E0).nox) (x := "NoName") (c := .ref cl.N) ⟨rfl, by decide, .inl S.n⟩ (fun a oe cls d l _ _ => pss_one (ps_ret pe_str))
      (MixX.Mix.bare (X := (cxOf C8.CX0 X.prog X.w X.K X.mg X.base nLSaid "_law_said" (defScope sLSaid) g cdv X.A X.stack s H C8.E0).nox) (x := "TooMany") (c := .ref cl.M) ⟨rfl, by decide, .inl S.m⟩ (fun a oe cls d l _ _ => pss_one (ps_ret pe_str))
      (MixX.Mix.bare (X := (cxOf C8.CX0 X.prog X.w X.K X.mg X.base nLSaid "_law_said" (defScope sLSaid) g cdv X.A X.stack s H C8.E0).nox) (x := "Missing") (c := .ref cl.I) ⟨rfl, by decide, .inl S.i⟩ (fun a oe cls d l _ _ => pss_one (ps_ret pe_str))
      (MixX.Mix.named (X := (cxOf C8.CX0 X.prog X.w X.K X.mg X.base nLSaid "_law_said" (defScope sLSaid) g cdv X.A X.stack s H C8.E0).nox) (n := "e") (i := 1) scLSaid.nd rfl rfl (x := "Named") (c := .ref cl.J) ⟨rfl, by decide, .inl S.j⟩
        (fun a oe cls d l hz hf => pss_one (ps_ret (pe_tup (pa_cons pe_str (pa_cons (pe_xf (X := (cxOf C8.CX0 X.prog X.w X.K X.mg X.base nLSaid "_law_said" (defScope sLSaid) g cdv X.A X.stack s H C8.E0).nox) (C := cl.J) S.xj S.nj hz hf (pv 1)) pa_nil)))))
      (MixX.Mix.bare (X := (cxOf C8.CX0 X.prog X.w X.K X.mg X.base nLSaid "_law_said" (defScope sLSaid) g cdv X.A X.stack s H C8.E0).nox) (x := "NothingDone") (c := .ref cl.G) ⟨rfl, by decide, .inl S.g⟩ (fun a oe cls d l _ _ => pss_one (ps_ret pe_str)) MixX.Mix.done)))))))
      (fun Q D cls d σ H hQ hl h => said_mix rfl rfl S hQ hl h))
    TB hcode hmT hu hr L hdef hbind hbody
end Deed

namespace Deed
open PySem PySem.Spec PyProof.Rows L2 LamX
/-! ### a scribe and its past -/
structure Stg where
  (b t o u : Addr)
  zs : List (Addr × En)
structure StgAt (H : Hp) (fk : Addr) (n : Nat) (age : Int) (s : Stg) : Prop where
  mine : BookAt H s.b fk s.t n age s.zs
  his : BookAt H s.o fk s.u n age s.zs
  up : s.zs.Pairwise (fun u v => u.2.num < v.2.num)
theorem StgAt.kp {H H' : Hp} {fk : Addr} {n : Nat} {age : Int} {s : Stg} (h : StgAt H fk n age s) (k : KpT H H') : StgAt H' fk n age s := ⟨h.mine.kp k, h.his.kp k, h.up⟩
structure Hst (C : Addr) (H : Hp) (x l lp fk : Addr) (n : Nat) (age : Int) (hs : List Stg) (cu : Stg) : Prop where
  sc : ScAt C H x cu.b l (hs.map fun s => V.ref s.b)
  ls : H lp = some (.lst ((hs.map fun s => V.ref s.o) ++ [.ref cu.o]))
  at_ : ∀ s ∈ hs, StgAt H fk n age s
  cur : StgAt H fk n age cu
  first : (hs = [] → cu.zs = []) ∧ ∀ s r, hs = s :: r → s.zs = []
  nl : l ≠ lp
theorem Hst.xp {C : Addr} {H H' : Hp} {x l lp fk p : Addr} {n : Nat} {age : Int} {hs : List Stg} {cu : Stg} (h : Hst C H x l lp fk n age hs cu) (k : XP p H H') (P : PenAt H p) (n1 : l ≠ p) (n2 : lp ≠ p) : Hst C H' x l lp fk n age hs cu :=
  ⟨h.sc.xp k P n1, k _ _ n2 h.ls (fun ps z => by cases z), fun s hs => (h.at_ s hs).kp (k.tup P), h.cur.kp (k.tup P), h.first, h.nl⟩
theorem up_pair : ∀ {l m : List (Addr × En)}, l.Pairwise (fun u v => u.2.num < v.2.num) → m.Pairwise (fun u v => u.2.num < v.2.num) → l.Perm m → l = m
  | [], m, _, _, p => (List.nil_perm.mp p).symm
  | a :: l, [], _, _, p => absurd p.length_eq (by simp)
  | a :: l, b :: m, h1, h2, p => by
    rw [List.pairwise_cons] at h1 h2
    have e : a = b := by
      rcases List.mem_cons.mp (p.mem_iff.mp (List.mem_cons_self (a := a) (l := l))) with h | h
      · exact h
      · rcases List.mem_cons.mp (p.mem_iff.mpr (List.mem_cons_self (a := b) (l := m))) with g | g
        · exact g.symm
        · have := h1.1 _ g
          have := h2.1 _ h
          omega
    subst e
    rw [up_pair h1.2 h2.2 ((List.perm_cons a).mp p)]
theorem ints_inj {rs rs' : List Int} (h : rs.map Tg.int = rs'.map Tg.int) : rs = rs' := by
  rw [← toI_int rs, ← toI_int rs', h]
theorem entT_inj {e e' : En} (h : entT e = entT e') : e = e' := by
  obtain ⟨a, b, c, d, k⟩ := e
  obtain ⟨a', b', c', d', k'⟩ := e'
  unfold entT at h
  cases k with
  | deed g t rs ws =>
    cases k' with
    | deed g' t' rs' ws' =>
      simp only [Tg.tup.injEq, List.cons.injEq, Tg.int.injEq] at h
      obtain ⟨h1, h2, h3, h4, _, h5, h6, h7, h8, _⟩ := h
      rw [h1, h2, h3, h4, h5, h6, ints_inj h7, ints_inj h8]
    | act x o => simp at h
  | act x o =>
    cases k' with
    | deed g' t' rs' ws' => simp at h
    | act x' o' =>
      simp only [Tg.tup.injEq, List.cons.injEq, Tg.int.injEq, Tg.str.injEq] at h
      obtain ⟨h1, h2, h3, h4, h5, h6, _⟩ := h
      rw [h1, h2, h3, h4, h5, h6]
theorem shaped_in {dd : Str} {i : Int} (h : dd = "entry" ∨ dd = "twice" ∨ dd = "name" ∨ dd = "many" ∨ dd = "ok") : SeqAt.shaped (inD dd i) = true ∧ PyData.eqv (inD dd i) (inD dd i) = true := by
  rcases h with rfl | rfl | rfl | rfl | rfl
  · rw [show inD "entry" i = .str (("\x21" : Str) ++ "entry") from rfl]
    exact ⟨by decide +kernel, by decide +kernel⟩
  · rw [show inD "twice" i = .tuple [.str "\x21twice", .int i] from rfl]
    refine ⟨?_, by simp [PyData.eqv, PyData.eqvAll]⟩
    show (PyData.canLay0 (.tuple [.str "\x21twice", .int i]) && decide (PyData.depth (.tuple [.str "\x21twice", .int i]) ≤ 64)) = true
    have h1 : PyData.canLay0 (.str "\x21twice") = true := by decide +kernel
    simp only [PyData.canLay0, PyData.canLayAll0, PyData.depth, PyData.depthAll] at h1 ⊢
    rw [h1]
    rfl
  · rw [show inD "name" i = .str (("\x21" : Str) ++ "name") from rfl]
    exact ⟨by decide +kernel, by decide +kernel⟩
  · rw [show inD "many" i = .str (("\x21" : Str) ++ "many") from rfl]
    exact ⟨by decide +kernel, by decide +kernel⟩
  · rw [show inD "ok" i = .none from rfl]
    exact ⟨by decide +kernel, by decide +kernel⟩
theorem shaped_out {dd : Str} {i : Int} (h : dd = "missing" ∨ dd = "named" ∨ dd = "ok") : SeqAt.shaped (outD dd i) = true ∧ PyData.eqv (outD dd i) (outD dd i) = true := by
  rcases h with rfl | rfl | rfl
  · rw [show outD "missing" i = .str (("\x21" : Str) ++ "missing") from rfl]
    exact ⟨by decide +kernel, by decide +kernel⟩
  · rw [show outD "named" i = .tuple [.str "\x21named", .int i] from rfl]
    refine ⟨?_, by simp [PyData.eqv, PyData.eqvAll]⟩
    show (PyData.canLay0 (.tuple [.str "\x21named", .int i]) && decide (PyData.depth (.tuple [.str "\x21named", .int i]) ≤ 64)) = true
    have h1 : PyData.canLay0 (.str "\x21named") = true := by decide +kernel
    simp only [PyData.canLay0, PyData.canLayAll0, PyData.depth, PyData.depthAll] at h1 ⊢
    rw [h1]
    rfl
  · rw [show outD "ok" i = .none from rfl]
    exact ⟨by decide +kernel, by decide +kernel⟩
theorem dueO_words (zs : List (Addr × En)) (tn : Tg) : dueO zs tn = "missing" ∨ dueO zs tn = "named" ∨ dueO zs tn = "ok" := by
  rcases dueO_or zs tn with ⟨h, _⟩ | ⟨_, _, _, ⟨_, h⟩ | ⟨_, h⟩⟩
  · exact .inl h
  · exact .inr (.inr h)
  · exact .inr (.inl h)
/-- a refusal of an entry more, as told -/
theorem said_in {c : Cl7} {n : Nat} {es : List En} {te : Tg} {dd : Str} {Q : VK} {d : Option Addr} {H : Hp} (hD : DueT n es te dd) (hno : dd ≠ "ok") (ht : dd = "twice" → ∃ dx, d = some dx ∧ H dx = some (.xd [("at", .int (numT te))])) (q : ∀ u H', Same H H' → InV H' u dd (numT te) → Q u H') : saidX c Q (.ref (refC c.E c.T c.N c.M dd)) d H := by
  rcases due_words hD with rfl | rfl | rfl | rfl | rfl
  · exact .inl ⟨rfl, q _ H (same_refl _) (.inr (.inr ⟨by decide, by decide, rfl⟩))⟩
  · obtain ⟨dx, rfl, e⟩ := ht rfl
    exact .inr (.inl ⟨rfl, dx, _, rfl, e, fun t nt => q _ _ (same_new nt _) (.inr (.inl ⟨by decide, rfl, t, rfl, upd_same⟩))⟩)
  · exact .inr (.inr (.inl ⟨rfl, q _ H (same_refl _) (.inr (.inr ⟨by decide, by decide, rfl⟩))⟩))
  · exact .inr (.inr (.inr (.inl ⟨rfl, q _ H (same_refl _) (.inr (.inr ⟨by decide, by decide, rfl⟩))⟩)))
  · exact absurd rfl hno
theorem said_out {c : Cl7} {zs : List (Addr × En)} {m i : Int} {Q : VK} {d : Option Addr} {H : Hp} (hno : dueO zs (.int m) ≠ "ok") (ht : dueO zs (.int m) = "named" → ∃ dx, d = some dx ∧ H dx = some (.xd [("by", .int i)])) (q : ∀ u H', Same H H' → OutV H' u (dueO zs (.int m)) i → Q u H') : saidX c Q (.ref (if dueO zs (.int m) = "missing" then c.I else c.J)) d H := by
  rcases dueO_words zs (.int m) with h | h | h
  · rw [h] at q ⊢
    rw [if_pos rfl]
    exact .inr (.inr (.inr (.inr (.inl ⟨rfl, q _ H (same_refl _) (.inr (.inr ⟨by decide, by decide, rfl⟩))⟩))))
  · obtain ⟨dx, rfl, e⟩ := ht h
    rw [h] at q ⊢
    rw [if_neg (by decide)]
    exact .inr (.inr (.inr (.inr (.inr (.inl ⟨rfl, dx, _, rfl, e, fun t nt => q _ _ (same_new nt _) (.inr (.inl ⟨by decide, rfl, t, rfl, upd_same⟩))⟩)))))
  · exact absurd h hno
end Deed

namespace Deed
open PySem PySem.Spec PyProof.Rows L2 LamX
/-! ### a step: a deed or an undoing -/
theorem TolV.in_eq {K : PySem.W.Frag} {H : Hp} {u v : V} {dd : Str} {i : Int} {Q : VK} (h1 : InV H u dd i) (h2 : InV H v dd i) (hd : dd = "entry" ∨ dd = "twice" ∨ dd = "name" ∨ dd = "many" ∨ dd = "ok") (q : Q (.bl true) H) : rEqD K u v H Q := by
  obtain ⟨a, b⟩ := shaped_in (i := i) hd
  exact ⟨_, _, h1.in_dp, h2.in_dp, a, a, by rw [b]; exact q⟩
theorem TolV.out_eq {K : PySem.W.Frag} {H : Hp} {u v : V} {dd : Str} {i : Int} {Q : VK} (h1 : OutV H u dd i) (h2 : OutV H v dd i) (hd : dd = "missing" ∨ dd = "named" ∨ dd = "ok") (q : Q (.bl true) H) : rEqD K u v H Q := by
  obtain ⟨a, b⟩ := shaped_out (i := i) hd
  exact ⟨_, _, h1.out_dp, h2.out_dp, a, a, by rw [b]; exact q⟩
theorem PenAt.xs {C x l p : Addr} {H H' : Hp} {b : Addr} {es : List V} (h : PenAt H p) (s : XS x l H H') (hSc : ScAt C H x b l es) (n : l ≠ p) : PenAt H' p := by
  obtain ⟨⟨dx, h1⟩, _⟩ := hSc
  obtain ⟨x1, x2, x3, x4, z1, z2⟩ := h
  exact ⟨x1, x2, x3, x4, s _ _ (fun z => by rw [z, h1] at z1; cases z1) n.symm z1 (fun ps z => by cases z), z2⟩
/-- all but the pen, the scribe and the two lists (and the tables) is as it was -/
def XW (p x l lp : Addr) (H H' : Hp) : Prop := ∀ c o, c ≠ p → c ≠ x → c ≠ l → c ≠ lp → H c = some o → (∀ ps, o ≠ .tbl ps) → H' c = some o
section
variable {p x l lp : Addr} {H H1 H2 : Hp}
theorem XW.trans (a : XW p x l lp H H1) (b : XW p x l lp H1 H2) : XW p x l lp H H2 := fun c o n1 n2 n3 n4 h t => b c o n1 n2 n3 n4 (a c o n1 n2 n3 n4 h t) t
theorem XW.ofK (k : Kp p H H1) : XW p x l lp H H1 := fun c o n1 _ _ _ h _ => k c o n1 h
theorem XW.ofS (k : Same H H1) : XW p x l lp H H1 := fun c o _ _ _ _ h _ => k c o h
theorem XW.ofN (k : ExtN H H1) : XW p x l lp H H1 := fun c o _ _ _ _ h t => k c o h t
theorem XW.ofX (k : XS x l H H1) : XW p x l lp H H1 := fun c o _ n2 n3 _ h t => k c o n2 n3 h t
theorem XW.lst (u : HO) : XW p x l lp H (upd H lp u) := fun c o _ _ _ n4 h _ => by rw [upd_ne n4]; exact h
end
/-- an undoing -/
theorem Hst.undone {C : Addr} {H H' : Hp} {x l lp fk : Addr} {n : Nat} {age : Int} {fs : List Stg} {sl cu : Stg} (h : Hst C H x l lp fk n age (fs ++ [sl]) cu) (k : KpT H H') (sc : ScAt C H' x sl.b l (fs.map fun s => V.ref s.b)) (ls : H' lp = some (.lst ((fs.map fun s => V.ref s.o) ++ [.ref sl.o]))) : Hst C H' x l lp fk n age fs sl :=
  ⟨sc, ls, fun s hs => (h.at_ s (List.mem_append.mpr (.inl hs))).kp k, (h.at_ sl (by simp)).kp k, ⟨fun z => h.first.2 sl [] (by rw [z]; rfl), fun s r z => h.first.2 s (r ++ [sl]) (by rw [z]; rfl)⟩, h.nl⟩
/-- a deed -/
theorem Hst.done {C : Addr} {H H' : Hp} {x l lp fk : Addr} {n : Nat} {age : Int} {hs : List Stg} {cu nu : Stg} (h : Hst C H x l lp fk n age hs cu) (k : KpT H H') (sc : ScAt C H' x nu.b l ((hs.map fun s => V.ref s.b) ++ [.ref cu.b])) (ls : H' lp = some (.lst (((hs.map fun s => V.ref s.o) ++ [.ref cu.o]) ++ [.ref nu.o]))) (hn : StgAt H' fk n age nu) : Hst C H' x l lp fk n age (hs ++ [cu]) nu := by
  refine ⟨by rw [List.map_append]; exact sc, by rw [List.map_append]; exact ls, fun s hs' => ?_, hn, ⟨fun z => absurd z (by simp), fun s r z => ?_⟩, h.nl⟩
  · rcases List.mem_append.mp hs' with h1 | h1
    · exact (h.at_ s h1).kp k
    · rw [List.mem_singleton.mp h1]
      exact h.cur.kp k
  · cases hs with
    | nil =>
      injection z with z1 z2
      rw [← z1]
      exact h.first.1 rfl
    | cons a t =>
      injection z with z1 z2
      rw [← z1]
      exact h.first.2 a t rfl
section
variable {P : Program} {w : World} {K : PySem.W.Frag} {mg : Str → Option Value} {base : Heap} {T : List (Addr × Str)} {C : Addr}
abbrev sLStep : Stmt := topS 75
abbrev nLStep : List Str := ["_law_pen_here", "_law_scribe", "_law_past", "_law_way", "_law_book", "_law_due", "_law_number", "_law_entry"]
abbrev pLStep : List Str := ["_law_pen_here", "_law_scribe", "_law_past"]
theorem scLStep : FnScope nLStep pLStep (defScope sLStep) := ⟨rfl, rfl, rfl, by decide +kernel, rfl, by decide +kernel, by decide +kernel⟩
def qStep : Str := "_law_step.<locals>.<lambda>"
def spLStep (C : Addr) (T : List (Addr × Str)) : Sp := fun vs H Q _ => ∃ (p x l lp fk : Addr) (n : Nat) (age : Int) (hs : List Stg) (cu : Stg), vs = [.ref p, .ref x, .ref lp] ∧ PenAt H p ∧ Hst C H x l lp fk n age hs cu ∧ hs.length ≤ 800 ∧ l ≠ p ∧ lp ≠ p ∧ Tabs T H ∧
  ∀ hs' cu' H', KpT H H' → XW p x l lp H H' → PenAt H' p → Tabs T H' → Hst C H' x l lp fk n age hs' cu' → hs'.length ≤ hs.length + 1 → Q (.bl true) H'
theorem ok_LStep {f c tb g : Addr} {fd gd : FuncData} {k : Nat} {cl : Cl7} (F : Fun K "_law_step" "_law_step" sLStep f fd) (hc : fd.code = .ref c) (TB : TabB base mg c tb) (hmT : (tb, qStep) ∈ T) (hu : ∀ p ∈ T, p.1 = tb → p.2 = qStep) (S : ScT K mg C) (S7 : Sd7 K mg cl) (DS : Df K mg "_law_said" sLSaid ["_law_call"] g gd)
    (C_un : CallM P w K mg base (L2.CX P w) k C "undo" nScB (spScU C cl.G T)) (C_te : CallM P w K mg base (L2.CX P w) k C "tear" nScR (spScRA C cl.I cl.J T)) (C_wr : CallM P w K mg base (L2.CX P w) k C "write" nScW (spScWA C cl.E cl.T cl.N cl.M T))
    (C__law_draw : CallOk P w K mg base (k + 2) "_law_draw" ["_law_pen_here", "_law_bound"] spDraw) (C__law_due_less : CallOk P w K mg base (k + 2) "_law_due_less" pLDueLess spLDueLess) (C__law_less : CallOk P w K mg base (k + 2) "_law_less" pLLess spLLess) (C__law_new_entry : CallOk P w K mg base (k + 2) "_law_new_entry" pLNewEnt spLNewEnt) (C__law_spoilt : CallOk P w K mg base (k + 2) "_law_spoilt" pLSpoilt (spLSpoilt 3)) (C__law_due_in : CallOk P w K mg base (k + 2) "_law_due_in" pLDueIn spLDueIn) (C__law_with : CallOk P w K mg base (k + 2) "_law_with" pLWith spLWith)
    (m_len : mg "len" = none) (m_int : mg "int" = none) : FnOk P w K mg base CX0 (k + 3) f fd pLStep (spLStep C T) := by
  refine okC F hc scLStep (fun vs H Q E h => ?_) (fun A outer s H vs Q E hr h => ?_)
  · obtain ⟨p, x, l, lp, fk, n, age, hs, cu, rfl, _⟩ := h
    rfl
  · obtain ⟨p, x, l, lp, fk, n, age, hs, cu, rfl, hP, hH, hlen, nlp, nqp, hT, q⟩ := h
    have nd := scLStep.nd
    refine ⟨_, pss_cons (ps_par (i := 3) (j := 4) (by rfl) nd rfl rfl (by decide) rfl rfl (pa_cons (pe_call C__law_draw.ok hr (by rfl) C__law_draw.g C__law_draw.kp C__law_draw.b .nil pass0 (pa_cons (pv 0) (pa_cons pe_int pa_nil))) (pa_cons (pe_ix ix_list (pv 2) (pe_un un_neg pe_int) (fun _ _ => rfl)) pa_nil)) (by rfl))
      (pss_cons (ps_if (pt_cmpR op_eq (pv 3) pe_int (nomark _)) (pss_cons (ps_set (i := 5) nd rfl (.inl rfl) (pe_ix ix_list (pe_lst (pa_cons pe_str (pa_cons pe_non pa_nil))) (pe_callTy call_int1 (by rfl) m_int (by decide +kernel) (pa_cons (pe_cmpR op_gt (pe_callB call_len_seq (by rfl) m_len (by decide +kernel) (pa_cons (pv 2) pa_nil)) pe_int (nomark _)) pa_nil)) (fun _ _ => rfl)))
      (pss_cons (ps_if (pt_cmpR op_gt (pe_callB call_len_seq (by rfl) m_len (by decide +kernel) (pa_cons (pv 2) pa_nil)) pe_int (nomark _)) (pss_one (ps_expr (pe_bm0 PySem.F.plainAttrs_list PySem.F.slot_list_pop PySem.F.type_list_pop mt_pop (pv 2)))) pss_nil)
      (pss_one (ps_ret (pe_cmpR (op_eqD hr.units) (pe_said (T := T) (c := c) (P := tb) (k := k) DS S7 rfl TB rfl hmT hu hr (lamS_by (sc := defScope sLStep) (by decide +kernel)) rfl (fun _ _ _ _ _ => rfl) (fun A outer s H E f c' hr' => pe_meth0 (pv 1) S.cl C_un.h C_un.ok hr' C_un.b .nil (passes_call (takes_of rfl rfl rfl rfl) (fun _ _ _ _ h => h)))) (pv 5) (nomark _)))))) pss_nil)
      (pss_cons (ps_if (pt_cmpR op_eq (pv 3) pe_int (nomark _)) (pss_cons (ps_set (i := 6) nd rfl (.inr rfl) (pe_ix ix_list (pe_lst (pa_cons (pe_call C__law_draw.ok hr (by rfl) C__law_draw.g C__law_draw.kp C__law_draw.b .nil pass0 (pa_cons (pv 0) (pa_cons pe_int pa_nil))) (pa_cons (pe_ix ix_tup (pe_ix ix_tup (pe_op op_catA (pe_ix ix_tup (pv 4) pe_int (fun _ _ => rfl)) (pe_tup (pa_cons (pe_tup (pa_cons pe_int pa_nil)) pa_nil))) (pe_un un_neg pe_int) (fun _ _ => rfl)) pe_int (fun _ _ => rfl)) (pa_cons (pe_un un_neg pe_int) pa_nil)))) (pe_op op_fdiv (pe_call C__law_draw.ok hr (by rfl) C__law_draw.g C__law_draw.kp C__law_draw.b .nil pass0 (pa_cons (pv 0) (pa_cons pe_int pa_nil))) pe_int) (fun _ _ => rfl)))
      (pss_cons (ps_set (i := 5) nd rfl (.inl rfl) (pe_call C__law_due_less.ok hr (by rfl) C__law_due_less.g C__law_due_less.kp C__law_due_less.b .nil pass0 (pa_cons (pv 4) (pa_cons (pv 6) pa_nil))))
      (pss_cons (ps_if (pt_cmpR op_isN (pv 5) pe_non (nomark _)) (pss_one (ps_expr (pe_bm PySem.F.plainAttrs_list PySem.F.slot_list_append PySem.F.type_list_append mt_append (pv 2) (pa_cons (pe_call C__law_less.ok hr (by rfl) C__law_less.g C__law_less.kp C__law_less.b .nil pass0 (pa_cons (pv 4) (pa_cons (pv 6) pa_nil))) pa_nil)))) pss_nil)
      (pss_one (ps_ret (pe_cmpR (op_eqD hr.units) (pe_said (T := T) (c := c) (P := tb) (k := k) DS S7 rfl TB rfl hmT hu hr (lamS_by (sc := defScope sLStep) (by decide +kernel)) rfl (fun _ _ _ _ _ => rfl) (fun A outer s H E f c' hr' => pe_meth (pv 1) S.cl C_te.h C_te.ok hr' C_te.b .nil (passes_call (takes_of rfl rfl rfl rfl) (fun _ _ _ _ h => h)) (pa_cons (pv 6) pa_nil))) (pv 5) (nomark _))))))) pss_nil)
      (pss_cons (ps_set (i := 7) nd rfl (.inr rfl) (pe_call C__law_new_entry.ok hr (by rfl) C__law_new_entry.g C__law_new_entry.kp C__law_new_entry.b .nil pass0 (pa_cons (pv 0) (pa_cons (pv 4) pa_nil))))
      (C8.pss_cut (ps_if (pt_cmpR op_eq (pv 3) pe_int (nomark _)) (pss_one (ps_set (i := 7) nd rfl (.inr rfl) (pe_call C__law_spoilt.ok hr (by rfl) C__law_spoilt.g C__law_spoilt.kp C__law_spoilt.b .nil pass0 (pa_cons (pv 0) (pa_cons (pv 7) pa_nil))))) pss_nil)
      (pss_cons (ps_set (i := 5) nd rfl (.inl rfl) (pe_call C__law_due_in.ok hr (by rfl) C__law_due_in.g C__law_due_in.kp C__law_due_in.b .nil pass0 (pa_cons (pv 4) (pa_cons (pv 7) pa_nil))))
      (pss_cons (ps_if (pt_cmpR op_isN (pv 5) pe_non (nomark _)) (pss_one (ps_expr (pe_bm PySem.F.plainAttrs_list PySem.F.slot_list_append PySem.F.type_list_append mt_append (pv 2) (pa_cons (pe_call C__law_with.ok hr (by rfl) C__law_with.g C__law_with.kp C__law_with.b .nil pass0 (pa_cons (pv 4) (pa_cons (pv 7) pa_nil))) pa_nil)))) pss_nil)
      (pss_one (ps_ret (pe_cmpR (op_eqD hr.units) (pe_said (T := T) (c := c) (P := tb) (k := k) DS S7 rfl TB rfl hmT hu hr (lamS_by (sc := defScope sLStep) (by decide +kernel)) rfl (fun _ _ _ _ _ => rfl) (fun A outer s H E f c' hr' => pe_meth (pv 1) S.cl C_wr.h C_wr.ok hr' C_wr.b .nil (passes_call (takes_of rfl rfl rfl rfl) (fun _ _ _ _ h => h)) (pa_cons (pv 7) pa_nil))) (pv 5) (nomark _)))))))))), ?_⟩
    refine ⟨_, rfl, p, 8, rfl, hP, by decide, by decide, fun way H1 k1 P1 a1 b1 => ?_⟩
    have hH1 := hH.xp (XP.ofK k1) hP nlp nqp
    have T1 := Tabs.kp hT k1 hP
    have k01 : KpT H H1 := k1.tup hP
    have w01 : XW p x l lp H H1 := .ofK k1
    refine ⟨_, rfl, _, rfl, lp, _, _, _, rfl, rfl, SqL.of hH1.ls, atI_last _ _, _, _, rfl, ?_⟩
    refine ⟨_, rfl, rfl, _, rfl, ?_⟩
    rw [dec_intE]
    refine ite2 (fun c0 => ?_) (fun c0 => ?_)
    · -- an undoing
      refine ⟨(by show 2 ≤ sizeLine; decide), fun l1 nl1 => ?_⟩
      have s2 := same_new nl1 (.lst [.str "\x21nothing", .non])
      have e2 : (upd H1 l1 (.lst [.str "\x21nothing", .non])) l1 = some (.lst [.str "\x21nothing", .non]) := upd_same
      have P2 := P1.new nl1 (.lst [.str "\x21nothing", .non])
      have T2 := T1.ext s2
      generalize (upd H1 l1 (.lst [.str "\x21nothing", .non])) = H2 at s2 e2 P2 T2
      have hH2 := hH1.xp (XP.ofS s2) P1 nlp nqp
      refine ⟨_, rfl, lp, _, rfl, .inl (SqL.of hH2.ls), _, _, rfl, rfl, .inr ⟨_, rfl, ?_⟩⟩
      rcases List.eq_nil_or_concat hs with rfl | ⟨fs, sl, rfl⟩
      · refine ⟨l1, _, _, .str "\x21nothing", rfl, rfl, SqL.of e2, rfl, ?_⟩
        refine ⟨_, rfl, lp, _, rfl, .inl (SqL.of hH2.ls), _, _, rfl, rfl, _, rfl, ?_⟩
        refine iteF ?_
        refine ⟨T2, fun H3 e3 T3 => ?_⟩
        have hH3 := hH2.xp (XP.ofN e3) P2 nlp nqp
        obtain ⟨dx, hx⟩ := hH3.sc.ob
        refine ⟨_, rfl, x, dx, _, rfl, hx, sfl_no _ _ (by decide +kernel) (by decide +kernel), x, cu.b, l, _, rfl, hH3.sc, T3, fun _ => ?_, fun fs r0 z => absurd z (by simp)⟩
        refine .inr (.inr (.inr (.inr (.inr (.inr ⟨rfl, ?_⟩)))))
        refine ⟨_, rfl, _, _, .str _, .str _, by decide +kernel, by decide +kernel, ?_⟩
        rw [show PyData.eqv (.str "\x21nothing") (.str "\x21nothing") = true by decide +kernel]
        exact q [] cu H3 (k01.trans ((Same.tup s2).trans (ExtN.tup e3))) (w01.trans ((XW.ofS s2).trans (.ofN e3))) (ExtN.pen e3 P2) T3 hH3 (Nat.zero_le _)
      · rw [List.concat_eq_append] at hH hH1 hH2 hlen q ⊢
        have hgt : ((((fs ++ [sl]).map fun s => V.ref s.o) ++ [V.ref cu.o]).length : Int) > 1 := by
          rw [List.length_append, List.length_map, List.length_append]
          show (((fs.length + 1 + 1 : Nat)) : Int) > 1
          omega
        refine ⟨l1, _, _, .non, rfl, rfl, SqL.of e2, (by rw [decide_eq_true hgt]; rfl), ?_⟩
        refine ⟨_, rfl, lp, _, rfl, .inl (SqL.of hH2.ls), _, _, rfl, rfl, _, rfl, ?_⟩
        rw [decide_eq_true hgt]
        refine iteT ?_
        refine ⟨_, rfl, .inl ⟨rfl, _, SqL.of hH2.ls⟩, lp, _, .ref cu.o, rfl, rfl, hH2.ls, (by rw [List.length_append, List.getElem?_append_right (by simp)]; simp), ?_⟩
        rw [List.dropLast_concat]
        have hls := hH2.ls
        have k3 : KpT H2 (upd H2 lp (.lst ((fs ++ [sl]).map fun s => V.ref s.o))) := KpT.lst hls _
        have w3 : XW p x l lp H2 (upd H2 lp (.lst ((fs ++ [sl]).map fun s => V.ref s.o))) := .lst _
        have T3 : Tabs T (upd H2 lp (.lst ((fs ++ [sl]).map fun s => V.ref s.o))) := Tabs.put T2 hls _
        have P3 : PenAt (upd H2 lp (.lst ((fs ++ [sl]).map fun s => V.ref s.o))) p := P2.put nqp _
        have e3 : (upd H2 lp (.lst ((fs ++ [sl]).map fun s => V.ref s.o))) lp = some (.lst ((fs.map fun s => V.ref s.o) ++ [.ref sl.o])) := by rw [upd_same, List.map_append]; rfl
        have sc3 : ScAt C (upd H2 lp (.lst ((fs ++ [sl]).map fun s => V.ref s.o))) x cu.b l ((fs ++ [sl]).map fun s => V.ref s.b) := by
          obtain ⟨⟨dx, hx⟩, hl⟩ := hH2.sc
          exact ⟨⟨dx, by rw [upd_ne fun z => by rw [z, hls] at hx; cases hx]; exact hx⟩, by rw [upd_ne hH.nl]; exact hl⟩
        generalize (upd H2 lp (.lst ((fs ++ [sl]).map fun s => V.ref s.o))) = H3 at k3 w3 T3 P3 e3 sc3
        refine ⟨T3, fun H4 e4 T4 => ?_⟩
        have sc4 := sc3.extN e4
        obtain ⟨dx, hx⟩ := sc4.ob
        refine ⟨_, rfl, x, dx, _, rfl, hx, sfl_no _ _ (by decide +kernel) (by decide +kernel), x, cu.b, l, _, rfl, sc4, T4, fun z => absurd z (by simp), fun gs r0 hz => ?_⟩
        have hz' : (fs.map fun s => V.ref s.b) ++ [V.ref sl.b] = gs ++ [r0] := by rw [← hz, List.map_append]; rfl
        obtain ⟨hz1, hz2⟩ := List.append_inj' hz' rfl
        injection hz2 with hz2
        subst hz1 hz2
        refine ⟨sl.b, rfl, fun H5 xs5 T5 sc5 => ?_⟩
        have k05 : KpT H H5 := k01.trans ((Same.tup s2).trans (k3.trans ((ExtN.tup e4).trans (xs5.tup sc4))))
        have e5 : H5 lp = some (.lst ((fs.map fun s => V.ref s.o) ++ [.ref sl.o])) := xs5 _ _ (fun z => by have h1 := e4 _ _ e3 (fun ps z => by cases z); rw [z, hx] at h1; cases h1) hH.nl.symm (e4 _ _ e3 fun ps z => by cases z) fun ps z => by cases z
        refine ⟨_, rfl, .none, .none, .non, .non, by decide +kernel, by decide +kernel, ?_⟩
        rw [show PyData.eqv .none .none = true by decide +kernel]
        exact q fs sl H5 k05 (w01.trans ((XW.ofS s2).trans (w3.trans ((XW.ofN e4).trans (.ofX xs5))))) (PenAt.xs (ExtN.pen e4 P3) xs5 sc4 nlp) T5 (hH.undone k05 sc5 e5) (by rw [List.length_append]; omega)
    refine ⟨_, rfl, rfl, _, rfl, ?_⟩
    rw [dec_intE]
    refine ite2 (fun c1 => ?_) (fun c1 => ?_)
    · -- a tearing
      refine ⟨_, rfl, p, 31, rfl, P1, by decide, by decide, fun m0 H2 k2 P2 a2 b2 => ?_⟩
      have hH2 := hH1.xp (XP.ofK k2) P1 nlp nqp
      have T2 := Tabs.kp T1 k2 P1
      have hO2 := hH2.cur.his
      refine ⟨_, rfl, cu.o, _, 2, _, rfl, rfl, SqT.of hO2.at_, (atI_nat (j := 2) rfl), (by show 1 ≤ sizeLine; decide), fun t3 nt3 => ⟨(by show 1 ≤ sizeLine; decide), fun t4 nt4 => ?_⟩⟩
      have s3 := same_new nt3 (.tup [.int 7])
      have e3 : (upd H2 t3 (.tup [.int 7])) t3 = some (.tup [.int 7]) := upd_same
      generalize (upd H2 t3 (.tup [.int 7])) = H3 at s3 e3 nt4
      have s4 := same_new nt4 (.tup [.ref t3])
      have e4 : (upd H3 t4 (.tup [.ref t3])) t4 = some (.tup [.ref t3]) := upd_same
      generalize (upd H3 t4 (.tup [.ref t3])) = H4 at s4 e4
      have hlo := hO2.len
      refine catA_same (s4 _ _ (s3 _ _ hO2.ents)) e4 (by rw [List.length_map]; show _ + 1 ≤ 1000; omega) fun t5 H5 s5 e5 => ?_
      have s25 := s3.trans (s4.trans s5)
      refine ⟨_, rfl, t5, _, _, _, rfl, rfl, SqT.of e5, atI_last _ _, t3, _, 0, _, rfl, rfl, SqT.of (s5 _ _ (s4 _ _ e3)), (atI_nat (j := 0) rfl), _, rfl, (by show 3 ≤ sizeLine; decide), fun l6 nl6 => ?_⟩
      have s6 := same_new nl6 (.lst [.int m0, .int 7, .int (-1)])
      have e6 : (upd H5 l6 (.lst [.int m0, .int 7, .int (-1)])) l6 = some (.lst [.int m0, .int 7, .int (-1)]) := upd_same
      have P5 : PenAt H5 p := ExtN.pen (.of s25) P2
      have P6 := P5.new nl6 (.lst [.int m0, .int 7, .int (-1)])
      have n6p := P5.free nl6
      generalize (upd H5 l6 (.lst [.int m0, .int 7, .int (-1)])) = H6 at s6 e6 P6
      have s26 := s25.trans s6
      refine ⟨_, rfl, p, 6, rfl, P6, by decide, by decide, fun v7 H7 k7 P7 a7 b7 => ⟨_, _, rfl, rfl, ⟨by show (0 : Int) < 2; decide, by show (2 : Int) < 2 ^ 30; decide⟩, ?_⟩⟩
      obtain ⟨_, gm, m, rfl⟩ := pick (i := v7 / 2) (xs := [V.int m0, .int 7, .int (-1)]) (fun v => ∃ m : Int, v = .int m) (by omega) (by show v7 / 2 < 3; omega) (am1 ⟨_, rfl⟩ (am1 ⟨_, rfl⟩ (am1 ⟨_, rfl⟩ am0)))
      refine ⟨l6, _, _, _, rfl, rfl, SqL.of (k7 _ _ n6p e6), gm, ?_⟩
      have k27 : Kp p H2 H7 := (Kp.same s26).trans k7
      have hH7 := hH2.xp (XP.ofK k27) P2 nlp nqp
      have T7 := Tabs.kp T2 k27 P2
      have k07 : KpT H H7 := k01.trans ((k2.tup P1).trans (k27.tup P2))
      have w07 : XW p x l lp H H7 := w01.trans ((XW.ofK k2).trans (.ofK k27))
      refine ⟨_, rfl, _, rfl, cu.o, fk, cu.u, n, age, m, cu.zs, rfl, hH7.cur.his, fun u i H8 s8 hu8 hn8 => ?_⟩
      have hH8 := hH7.xp (XP.ofS s8) P7 nlp nqp
      have T8 := T7.ext s8
      have P8 := ExtN.pen (.of s8) P7
      have k08 := k07.trans (Same.tup s8)
      have w08 : XW p x l lp H H8 := w07.trans (.ofS s8)
      have hwd := dueO_words cu.zs (.int m)
      refine ⟨_, rfl, rfl, _, rfl, ?_⟩
      by_cases hok : dueO cu.zs (.int m) = "ok"
      · rw [decide_eq_true (hu8.non.mpr hok)]
        refine iteT ?_
        obtain ⟨hm, hna⟩ : m ∈ (ens cu.zs).map (·.num) ∧ namers cu.zs m = [] := by
          rcases dueO_or cu.zs (.int m) with ⟨h, _⟩ | ⟨m', hm', hm, ⟨hna, _⟩ | ⟨_, h⟩⟩
          · exact absurd (h.symm.trans hok) (by decide)
          · cases hm'
            exact ⟨hm, hna⟩
          · exact absurd (h.symm.trans hok) (by decide)
        refine ⟨_, rfl, .inl ⟨rfl, _, SqL.of hH8.ls⟩, _, rfl, _, rfl, cu.o, fk, cu.u, n, age, m, cu.zs, rfl, hH8.cur.his, hm, hna, fun o' u' H9 s9 hO9 => ?_⟩
        have hH9 := hH8.xp (XP.ofS s9) P8 nlp nqp
        have hls := hH9.ls
        refine ⟨lp, _, _, rfl, rfl, hls, small1000 (by rw [List.length_append, List.length_map]; show _ + 1 ≤ 1000; omega), ?_⟩
        have k10 : KpT H9 (upd H9 lp (.lst (((hs.map fun s => V.ref s.o) ++ [V.ref cu.o]) ++ [.ref o']))) := KpT.lst hls _
        have w10 : XW p x l lp H9 (upd H9 lp (.lst (((hs.map fun s => V.ref s.o) ++ [V.ref cu.o]) ++ [.ref o']))) := .lst _
        have T10 : Tabs T (upd H9 lp (.lst (((hs.map fun s => V.ref s.o) ++ [V.ref cu.o]) ++ [.ref o']))) := Tabs.put (T8.ext s9) hls _
        have P10 : PenAt (upd H9 lp (.lst (((hs.map fun s => V.ref s.o) ++ [V.ref cu.o]) ++ [.ref o']))) p := (ExtN.pen (.of s9) P8).put nqp _
        have e10 : (upd H9 lp (.lst (((hs.map fun s => V.ref s.o) ++ [V.ref cu.o]) ++ [.ref o']))) lp = some (.lst (((hs.map fun s => V.ref s.o) ++ [V.ref cu.o]) ++ [.ref o'])) := upd_same
        have sc10 : ScAt C (upd H9 lp (.lst (((hs.map fun s => V.ref s.o) ++ [V.ref cu.o]) ++ [.ref o']))) x cu.b l (hs.map fun s => V.ref s.b) := by
          obtain ⟨⟨dx, hx⟩, hl⟩ := hH9.sc
          exact ⟨⟨dx, by rw [upd_ne fun z => by rw [z, hls] at hx; cases hx]; exact hx⟩, by rw [upd_ne hH.nl]; exact hl⟩
        generalize (upd H9 lp (.lst (((hs.map fun s => V.ref s.o) ++ [V.ref cu.o]) ++ [.ref o']))) = H10 at k10 w10 T10 P10 e10 sc10
        refine ⟨T10, fun H11 e11 T11 => ?_⟩
        have sc11 := sc10.extN e11
        obtain ⟨dx, hx⟩ := sc11.ob
        have k911 : KpT H9 H11 := k10.trans (ExtN.tup e11)
        refine ⟨_, rfl, x, dx, _, rfl, hx, sfl_no _ _ (by decide +kernel) (by decide +kernel), _, rfl, p, x, cu.b, l, fk, cu.t, _, n, age, m, cu.zs, rfl, sc11, (by rw [List.length_map]; omega), hH9.cur.mine.kp k911, T11, fun _ b2 t2 zs2 H12 xs12 T12 sc12 hB12 pm so => ?_, fun z => absurd hok z⟩
        have k1112 := xs12.tup sc11
        have k012 : KpT H H12 := k08.trans ((Same.tup s9).trans (k911.trans k1112))
        have hzz : zs2 = cu.zs.filter fun z => !decide (z.2.num = m) := up_pair so (hH.cur.up.filter _) pm
        subst hzz
        refine ⟨_, rfl, TolV.out_eq (dd := dueO cu.zs (.int m)) (i := i) (.inl ⟨hok, rfl⟩) (hu8.kp ((Same.tup s9).trans (k911.trans k1112))) hwd ?_⟩
        refine q (hs ++ [cu]) ⟨b2, t2, o', u', _⟩ H12 k012 (w08.trans ((XW.ofS s9).trans (w10.trans ((XW.ofN e11).trans (.ofX xs12))))) (PenAt.xs (ExtN.pen e11 P10) xs12 sc11 nlp) T12 (hH.done k012 sc12 ?_ ⟨hB12, hO9.kp (k911.trans k1112), hH.cur.up.filter _⟩) (by rw [List.length_append]; exact Nat.le_refl _)
        exact xs12 _ _ (fun z => by have h1 := e11 _ _ e10 (fun ps z => by cases z); rw [z, hx] at h1; cases h1) hH.nl.symm (e11 _ _ e10 fun ps z => by cases z) fun ps z => by cases z
      · rw [decide_eq_false fun z => hok (hu8.non.mp z)]
        refine iteF ?_
        refine ⟨T8, fun H9 e9 T9 => ?_⟩
        have hH9 := hH8.xp (XP.ofN e9) P8 nlp nqp
        obtain ⟨dx, hx⟩ := hH9.sc.ob
        refine ⟨_, rfl, x, dx, _, rfl, hx, sfl_no _ _ (by decide +kernel) (by decide +kernel), _, rfl, p, x, cu.b, l, fk, cu.t, _, n, age, m, cu.zs, rfl, hH9.sc, (by rw [List.length_map]; omega), hH9.cur.mine, T9, fun z => absurd z hok, fun _ d i' H10 s10 hnm => ?_⟩
        have hii : dueO cu.zs (.int m) = "named" → i' = i := fun z => Int.le_antisymm ((hnm z).2.1 _ (hn8 z).1) ((hn8 z).2 _ (hnm z).1)
        refine said_out (i := i) hok (fun z => ?_) fun v H11 s11 hv => ?_
        · obtain ⟨_, _, dxx, h1, h2⟩ := hnm z
          exact ⟨dxx, h1, by rw [← hii z]; exact h2⟩
        have s911 := s10.trans s11
        refine ⟨_, rfl, TolV.out_eq (dd := dueO cu.zs (.int m)) (i := i) hv (hu8.kp ((ExtN.tup e9).trans (Same.tup s911))) hwd ?_⟩
        have e811 : ExtN H8 H11 := e9.trans (.of s911)
        exact q hs cu H11 (k08.trans (ExtN.tup e811)) (w08.trans (.ofN e811)) (ExtN.pen e811 P8) (T9.ext s911) (hH8.xp (XP.ofN e811) P8 nlp nqp) (Nat.le_succ _)
    -- a writing
    refine ⟨_, rfl, _, rfl, p, cu.o, fk, cu.u, n, age, cu.zs, rfl, P1, hH1.cur.his, fun a2 e2 H2 k2 P2 ea wk nl eok => ?_⟩
    refine ⟨fun σ' H' => ∃ v te, σ' = [some (.ref p), some (.ref x), some (.ref lp), some (.int way), some (.ref cu.o), none, none, some v] ∧ Kp p H2 H' ∧ PenAt H' p ∧ TgAt p H' v te, ?_, ?_⟩
    · refine ⟨_, rfl, rfl, _, rfl, ?_⟩
      rw [dec_intE]
      refine ite2 (fun c => ?_) (fun c => ⟨_, _, rfl, Kp.refl _ _, P2, ea.tg⟩)
      refine ⟨_, rfl, _, rfl, p, .ref a2, entT e2, rfl, P2, ea.tg, entT_fits eok, fun v H3 k3 P3 hv => ?_⟩
      obtain ⟨te, hv⟩ := hv
      exact ⟨v, te, rfl, k3, P3, hv⟩
    rintro _ H3 ⟨v, te, rfl, k3, P3, hv3⟩
    have k13 : Kp p H1 H3 := k2.trans k3
    have hH3 := hH1.xp (XP.ofK k13) P1 nlp nqp
    have T3 := Tabs.kp T1 k13 P1
    have k03 : KpT H H3 := k01.trans (k13.tup P1)
    have w03 : XW p x l lp H H3 := w01.trans (.ofK k13)
    obtain ⟨dd, hD⟩ := dueT_ex n (ens cu.zs) te
    refine ⟨_, rfl, _, rfl, p, cu.o, fk, cu.u, n, age, cu.zs, v, te, dd, rfl, hH3.cur.his, hv3, hD, fun u H4 s4 hu4 => ?_⟩
    have hH4 := hH3.xp (XP.ofS s4) P3 nlp nqp
    have T4 := T3.ext s4
    have P4 := ExtN.pen (.of s4) P3
    have k04 := k03.trans (Same.tup s4)
    have w04 : XW p x l lp H H4 := w03.trans (.ofS s4)
    have hv4 := TgAt.same s4 _ _ hv3
    have hwd := due_words hD
    refine ⟨_, rfl, rfl, _, rfl, ?_⟩
    by_cases hok : dd = "ok"
    · rw [decide_eq_true (hu4.non.mpr hok)]
      refine iteT ?_
      obtain ⟨e, ete, hyes, hx0, hdd⟩ : ∃ e : En, te = entT e ∧ isEntT n te = true ∧ (∀ x o, e.kd = .act x o → x ≠ "deed") ∧ dd = dueS n (ens cu.zs) e := by
        rcases hD with ⟨_, h⟩ | h
        · rw [h] at hok
          exact absurd hok (by decide)
        · exact h
      obtain ⟨av, eav, hE4⟩ := entAt_of (ete ▸ hv4)
      subst eav
      obtain ⟨hM, hlt, _⟩ := due_ok hH.cur.his.ok (by rw [List.length_map]; exact hH.cur.his.len) (word_iff hx0) hx0 (hdd.symm.trans hok)
      rw [List.length_map] at hlt
      refine ⟨_, rfl, .inl ⟨rfl, _, SqL.of hH4.ls⟩, _, rfl, _, rfl, cu.o, fk, cu.u, av, n, age, cu.zs, e, rfl, hH4.cur.his, hE4, hM, hlt, fun o' u' zs1 H5 s5 hO5 pm1 so1 => ?_⟩
      have hH5 := hH4.xp (XP.ofS s5) P4 nlp nqp
      have hls := hH5.ls
      refine ⟨lp, _, _, rfl, rfl, hls, small1000 (by rw [List.length_append, List.length_map]; show _ + 1 ≤ 1000; omega), ?_⟩
      have k6 : KpT H5 (upd H5 lp (.lst (((hs.map fun s => V.ref s.o) ++ [V.ref cu.o]) ++ [.ref o']))) := KpT.lst hls _
      have w6 : XW p x l lp H5 (upd H5 lp (.lst (((hs.map fun s => V.ref s.o) ++ [V.ref cu.o]) ++ [.ref o']))) := .lst _
      have T6 : Tabs T (upd H5 lp (.lst (((hs.map fun s => V.ref s.o) ++ [V.ref cu.o]) ++ [.ref o']))) := Tabs.put (T4.ext s5) hls _
      have P6 : PenAt (upd H5 lp (.lst (((hs.map fun s => V.ref s.o) ++ [V.ref cu.o]) ++ [.ref o']))) p := (ExtN.pen (.of s5) P4).put nqp _
      have e6 : (upd H5 lp (.lst (((hs.map fun s => V.ref s.o) ++ [V.ref cu.o]) ++ [.ref o']))) lp = some (.lst (((hs.map fun s => V.ref s.o) ++ [V.ref cu.o]) ++ [.ref o'])) := upd_same
      have sc6 : ScAt C (upd H5 lp (.lst (((hs.map fun s => V.ref s.o) ++ [V.ref cu.o]) ++ [.ref o']))) x cu.b l (hs.map fun s => V.ref s.b) := by
        obtain ⟨⟨dx, hx⟩, hl⟩ := hH5.sc
        exact ⟨⟨dx, by rw [upd_ne fun z => by rw [z, hls] at hx; cases hx]; exact hx⟩, by rw [upd_ne hH.nl]; exact hl⟩
      generalize (upd H5 lp (.lst (((hs.map fun s => V.ref s.o) ++ [V.ref cu.o]) ++ [.ref o']))) = H6 at k6 w6 T6 P6 e6 sc6
      refine ⟨T6, fun H7 e7 T7 => ?_⟩
      have sc7 := sc6.extN e7
      obtain ⟨dx, hx⟩ := sc7.ob
      have k57 : KpT H5 H7 := k6.trans (ExtN.tup e7)
      have k47 : KpT H4 H7 := (Same.tup s5).trans k57
      have hv7 : TgAt p H7 (.ref av) te := by rw [ete]; exact (hE4.kp k47).tg
      refine ⟨_, rfl, x, dx, _, rfl, hx, sfl_no _ _ (by decide +kernel) (by decide +kernel), _, rfl, p, x, cu.b, l, fk, cu.t, _, n, age, cu.zs, .ref av, te, dd, rfl, sc7, (by rw [List.length_map]; omega), hH5.cur.mine.kp k57, hv7, hD, T7, fun _ a' e' b2 t2 zs2 H8 ha he hE7 xs8 T8 sc8 hB8 pm so => ?_, fun z => absurd hok z⟩
      injection ha with ha
      subst ha
      have hee : e' = e := entT_inj (he.symm.trans ete)
      subst hee
      have k78 := xs8.tup sc7
      have k08 : KpT H H8 := k04.trans (k47.trans k78)
      have hzz : zs2 = zs1 := up_pair so so1 (pm.trans pm1.symm)
      subst hzz
      refine ⟨_, rfl, TolV.in_eq (dd := dd) (i := numT te) (.inl ⟨hok, rfl⟩) (hu4.kp (k47.trans k78)) hwd ?_⟩
      refine q (hs ++ [cu]) ⟨b2, t2, o', u', _⟩ H8 k08 (w04.trans ((XW.ofS s5).trans (w6.trans ((XW.ofN e7).trans (.ofX xs8))))) (PenAt.xs (ExtN.pen e7 P6) xs8 sc7 nlp) T8 (hH.done k08 sc8 ?_ ⟨hB8, hO5.kp (k57.trans k78), so⟩) (by rw [List.length_append]; exact Nat.le_refl _)
      exact xs8 _ _ (fun z => by have h1 := e7 _ _ e6 (fun ps z => by cases z); rw [z, hx] at h1; cases h1) hH.nl.symm (e7 _ _ e6 fun ps z => by cases z) fun ps z => by cases z
    · rw [decide_eq_false fun z => hok (hu4.non.mp z)]
      refine iteF ?_
      refine ⟨T4, fun H5 e5 T5 => ?_⟩
      have hH5 := hH4.xp (XP.ofN e5) P4 nlp nqp
      obtain ⟨dx, hx⟩ := hH5.sc.ob
      refine ⟨_, rfl, x, dx, _, rfl, hx, sfl_no _ _ (by decide +kernel) (by decide +kernel), _, rfl, p, x, cu.b, l, fk, cu.t, _, n, age, cu.zs, v, te, dd, rfl, hH5.sc, (by rw [List.length_map]; omega), hH5.cur.mine, TgAt.ext e5 _ _ hv4, hD, T5, fun z => absurd z hok, fun _ d H6 s6 ht => ?_⟩
      refine said_in hD hok ht fun y H7 s7 hy => ?_
      have s57 := s6.trans s7
      refine ⟨_, rfl, TolV.in_eq (dd := dd) (i := numT te) hy (hu4.kp ((ExtN.tup e5).trans (Same.tup s57))) hwd ?_⟩
      have e47 : ExtN H4 H7 := e5.trans (.of s57)
      exact q hs cu H7 (k04.trans (ExtN.tup e47)) (w04.trans (.ofN e47)) (ExtN.pen e47 P4) (T5.ext s57) (hH4.xp (XP.ofN e47) P4 nlp nqp) (Nat.le_succ _)
end
end Deed

namespace Deed
open PySem PySem.Spec PyProof.Rows L2 LamX
/-! ### books alike -/
def eqB (es es' : List En) : Bool := PyData.eqvAll (es.map entD) (es'.map entD)
theorem eqB_self (es : List En) : eqB es es = true := eqv_entsA es
theorem eqv_bkB (ps : List (Int × Option Int)) (age : Int) (es es' : List En) : PyData.eqv (bkD ps age es) (bkD ps age es') = eqB es es' := by simp [bkD, PyData.eqv, PyData.eqvAll, eqv_pers, eqB]
theorem eqB_comm (es es' : List En) : eqB es es' = eqB es' es := PySem.W.eqvAll_comm _ _
theorem eqv_age (ps : List (Int × Option Int)) {age age' : Int} (es es' : List En) (h : age ≠ age') : PyData.eqv (bkD ps age es) (bkD ps age' es') = false := by simp [bkD, PyData.eqv, PyData.eqvAll, h]
theorem eqvAll_len : ∀ {xs ys : List PyData}, xs.length ≠ ys.length → PyData.eqvAll xs ys = false
  | [], [], h => absurd rfl h
  | [], _ :: _, _ => by simp [PyData.eqvAll]
  | _ :: _, [], _ => by simp [PyData.eqvAll]
  | x :: xs, y :: ys, h => by
    rw [PyData.eqvAll, eqvAll_len (xs := xs) (ys := ys) (fun z => h (by rw [List.length_cons, List.length_cons, z])), Bool.and_false]
theorem eqv_folk {ps ps' : List (Int × Option Int)} (age age' : Int) (es es' : List En) (h : ps.length ≠ ps'.length) : PyData.eqv (bkD ps age es) (bkD ps' age' es') = false := by
  have h1 : PyData.eqvAll (ps.map perD) (ps'.map perD) = false := eqvAll_len (by rw [List.length_map, List.length_map]; exact h)
  simp [bkD, PyData.eqv, PyData.eqvAll, h1]
theorem dpAll_len {K : PySem.W.Frag} {H : Hp} : ∀ {xs : List V} {ds : List PyData}, DpAll K H xs ds → xs.length = ds.length
  | _, _, .nil => rfl
  | _, _, .cons _ t => by rw [List.length_cons, List.length_cons, dpAll_len t]
theorem BookAt.dp1 {K : PySem.W.Frag} {H : Hp} {b fk t : Addr} {n : Nat} {age : Int} {zs : List (Addr × En)} (h : BookAt H b fk t n age zs) : ∃ ps, ps.length = n ∧ Dp K H (.ref b) (bkD ps age (ens zs)) := by
  obtain ⟨xs, ef, hl, hx⟩ := h.folk
  obtain ⟨ps, hp⟩ := dp_folk (K := K) xs hx
  have h1 := dpAll_len hp
  rw [List.length_map] at h1
  exact ⟨ps, h1.symm.trans hl, .tup (SqT.of h.at_) (.cons (.tup (SqT.of ef) hp) (.cons (.int _) (.cons (.tup (SqT.of h.ents) (dp_ents zs h.ent)) .nil)))⟩
theorem BookAt.dpF {K : PySem.W.Frag} {H : Hp} {b b' fk t t' : Addr} {n n' : Nat} {age age' : Int} {zs zs' : List (Addr × En)} (h : BookAt H b fk t n age zs) (h' : BookAt H b' fk t' n' age' zs') : ∃ ps, Dp K H (.ref b) (bkD ps age (ens zs)) ∧ Dp K H (.ref b') (bkD ps age' (ens zs')) := by
  obtain ⟨xs, ef, _, hx⟩ := h.folk
  obtain ⟨ps, hp⟩ := dp_folk (K := K) xs hx
  exact ⟨ps, .tup (SqT.of h.at_) (.cons (.tup (SqT.of ef) hp) (.cons (.int _) (.cons (.tup (SqT.of h.ents) (dp_ents zs h.ent)) .nil))), .tup (SqT.of h'.at_) (.cons (.tup (SqT.of ef) hp) (.cons (.int _) (.cons (.tup (SqT.of h'.ents) (dp_ents zs' h'.ent)) .nil)))⟩
theorem BookAt.shaped {H : Hp} {b fk t : Addr} {n : Nat} {age : Int} {zs : List (Addr × En)} (h : BookAt H b fk t n age zs) (ps : List (Int × Option Int)) : SeqAt.shaped (bkD ps age (ens zs)) = true := shaped_bk ps age _ h.ok.ok
theorem depth_bk (ps : List (Int × Option Int)) (age : Int) (es : List En) : (bkD ps age es).depth ≤ 20 := by
  have h1 := depth_ents es
  have h0 := depth_pers ps
  unfold bkD
  simp only [PyData.depth, PyData.depthAll]
  omega
/-- books in two lists, the i-th alike -/
theorem dp_books {K : PySem.W.Frag} {H : Hp} {fk : Addr} {n : Nat} {age : Int} : ∀ cs : List Stg, (∀ s ∈ cs, StgAt H fk n age s) → ∃ ds, DpAll K H (cs.map fun s => V.ref s.b) ds ∧ DpAll K H (cs.map fun s => V.ref s.o) ds ∧ PyData.canLayAll0 ds = true ∧ PyData.depthAll ds ≤ 21 ∧ PyData.eqvAll ds ds = true
  | [], _ => ⟨[], .nil, .nil, by simp [PyData.canLayAll0], by simp [PyData.depthAll], by simp [PyData.eqvAll]⟩
  | s :: r, h => by
    obtain ⟨ds, h1, h2, h3, h4, h5⟩ := dp_books (K := K) r fun y hy => h y (List.mem_cons_of_mem _ hy)
    have hs := h s List.mem_cons_self
    obtain ⟨ps, g1, g2⟩ := BookAt.dp (K := K) hs.mine hs.his
    have g3 := hs.mine.shaped ps
    have g4 := depth_bk ps age (ens s.zs)
    unfold SeqAt.shaped at g3
    rw [Bool.and_eq_true] at g3
    refine ⟨_, .cons g1 h1, .cons g2 h2, ?_, ?_, ?_⟩
    · rw [PyData.canLayAll0, g3.1, h3]; rfl
    · rw [PyData.depthAll]; omega
    · rw [PyData.eqvAll, eqv_bk, h5]; rfl
theorem shaped_books {ds : List PyData} (h3 : PyData.canLayAll0 ds = true) (h4 : PyData.depthAll ds ≤ 21) : SeqAt.shaped (.list ds) = true := by
  unfold SeqAt.shaped
  rw [Bool.and_eq_true]
  exact ⟨by rw [PyData.canLay0]; exact h3, decide_eq_true (by rw [PyData.depth]; omega)⟩
/-! ### scribes and their pasts -/
structure Sb where
  (x l lp : Addr)
  hs : List Stg
  cu : Stg
def adr (s : Sb) : Addr × Addr × Addr := (s.x, s.l, s.lp)
structure Sep (p ls lr : Addr) (as : List (Addr × Addr × Addr)) : Prop where
  pw : as.Pairwise fun a b => a.1 ≠ b.1 ∧ a.2.1 ≠ b.2.1 ∧ a.2.1 ≠ b.2.2 ∧ a.2.2 ≠ b.2.1 ∧ a.2.2 ≠ b.2.2
  ne : ∀ a ∈ as, a.2.1 ≠ p ∧ a.2.2 ≠ p ∧ a.2.1 ≠ ls ∧ a.2.2 ≠ ls ∧ a.2.1 ≠ lr ∧ a.2.2 ≠ lr
  sp : ls ≠ p ∧ lr ≠ p ∧ ls ≠ lr
structure Scs (C : Addr) (H : Hp) (p ls lr fk : Addr) (n : Nat) (age : Int) (ss : List Sb) : Prop where
  sl : H ls = some (.lst (ss.map fun s => V.ref s.x))
  sr : H lr = some (.lst (ss.map fun s => V.ref s.lp))
  at_ : ∀ s ∈ ss, Hst C H s.x s.l s.lp fk n age s.hs s.cu
  sep : Sep p ls lr (ss.map adr)
section
variable {C : Addr} {H H' : Hp} {p ls lr fk : Addr} {n : Nat} {age : Int}
theorem Hst.keep {x l lp : Addr} {hs : List Stg} {cu : Stg} (h : Hst C H x l lp fk n age hs cu) (k : KpT H H') (kx : ∀ dx fs, H x = some (.ins C dx fs) → H' x = some (.ins C dx fs)) (kl : ∀ xs, H l = some (.lst xs) → H' l = some (.lst xs)) (kp : ∀ xs, H lp = some (.lst xs) → H' lp = some (.lst xs)) : Hst C H' x l lp fk n age hs cu := by
  obtain ⟨⟨dx, hx⟩, hl⟩ := h.sc
  exact ⟨⟨⟨dx, kx _ _ hx⟩, kl _ hl⟩, kp _ h.ls, fun s hs => (h.at_ s hs).kp k, h.cur.kp k, h.first, h.nl⟩
theorem ins_ne {x a dx : Addr} {fs : List (Str × V)} {xs : List V} (h : H x = some (.ins C dx fs)) (g : H a = some (.lst xs)) : x ≠ a := fun z => by
  rw [z, g] at h
  cases h
theorem PenAt.lst (P : PenAt H p) : ∃ xs, H p = some (.lst xs) := by
  obtain ⟨x1, x2, x3, x4, z1, _⟩ := P
  exact ⟨_, z1⟩
theorem Scs.xp {ss : List Sb} (h : Scs C H p ls lr fk n age ss) (k : XP p H H') (P : PenAt H p) : Scs C H' p ls lr fk n age ss :=
  ⟨k _ _ h.sep.sp.1 h.sl (fun ps z => by cases z), k _ _ h.sep.sp.2.1 h.sr (fun ps z => by cases z), fun s hs => (h.at_ s hs).xp k P (h.sep.ne _ (List.mem_map_of_mem (f := adr) hs)).1 (h.sep.ne _ (List.mem_map_of_mem (f := adr) hs)).2.1, h.sep⟩
theorem Sep.two {a b : Addr × Addr × Addr} {A B D : List (Addr × Addr × Addr)} (h : Sep p ls lr (A ++ a :: B)) (hb : b ∈ A ++ B) : (b.1 ≠ a.1 ∧ b.2.1 ≠ a.2.1 ∧ b.2.1 ≠ a.2.2 ∧ b.2.2 ≠ a.2.1 ∧ b.2.2 ≠ a.2.2) := by
  have h1 := h.pw
  rw [List.pairwise_append] at h1
  obtain ⟨_, h2, h3⟩ := h1
  rw [List.pairwise_cons] at h2
  rcases List.mem_append.mp hb with h4 | h4
  · exact h3 _ h4 _ List.mem_cons_self
  · obtain ⟨q1, q2, q3, q4, q5⟩ := h2.1 _ h4
    exact ⟨q1.symm, q2.symm, q4.symm, q3.symm, q5.symm⟩
/-- one of them does a deed -/
theorem Scs.step {A B : List Sb} {s s' : Sb} (h : Scs C H p ls lr fk n age (A ++ s :: B)) (k : KpT H H') (w : XW p s.x s.l s.lp H H') (P : PenAt H p) (ha : adr s' = adr s) (hn : Hst C H' s'.x s'.l s'.lp fk n age s'.hs s'.cu) : Scs C H' p ls lr fk n age (A ++ s' :: B) := by
  have hs := h.at_ s (by simp)
  obtain ⟨⟨dx, hx⟩, hl⟩ := id hs.sc
  obtain ⟨xp, hp⟩ := P.lst
  have nes := h.sep.ne (adr s) (List.mem_map_of_mem (f := adr) (by simp))
  have e1 : s'.x = s.x := congrArg (·.1) ha
  have e3 : s'.lp = s.lp := congrArg (·.2.2) ha
  refine ⟨?_, ?_, fun t ht => ?_, ?_⟩
  · have q := w _ _ h.sep.sp.1 (ins_ne hx h.sl).symm nes.2.2.1.symm nes.2.2.2.1.symm h.sl fun ps z => by cases z
    rw [q]
    simp [e1]
  · have q := w _ _ h.sep.sp.2.1 (ins_ne hx h.sr).symm nes.2.2.2.2.1.symm nes.2.2.2.2.2.symm h.sr fun ps z => by cases z
    rw [q]
    simp [e3]
  · have ht' : t ∈ A ++ B ∨ t = s' := by
      rcases List.mem_append.mp ht with h1 | h1
      · exact .inl (List.mem_append.mpr (.inl h1))
      · rcases List.mem_cons.mp h1 with h2 | h2
        · exact .inr h2
        · exact .inl (List.mem_append.mpr (.inr h2))
    rcases ht' with ht' | rfl
    · have hm : t ∈ A ++ s :: B := by
        rcases List.mem_append.mp ht' with h1 | h1
        · exact List.mem_append.mpr (.inl h1)
        · exact List.mem_append.mpr (.inr (List.mem_cons_of_mem _ h1))
      have g := h.at_ t hm
      obtain ⟨⟨dy, hy⟩, hm'⟩ := id g.sc
      have sep : Sep p ls lr (A.map adr ++ adr s :: B.map adr) := by
        have := h.sep
        rw [List.map_append, List.map_cons] at this
        exact this
      obtain ⟨n0, n1, n2, n3, n4⟩ := sep.two (b := adr t) (D := []) (by rw [← List.map_append]; exact List.mem_map_of_mem (f := adr) ht')
      have ne := h.sep.ne (adr t) (List.mem_map_of_mem (f := adr) hm)
      refine g.keep k (fun d f e => w _ _ (ins_ne e hp) n0 (ins_ne e hl) (ins_ne e hs.ls) e fun ps z => by cases z) (fun xs e => w _ _ ne.1 (ins_ne hx e).symm n1 n2 e fun ps z => by cases z) (fun xs e => w _ _ ne.2.1 (ins_ne hx e).symm n3 n4 e fun ps z => by cases z)
    · exact hn
  · have := h.sep
    rw [List.map_append, List.map_cons] at this
    rw [List.map_append, List.map_cons, ha]
    exact this
/-- one more -/
theorem Scs.more {ss : List Sb} {s : Sb} (h : Scs C H p ls lr fk n age ss) (w : ∀ c o, c ≠ ls → c ≠ lr → H c = some o → H' c = some o) (k : KpT H H') (P : PenAt H p) (el : H' ls = some (.lst ((ss.map fun s => V.ref s.x) ++ [.ref s.x]))) (er : H' lr = some (.lst ((ss.map fun s => V.ref s.lp) ++ [.ref s.lp])))
    (hn : Hst C H' s.x s.l s.lp fk n age s.hs s.cu) (nx : H s.x = none) (nl : H s.l = none) (np : H s.lp = none) : Scs C H' p ls lr fk n age (ss ++ [s]) := by
  obtain ⟨xp, hp⟩ := P.lst
  refine ⟨by rw [el]; simp, by rw [er]; simp, fun t ht => ?_, ?_⟩
  · rcases List.mem_append.mp ht with h1 | h1
    · have g := h.at_ t h1
      have ne := h.sep.ne (adr t) (List.mem_map_of_mem (f := adr) h1)
      exact g.keep k (fun d f e => w _ _ (ins_ne e h.sl) (ins_ne e h.sr) e) (fun xs e => w _ _ ne.2.2.1 ne.2.2.2.2.1 e) (fun xs e => w _ _ ne.2.2.2.1 ne.2.2.2.2.2 e)
    · rw [List.mem_singleton.mp h1]
      exact hn
  · refine ⟨?_, ?_, h.sep.sp⟩
    · rw [List.map_append, List.pairwise_append]
      refine ⟨h.sep.pw, by simp, fun a ha b hb => ?_⟩
      rw [List.map_singleton, List.mem_singleton] at hb
      subst hb
      obtain ⟨t, ht, rfl⟩ := List.mem_map.mp ha
      obtain ⟨⟨dy, hy⟩, hm'⟩ := id (h.at_ t ht).sc
      have hq := (h.at_ t ht).ls
      exact ⟨ne_of_none hy nx, ne_of_none hm' nl, ne_of_none hm' np, ne_of_none hq nl, ne_of_none hq np⟩
    · intro a ha
      rw [List.map_append, List.mem_append] at ha
      rcases ha with ha | ha
      · exact h.sep.ne a ha
      · rw [List.map_singleton, List.mem_singleton] at ha
        subst ha
        exact ⟨(ne_of_none hp nl).symm, (ne_of_none hp np).symm, (ne_of_none h.sl nl).symm, (ne_of_none h.sl np).symm, (ne_of_none h.sr nl).symm, (ne_of_none h.sr np).symm⟩
end
end Deed

namespace Deed
open PySem PySem.Spec PyProof.Rows L2 LamX
/-- two scribes with the same folk and age and no entries -/
def RB (C : Addr) (a b : Addr) (H : Hp) : Prop := ∃ (b1 l1 t1 b2 l2 t2 fk : Addr) (es1 es2 : List V) (n : Nat) (age : Int), ScAt C H a b1 l1 es1 ∧ ScAt C H b b2 l2 es2 ∧ BookAt H b1 fk t1 n age [] ∧ BookAt H b2 fk t2 n age []
theorem monRB (C : Addr) : ∀ a b H H', Ext H H' → RB C a b H → RB C a b H' := fun a b H H' e h => by
  obtain ⟨b1, l1, t1, b2, l2, t2, fk, es1, es2, n, age, s1, s2, h1, h2⟩ := h
  have s : Same H H' := e
  exact ⟨b1, l1, t1, b2, l2, t2, fk, es1, es2, n, age, s1.extN (.of s), s2.extN (.of s), h1.kp (Same.tup s), h2.kp (Same.tup s)⟩
theorem nf_ty (K : PySem.W.Frag) (C : Addr) (t : Tg) : PySem.W.notFirst K C (.type t.ty) = true := by
  cases t <;> rfl
theorem eqDK {X : Cx} {K : PySem.W.Frag} (h : X.K = K) (hu : X.A.units + 64 < cLine) : OpR X (compareOp .Eq) (rEqD K) := h ▸ op_eqD hu
theorem eqOK {X : Cx} {K : PySem.W.Frag} {CX : CXT} {C f : Addr} {fd : FuncData} {ps : List Str} {n : Nat} {sp : Sp} {E : XK} (h : X.K = K) (F : FnOk X.prog X.w X.K X.mg X.base CX n f fd ps sp) (G : OwnE.EqF X.K C f) (hb : Binds X.K fd ps []) (hx : Passes CX X E) (hr : Room (n + 1) X.A) : OpR X (compareOp .Eq) (OwnE.rEqO K C sp E true) := by
  subst h
  exact OwnE.op_eqO F G hb hx hr
theorem split_at {α : Type} {ss : List α} {j : Nat} (h : j < ss.length) : ∃ A s B, ss = A ++ s :: B ∧ A.length = j := by
  refine ⟨ss.take j, ss[j], ss.drop (j + 1), ?_, by rw [List.length_take]; omega⟩
  rw [← List.drop_eq_getElem_cons h, List.take_append_drop]
theorem at_split {α β : Type} {A B : List α} {s : α} {j : Nat} (f : α → β) (h : A.length = j) : ((A ++ s :: B).map f)[j]? = some (f s) := by
  rw [List.map_append, List.map_cons, List.getElem?_append_right (by rw [List.length_map]; omega)]
  simp [h]
theorem bls_dp {K : PySem.W.Frag} {H : Hp} : ∀ bs : List Bool, DpAll K H (bs.map V.bl) (bs.map PyData.bool)
  | [] => .nil
  | b :: r => .cons (.bl b) (bls_dp r)
theorem bls_lay : ∀ bs : List Bool, PyData.canLayAll0 (bs.map PyData.bool) = true ∧ PyData.depthAll (bs.map PyData.bool) ≤ 1 ∧ PyData.eqvAll (bs.map PyData.bool) (bs.map PyData.bool) = true
  | [] => by simp [PyData.canLayAll0, PyData.depthAll, PyData.eqvAll]
  | b :: r => by
    obtain ⟨h1, h2, h3⟩ := bls_lay r
    simp [PyData.canLayAll0, PyData.canLay0, PyData.depthAll, PyData.depth, PyData.eqvAll, PyData.eqv, h1, h2, h3]
theorem bls_alike (bs : List Bool) : SeqAt.shaped (.list (bs.map PyData.bool)) = true ∧ PyData.eqv (.list (bs.map PyData.bool)) (.list (bs.map PyData.bool)) = true := by
  obtain ⟨h1, h2, h3⟩ := bls_lay bs
  exact ⟨shaped_books h1 (by omega), by rw [PyData.eqv]; exact h3⟩
theorem beqT (b : Bool) : (b == true) = b := by cases b <;> rfl
theorem PersonAt.kt {H H' : Hp} {x : V} (h : PersonAt H x) (k : KpT H H') : PersonAt H' x := by
  obtain ⟨a, b, d, e, h1, r⟩ := h
  exact ⟨a, b, d, e, k _ _ h1, r⟩
def lenAt (H : Hp) (l : Addr) : Nat := match H l with
  | some (.lst xs) => xs.length
  | _ => 0
section
variable {P : Program} {w : World} {K : PySem.W.Frag} {mg : Str → Option Value} {base : Heap} {T : List (Addr × Str)} {C : Addr}
theorem eqRB {L : Nat} {f : Addr} {fd : FuncData} (h : FnOk P w K mg base CX0 L f fd nScE (spScE K C)) : FnOk P w K mg base CX0 L f fd nScE (spEq (RB C)) := h.imp fun vs H Q E z => by
  obtain ⟨a, b, rfl, ⟨b1, l1, t1, b2, l2, t2, fk, es1, es2, n, age, s1, s2, h1, h2⟩, q⟩ := z
  obtain ⟨ps, d1, d2⟩ := BookAt.dp (K := K) h1 h2
  refine ⟨a, b1, l1, es1, .ref b, rfl, s1, .inl ⟨b, b2, l2, _, _, rfl, s2.ob, d1, d2, h1.shaped ps, h2.shaped ps, ?_⟩⟩
  rw [eqv_bk]
  exact q H (same_refl H)
/-- a scribe is made -/
theorem made {H : Hp} {CF CA fk x dx : Addr} {n : Nat} {age : Int} {R : Hp → Prop} {E : XK} (nx : H x = none) (ndx : H dx = none) (ne : dx ≠ x) (hF : FolkAt H fk n) (h2 : 2 ≤ n) (h6 : n ≤ 6) (hag0 : 0 ≤ age) (hag1 : age ≤ 9999) (q : ∀ b t l H', Same H H' → H l = none → ScAt C H' x b l [] → BookAt H' b fk t n age [] → R H') :
    spScI C CF CA (.ref x :: ([.ref fk, .int age] ++ [])) (upd (upd H dx (.own x)) x (.ins C dx [])) (fun v H2 => v = .non ∧ R H2) E := by
  have sx : Same H (upd (upd H dx (.own x)) x (.ins C dx [])) := (same_new ndx _).trans (same_new (by rw [upd_ne ne.symm]; exact nx) _)
  have ex : (upd (upd H dx (.own x)) x (.ins C dx [])) x = some (.ins C dx []) := upd_same
  generalize (upd (upd H dx (.own x)) x (.ins C dx [])) = H6 at sx ex
  obtain ⟨ts, hts, htl, _, hfo⟩ := folk_tg (p := x) hF (by omega)
  have hfk : isFolkT (.tup ts) = true := by
    show ((decide (1 ≤ ts.length) && decide (ts.length ≤ 6)) && ts.all isPersonT) = true
    rw [hfo, htl, decide_eq_true (by omega), decide_eq_true h6]
    rfl
  have hag : ageT (.int age) = true := by
    show (decide (0 ≤ age) && decide (age ≤ 9999)) = true
    rw [decide_eq_true hag0, decide_eq_true hag1]
    rfl
  refine ⟨x, x, dx, _, _, _, _, rfl, ex, TgAt.same sx _ _ hts, .int age, fun d1 H7 s7 => ?_, fun d1 d2 H7 s7 => ?_, fun d1 d2 b t l H7 s7 nb nl hSc eb et => ⟨rfl, ?_⟩⟩
  · rw [hfk] at d1; cases d1
  · rw [hag] at d2; cases d2
  have s57 : Same H H7 := fun a o ea => s7 a o (fun z => by rw [z, nx] at ea; cases ea) (sx _ _ ea)
  exact q b t l H7 s57 (none_back sx nl) hSc ⟨eb, hF.kpT (Same.tup s57), h2, h6, hag0, hag1, et, fun _ h => (nomatch h), ⟨List.nodup_nil, fun _ h => (nomatch h), fun _ h => (nomatch h)⟩, Nat.zero_le _⟩
abbrev sLaw : Stmt := topS 76
abbrev nLaw : List Str := ["_law_script", "_law_pen_here", "_law_folk_here", "_law_age", "_law_scribes", "_law_rows", "_law_turn", "_law_at", "_law_one", "_law_mine", "_law_other", "_law_strange", "_law_scribe", "_law_row", "_law_thing_here"]
theorem scLaw : FnScope nLaw ["_law_script"] (defScope sLaw) := ⟨rfl, rfl, rfl, by decide +kernel, rfl, by decide +kernel, by decide +kernel⟩
def qLaw73 : Str := "law.<locals>.<lambda>"
def spLaw (K : PySem.W.Frag) (T : List (Addr × Str)) : Sp := fun vs H Q _ => ∃ (a : Addr) (ns : List Int), vs = [.ref a] ∧ SqL K H a (ns.map V.int) ∧ ns.length ≤ 63 ∧ Tabs T H ∧ ∀ H', Q (.bl true) H'
theorem ok_law {f c tb g CF CA : Addr} {fd gd : FuncData} {k : Nat} {cl : Cl7} (F : Fun K "law" "law" sLaw f fd) (hc : fd.code = .ref c) (TB : TabB base mg c tb) (hmT : (tb, qLaw73) ∈ T) (hu : ∀ p ∈ T, p.1 = tb → p.2 = qLaw73) (S : ScT K mg C) (S7 : Sd7 K mg cl) (DS : Df K mg "_law_said" sLSaid ["_law_call"] g gd)
    (C_un : CallM P w K mg base (L2.CX P w) k C "undo" nScB (spScU C cl.G T)) (C_bk : CallM P w K mg base CX0 (k + 2) C "book" nScB (spScB C)) (C_tw : CallM P w K mg base CX0 (k + 2) C "twin" ["self"] (spScN C)) (C_mk : CallK P w K mg base (L2.CX P w) (k + 1) "Scribe" C nScI (spScI C CF CA)) (C_eq : CallS P w K mg base (k + 1) C "__eq__" nScE (spScE K C)) (G : OwnE.EqF K C C_eq.f) (ic : C8.InsC K C) (hk : ∀ t : Tg, PySem.W.kitOne K (.type t.ty) (.ref C) = some false)
    (C__law_cell_at : CallOk P w K mg base (k + 2) "_law_cell_at" ["_law_script", "_law_k"] (spCell K)) (C__law_pen : CallOk P w K mg base (k + 2) "_law_pen" ["_law_cell"] spPen) (C__law_folk : CallOk P w K mg base (k + 2) "_law_folk" pFolk spFolk) (C__law_draw : CallOk P w K mg base (k + 2) "_law_draw" ["_law_pen_here", "_law_bound"] spDraw)
    (C__law_step : CallOk P w K mg base (k + 2) "_law_step" pLStep (spLStep C T)) (C__law_thing : CallOk P w K mg base (k + 2) "_law_thing" pLThing (spLThing 3)) (m_len : mg "len" = none) (m_range : mg "range" = none) (m_zip : mg "zip" = none) (m_list : mg "list" = none) : FnOk P w K mg base CX0 (k + 3) f fd ["_law_script"] (spLaw K T) := by
  refine okC F hc scLaw (fun vs H Q E h => ?_) (fun A outer s H vs Q E hr h => ?_)
  · obtain ⟨a, ns, rfl, _⟩ := h
    rfl
  · obtain ⟨a, ns, rfl, hS, h63, hT, q⟩ := h
    have nd := scLaw.nd
    have okR := eqRB C_eq.ok
    have monR := monRB C
    refine ⟨_, pss_cons (ps_set (i := 1) nd rfl (.inl rfl) (pe_call C__law_pen.ok hr (by rfl) C__law_pen.g C__law_pen.kp C__law_pen.b .nil pass0 (pa_cons (pe_call C__law_cell_at.ok hr (by rfl) C__law_cell_at.g C__law_cell_at.kp C__law_cell_at.b .nil pass0 (pa_cons (pv 0) (pa_cons pe_int pa_nil))) pa_nil)))
      (pss_cons (ps_par (i := 2) (j := 3) (by rfl) nd rfl rfl (by decide) rfl rfl (pa_cons (pe_call C__law_folk.ok hr (by rfl) C__law_folk.g C__law_folk.kp C__law_folk.b .nil pass0 (pa_cons (pv 1) (pa_cons pe_int pa_nil))) (pa_cons (pe_call C__law_draw.ok hr (by rfl) C__law_draw.g C__law_draw.kp C__law_draw.b .nil pass0 (pa_cons (pv 1) (pa_cons pe_int pa_nil))) pa_nil)) (by rfl))
      (pss_cons (ps_set (i := 4) nd rfl (.inl rfl) (pe_lst (pa_cons (pe_make C_mk.m C_mk.ok hr (by rfl) C_mk.g C_mk.b .nil passN (pa_cons (pv 2) (pa_cons (pv 3) pa_nil))) (pa_cons (pe_make C_mk.m C_mk.ok hr (by rfl) C_mk.g C_mk.b .nil passN (pa_cons (pv 2) (pa_cons (pv 3) pa_nil))) pa_nil))))
      (pss_cons (ps_set (i := 5) nd rfl (.inl rfl) (pe_lst (pa_cons (pe_lst (pa_cons (pe_tup (pa_cons (pv 2) (pa_cons (pv 3) (pa_cons (pe_tup pa_nil) pa_nil)))) pa_nil)) (pa_cons (pe_lst (pa_cons (pe_tup (pa_cons (pv 2) (pa_cons (pv 3) (pa_cons (pe_tup pa_nil) pa_nil)))) pa_nil)) pa_nil))))
      (pss_cons (ps_for PassesOwn.never rfl (pi_range1 rfl m_range (pa_cons pe_int pa_nil)) (pg_name (i := 6) nd rfl (.inl rfl))
        (pss_cons (ps_set (i := 7) nd rfl (.inl rfl) (pe_call C__law_draw.ok hr (by rfl) C__law_draw.g C__law_draw.kp C__law_draw.b .nil pass0 (pa_cons (pv 1) (pa_cons (pe_callB call_len_seq (by rfl) m_len (by decide +kernel) (pa_cons (pv 4) pa_nil)) pa_nil))))
      (C8.pss_cut (ps_if (pt_cmpR op_eq (pe_call C__law_draw.ok hr (by rfl) C__law_draw.g C__law_draw.kp C__law_draw.b .nil pass0 (pa_cons (pv 1) (pa_cons pe_int pa_nil))) pe_int (nomark _)) (pss_cons (ps_expr (pe_bm PySem.F.plainAttrs_list PySem.F.slot_list_append PySem.F.type_list_append mt_append (pv 4) (pa_cons (pe_meth0 (pe_ix ix_list (pv 4) (pv 7) (fun _ _ => rfl)) S.cl C_tw.h C_tw.ok hr C_tw.b .nil pass0) pa_nil)))
      (pss_one (ps_expr (pe_bm PySem.F.plainAttrs_list PySem.F.slot_list_append PySem.F.type_list_append mt_append (pv 5) (pa_cons (pe_callTy call_list_of (by rfl) m_list (by decide +kernel) (pa_cons (pe_ix ix_list (pv 5) (pv 7) (fun _ _ => rfl)) pa_nil)) pa_nil))))) (pss_one (ps_if (pt_not (pt_val (pe_call C__law_step.ok hr (by rfl) C__law_step.g C__law_step.kp C__law_step.b .nil pass0 (pa_cons (pv 1) (pa_cons (pe_ix ix_list (pv 4) (pv 7) (fun _ _ => rfl)) (pa_cons (pe_ix ix_list (pv 5) (pv 7) (fun _ _ => rfl)) pa_nil)))))) (pss_one (ps_ret pe_bl)) pss_nil)))
      (C8.pss_cut (ps_if (pt_cmpR (op_neD hr.units) (pe_lc (own := [("_law_scribe", 12)]) (g := gName 12) (by rfl) nd (pi_list (pv 4)) (blkOk_by (own := [("_law_scribe", 12)]) (N := nLaw) (sc := defScope sLaw) (by decide +kernel)) (fun _ _ _ _ _ => (pg_name (i := 12) nd rfl (.inl rfl))) (fun _ _ _ _ _ => pts_nil)
          (fun _ _ _ _ _ => (pe_meth0 (pv 12) S.cl C_bk.h C_bk.ok hr C_bk.b .nil pass0))) (pe_lc (own := [("_law_row", 13)]) (g := gName 13) (by rfl) nd (pi_list (pv 5)) (blkOk_by (own := [("_law_row", 13)]) (N := nLaw) (sc := defScope sLaw) (by decide +kernel)) (fun _ _ _ _ _ => (pg_name (i := 13) nd rfl (.inl rfl))) (fun _ _ _ _ _ => pts_nil)
          (fun _ _ _ _ _ => (pe_ix (ix_listK (K := K) (by rfl)) (pv 13) (pe_un un_neg pe_int) (fun _ _ => rfl)))) (nomark _)) (pss_one (ps_ret pe_bl)) pss_nil)
      (pss_one (ps_for PassesOwn.never rfl (pi_zipB true true (by rfl) m_zip (pa_cons (pv 4) (pa_cons (pv 5) pa_nil))) (pg_tup (by rfl) (pgs_cons (pg_name (i := 8) nd rfl (.inr rfl)) (pgs_cons (pg_name (i := 9) nd rfl (.inr rfl)) pgs_nil)))
        (C8.pss_cut (ps_if (pt_cmpR (op_neD hr.units) (pe_lc (own := [("_law_other", 10)]) (g := gName 10) (by rfl) nd (pi_list (pv 4)) (blkOk_by (own := [("_law_other", 10)]) (N := nLaw) (sc := defScope sLaw) (by decide +kernel)) (fun _ _ _ _ _ => (pg_name (i := 10) nd rfl (.inl rfl))) (fun _ _ _ _ _ => pts_nil)
          (fun _ _ _ _ _ => (pe_cmpR (eqOK (K := K) (E := fun _ _ _ => False) (by rfl) C_eq.ok G C_eq.b pass0 hr) (pv 8) (pv 10) (nomark _)))) (pe_lc (own := [("_law_row", 13)]) (g := gName 13) (by rfl) nd (pi_list (pv 5)) (blkOk_by (own := [("_law_row", 13)]) (N := nLaw) (sc := defScope sLaw) (by decide +kernel)) (fun _ _ _ _ _ => (pg_name (i := 13) nd rfl (.inl rfl))) (fun _ _ _ _ _ => pts_nil)
          (fun _ _ _ _ _ => (pe_cmpR (eqDK (K := K) (by rfl) hr.units) (pe_ix (ix_listK (K := K) (by rfl)) (pv 9) (pe_un un_neg pe_int) (fun _ _ => rfl)) (pe_ix (ix_listK (K := K) (by rfl)) (pv 13) (pe_un un_neg pe_int) (fun _ _ => rfl)) (nomark _)))) (nomark _)) (pss_one (ps_ret pe_bl)) pss_nil)
      (pss_one (ps_if (pt_cmpR (op_neD hr.units) (pe_cmpR (OwnE.op_inO (E := fun _ _ _ => False) C_eq.ok G C_eq.b pass0 hr) (pv 8) (pe_slice sl_list (pv 4) po_none (po_some pe_int)) (by rfl)) (pe_cmpR (op_eqD hr.units) (pe_ix ix_list (pv 9) (pe_un un_neg pe_int) (fun _ _ => rfl)) (pe_ix ix_list (pe_ix ix_list (pv 5) pe_int (fun _ _ => rfl)) (pe_un un_neg pe_int) (fun _ _ => rfl)) (nomark _)) (nomark _)) (pss_one (ps_ret pe_bl)) pss_nil)))))))))
      (pss_cons (ps_set (i := 10) nd rfl (.inl rfl) (pe_make C_mk.m C_mk.ok hr (by rfl) C_mk.g C_mk.b .nil passN (pa_cons (pv 2) (pa_cons (pe_op op_add (pv 3) pe_int) pa_nil))))
      (C8.pss_cut (ps_set (i := 11) nd rfl (.inl rfl) (pe_make C_mk.m C_mk.ok hr (by rfl) C_mk.g C_mk.b .nil passN (pa_cons (pe_ifExp (pt_cmpR op_lt (pe_callB call_len_seq (by rfl) m_len (by decide +kernel) (pa_cons (pv 2) pa_nil)) pe_int (nomark _)) (pe_op op_catA (pv 2) (pe_tup (pa_cons (pe_tup (pa_cons pe_int (pa_cons pe_non pa_nil))) pa_nil))) (pe_slice sl_tupA (pv 2) po_none (po_some pe_int))) (pa_cons (pv 3) pa_nil))))
      (pss_cons (ps_for PassesOwn.never rfl (pi_zipB true true (by rfl) m_zip (pa_cons (pv 4) (pa_cons (pv 5) pa_nil))) (pg_tup (by rfl) (pgs_cons (pg_name (i := 12) nd rfl (.inr rfl)) (pgs_cons (pg_name (i := 13) nd rfl (.inl rfl)) pgs_nil)))
        (pss_cons (ps_for PassesOwn.never rfl (pi_tup (pe_tup (pa_cons (pv 10) (pa_cons (pv 11) (pa_cons (pe_ix ix_list (pv 13) (pe_un un_neg pe_int) (fun _ _ => rfl)) (pa_cons pe_non (pa_cons pe_int (pa_cons pe_str (pa_cons (pe_call C__law_thing.ok hr (by rfl) C__law_thing.g C__law_thing.kp C__law_thing.b .nil pass0 (pa_cons (pv 1) (pa_cons pe_int pa_nil))) pa_nil))))))))) (pg_name (i := 14) nd rfl (.inl rfl))
        (pss_one (ps_if (PW.pt (pw_or (pt_cmpR (OwnE.op_eqO (E := fun _ _ _ => False) C_eq.ok G C_eq.b pass0 hr) (pv 12) (pv 14) (nomark _)) (pw_or1 (pt_not (pt_cmpR (OwnE.op_neO (E := fun _ _ _ => False) C_eq.ok G C_eq.b pass0 hr) (pv 12) (pv 14) (nomark _)))))) (pss_one (ps_ret pe_bl)) pss_nil)))
      (pss_cons (ps_while PassesOwn.never (pt_cmpR op_gt (pe_callB call_len_seq (by rfl) m_len (by decide +kernel) (pa_cons (pv 13) pa_nil)) pe_int (nomark _))
        (pss_cons (ps_expr (pe_bm0 PySem.F.plainAttrs_list PySem.F.slot_list_pop PySem.F.type_list_pop mt_pop (pv 13)))
        (pss_cons (ps_expr (pe_meth0 (pv 12) S.cl C_un.h C_un.ok (hr.mono (by omega)) C_un.b .nil passN))
        (pss_one (ps_if (pt_cmpR (op_neD hr.units) (pe_meth0 (pv 12) S.cl C_bk.h C_bk.ok hr C_bk.b .nil pass0) (pe_ix ix_list (pv 13) (pe_un un_neg pe_int) (fun _ _ => rfl)) (nomark _)) (pss_one (ps_ret pe_bl)) pss_nil)))))
      (pss_one (ps_if (pt_cmpR op_ne (pe_said (T := T) (c := c) (P := tb) (k := k) DS S7 rfl TB rfl hmT hu hr (lamS_by (sc := defScope sLaw) (by decide +kernel)) rfl (fun _ _ _ _ _ => rfl) (fun A outer s H E f c' hr' => pe_meth0 (pv 12) S.cl C_un.h C_un.ok hr' C_un.b .nil (passes_call (takes_of rfl rfl rfl rfl) (fun _ _ _ _ h => h)))) pe_str (nomark _)) (pss_one (ps_ret pe_bl)) pss_nil)))))
      (pss_one (ps_ret (pe_cmpR (op_eqG (rcG_list (mon_ins monR) (eqG_ins (E := fun _ _ _ => False) okR C_eq.h.hs C_eq.h.hf C_eq.b pass0)) hr) (pv 4) (pe_op op_rep (pe_lst (pa_cons (pe_make C_mk.m C_mk.ok hr (by rfl) C_mk.g C_mk.b .nil passN (pa_cons (pv 2) (pa_cons (pv 3) pa_nil))) pa_nil)) (pe_callB call_len_seq (by rfl) m_len (by decide +kernel) (pa_cons (pv 4) pa_nil))) (nomark _))))))))))), ?_⟩
    refine ⟨_, rfl, a, ns, _, rfl, hS, by decide, fun cv => ?_⟩
    refine ⟨cv, rfl, fun p H1 s1 np P1 => ?_⟩
    have T1 : Tabs T H1 := hT.ext s1
    refine ⟨_, rfl, p, 2, rfl, P1, by decide, by decide, fun fk n H2 k2 P2 hF2 h2 h6 => ?_⟩
    refine ⟨_, rfl, p, 40, rfl, P2, by decide, by decide, fun age H3 k3 P3 a3 b3 => ⟨_, _, rfl, ?_⟩⟩
    have h2n : 2 ≤ n := by omega
    have T3 := Tabs.kp T1 (k2.trans k3) P1
    have hF3 : FolkAt H3 fk n := hF2.kpT (k3.tup P2)
    -- the two scribes
    refine ⟨_, rfl, _, rfl, fun x1 dx1 nx1 ndx1 ne1 => made nx1 ndx1 ne1 hF3 h2n h6 a3 (by omega) fun b1 t1 l1 H4 s4 nl1 sc1 hB1 => ?_⟩
    refine ⟨_, rfl, _, rfl, fun x2 dx2 nx2 ndx2 ne2 => made nx2 ndx2 ne2 (hF3.kpT (Same.tup s4)) h2n h6 a3 (by omega) fun b2 t2 l2 H5 s5 nl2 sc2 hB2 => ?_⟩
    refine ⟨(by show 2 ≤ sizeLine; decide), fun ls nls => ?_⟩
    have s6 := same_new nls (.lst [.ref x1, .ref x2])
    have e6 : (upd H5 ls (.lst [.ref x1, .ref x2])) ls = some (.lst [.ref x1, .ref x2]) := upd_same
    generalize (upd H5 ls (.lst [.ref x1, .ref x2])) = H6 at s6 e6
    refine ⟨_, rfl, _, rfl, Nat.zero_le _, fun u1 nu1 => ?_⟩
    have s7 := same_new nu1 (.tup [])
    have e7 : (upd H6 u1 (.tup [])) u1 = some (.tup []) := upd_same
    generalize (upd H6 u1 (.tup [])) = H7 at s7 e7
    refine ⟨(by show 3 ≤ sizeLine; decide), fun o1 no1 => ?_⟩
    have s8 := same_new no1 (.tup [.ref fk, .int age, .ref u1])
    have e8 : (upd H7 o1 (.tup [.ref fk, .int age, .ref u1])) o1 = some (.tup [.ref fk, .int age, .ref u1]) := upd_same
    generalize (upd H7 o1 (.tup [.ref fk, .int age, .ref u1])) = H8 at s8 e8
    refine ⟨(by show 1 ≤ sizeLine; decide), fun r1 nr1 => ?_⟩
    have s9 := same_new nr1 (.lst [.ref o1])
    have e9 : (upd H8 r1 (.lst [.ref o1])) r1 = some (.lst [.ref o1]) := upd_same
    generalize (upd H8 r1 (.lst [.ref o1])) = H9 at s9 e9
    refine ⟨_, rfl, _, rfl, Nat.zero_le _, fun u2 nu2 => ?_⟩
    have s10 := same_new nu2 (.tup [])
    have e10 : (upd H9 u2 (.tup [])) u2 = some (.tup []) := upd_same
    generalize (upd H9 u2 (.tup [])) = H10 at s10 e10
    refine ⟨(by show 3 ≤ sizeLine; decide), fun o2 no2 => ?_⟩
    have s11 := same_new no2 (.tup [.ref fk, .int age, .ref u2])
    have e11 : (upd H10 o2 (.tup [.ref fk, .int age, .ref u2])) o2 = some (.tup [.ref fk, .int age, .ref u2]) := upd_same
    generalize (upd H10 o2 (.tup [.ref fk, .int age, .ref u2])) = H11 at s11 e11
    refine ⟨(by show 1 ≤ sizeLine; decide), fun r2 nr2 => ?_⟩
    have s12 := same_new nr2 (.lst [.ref o2])
    have e12 : (upd H11 r2 (.lst [.ref o2])) r2 = some (.lst [.ref o2]) := upd_same
    generalize (upd H11 r2 (.lst [.ref o2])) = H12 at s12 e12
    refine ⟨(by show 2 ≤ sizeLine; decide), fun lr nlr => ?_⟩
    have s13 := same_new nlr (.lst [.ref r1, .ref r2])
    have e13 : (upd H12 lr (.lst [.ref r1, .ref r2])) lr = some (.lst [.ref r1, .ref r2]) := upd_same
    generalize (upd H12 lr (.lst [.ref r1, .ref r2])) = H13 at s13 e13
    have s1213 := s13
    have s1113 := s12.trans s13
    have s1013 := s11.trans s1113
    have s913 := s10.trans s1013
    have s813 := s9.trans s913
    have s713 := s8.trans s813
    have s613 := s7.trans s713
    have s513 := s6.trans s613
    have s413 := s5.trans s513
    have s313 := s4.trans s413
    have P13 : PenAt H13 p := ExtN.pen (.of s313) P3
    have T13 := T3.ext s313
    have hF13 : FolkAt H13 fk n := hF3.kpT (Same.tup s313)
    have s58 := s6.trans (s7.trans s8)
    have s511 := s58.trans (s9.trans (s10.trans s11))
    have s512 := s511.trans s12
    have ml1 := sc1.ls
    have ml2 := sc2.ls
    have ml1' := s5 _ _ ml1
    have hO1 : BookAt H13 o1 fk u1 n age [] := ⟨s813 _ _ e8, hF13, h2n, h6, a3, by omega, s713 _ _ e7, fun _ h => (nomatch h), ⟨List.nodup_nil, fun _ h => (nomatch h), fun _ h => (nomatch h)⟩, Nat.zero_le _⟩
    have hO2 : BookAt H13 o2 fk u2 n age [] := ⟨s1113 _ _ e11, hF13, h2n, h6, a3, by omega, s1013 _ _ e10, fun _ h => (nomatch h), ⟨List.nodup_nil, fun _ h => (nomatch h), fun _ h => (nomatch h)⟩, Nat.zero_le _⟩
    have hh1 : Hst C H13 x1 l1 r1 fk n age [] ⟨b1, t1, o1, u1, []⟩ := ⟨sc1.extN (.of s413), s913 _ _ e9, fun _ h => (nomatch h), ⟨hB1.kp (Same.tup s413), hO1, .nil⟩, ⟨fun _ => rfl, fun s r z => nomatch z⟩, ne_of_none (s58 _ _ ml1') nr1⟩
    have hh2 : Hst C H13 x2 l2 r2 fk n age [] ⟨b2, t2, o2, u2, []⟩ := ⟨sc2.extN (.of s513), s1213 _ _ e12, fun _ h => (nomatch h), ⟨hB2.kp (Same.tup s513), hO2, .nil⟩, ⟨fun _ => rfl, fun s r z => nomatch z⟩, ne_of_none (s511 _ _ ml2) nr2⟩
    have hs0 : Scs C H13 p ls lr fk n age [⟨x1, l1, r1, [], ⟨b1, t1, o1, u1, []⟩⟩, ⟨x2, l2, r2, [], ⟨b2, t2, o2, u2, []⟩⟩] := by
      obtain ⟨dx1, mx1⟩ := sc1.ob
      have s68 := s7.trans s8
      have s611 := s68.trans (s9.trans (s10.trans s11))
      have s911 := s10.trans s11
      have P4 := ExtN.pen (.of s4) P3
      have P5 := ExtN.pen (.of s5) P4
      have P8 := ExtN.pen (.of s58) P5
      have P11 := ExtN.pen (.of s511) P5
      have P12 := ExtN.pen (.of s512) P5
      refine ⟨s613 _ _ e6, e13, fun s hs => ?_, ⟨?_, ?_, P5.free nls, P12.free nlr, ne_of_none (s611.trans s12 _ _ e6) nlr⟩⟩
      · rcases List.mem_cons.mp hs with rfl | hs
        · exact hh1
        · rw [List.mem_singleton.mp hs]
          exact hh2
      · refine .cons (fun b hb => ?_) (.cons (fun _ h => nomatch h) .nil)
        rw [List.mem_singleton.mp hb]
        exact ⟨ne_of_none mx1 nx2, ne_of_none ml1 nl2, ne_of_none (s511 _ _ ml1') nr2, (ne_of_none (s58 _ _ ml2) nr1).symm, ne_of_none (s911 _ _ e9) nr2⟩
      · intro b hb
        rcases List.mem_cons.mp hb with rfl | hb
        · exact ⟨P3.free nl1, P8.free nr1, ne_of_none ml1' nls, (ne_of_none (s68 _ _ e6) nr1).symm, ne_of_none (s512 _ _ ml1') nlr, ne_of_none (s911.trans s12 _ _ e9) nlr⟩
        · rw [List.mem_singleton.mp hb]
          exact ⟨P4.free nl2, P11.free nr2, ne_of_none ml2 nls, (ne_of_none (s611 _ _ e6) nr2).symm, ne_of_none (s512 _ _ ml2) nlr, ne_of_none e12 nlr⟩
    clear hh1 hh2 hO1 hO2 e6 e7 e8 e9 e10 e11 e12 e13 sc1 sc2 hB1 hB2 ml1 ml2 ml1'
    -- the turns
    refine ⟨_, rfl, by omega, by omega, ?_⟩
    refine for_range (lo := 0) (n := 12) (fun i σ H' => ∃ y6 y7 y8 y9 ss, σ = [some (.ref a), some (.ref p), some (.ref fk), some (.int age), some (.ref ls), some (.ref lr), y6, y7, y8, y9, none, none, none, none, none] ∧ PenAt H' p ∧ Tabs T H' ∧ FolkAt H' fk n ∧ Scs C H' p ls lr fk n age ss ∧ ss.length ≤ 2 + i ∧ 1 ≤ ss.length ∧ ∀ s ∈ ss, s.hs.length ≤ i) ⟨_, _, _, _, _, rfl, P13, T13, hF13, hs0, Nat.le_refl _, by show 1 ≤ 2; decide, fun s hs => ?_⟩ ?_ ?_
    · rcases List.mem_cons.mp hs with rfl | hs
      · exact Nat.le_refl _
      · rw [List.mem_singleton.mp hs]
        exact Nat.le_refl _
    · rintro i σ H14 hi ⟨y6, y7, y8, y9, ss, rfl, P14, T14, hF14, h14, hl14, hp14, hn14⟩
      refine ⟨_, rfl, _, rfl, ls, _, rfl, .inl (SqL.of h14.sl), p, _, rfl, P14, ?_, ?_, fun at_ H15 k15 P15 a15 b15 => ?_⟩
      · rw [List.length_map]; omega
      · rw [List.length_map]; omega
      obtain ⟨j, rfl⟩ := Int.eq_ofNat_of_zero_le a15
      have h15 := h14.xp (XP.ofK k15) P14
      have T15 := Tabs.kp T14 k15 P14
      have hF15 : FolkAt H15 fk n := hF14.kpT (k15.tup P14)
      obtain ⟨A, s, B, rfl, hA⟩ := split_at (ss := ss) (j := j) (by rw [List.length_map] at b15; omega)
      refine ⟨fun σ' H' => ∃ ss', σ' = [some (.ref a), some (.ref p), some (.ref fk), some (.int age), some (.ref ls), some (.ref lr), some (.int (0 + (i : Int))), some (.int (j : Int)), y8, y9, none, none, none, none, none] ∧ PenAt H' p ∧ Tabs T H' ∧ FolkAt H' fk n ∧ Scs C H' p ls lr fk n age ss' ∧ ss'.length ≤ 3 + i ∧ 1 ≤ ss'.length ∧ ∀ s ∈ ss', s.hs.length ≤ i + 1, ?_, ?_⟩
      · refine ⟨_, rfl, p, 5, rfl, P15, by decide, by decide, fun v16 H16 k16 P16 a16 b16 => ⟨rfl, _, rfl, ?_⟩⟩
        have h16 := h15.xp (XP.ofK k16) P15
        have T16 := Tabs.kp T15 k16 P15
        have hF16 : FolkAt H16 fk n := hF15.kpT (k16.tup P15)
        have hms : s ∈ A ++ s :: B := by simp
        have hs16 := h16.at_ s hms
        have hn := hn14 s hms
        have ne := h16.sep.ne (adr s) (List.mem_map_of_mem (f := adr) hms)
        have gx := at_split (B := B) (s := s) (fun s : Sb => V.ref s.x) hA
        have gr := at_split (B := B) (s := s) (fun s : Sb => V.ref s.lp) hA
        rw [dec_intE]
        refine ite2 (fun c => ?_) (fun c => ?_)
        · -- a twin
          obtain ⟨⟨dx, hx⟩, hl⟩ := id hs16.sc
          refine ⟨_, rfl, .inl ⟨rfl, _, SqL.of h16.sl⟩, _, rfl, _, rfl, ls, _, _, _, rfl, rfl, SqL.of h16.sl, (atI_nat (j := j) gx), s.x, dx, _, rfl, hx, sfl_no _ _ (by decide +kernel) (by decide +kernel), s.x, s.cu.b, s.l, fk, s.cu.t, _, n, age, s.cu.zs, rfl, hs16.sc, (by rw [List.length_map]; omega), hs16.cur.mine, fun y l2 H17 s17 ny nl2 scY => ?_⟩
          have sl17 := s17 _ _ h16.sl
          refine ⟨ls, _, _, rfl, rfl, sl17, small1000 (by rw [List.length_map]; omega), ?_⟩
          have T18 := Tabs.put (T16.ext s17) sl17 (.lst (((A ++ s :: B).map fun s => V.ref s.x) ++ [.ref y]))
          have P18 : PenAt (upd H17 ls (.lst (((A ++ s :: B).map fun s => V.ref s.x) ++ [.ref y]))) p := (ExtN.pen (.of s17) P16).put h16.sep.sp.1 _
          have w18 : ∀ c o, c ≠ ls → H17 c = some o → (upd H17 ls (.lst (((A ++ s :: B).map fun s => V.ref s.x) ++ [.ref y]))) c = some o := fun c o n1 e => by rw [upd_ne n1]; exact e
          have e18 : (upd H17 ls (.lst (((A ++ s :: B).map fun s => V.ref s.x) ++ [.ref y]))) ls = some (.lst (((A ++ s :: B).map fun s => V.ref s.x) ++ [.ref y])) := upd_same
          generalize (upd H17 ls (.lst (((A ++ s :: B).map fun s => V.ref s.x) ++ [.ref y]))) = H18 at T18 P18 w18 e18
          have sr18 := w18 _ _ h16.sep.sp.2.2.symm (s17 _ _ h16.sr)
          have er18 := w18 _ _ ne.2.2.2.1 (s17 _ _ hs16.ls)
          refine ⟨_, rfl, .inl ⟨rfl, _, SqL.of sr18⟩, _, rfl, _, rfl, lr, _, _, _, rfl, rfl, SqL.of sr18, (atI_nat (j := j) gr), s.lp, _, rfl, .inl (SqL.of er18), fun l9 nl9 => ?_⟩
          have s19 := same_new nl9 (.lst ((s.hs.map fun s => V.ref s.o) ++ [.ref s.cu.o]))
          have e19 : (upd H18 l9 (.lst ((s.hs.map fun s => V.ref s.o) ++ [.ref s.cu.o]))) l9 = some (.lst ((s.hs.map fun s => V.ref s.o) ++ [.ref s.cu.o])) := upd_same
          have P19 := P18.new nl9 (.lst ((s.hs.map fun s => V.ref s.o) ++ [.ref s.cu.o]))
          generalize (upd H18 l9 (.lst ((s.hs.map fun s => V.ref s.o) ++ [.ref s.cu.o]))) = H19 at s19 e19 P19
          have sr19 := s19 _ _ sr18
          refine ⟨lr, _, _, rfl, rfl, sr19, small1000 (by rw [List.length_map]; omega), ?_⟩
          have T20 := Tabs.put (T18.ext s19) sr19 (.lst (((A ++ s :: B).map fun s => V.ref s.lp) ++ [.ref l9]))
          have P20 : PenAt (upd H19 lr (.lst (((A ++ s :: B).map fun s => V.ref s.lp) ++ [.ref l9]))) p := P19.put h16.sep.sp.2.1 _
          have w20 : ∀ c o, c ≠ lr → H19 c = some o → (upd H19 lr (.lst (((A ++ s :: B).map fun s => V.ref s.lp) ++ [.ref l9]))) c = some o := fun c o n1 e => by rw [upd_ne n1]; exact e
          have e20 : (upd H19 lr (.lst (((A ++ s :: B).map fun s => V.ref s.lp) ++ [.ref l9]))) lr = some (.lst (((A ++ s :: B).map fun s => V.ref s.lp) ++ [.ref l9])) := upd_same
          generalize (upd H19 lr (.lst (((A ++ s :: B).map fun s => V.ref s.lp) ++ [.ref l9]))) = H20 at T20 P20 w20 e20
          have w1720 : ∀ c o, c ≠ ls → c ≠ lr → H17 c = some o → H20 c = some o := fun c o n1 n2 e => w20 _ _ n2 (s19 _ _ (w18 _ _ n1 e))
          have w : ∀ c o, c ≠ ls → c ≠ lr → H16 c = some o → H20 c = some o := fun c o n1 n2 e => w1720 _ _ n1 n2 (s17 _ _ e)
          have k : KpT H16 H20 := fun c xs e => w _ _ (fun z => by rw [z, h16.sl] at e; cases e) (fun z => by rw [z, h16.sr] at e; cases e) e
          have np : H16 l9 = none := by
            cases z : H16 l9 with
            | none => rfl
            | some o =>
              by_cases zl : l9 = ls
              · rw [zl, e18] at nl9
                cases nl9
              · rw [w18 _ _ zl (s17 _ _ z)] at nl9
                cases nl9
          obtain ⟨⟨dy, hy⟩, hl2⟩ := id scY
          have hl18 := w18 _ _ (ne_of_none h16.sl nl2).symm hl2
          refine ⟨(A ++ s :: B) ++ [⟨y, l2, l9, s.hs, s.cu⟩], rfl, P20, T20, hF16.kpT k, h16.more w k P16 (w20 _ _ h16.sep.sp.2.2 (s19 _ _ e18)) e20 ?_ ny nl2 np, ?_, ?_, fun t ht => ?_⟩
          · exact ⟨⟨⟨dy, w1720 _ _ (ne_of_none h16.sl ny).symm (ne_of_none h16.sr ny).symm hy⟩, w1720 _ _ (ne_of_none h16.sl nl2).symm (ne_of_none h16.sr nl2).symm hl2⟩, w20 _ _ (ne_of_none sr18 nl9).symm e19, fun t ht => (hs16.at_ t ht).kp k, hs16.cur.kp k, hs16.first, ne_of_none hl18 nl9⟩
          · rw [List.length_append (bs := [_])]
            show _ + 1 ≤ _
            omega
          · rw [List.length_append (bs := [_])]
            omega
          · rcases List.mem_append.mp ht with h1 | h1
            · exact Nat.le_succ_of_le (hn14 t h1)
            · rw [List.mem_singleton.mp h1]
              exact Nat.le_succ_of_le hn
        · -- a deed
          refine ⟨_, rfl, _, rfl, _, rfl, ls, _, _, _, rfl, rfl, SqL.of h16.sl, (atI_nat (j := j) gx), _, rfl, _, rfl, lr, _, _, _, rfl, rfl, SqL.of h16.sr, (atI_nat (j := j) gr), p, s.x, s.l, s.lp, fk, n, age, s.hs, s.cu, rfl, P16, hs16, (by omega), ne.1, ne.2.1, T16, fun hs' cu' H17 k17 w17 P17 T17 h17 hl17 => ⟨_, rfl, ?_⟩⟩
          refine iteF ?_
          refine ⟨A ++ ⟨s.x, s.l, s.lp, hs', cu'⟩ :: B, rfl, P17, T17, hF16.kpT k17, h16.step k17 w17 P16 rfl h17, ?_, ?_, fun t ht => ?_⟩
          · rw [List.length_append, List.length_cons] at hl14 ⊢
            omega
          · rw [List.length_append, List.length_cons]
            omega
          · rcases List.mem_append.mp ht with h1 | h1
            · exact Nat.le_succ_of_le (hn14 t (List.mem_append.mpr (.inl h1)))
            · rcases List.mem_cons.mp h1 with rfl | h2
              · exact Nat.le_trans hl17 (Nat.succ_le_succ hn)
              · exact Nat.le_succ_of_le (hn14 t (List.mem_append.mpr (.inr (List.mem_cons_of_mem _ h2))))
      clear hn14 h15 T15 hF15 P15 hA b15 h14
      rintro _ H16 ⟨ss, rfl, P16, T16, hF16, h16, hl16, hp16, hn16⟩
      have hcs16 : ∀ H', Same H16 H' → ∀ t ∈ ss.map (·.cu), StgAt H' fk n age t := fun H' s' t ht => by
        obtain ⟨u, hu, rfl⟩ := List.mem_map.mp ht
        exact (h16.at_ u hu).cur.kp (Same.tup s')
      refine ⟨fun σ' H' => σ' = [some (.ref a), some (.ref p), some (.ref fk), some (.int age), some (.ref ls), some (.ref lr), some (.int (0 + (i : Int))), some (.int (j : Int)), y8, y9, none, none, none, none, none] ∧ Same H16 H', ?_, ?_⟩
      · refine ⟨_, rfl, _, rfl, ⟨_, SqL.of h16.sl⟩, fun M1 nM1 => ?_⟩
        refine lc_sameM (walk_list (xs := ss.map fun s => V.ref s.x)) ss (fun y => .ref y.cu.b) (by rw [List.length_map]) (by omega) nM1 (fun H s => SqL.of (s _ _ h16.sl)) ?_ ?_
        · rintro i1 y x1 H3 H4 hy s3 ⟨rfl, hx1⟩ Q1 q1
          rw [List.getElem?_map, hy] at hx1
          injection hx1 with hx1
          subst hx1
          have sc := (h16.at_ y (List.mem_of_getElem? hy)).sc.extN (.of s3)
          obtain ⟨⟨dx, hx⟩, _⟩ := id sc
          exact ⟨rfl, _, rfl, y.x, dx, _, rfl, hx, sfl_no _ _ (by decide +kernel) (by decide +kernel), y.x, y.cu.b, y.l, _, rfl, sc, q1 _ (same_refl _)⟩
        intro H17 s17 eM1
        refine ⟨_, rfl, _, rfl, ⟨_, SqL.of (s17 _ _ h16.sr)⟩, fun M2 nM2 => ?_⟩
        refine lc_sameM (walk_list (xs := ss.map fun s => V.ref s.lp)) ss (fun y => .ref y.cu.o) (by rw [List.length_map]) (by omega) nM2 (fun H s => SqL.of (s _ _ (s17 _ _ h16.sr))) ?_ ?_
        · rintro i1 y x1 H3 H4 hy s3 ⟨rfl, hx1⟩ Q1 q1
          rw [List.getElem?_map, hy] at hx1
          injection hx1 with hx1
          subst hx1
          have e := s3 _ _ (s17 _ _ (h16.at_ y (List.mem_of_getElem? hy)).ls)
          exact ⟨rfl, _, rfl, _, rfl, y.lp, _, _, _, rfl, rfl, SqL.of e, atI_last _ _, q1 _ (same_refl _)⟩
        intro H18 s18 eM2
        obtain ⟨ds, d1, d2, d3, d4, d5⟩ := dp_books (K := K) (ss.map (·.cu)) (hcs16 H18 (s17.trans s18))
        rw [List.map_map] at d1 d2
        refine ⟨.list ds, .list ds, .lst (SqL.of (s18 _ _ eM1)) d1, .lst (SqL.of eM2) d2, shaped_books d3 d4, shaped_books d3 d4, _, rfl, ?_⟩
        rw [show PyData.eqv (.list ds) (.list ds) = true from by rw [PyData.eqv]; exact d5]
        refine iteF ?_
        exact ⟨rfl, s17.trans s18⟩
      rintro _ H17 ⟨rfl, s17⟩
      have h17 := h16.xp (XP.ofS s17) P16
      have P17 := ExtN.pen (.of s17) P16
      have T17 := T16.ext s17
      have hF17 : FolkAt H17 fk n := hF16.kpT (Same.tup s17)
      refine ⟨_, rfl, _, rfl, ls, lr, _, _, rfl, SqL.of h17.sl, SqL.of h17.sr, ?_⟩
      refine for_it (walk_zipB (K := K) (c1 := true) (c2 := true) (a := ls) (b := lr) (n := ss.length) (xs := ss.map fun s => V.ref s.x) (ys := ss.map fun s => V.ref s.lp) (by rw [List.length_map]) (by rw [List.length_map])) (fun i1 σ H' => ∃ z8 z9, σ = [some (.ref a), some (.ref p), some (.ref fk), some (.int age), some (.ref ls), some (.ref lr), some (.int (0 + (i : Int))), some (.int (j : Int)), z8, z9, none, none, none, none, none] ∧ Same H17 H') ⟨_, _, rfl, same_refl _⟩ (fun i1 σ H' _ h => ?_) ?_ ?_
      · obtain ⟨_, _, _, eX⟩ := h
        exact ⟨SqL.of (eX _ _ h17.sl), SqL.of (eX _ _ h17.sr)⟩
      · rintro i1 x σ H18 H19 hi1 ⟨z8, z9, rfl, s18⟩ ⟨T5, w1, w2, rfl, nT, rfl, g1, g2⟩
        dsimp only at g1 g2
        rw [List.getElem?_map] at g1 g2
        cases hri : ss[i1]? with
        | none => rw [hri] at g1; cases g1
        | some u =>
        rw [hri] at g1 g2
        injection g1 with g1
        injection g2 with g2
        subst g1 g2
        have hu := List.mem_of_getElem? hri
        have s19 := s18.trans (same_new nT (.tup [.ref u.x, .ref u.lp]))
        have e19 : (upd H18 T5 (.tup [.ref u.x, .ref u.lp])) T5 = some (.tup [.ref u.x, .ref u.lp]) := upd_same
        generalize (upd H18 T5 (.tup [.ref u.x, .ref u.lp])) = H19 at s19 e19
        have h19 := h17.xp (XP.ofS s19) P17
        have u19 := h19.at_ u hu
        refine ⟨T5, _, rfl, SqT.of e19, rfl, _, _, rfl, _, _, rfl, rfl, ?_⟩
        refine ⟨fun σ' H' => σ' = [some (.ref a), some (.ref p), some (.ref fk), some (.int age), some (.ref ls), some (.ref lr), some (.int (0 + (i : Int))), some (.int (j : Int)), some (.ref u.x), some (.ref u.lp), none, none, none, none, none] ∧ Same H19 H', ?_, ?_⟩
        · obtain ⟨⟨dx, hx⟩, _⟩ := id u19.sc
          have key : ∀ y ∈ ss, ∀ H', Same H19 H' → ∃ ps, Dp K H' (.ref u.cu.b) (bkD ps age (ens u.cu.zs)) ∧ Dp K H' (.ref y.cu.b) (bkD ps age (ens y.cu.zs)) ∧ SeqAt.shaped (bkD ps age (ens u.cu.zs)) = true ∧ SeqAt.shaped (bkD ps age (ens y.cu.zs)) = true := fun y hy H' s' => by
            have q1 := u19.cur.mine.kp (Same.tup s')
            have q2 := (h19.at_ y hy).cur.mine.kp (Same.tup s')
            obtain ⟨ps, d1, d2⟩ := BookAt.dp (K := K) q1 q2
            exact ⟨ps, d1, d2, q1.shaped ps, q2.shaped ps⟩
          have keyO : ∀ y ∈ ss, ∀ H', Same H19 H' → ∃ ps, Dp K H' (.ref u.cu.o) (bkD ps age (ens u.cu.zs)) ∧ Dp K H' (.ref y.cu.o) (bkD ps age (ens y.cu.zs)) ∧ SeqAt.shaped (bkD ps age (ens u.cu.zs)) = true ∧ SeqAt.shaped (bkD ps age (ens y.cu.zs)) = true := fun y hy H' s' => by
            have q1 := u19.cur.his.kp (Same.tup s')
            have q2 := (h19.at_ y hy).cur.his.kp (Same.tup s')
            obtain ⟨ps, d1, d2⟩ := BookAt.dp (K := K) q1 q2
            exact ⟨ps, d1, d2, q1.shaped ps, q2.shaped ps⟩
          refine ⟨_, rfl, _, rfl, ⟨_, SqL.of h19.sl⟩, fun M1 nM1 => ?_⟩
          refine lc_sameM (walk_list (xs := ss.map fun s => V.ref s.x)) ss (fun y => .bl (eqB (ens u.cu.zs) (ens y.cu.zs))) (by rw [List.length_map]) (by omega) nM1 (fun H s => SqL.of (s _ _ h19.sl)) ?_ ?_
          · rintro i2 y x1 H3 H4 hy s3 ⟨rfl, hx1⟩ Q1 q1
            rw [List.getElem?_map, hy] at hx1
            injection hx1 with hx1
            subst hx1
            have my := List.mem_of_getElem? hy
            have sc := (h19.at_ y my).sc.extN (.of s3)
            obtain ⟨⟨dy, hy3⟩, _⟩ := id sc
            obtain ⟨ps, d1, d2, d3, d4⟩ := key y my _ s3
            refine ⟨rfl, _, rfl, _, rfl, u.x, dx, _, _, rfl, s3 _ _ hx, .base (.ins hy3 ic.cl ic.ha ic.hn ic.htk ic.hm), by simp [PySem.W.notFirst], u.x, u.cu.b, u.l, _, .ref y.x, rfl, u19.sc.extN (.of s3), .inl ⟨y.x, y.cu.b, y.l, _, _, rfl, sc.ob, d1, d2, d3, d4, _, rfl, ?_⟩⟩
            rw [eqv_bkB, beqT]
            exact q1 _ (same_refl _)
          intro H20 s20 eM1
          have h20 := h19.xp (XP.ofS s20) (ExtN.pen (.of s19) P17)
          refine ⟨_, rfl, _, rfl, ⟨_, SqL.of h20.sr⟩, fun M2 nM2 => ?_⟩
          refine lc_sameM (walk_list (xs := ss.map fun s => V.ref s.lp)) ss (fun y => .bl (eqB (ens u.cu.zs) (ens y.cu.zs))) (by rw [List.length_map]) (by omega) nM2 (fun H s => SqL.of (s _ _ h20.sr)) ?_ ?_
          · rintro i2 y x1 H3 H4 hy s3 ⟨rfl, hx1⟩ Q1 q1
            rw [List.getElem?_map, hy] at hx1
            injection hx1 with hx1
            subst hx1
            have my := List.mem_of_getElem? hy
            obtain ⟨ps, d1, d2, d3, d4⟩ := keyO y my _ (s20.trans s3)
            refine ⟨rfl, _, rfl, _, rfl, u.lp, _, _, _, rfl, rfl, SqL.of (s3 _ _ (h20.at_ u hu).ls), atI_last _ _, _, rfl, _, rfl, y.lp, _, _, _, rfl, rfl, SqL.of (s3 _ _ (h20.at_ y my).ls), atI_last _ _, _, _, d1, d2, d3, d4, ?_⟩
            rw [eqv_bkB]
            exact q1 _ (same_refl _)
          intro H21 s21 eM2
          have hb := bls_alike (ss.map fun y => eqB (ens u.cu.zs) (ens y.cu.zs))
          have hd : ∀ M, H21 M = some (.lst (ss.map fun y => V.bl (eqB (ens u.cu.zs) (ens y.cu.zs)))) → Dp K H21 (.ref M) (.list ((ss.map fun y => eqB (ens u.cu.zs) (ens y.cu.zs)).map PyData.bool)) := fun M e => .lst (SqL.of e) (by
            have := bls_dp (K := K) (H := H21) (ss.map fun y => eqB (ens u.cu.zs) (ens y.cu.zs))
            rw [List.map_map] at this
            exact this)
          refine ⟨_, _, hd _ (s21 _ _ eM1), hd _ eM2, hb.1, hb.1, _, rfl, ?_⟩
          rw [hb.2]
          refine iteF ?_
          exact ⟨rfl, s20.trans s21⟩
        rintro _ H20 ⟨rfl, s20⟩
        have h20 := h19.xp (XP.ofS s20) (ExtN.pen (.of s19) P17)
        obtain ⟨s0, rest, hss⟩ : ∃ s0 rest, ss = s0 :: rest := by
          cases ss with
          | nil => cases hu
          | cons s0 rest => exact ⟨s0, rest, rfl⟩
        have m0 : s0 ∈ ss := by rw [hss]; exact List.mem_cons_self
        refine ⟨_, rfl, _, rfl, _, rfl, ls, _, rfl, SqL.of h20.sl, fun M3 nM3 => ?_⟩
        rw [show cutV (ss.map fun s => V.ref s.x) none (some 1) = [V.ref s0.x] from by rw [hss]; exact cutTake (fun s : Sb => V.ref s.x) (s0 :: rest) (by decide)]
        have s21 := same_new nM3 (.lst [.ref s0.x])
        have e21 : (upd H20 M3 (.lst [.ref s0.x])) M3 = some (.lst [.ref s0.x]) := upd_same
        generalize (upd H20 M3 (.lst [.ref s0.x])) = H22 at s21 e21
        have s22 := s20.trans s21
        have h22 := h19.xp (XP.ofS s22) (ExtN.pen (.of s19) P17)
        have hu22 := h22.at_ u hu
        have h022 := h22.at_ s0 m0
        obtain ⟨⟨dx, hx⟩, _⟩ := id hu22.sc
        obtain ⟨⟨d0, hx0⟩, _⟩ := id h022.sc
        obtain ⟨ps, g1, g2⟩ := BookAt.dp (K := K) hu22.cur.his h022.cur.his
        obtain ⟨pt, g3, g4⟩ := BookAt.dp (K := K) h022.cur.mine hu22.cur.mine
        have gr0 : (ss.map fun s => V.ref s.lp)[0]? = some (V.ref s0.lp) := by rw [hss]; rfl
        have fin : ∀ v : Bool, v = eqB (ens s0.cu.zs) (ens u.cu.zs) → PyData.eqv (.bool v) (.bool (PyData.eqv (bkD ps age (ens u.cu.zs)) (bkD ps age (ens s0.cu.zs)))) = true := fun v hv => by
          rw [eqv_bkB, eqB_comm, hv]
          simp [PyData.eqv]
        refine ⟨s0.x, u.x, M3, d0, _, dx, _, rfl, rfl, e21, hx0, hx, fun heq => ?_, fun hne => ?_⟩
        · have hus : u = s0 := by
            rw [hss] at hu
            rcases List.mem_cons.mp hu with h | h
            · exact h
            · have hp := h22.sep.pw
              rw [hss, List.map_cons, List.pairwise_cons] at hp
              exact absurd heq (hp.1 _ (List.mem_map_of_mem (f := adr) h)).1
          refine ⟨_, rfl, _, rfl, u.lp, _, _, _, rfl, rfl, SqL.of hu22.ls, atI_last _ _, _, rfl, lr, _, _, _, rfl, rfl, SqL.of h22.sr, (atI_nat (j := 0) gr0), _, rfl, s0.lp, _, _, _, rfl, rfl, SqL.of h022.ls, atI_last _ _, _, _, g1, g2, hu22.cur.his.shaped ps, h022.cur.his.shaped ps, .bool true, _, .bl _, .bl _, rfl, rfl, _, rfl, ?_⟩
          rw [fin true (by rw [hus, eqB_self])]
          refine iteF ?_
          exact ⟨_, _, rfl, s19.trans s22⟩
        · refine ⟨s0.x, s0.cu.b, s0.l, _, .ref u.x, rfl, h022.sc, .inl ⟨u.x, u.cu.b, u.l, _, _, rfl, hu22.sc.ob, g3, g4, h022.cur.mine.shaped pt, hu22.cur.mine.shaped pt, _, rfl, e21, ?_⟩⟩
          refine ⟨_, rfl, _, rfl, u.lp, _, _, _, rfl, rfl, SqL.of hu22.ls, atI_last _ _, _, rfl, lr, _, _, _, rfl, rfl, SqL.of h22.sr, (atI_nat (j := 0) gr0), _, rfl, s0.lp, _, _, _, rfl, rfl, SqL.of h022.ls, atI_last _ _, _, _, g1, g2, hu22.cur.his.shaped ps, h022.cur.his.shaped ps, .bool _, _, .bl _, .bl _, rfl, rfl, _, rfl, ?_⟩
          rw [fin _ (eqv_bkB _ _ _ _)]
          refine iteF ?_
          exact ⟨_, _, rfl, s19.trans s22⟩
      · rintro σ H18 ⟨z8, z9, rfl, s18⟩
        exact ⟨_, _, _, _, ss, rfl, ExtN.pen (.of s18) P17, T17.ext s18, hF17.kpT (Same.tup s18), h17.xp (XP.ofS s18) P17, by omega, hp16, hn16⟩
    rintro σ H14 ⟨y6, y7, y8, y9, ss, rfl, P14, T14, hF14, h14, hl14, hp14, hn14⟩
    -- two others
    refine ⟨_, rfl, _, rfl, _, _, rfl, rfl, fun xo dxo nxo ndxo neo => made nxo ndxo neo hF14 h2n h6 (by omega) (by omega) fun bo to lo H15 s15 nlo sco hBo => ?_⟩
    have hF15 : FolkAt H15 fk n := hF14.kpT (Same.tup s15)
    refine ⟨fun σ' H' => ∃ xs bs tst lst fk' n', σ' = [some (.ref a), some (.ref p), some (.ref fk), some (.int age), some (.ref ls), some (.ref lr), y6, y7, y8, y9, some (.ref xo), some (.ref xs), none, none, none] ∧ Same H15 H' ∧ H15 xs = none ∧ (∃ dx, H' xs = some (.ins C dx (sfl bs lst))) ∧ BookAt H' bs fk' tst n' age [] ∧ n' ≠ n, ?_, ?_⟩
    · obtain ⟨ps, ef, hpl, hpp⟩ := id hF15
      refine ⟨_, rfl, _, _, rfl, .inr (SqT.of ef), _, _, rfl, rfl, _, rfl, ?_⟩
      rw [hpl]
      refine ite2 (fun c => ?_) (fun c => ?_)
      · have c6 := of_decide_eq_true c
        refine ⟨_, rfl, (by show 2 ≤ sizeLine; decide), fun t15 nt15 => ?_⟩
        have s1 := same_new nt15 (.tup [.int 0, .non])
        have e1 : (upd H15 t15 (.tup [.int 0, .non])) t15 = some (.tup [.int 0, .non]) := upd_same
        generalize (upd H15 t15 (.tup [.int 0, .non])) = Ha at s1 e1
        refine ⟨(by show 1 ≤ sizeLine; decide), fun t16 nt16 => ?_⟩
        have s2 := same_new nt16 (.tup [.ref t15])
        have e2 : (upd Ha t16 (.tup [.ref t15])) t16 = some (.tup [.ref t15]) := upd_same
        generalize (upd Ha t16 (.tup [.ref t15])) = Hb at s2 e2
        refine catA_same (s2 _ _ (s1 _ _ ef)) e2 (by rw [hpl]; show n + 1 ≤ 1000; omega) fun t17 Hc s3 e3 => ?_
        have s13 := s1.trans (s2.trans s3)
        have hF' : FolkAt Hc t17 (n + 1) := ⟨_, e3, by rw [List.length_append, hpl]; rfl, fun v hv => by
          rcases List.mem_append.mp hv with h1 | h1
          · exact (hpp v h1).kt (Same.tup s13)
          · rw [List.mem_singleton.mp h1]
            exact ⟨t15, 0, .non, rfl, s3 _ _ (s2 _ _ e1), by decide, by decide, .inl rfl⟩⟩
        refine ⟨_, rfl, fun x dx nx ndx ne => made nx ndx ne hF' (by omega) (by omega) a3 (by omega) fun b t l Hd s4 nl sc hB => ?_⟩
        exact ⟨x, b, t, l, t17, n + 1, rfl, s13.trans s4, none_back s13 nx, sc.ob, hB, by omega⟩
      · have c6 := of_decide_eq_false (Bool.eq_false_iff.mpr c)
        refine ⟨_, rfl, ?_⟩
        dsimp only [tNoPart]
        refine ⟨_, rfl, slA_same ef fun t17 Hc s3 e3 => ?_⟩
        have hcut : cutV ps none (some 5) = ps.take 5 := by
          have := cutTake (fun v : V => v) ps (v := 5) (by decide)
          rw [List.map_id', List.map_id'] at this
          exact this
        rw [hcut] at e3
        have hF' : FolkAt Hc t17 5 := ⟨_, e3, by rw [List.length_take]; omega, fun v hv => (hpp v (List.mem_of_mem_take hv)).kt (Same.tup s3)⟩
        refine ⟨_, rfl, fun x dx nx ndx ne => made nx ndx ne hF' (by omega) (by omega) a3 (by omega) fun b t l Hd s4 nl sc hB => ?_⟩
        exact ⟨x, b, t, l, t17, 5, rfl, s3.trans s4, none_back s3 nx, sc.ob, hB, by omega⟩
    rintro _ H16 ⟨xt, bs, tst, lst, fk', n', rfl, s16, nxt, obt, hBs, nn'⟩
    have s1416 := s15.trans s16
    have P16 : PenAt H16 p := ExtN.pen (.of s1416) P14
    have T16 := T14.ext s1416
    have hF16 : FolkAt H16 fk n := hF14.kpT (Same.tup s1416)
    have h16 := h14.xp (XP.ofS s1416) P14
    have obo : ∃ dx, H16 xo = some (.ins C dx (sfl bo lo)) := by
      obtain ⟨dx, h⟩ := sco.ob
      exact ⟨dx, s16 _ _ h⟩
    have hBo16 := hBo.kp (Same.tup s16)
    have nos : ∀ s ∈ ss, s.x ≠ xo ∧ s.x ≠ xt := fun s hs => by
      obtain ⟨dx, hx⟩ := (h14.at_ s hs).sc.ob
      exact ⟨ne_of_none hx nxo, ne_of_none (s15 _ _ hx) nxt⟩
    refine ⟨_, rfl, _, rfl, ls, lr, _, _, rfl, SqL.of h16.sl, SqL.of h16.sr, ?_⟩
    refine for_it (walk_zipB (K := K) (c1 := true) (c2 := true) (a := ls) (b := lr) (n := ss.length) (xs := ss.map fun s => V.ref s.x) (ys := ss.map fun s => V.ref s.lp) (by rw [List.length_map]) (by rw [List.length_map])) (fun i1 σ H' => ∃ z12 z13 z14 ss', σ = [some (.ref a), some (.ref p), some (.ref fk), some (.int age), some (.ref ls), some (.ref lr), y6, y7, y8, y9, some (.ref xo), some (.ref xt), z12, z13, z14] ∧ PenAt H' p ∧ Tabs T H' ∧ FolkAt H' fk n ∧ Scs C H' p ls lr fk n age ss' ∧ ss'.map adr = ss.map adr ∧ (∀ s ∈ ss', s.hs.length ≤ 12) ∧ (∀ j s, j < i1 → ss'[j]? = some s → s.hs = []) ∧
        (∃ dx, H' xo = some (.ins C dx (sfl bo lo))) ∧ BookAt H' bo fk to n (age + 1) [] ∧ (∃ dx, H' xt = some (.ins C dx (sfl bs lst))) ∧ BookAt H' bs fk' tst n' age []) ⟨_, _, _, ss, rfl, P16, T16, hF16, h16, rfl, hn14, fun j s hj => absurd hj (Nat.not_lt_zero _), obo, hBo16, obt, hBs⟩ (fun i1 σ H' _ h => ?_) ?_ ?_
    · obtain ⟨_, _, _, ss', _, _, _, _, h', hadr, _⟩ := h
      have e1 : (ss'.map fun s => V.ref s.x) = ss.map fun s => V.ref s.x := by
        have := congrArg (List.map fun z : Addr × Addr × Addr => V.ref z.1) hadr
        rw [List.map_map, List.map_map] at this
        exact this
      have e2 : (ss'.map fun s => V.ref s.lp) = ss.map fun s => V.ref s.lp := by
        have := congrArg (List.map fun z : Addr × Addr × Addr => V.ref z.2.2) hadr
        rw [List.map_map, List.map_map] at this
        exact this
      exact ⟨by rw [← e1]; exact SqL.of h'.sl, by rw [← e2]; exact SqL.of h'.sr⟩
    · rintro i1 x σ H18 H19 hi1 ⟨z12, z13, z14, ss', rfl, P18, T18, hF18, h18, hadr, hn18, hz18, obo18, hBo18, obt18, hBs18⟩ ⟨T5, w1, w2, rfl, nT, rfl, g1, g2⟩
      dsimp only at g1 g2
      have hlen : ss'.length = ss.length := by
        have := congrArg List.length hadr
        rw [List.length_map, List.length_map] at this
        exact this
      obtain ⟨A, u, B, rfl, hA⟩ := split_at (ss := ss') (j := i1) (by omega)
      have hu : (ss.map adr)[i1]? = some (adr u) := by
        rw [← hadr]
        exact at_split adr hA
      rw [List.getElem?_map] at g1 g2 hu
      cases hri : ss[i1]? with
      | none => rw [hri] at g1; cases g1
      | some u0 =>
      rw [hri] at g1 g2 hu
      injection g1 with g1
      injection g2 with g2
      injection hu with hu
      have hux : u0.x = u.x := congrArg (·.1) hu
      have hup : u0.lp = u.lp := congrArg (·.2.2) hu
      have g1 : V.ref u0.x = w1 := g1
      have g2 : V.ref u0.lp = w2 := g2
      rw [hux] at g1
      rw [hup] at g2
      subst g1 g2
      have mu0 := nos u0 (List.mem_of_getElem? hri)
      rw [hux] at mu0
      have s19 := same_new nT (.tup [.ref u.x, .ref u.lp])
      have e19 : (upd H18 T5 (.tup [.ref u.x, .ref u.lp])) T5 = some (.tup [.ref u.x, .ref u.lp]) := upd_same
      generalize (upd H18 T5 (.tup [.ref u.x, .ref u.lp])) = H19 at s19 e19
      have h19 := h18.xp (XP.ofS s19) P18
      have P19 := ExtN.pen (.of s19) P18
      have T19 := T18.ext s19
      have mu : u ∈ A ++ u :: B := by simp
      have u19 := h19.at_ u mu
      refine ⟨T5, _, rfl, SqT.of e19, rfl, _, _, rfl, _, _, rfl, rfl, ?_⟩
      refine ⟨_, rfl, _, rfl, _, rfl, _, rfl, u.lp, _, _, _, rfl, rfl, SqL.of u19.ls, atI_last _ _, _, rfl, p, 2, rfl, P19, by decide, by decide, fun vt H20 k20 P20 htt => ?_⟩
      obtain ⟨tt, htt⟩ := htt
      refine ⟨(by show 7 ≤ sizeLine; decide), fun t21 nt21 => ?_⟩
      have s21 := same_new nt21 (.tup [.ref xo, .ref xt, .ref u.cu.o, .non, .int 0, .str "", vt])
      have e21 : (upd H20 t21 (.tup [.ref xo, .ref xt, .ref u.cu.o, .non, .int 0, .str "", vt])) t21 = some (.tup [.ref xo, .ref xt, .ref u.cu.o, .non, .int 0, .str "", vt]) := upd_same
      generalize (upd H20 t21 (.tup [.ref xo, .ref xt, .ref u.cu.o, .non, .int 0, .str "", vt])) = H21 at s21 e21
      have k21 : Kp p H19 H21 := k20.trans (Kp.same s21)
      have P21 := ExtN.pen (.of s21) P20
      have T21 := Tabs.kp T19 k21 P19
      have h21 := h19.xp (XP.ofK k21) P19
      have u21 := h21.at_ u mu
      have hF21 : FolkAt H21 fk n := (hF18.kpT (Same.tup s19)).kpT (k21.tup P19)
      obtain ⟨px, hpx⟩ := P19.lst
      obtain ⟨dxo, obo19⟩ := obo18
      obtain ⟨dxt, obt19⟩ := obt18
      have obo21 := k21 _ _ (ins_ne (s19 _ _ obo19) hpx) (s19 _ _ obo19)
      have obt21 := k21 _ _ (ins_ne (s19 _ _ obt19) hpx) (s19 _ _ obt19)
      have hBo21 := (hBo18.kp (Same.tup s19)).kp (k21.tup P19)
      have hBs21 := (hBs18.kp (Same.tup s19)).kp (k21.tup P19)
      obtain ⟨⟨dx, hx⟩, _⟩ := id u21.sc
      have hty : ∀ (v : V) (t : Tg), TyX K H21 v (.type t.ty) → ∃ t, TyX K H21 v t ∧ PySem.W.notFirst K C t = true ∧ ∀ (Q : VK) (E : XK), Q (.bl false) H21 → spScE K C [.ref u.x, v] H21 Q E := fun v t ty => ⟨_, ty, nf_ty K C t, fun Q E q => ⟨u.x, u.cu.b, u.l, _, v, rfl, u21.sc, .inr ⟨_, ty, hk t, q⟩⟩⟩
      have hoth : ∀ v ∈ ([.ref xo, .ref xt, .ref u.cu.o, .non, .int 0, .str "", vt] : List V), ∃ t, TyX K H21 v t ∧ PySem.W.notFirst K C t = true ∧ ∀ (Q : VK) (E : XK), Q (.bl false) H21 → spScE K C [.ref u.x, v] H21 Q E := by
        intro v hv
        simp only [List.mem_cons, List.not_mem_nil, or_false] at hv
        rcases hv with rfl | rfl | rfl | rfl | rfl | rfl | rfl
        · obtain ⟨pp, d1, d2⟩ := BookAt.dpF (K := K) u21.cur.mine hBo21
          refine ⟨.ref C, .base (.ins obo21 ic.cl ic.ha ic.hn ic.htk ic.hm), by simp [PySem.W.notFirst], fun Q E q => ⟨u.x, u.cu.b, u.l, _, _, rfl, u21.sc, .inl ⟨xo, bo, lo, _, _, rfl, ⟨_, obo21⟩, d1, d2, u21.cur.mine.shaped pp, hBo21.shaped pp, ?_⟩⟩⟩
          rw [eqv_age _ _ _ (by omega)]
          exact q
        · obtain ⟨pp, l1, d1⟩ := BookAt.dp1 (K := K) u21.cur.mine
          obtain ⟨pq, l2, d2⟩ := BookAt.dp1 (K := K) hBs21
          refine ⟨.ref C, .base (.ins obt21 ic.cl ic.ha ic.hn ic.htk ic.hm), by simp [PySem.W.notFirst], fun Q E q => ⟨u.x, u.cu.b, u.l, _, _, rfl, u21.sc, .inl ⟨xt, bs, lst, _, _, rfl, ⟨_, obt21⟩, d1, d2, u21.cur.mine.shaped pp, hBs21.shaped pq, ?_⟩⟩⟩
          rw [eqv_folk _ _ _ _ (by omega)]
          exact q
        · exact hty _ (.tup []) (.base (.tup u21.cur.his.at_))
        · exact hty _ .non (.base .non)
        · exact hty _ (.int 0) (.base (.int 0))
        · exact hty _ (.str "") (.base (.str _))
        · exact hty _ tt (TgAt.same s21 _ _ htt).ty
      refine ⟨_, rfl, ⟨_, SqT.of e21⟩, ?_⟩
      refine for_tup (xs := [.ref xo, .ref xt, .ref u.cu.o, .non, .int 0, .str "", vt]) (fun i2 σ H' => ∃ z14, σ = [some (.ref a), some (.ref p), some (.ref fk), some (.int age), some (.ref ls), some (.ref lr), y6, y7, y8, y9, some (.ref xo), some (.ref xt), some (.ref u.x), some (.ref u.lp), z14] ∧ H21 = H') ⟨_, rfl, rfl⟩ (fun i2 σ H' _ h => ?_) ?_ ?_
      · obtain ⟨_, _, rfl⟩ := h
        exact SqT.of e21
      · rintro i2 v σ H' hv ⟨z14, rfl, rfl⟩
        obtain ⟨t, ty, nf, sp⟩ := hoth v (List.mem_of_getElem? hv)
        refine ⟨_, rfl, _, rfl, u.x, dx, _, t, rfl, hx, ty, nf, sp _ _ ⟨false, rfl, _, rfl, ?_⟩⟩
        refine iteF ?_
        refine ⟨_, rfl, _, rfl, u.x, dx, _, t, rfl, hx, ty, nf, sp _ _ ⟨false, rfl, _, rfl, ?_⟩⟩
        refine iteF ?_
        exact ⟨_, rfl, rfl⟩
      rintro σ H' ⟨z14, rfl, rfl⟩
      clear hoth hty
      have ne := h21.sep.ne (adr u) (List.mem_map_of_mem (f := adr) mu)
      have nlp : u.l ≠ p := ne.1
      have nqp : u.lp ≠ p := ne.2.1
      have nll := u21.nl
      -- back
      refine while_by (fun σ H' => ∃ hs cu, σ = [some (.ref a), some (.ref p), some (.ref fk), some (.int age), some (.ref ls), some (.ref lr), y6, y7, y8, y9, some (.ref xo), some (.ref xt), some (.ref u.x), some (.ref u.lp), z14] ∧ PenAt H' p ∧ Tabs T H' ∧ Hst C H' u.x u.l u.lp fk n age hs cu ∧ KpT H21 H' ∧ XW p u.x u.l u.lp H21 H') (fun _ H' => lenAt H' u.lp) ⟨u.hs, u.cu, rfl, P21, T21, u21, fun _ _ e => e, .ofS (same_refl _)⟩ ?_ (fun σ H Q Q' h c => by
        obtain ⟨v, e1, p, ys, e2, e3, i, j, e4, e5, b, e6, q⟩ := c
        exact ⟨v, e1, p, ys, e2, e3, i, j, e4, e5, b, e6, h _ _ q⟩)
      rintro σ H22 ⟨hs, cu, rfl, P22, T22, u22, kt22, w22⟩
      refine ⟨_, rfl, u.lp, _, rfl, .inl (SqL.of u22.ls), _, _, rfl, rfl, _, rfl, ?_⟩
      have hlen22 : lenAt H22 u.lp = hs.length + 1 := by
        unfold lenAt
        rw [u22.ls]
        show ((hs.map fun s => V.ref s.o) ++ [V.ref cu.o]).length = _
        rw [List.length_append, List.length_map]
        rfl
      rcases List.eq_nil_or_concat hs with rfl | ⟨fs, sl, rfl⟩
      · -- at its beginning
        refine iteF ?_
        refine ⟨T22, fun H23 e23 T23 => ?_⟩
        have u23 := u22.xp (XP.ofN e23) P22 nlp nqp
        obtain ⟨dx', hx'⟩ := u23.sc.ob
        refine ⟨_, rfl, u.x, dx', _, rfl, hx', sfl_no _ _ (by decide +kernel) (by decide +kernel), u.x, cu.b, u.l, _, rfl, u23.sc, T23, fun _ => ?_, fun fs r0 z => absurd z (by simp)⟩
        refine .inr (.inr (.inr (.inr (.inr (.inr ⟨rfl, ?_⟩)))))
        refine ⟨rfl, _, rfl, ?_⟩
        refine iteF ?_
        have P23 := ExtN.pen e23 P22
        have kt23 : KpT H21 H23 := kt22.trans (ExtN.tup e23)
        have w23 : XW p u.x u.l u.lp H21 H23 := w22.trans (.ofN e23)
        have keep : ∀ x dx b l, x ≠ u.x → H21 x = some (.ins C dx (sfl b l)) → H23 x = some (.ins C dx (sfl b l)) := fun x dx b l nx hx' => by
          obtain ⟨px, hpx⟩ := P21.lst
          exact w23 _ _ (ins_ne hx' hpx) nx (ins_ne hx' u21.sc.ls) (ins_ne hx' u21.ls) hx' fun ps z => by cases z
        refine ⟨_, _, _, A ++ ⟨u.x, u.l, u.lp, [], cu⟩ :: B, rfl, P23, T23, hF21.kpT kt23, h21.step kt23 w23 P21 rfl u23, ?_, fun s hs => ?_, fun j s hj hs => ?_, ⟨_, keep _ _ _ _ mu0.1.symm obo21⟩, hBo21.kp kt23, ⟨_, keep _ _ _ _ mu0.2.symm obt21⟩, hBs21.kp kt23⟩
        · rw [← hadr, List.map_append, List.map_append, List.map_cons, List.map_cons]
          rfl
        · rcases List.mem_append.mp hs with h1 | h1
          · exact hn18 s (List.mem_append.mpr (.inl h1))
          · rcases List.mem_cons.mp h1 with rfl | h2
            · exact Nat.zero_le _
            · exact hn18 s (List.mem_append.mpr (.inr (List.mem_cons_of_mem _ h2)))
        · by_cases hj2 : j < i1
          · refine hz18 j s hj2 ?_
            rw [List.getElem?_append_left (by omega)] at hs ⊢
            exact hs
          · have : j = i1 := by omega
            subst this
            rw [List.getElem?_append_right (by omega), hA, Nat.sub_self] at hs
            injection hs with hs
            rw [← hs]
      · rw [List.concat_eq_append] at u22 hlen22 ⊢
        have hgt : ((((fs ++ [sl]).map fun s => V.ref s.o) ++ [V.ref cu.o]).length : Int) > 1 := by
          rw [List.length_append, List.length_map, List.length_append]
          show (((fs.length + 1 + 1 : Nat)) : Int) > 1
          omega
        rw [decide_eq_true hgt]
        refine iteT ?_
        refine ⟨_, rfl, .inl ⟨rfl, _, SqL.of u22.ls⟩, u.lp, _, .ref cu.o, rfl, rfl, u22.ls, (by rw [List.length_append, List.getElem?_append_right (by simp)]; simp), ?_⟩
        rw [List.dropLast_concat]
        have hls := u22.ls
        have k3 : KpT H22 (upd H22 u.lp (.lst ((fs ++ [sl]).map fun s => V.ref s.o))) := KpT.lst hls _
        have w3 : XW p u.x u.l u.lp H22 (upd H22 u.lp (.lst ((fs ++ [sl]).map fun s => V.ref s.o))) := .lst _
        have T3 : Tabs T (upd H22 u.lp (.lst ((fs ++ [sl]).map fun s => V.ref s.o))) := Tabs.put T22 hls _
        have P3 : PenAt (upd H22 u.lp (.lst ((fs ++ [sl]).map fun s => V.ref s.o))) p := P22.put nqp _
        have e3 : (upd H22 u.lp (.lst ((fs ++ [sl]).map fun s => V.ref s.o))) u.lp = some (.lst ((fs.map fun s => V.ref s.o) ++ [.ref sl.o])) := by rw [upd_same, List.map_append]; rfl
        have sc3 : ScAt C (upd H22 u.lp (.lst ((fs ++ [sl]).map fun s => V.ref s.o))) u.x cu.b u.l ((fs ++ [sl]).map fun s => V.ref s.b) := by
          obtain ⟨⟨dx, hx⟩, hl⟩ := u22.sc
          exact ⟨⟨dx, by rw [upd_ne fun z => by rw [z, hls] at hx; cases hx]; exact hx⟩, by rw [upd_ne nll]; exact hl⟩
        generalize (upd H22 u.lp (.lst ((fs ++ [sl]).map fun s => V.ref s.o))) = H23 at k3 w3 T3 P3 e3 sc3
        obtain ⟨dx', hx'⟩ := sc3.ob
        refine ⟨_, rfl, u.x, dx', _, rfl, hx', sfl_no _ _ (by decide +kernel) (by decide +kernel), u.x, cu.b, u.l, _, rfl, sc3, T3, fun z => absurd z (by simp), fun gs r0 hz => ?_⟩
        have hz' : (fs.map fun s => V.ref s.b) ++ [V.ref sl.b] = gs ++ [r0] := by rw [← hz, List.map_append]; rfl
        obtain ⟨hz1, hz2⟩ := List.append_inj' hz' rfl
        injection hz2 with hz2
        subst hz1 hz2
        refine ⟨sl.b, rfl, fun H24 xs4 T4 sc4 => ?_⟩
        have k04 : KpT H22 H24 := k3.trans (xs4.tup sc3)
        have e4 : H24 u.lp = some (.lst ((fs.map fun s => V.ref s.o) ++ [.ref sl.o])) := xs4 _ _ (fun z => by rw [z, hx'] at e3; cases e3) nll.symm e3 fun ps z => by cases z
        have u24 := u22.undone k04 sc4 e4
        have P24 := PenAt.xs P3 xs4 sc3 nlp
        obtain ⟨dx4, hx4⟩ := sc4.ob
        refine ⟨_, rfl, u.x, dx4, _, rfl, hx4, sfl_no _ _ (by decide +kernel) (by decide +kernel), u.x, sl.b, u.l, _, rfl, sc4, ?_⟩
        obtain ⟨ps, hp1, hp2⟩ := BookAt.dp (K := K) u24.cur.mine u24.cur.his
        refine ⟨_, rfl, _, rfl, u.lp, _, _, _, rfl, rfl, SqL.of e4, atI_last _ _, _, _, hp1, hp2, u24.cur.mine.shaped ps, u24.cur.his.shaped ps, _, rfl, ?_⟩
        rw [eqv_bk]
        refine iteF ?_
        refine ⟨⟨fs, sl, rfl, P24, T4, u24, kt22.trans k04, w22.trans (w3.trans (.ofX xs4))⟩, ?_⟩
        rw [hlen22, List.length_append]
        unfold lenAt
        rw [e4]
        show ((fs.map fun s => V.ref s.o) ++ [V.ref sl.o]).length < fs.length + 1 + 1
        rw [List.length_append, List.length_map]
        exact Nat.lt_succ_self _
    rintro σ H18 ⟨z12, z13, z14, ss', rfl, P18, T18, hF18, h18, hadr, hn18, hz18, obo18, hBo18, obt18, hBs18⟩
    have hlen : ss'.length = ss.length := by
      have := congrArg List.length hadr
      rw [List.length_map, List.length_map] at this
      exact this
    refine ⟨_, rfl, _, rfl, _, rfl, fun xn dxn nxn ndxn nen => made nxn ndxn nen hF18 h2n h6 a3 (by omega) fun bn tn ln H19 s19 nln scn hBn => ?_⟩
    have h19 := h18.xp (XP.ofS s19) P18
    refine ⟨(by show 1 ≤ sizeLine; decide), fun l20 nl20 => ?_⟩
    have s20 := same_new nl20 (.lst [.ref xn])
    have e20 : (upd H19 l20 (.lst [.ref xn])) l20 = some (.lst [.ref xn]) := upd_same
    generalize (upd H19 l20 (.lst [.ref xn])) = H20 at s20 e20
    have s1820 := s19.trans s20
    have h20 := h18.xp (XP.ofS s1820) P18
    refine ⟨_, rfl, ls, _, rfl, .inl (SqL.of h20.sl), l20, _, _, rfl, rfl, e20, ?_, ?_, ?_, fun q21 nq21 => ?_⟩
    · rw [List.length_map]; omega
    · rw [List.length_map]; omega
    · rw [List.length_map]
      show 1 * _ ≤ sizeLine
      rw [sizeLine_eq]
      omega
    rw [show ((([.ref xn] : List V) |> fun z => List.replicate (((ss'.map fun s => V.ref s.x).length : Int)).toNat z).flatten) = List.replicate ss'.length (V.ref xn) from by
      show (List.replicate (((ss'.map fun s => V.ref s.x).length : Int)).toNat [V.ref xn]).flatten = _
      rw [List.length_map, Int.toNat_natCast, List.flatten_replicate_singleton]]
    have s21 := same_new nq21 (.lst (List.replicate ss'.length (V.ref xn)))
    have e21 : (upd H20 q21 (.lst (List.replicate ss'.length (V.ref xn)))) q21 = some (.lst (List.replicate ss'.length (V.ref xn))) := upd_same
    generalize (upd H20 q21 (.lst (List.replicate ss'.length (V.ref xn)))) = H21 at s21 e21
    have h21 := h18.xp (XP.ofS (s1820.trans s21)) P18
    have sn21 := scn.extN (.of (s20.trans s21))
    have hBn21 := hBn.kp (Same.tup (s20.trans s21))
    obtain ⟨⟨dn, hn21⟩, _⟩ := id sn21
    refine ⟨⟨ls, q21, _, _, rfl, rfl, h21.sl, e21, by rw [List.length_map, List.length_replicate], fun i x y h1 h2 => ?_⟩, fun H' _ => q H'⟩
    rw [List.getElem?_map] at h1
    cases hsi : ss'[i]? with
    | none => rw [hsi] at h1; cases h1
    | some s =>
    rw [hsi] at h1
    injection h1 with h1
    have hy : y = V.ref xn := (List.mem_replicate.mp (List.mem_of_getElem? h2)).2
    subst hy
    have h1 : V.ref s.x = x := h1
    subst h1
    have hm := h21.at_ s (List.mem_of_getElem? hsi)
    have hi : i < ss'.length := (List.getElem?_eq_some_iff.mp hsi).1
    have hz := hm.first.1 (hz18 i s (by omega) hsi)
    have hmine := hm.cur.mine
    rw [hz] at hmine
    obtain ⟨⟨ds, hds⟩, _⟩ := id hm.sc
    exact ⟨s.x, xn, ds, dn, _, _, rfl, rfl, hds, hn21, s.cu.b, s.l, s.cu.t, bn, ln, tn, fk, _, _, n, age, hm.sc, sn21, hmine, hBn21⟩
end
end Deed

namespace SupX
open PySem PySem.Spec PyProof.Rows L2 LamX NdefX ClX
theorem oexcB_ok {K : PySem.W.Frag} {C : Addr} (h : oexcB K C = true) : OexC K C := by
  unfold oexcB at h
  obtain ⟨h1, h⟩ := He.ba h
  obtain ⟨h2, h⟩ := He.ba h
  obtain ⟨h3, h⟩ := He.ba h
  obtain ⟨h4, h5⟩ := He.ba h
  refine ⟨?_, of_decide_eq_true h2, of_decide_eq_true h3, of_decide_eq_true h4, h5⟩
  split at h1
  · rename_i t dd cd sl ho
    obtain ⟨ht, h1⟩ := He.ba h1
    split at h1
    · rename_i C' bm k0 k1 k2 k3 n k5 hm hs
      obtain ⟨e1, h1⟩ := He.ba h1
      obtain ⟨e2, h1⟩ := He.ba h1
      obtain ⟨e3, h1⟩ := He.ba h1
      obtain ⟨e4, e5⟩ := He.ba h1
      have e1 := of_decide_eq_true e1
      have e2 := of_decide_eq_true e2
      have ht := of_decide_eq_true ht
      obtain ⟨nm, bs, mro, ns, qn, hd, sn, sub, ab, col, dl⟩ := cd
      obtain ⟨l⟩ := sl
      have hm : mro = .ref C' :: bm := hm
      have hs : l = [k0, k1, k2, k3, some (.builtin n), k5] := hs
      have e6 : dl = false := by
        have e7 : (!dl) = true := e3
        simpa using e7
      have e8 : hd = true := e4
      clear e3 e4
      subst e1 e2 ht hm hs e6 e8
      exact ⟨nm, qn, ns, bs, bm, sn, sub, ab, col, dd, k0, k1, k2, k3, k5, ho, e5⟩
    · cases h1
  · cases h1
theorem supB_ok {P : Program} {K : PySem.W.Frag} {x qual fld nm : Str} {st : Stmt} (h : supB P K x qual fld = true) (e : fnS K (He.fAd K (x, some "__init__")) = some (nm, qual, defArgs st, FuncBody.stmts (defBody st), defScope st, mainGlobals, [("__class__" : Str)], builtinsNs)) (top : (P.main.scope.names.lookup ("super" : Str)).isSome = false) :
    SupC P K (He.ga K x) (He.fAd K (x, some "__init__")) (clA K (He.fAd K (x, some "__init__"))) ⟨nm, qual, defArgs st, defBody st, defScope st, [(("__class__" : Str), clA K (He.fAd K (x, some "__init__")))], cdA K (He.fAd K (x, some "__init__"))⟩ ∧
    PySem.W.findIn K (.ref (He.ga K x)) "__init__" = some (some (.ref (He.fAd K (x, some "__init__")))) ∧ PySem.W.typeIn K (.ref (He.fAd K (x, some "__init__"))) = some (.type "function") ∧ PySem.W.findIn K (.ref (He.ga K x)) fld = some none := by
  unfold supB at h
  generalize hf : He.fAd K (x, some "__init__") = f at h e ⊢
  generalize He.ga K x = C at h ⊢
  obtain ⟨h1, h⟩ := He.ba h
  obtain ⟨h2, h⟩ := He.ba h
  obtain ⟨h3, h⟩ := He.ba h
  obtain ⟨h4, h⟩ := He.ba h
  obtain ⟨h5, h⟩ := He.ba h
  obtain ⟨h6, h⟩ := He.ba h
  obtain ⟨h7, h⟩ := He.ba h
  obtain ⟨h8, h⟩ := He.ba h
  obtain ⟨h9, h⟩ := He.ba h
  obtain ⟨h10, h⟩ := He.ba h
  obtain ⟨h11, h12⟩ := He.ba h
  refine ⟨⟨oexcB_ok h1, of_decide_eq_true h2, of_decide_eq_true h3, of_decide_eq_true h4, of_decide_eq_true h5, ?_, ?_, ?_, h9, top⟩, of_decide_eq_true h10, of_decide_eq_true h11, of_decide_eq_true h12⟩
  · unfold cellB at h6
    split at h6
    · rename_i oc od v osl ho
      have h6 := of_decide_eq_true h6
      subst h6
      exact ⟨_, _, _, ho⟩
    · cases h6
  · unfold fnS at e
    unfold fnB at h7
    unfold clA cdA
    split at e
    · rename_i oc od fd osl ho
      rw [ho] at h7 ⊢
      obtain ⟨n1, n2, n3, n4, n5, n6, n7, n8, n9, n10, n11, n12, n13, n14, n15⟩ := fd
      have e2 : (some (n1, n2, n3, n4, n5, n6, n7.map (·.1), n15) : FnS) = some (nm, qual, defArgs st, FuncBody.stmts (defBody st), defScope st, mainGlobals, [("__class__" : Str)], builtinsNs) := e
      simp only [Option.some.injEq, Prod.mk.injEq] at e2
      obtain ⟨a1, a2, a3, a4, a5, a6, a7, a8⟩ := e2
      subst a1 a2 a3 a4 a5 a6 a8
      obtain ⟨c, rfl⟩ : ∃ c, n7 = [(("__class__" : Str), c)] := by
        match n7, a7 with
        | [(y, c)], a7 =>
          have : y = "__class__" := by simpa using a7
          exact ⟨c, by rw [this]⟩
      dsimp only at h7 ⊢
      split at h7
      · rename_i q1 q2 q3 q4
        exact ⟨oc, od, n10, n11, n14, osl, rfl⟩
      · cases h7
    · cases e
  · unfold fileB at h8
    split at h8
    · rename_i oc od vs osl ho
      split at h8
      · rename_i file tk hv
        exact ⟨_, _, _, _, _, _, ho, hv, h8⟩
      · cases h8
    · cases h8
end SupX

namespace Deed
open PySem PySem.Spec PyProof.Rows L2 LamX NdefX SupX
/-! ### Twice -/
abbrev sTwI : Stmt := inClass (topS 40) 0
theorem nsTw : NScope ["self", "at", "__class__"] ["self", "at"] ["__class__"] (defScope sTwI) := nscope_by (by decide +kernel)
abbrev fTw (cc c : Addr) : NF := ⟨"__init__", "Twice.__init__", defArgs sTwI, defBody sTwI, defScope sTwI, [(("__class__" : Str), cc)], c⟩
theorem twi_fn {P : Program} {w : World} {K : PySem.W.Frag} {mg : Str → Option Value} {base : Heap} {C f cc c : Addr} {k : Nat} (S : SupC P K C f cc (fTw cc c)) (hs : mg "super" = none) (na : PySem.W.findIn K (.ref C) "at" = some none) :
    ∃ fd, Binds K fd ["self", "at"] [] ∧ FnOk P w K mg base CX0 (k + 1) f fd ["self", "at"] (spFld "at" C) := by
  obtain ⟨oc, od, doc, pm, ctv, osl, lk⟩ := S.fn
  refine ⟨_, .all fun us hl => (match us, hl with | [_, _], _ => rfl), sup_fn lk S nsTw rfl rfl rfl rfl (show (defScope sTwI).names.lookup ("super" : Str) = some .globalImplicit from by decide +kernel) hs (fun vs H Q E h => ?_) (fun A outer s H vs Q E hr h => ?_)⟩
  · obtain ⟨a, i, rfl, _⟩ := h
    rfl
  · obtain ⟨a, i, rfl, ea, q⟩ := h
    refine ⟨a, [.int i], _, _, rfl, ea, pa_cons pe_str pa_nil, pss_one (ps_ost (pv 0) (pv 1)), ?_⟩
    refine ⟨by show 1 ≤ 1000; decide, ea, ?_⟩
    exact ⟨_, rfl, _, rfl, a, C, rfl, S.oex, na, .inl ⟨ea, fun d nd ne => q d nd ne⟩⟩
end Deed

namespace Deed
open PySem PySem.Spec PyProof.Rows L2 LamX NdefX SupX
/-! ### Named -/
abbrev sNmI : Stmt := inClass (topS 41) 0
theorem nsNm : NScope ["self", "by", "__class__"] ["self", "by"] ["__class__"] (defScope sNmI) := nscope_by (by decide +kernel)
abbrev fNm (cc c : Addr) : NF := ⟨"__init__", "Named.__init__", defArgs sNmI, defBody sNmI, defScope sNmI, [(("__class__" : Str), cc)], c⟩
theorem nmd_fn {P : Program} {w : World} {K : PySem.W.Frag} {mg : Str → Option Value} {base : Heap} {C f cc c : Addr} {k : Nat} (S : SupC P K C f cc (fNm cc c)) (hs : mg "super" = none) (na : PySem.W.findIn K (.ref C) "by" = some none) :
    ∃ fd, Binds K fd ["self", "by"] [] ∧ FnOk P w K mg base CX0 (k + 1) f fd ["self", "by"] (spFld "by" C) := by
  obtain ⟨oc, od, doc, pm, ctv, osl, lk⟩ := S.fn
  refine ⟨_, .all fun us hl => (match us, hl with | [_, _], _ => rfl), sup_fn lk S nsNm rfl rfl rfl rfl (show (defScope sNmI).names.lookup ("super" : Str) = some .globalImplicit from by decide +kernel) hs (fun vs H Q E h => ?_) (fun A outer s H vs Q E hr h => ?_)⟩
  · obtain ⟨a, i, rfl, _⟩ := h
    rfl
  · obtain ⟨a, i, rfl, ea, q⟩ := h
    refine ⟨a, [.int i], _, _, rfl, ea, pa_cons pe_str pa_nil, pss_one (ps_ost (pv 0) (pv 1)), ?_⟩
    refine ⟨by show 1 ≤ 1000; decide, ea, ?_⟩
    exact ⟨_, rfl, _, rfl, a, C, rfl, S.oex, na, .inl ⟨ea, fun d nd ne => q d nd ne⟩⟩
end Deed

namespace Deed
open PySem PySem.Spec PyProof.Rows L2 LamX
theorem funOf {K : PySem.W.Frag} {x : Str} {st : Stmt} {f : Addr} {fd : FuncData} (F : FunD K x x (defArgs st) (defBody st) (defScope st) [] [] f fd) : Fun K x x st f fd := by
  obtain ⟨oc, od, dV, kV, doc, pm, an, cdv, ct, osl, e, lk, hcd, hD, hK⟩ := F.ex
  rcases hD with ⟨_, hD⟩ | ⟨hD, _⟩
  · subst hD
    exact ⟨⟨oc, od, kV, doc, pm, an, cdv, ct, osl, e, lk, hcd⟩, F.kp⟩
  · exact absurd rfl hD
theorem funOfM {K : PySem.W.Frag} {x q : Str} {st : Stmt} {f : Addr} {fd : FuncData} (F : FunD K x q (defArgs st) (defBody st) (defScope st) [] [] f fd) : Fun K x q st f fd := by
  obtain ⟨oc, od, dV, kV, doc, pm, an, cdv, ct, osl, e, lk, hcd, hD, hK⟩ := F.ex
  rcases hD with ⟨_, hD⟩ | ⟨hD, _⟩
  · subst hD
    exact ⟨⟨oc, od, kV, doc, pm, an, cdv, ct, osl, e, lk, hcd⟩, F.kp⟩
  · exact absurd rfl hD
theorem codeAt {K : PySem.W.Frag} {x : Str} {st : Stmt} {p : He.Defn} {fd : FuncData} (F : Fun K x x st (He.fAd K p) fd) : fd.code = .ref (He.cT K p).1 := by
  obtain ⟨oc, od, kV, doc, pm, an, cdv, ct, osl, e, lk, hcd⟩ := F.ex
  obtain ⟨c, ec⟩ := He.codeIn_ref hcd
  have e2 : fd.code = .ref c := by rw [e, ← ec]
  rw [show (He.cT K p).1 = c from He.codeOf_eq lk e2]
  exact e2
abbrev l : PySem.W.OpenLaw := PySem.Challenge.rw_deedsheaf_k73_scribes_alike_and_apart
theorem facts {w : World} {K : PySem.W.Frag} {h : Heap} {mg : Str → Option Value} {f : Addr} (X : K.In h) (G : h.Ns mainGlobals mg) (hfa : mg ("law" : Str) = some (.ref f)) (c : He.SaysX faAll fnAll tsAll tfAll exAll w h K) (cs : two K = twV) : LawAtS l w K CX0 43 63 "_law_script" mg f h := by
  obtain ⟨d0, F0'⟩ := c.t.d.def_ 0 (d := mkD "_law_cell_at" sCell) rfl
  have g0 := He.glo_ok X G (c.t.d.fact 0 (f := .glo "_law_cell_at") rfl)
  have F0 : Fun K "_law_cell_at" "_law_cell_at" sCell (He.fAd K ("_law_cell_at", none)) d0 := funOf F0'
  have D0 : Df K mg "_law_cell_at" sCell ["_law_script", "_law_k"] _ d0 := ⟨F0, F0.binds (ps := ["_law_script", "_law_k"]) (fun _ _ _ _ _ _ us hl => match us, hl with | [_, _], _ => rfl), g0⟩
  obtain ⟨d1, F1'⟩ := c.t.d.def_ 1 (d := mkD "_law_pen" sPen) rfl
  have g1 := He.glo_ok X G (c.t.d.fact 1 (f := .glo "_law_pen") rfl)
  have F1 : Fun K "_law_pen" "_law_pen" sPen (He.fAd K ("_law_pen", none)) d1 := funOf F1'
  have D1 : Df K mg "_law_pen" sPen ["_law_cell"] _ d1 := ⟨F1, F1.binds (ps := ["_law_cell"]) (fun _ _ _ _ _ _ us hl => match us, hl with | [_], _ => rfl), g1⟩
  obtain ⟨d2, F2'⟩ := c.t.d.def_ 2 (d := mkD "_law_draw" sDraw) rfl
  have g2 := He.glo_ok X G (c.t.d.fact 2 (f := .glo "_law_draw") rfl)
  have F2 : Fun K "_law_draw" "_law_draw" sDraw (He.fAd K ("_law_draw", none)) d2 := funOf F2'
  have D2 : Df K mg "_law_draw" sDraw ["_law_pen_here", "_law_bound"] _ d2 := ⟨F2, F2.binds (ps := ["_law_pen_here", "_law_bound"]) (fun _ _ _ _ _ _ us hl => match us, hl with | [_, _], _ => rfl), g2⟩
  obtain ⟨d3, F3'⟩ := c.t.d.def_ 3 (d := mkD "_law_day" sDay) rfl
  have g3 := He.glo_ok X G (c.t.d.fact 3 (f := .glo "_law_day") rfl)
  have F3 : Fun K "_law_day" "_law_day" sDay (He.fAd K ("_law_day", none)) d3 := funOf F3'
  have D3 : Df K mg "_law_day" sDay ["_law_pen_here"] _ d3 := ⟨F3, F3.binds (ps := ["_law_pen_here"]) (fun _ _ _ _ _ _ us hl => match us, hl with | [_], _ => rfl), g3⟩
  obtain ⟨d4, F4'⟩ := c.t.d.def_ 4 (d := mkD "_law_folk" sFolk) rfl
  have g4 := He.glo_ok X G (c.t.d.fact 4 (f := .glo "_law_folk") rfl)
  have F4 : Fun K "_law_folk" "_law_folk" sFolk (He.fAd K ("_law_folk", none)) d4 := funOf F4'
  have D4 : Df K mg "_law_folk" sFolk ["_law_pen_here", "_law_least"] _ d4 := ⟨F4, F4.binds (ps := ["_law_pen_here", "_law_least"]) (fun _ _ _ _ _ _ us hl => match us, hl with | [_, _], _ => rfl), g4⟩
  obtain ⟨d5, F5'⟩ := c.t.d.def_ 5 (d := mkD "_law_mixed" sMixed) rfl
  have g5 := He.glo_ok X G (c.t.d.fact 5 (f := .glo "_law_mixed") rfl)
  have F5 : Fun K "_law_mixed" "_law_mixed" sMixed (He.fAd K ("_law_mixed", none)) d5 := funOf F5'
  have D5 : Df K mg "_law_mixed" sMixed ["_law_pen_here", "_law_some"] _ d5 := ⟨F5, F5.binds (ps := ["_law_pen_here", "_law_some"]) (fun _ _ _ _ _ _ us hl => match us, hl with | [_, _], _ => rfl), g5⟩
  obtain ⟨d6, F6'⟩ := c.t.d.def_ 6 (d := mkD "_law_few" sFew) rfl
  have g6 := He.glo_ok X G (c.t.d.fact 6 (f := .glo "_law_few") rfl)
  have F6 : Fun K "_law_few" "_law_few" sFew (He.fAd K ("_law_few", none)) d6 := funOf F6'
  have D6 : Df K mg "_law_few" sFew ["_law_pen_here", "_law_some", "_law_most"] _ d6 := ⟨F6, F6.binds (ps := ["_law_pen_here", "_law_some", "_law_most"]) (fun _ _ _ _ _ _ us hl => match us, hl with | [_, _, _], _ => rfl), g6⟩
  obtain ⟨d7, F7'⟩ := c.t.d.def_ 7 (d := mkD "_law_deed" sDeed) rfl
  have g7 := He.glo_ok X G (c.t.d.fact 7 (f := .glo "_law_deed") rfl)
  have F7 : Fun K "_law_deed" "_law_deed" sDeed (He.fAd K ("_law_deed", none)) d7 := funOf F7'
  have D7 : Df K mg "_law_deed" sDeed ["_law_pen_here", "_law_number", "_law_folk_here", "_law_deeds"] _ d7 := ⟨F7, F7.binds (ps := ["_law_pen_here", "_law_number", "_law_folk_here", "_law_deeds"]) (fun _ _ _ _ _ _ us hl => match us, hl with | [_, _, _, _], _ => rfl), g7⟩
  obtain ⟨d8, F8'⟩ := c.t.d.def_ 8 (d := mkD "_law_act" sAct) rfl
  have g8 := He.glo_ok X G (c.t.d.fact 8 (f := .glo "_law_act") rfl)
  have F8 : Fun K "_law_act" "_law_act" sAct (He.fAd K ("_law_act", none)) d8 := funOf F8'
  have D8 : Df K mg "_law_act" sAct ["_law_pen_here", "_law_number", "_law_deeds", "_law_acts"] _ d8 := ⟨F8, F8.binds (ps := ["_law_pen_here", "_law_number", "_law_deeds", "_law_acts"]) (fun _ _ _ _ _ _ us hl => match us, hl with | [_, _, _, _], _ => rfl), g8⟩
  obtain ⟨d9, F9'⟩ := c.t.d.def_ 9 (d := mkD "is_whole" sWhole) rfl
  have g9 := He.glo_ok X G (c.t.d.fact 9 (f := .glo "is_whole") rfl)
  have F9 : Fun K "is_whole" "is_whole" sWhole (He.fAd K ("is_whole", none)) d9 := funOf F9'
  have D9 : Df K mg "is_whole" sWhole ["thing"] _ d9 := ⟨F9, F9.binds (ps := ["thing"]) (fun _ _ _ _ _ _ us hl => match us, hl with | [_], _ => rfl), g9⟩
  obtain ⟨d10, F10'⟩ := c.t.d.def_ 10 (d := mkD "is_within" sWithin) rfl
  have g10 := He.glo_ok X G (c.t.d.fact 10 (f := .glo "is_within") rfl)
  have F10 : Fun K "is_within" "is_within" sWithin (He.fAd K ("is_within", none)) d10 := funOf F10'
  have D10 : Df K mg "is_within" sWithin ["thing", "low", "high"] _ d10 := ⟨F10, F10.binds (ps := ["thing", "low", "high"]) (fun _ _ _ _ _ _ us hl => match us, hl with | [_, _, _], _ => rfl), g10⟩
  obtain ⟨d11, F11'⟩ := c.t.d.def_ 11 (d := mkD "is_day" sIsDay) rfl
  have g11 := He.glo_ok X G (c.t.d.fact 11 (f := .glo "is_day") rfl)
  have F11 : Fun K "is_day" "is_day" sIsDay (He.fAd K ("is_day", none)) d11 := funOf F11'
  have D11 : Df K mg "is_day" sIsDay ["thing"] _ d11 := ⟨F11, F11.binds (ps := ["thing"]) (fun _ _ _ _ _ _ us hl => match us, hl with | [_], _ => rfl), g11⟩
  obtain ⟨d12, F12'⟩ := c.t.d.def_ 12 (d := mkD "is_age" sIsAgeG) rfl
  have g12 := He.glo_ok X G (c.t.d.fact 12 (f := .glo "is_age") rfl)
  have F12 : Fun K "is_age" "is_age" sIsAgeG (He.fAd K ("is_age", none)) d12 := funOf F12'
  have D12 : Df K mg "is_age" sIsAgeG ["thing"] _ d12 := ⟨F12, F12.binds (ps := ["thing"]) (fun _ _ _ _ _ _ us hl => match us, hl with | [_], _ => rfl), g12⟩
  obtain ⟨d13, F13'⟩ := c.t.d.def_ 13 (d := mkD "is_person" sIsPerson) rfl
  have g13 := He.glo_ok X G (c.t.d.fact 13 (f := .glo "is_person") rfl)
  have F13 : Fun K "is_person" "is_person" sIsPerson (He.fAd K ("is_person", none)) d13 := funOf F13'
  have D13 : Df K mg "is_person" sIsPerson ["thing"] _ d13 := ⟨F13, F13.binds (ps := ["thing"]) (fun _ _ _ _ _ _ us hl => match us, hl with | [_], _ => rfl), g13⟩
  obtain ⟨d14, F14'⟩ := c.t.d.def_ 14 (d := mkD "is_folk" sIsFolkG) rfl
  have g14 := He.glo_ok X G (c.t.d.fact 14 (f := .glo "is_folk") rfl)
  have F14 : Fun K "is_folk" "is_folk" sIsFolkG (He.fAd K ("is_folk", none)) d14 := funOf F14'
  have D14 : Df K mg "is_folk" sIsFolkG ["thing"] _ d14 := ⟨F14, F14.binds (ps := ["thing"]) (fun _ _ _ _ _ _ us hl => match us, hl with | [_], _ => rfl), g14⟩
  obtain ⟨d15, F15'⟩ := c.t.d.def_ 15 (d := mkD "is_rising" sIsRisG) rfl
  have g15 := He.glo_ok X G (c.t.d.fact 15 (f := .glo "is_rising") rfl)
  have F15 : Fun K "is_rising" "is_rising" sIsRisG (He.fAd K ("is_rising", none)) d15 := funOf F15'
  have D15 : Df K mg "is_rising" sIsRisG ["things"] _ d15 := ⟨F15, F15.binds (ps := ["things"]) (fun _ _ _ _ _ _ us hl => match us, hl with | [_], _ => rfl), g15⟩
  obtain ⟨d16, F16'⟩ := c.t.d.def_ 16 (d := mkD "is_rising_below" sIsRisB) rfl
  have g16 := He.glo_ok X G (c.t.d.fact 16 (f := .glo "is_rising_below") rfl)
  have F16 : Fun K "is_rising_below" "is_rising_below" sIsRisB (He.fAd K ("is_rising_below", none)) d16 := funOf F16'
  have D16 : Df K mg "is_rising_below" sIsRisB ["thing", "most", "limit"] _ d16 := ⟨F16, F16.binds (ps := ["thing", "most", "limit"]) (fun _ _ _ _ _ _ us hl => match us, hl with | [_, _, _], _ => rfl), g16⟩
  obtain ⟨d17, F17'⟩ := c.t.d.def_ 17 (d := mkD "is_deed_tail" sIsDeedT) rfl
  have g17 := He.glo_ok X G (c.t.d.fact 17 (f := .glo "is_deed_tail") rfl)
  have F17 : Fun K "is_deed_tail" "is_deed_tail" sIsDeedT (He.fAd K ("is_deed_tail", none)) d17 := funOf F17'
  have D17 : Df K mg "is_deed_tail" sIsDeedT ["folk", "number", "tail"] _ d17 := ⟨F17, F17.binds (ps := ["folk", "number", "tail"]) (fun _ _ _ _ _ _ us hl => match us, hl with | [_, _, _], _ => rfl), g17⟩
  obtain ⟨d18, F18'⟩ := c.t.d.def_ 18 (d := mkD "is_act_tail" sIsActT) rfl
  have g18 := He.glo_ok X G (c.t.d.fact 18 (f := .glo "is_act_tail") rfl)
  have F18 : Fun K "is_act_tail" "is_act_tail" sIsActT (He.fAd K ("is_act_tail", none)) d18 := funOf F18'
  have D18 : Df K mg "is_act_tail" sIsActT ["number", "tail"] _ d18 := ⟨F18, F18.binds (ps := ["number", "tail"]) (fun _ _ _ _ _ _ us hl => match us, hl with | [_, _], _ => rfl), g18⟩
  obtain ⟨d19, F19'⟩ := c.t.d.def_ 19 (d := mkD "is_entry" sIsEntG) rfl
  have g19 := He.glo_ok X G (c.t.d.fact 19 (f := .glo "is_entry") rfl)
  have F19 : Fun K "is_entry" "is_entry" sIsEntG (He.fAd K ("is_entry", none)) d19 := funOf F19'
  have D19 : Df K mg "is_entry" sIsEntG ["folk", "thing"] _ d19 := ⟨F19, F19.binds (ps := ["folk", "thing"]) (fun _ _ _ _ _ _ us hl => match us, hl with | [_, _], _ => rfl), g19⟩
  obtain ⟨d20, F20'⟩ := c.t.d.def_ 20 (d := mkD "names_fit" sNFit) rfl
  have g20 := He.glo_ok X G (c.t.d.fact 20 (f := .glo "names_fit") rfl)
  have F20 : Fun K "names_fit" "names_fit" sNFit (He.fAd K ("names_fit", none)) d20 := funOf F20'
  have D20 : Df K mg "names_fit" sNFit ["words", "entry"] _ d20 := ⟨F20, F20.binds (ps := ["words", "entry"]) (fun _ _ _ _ _ _ us hl => match us, hl with | [_, _], _ => rfl), g20⟩
  obtain ⟨d21, F21'⟩ := c.t.d.def_ 21 (d := mkD "entries_rising" sRising) rfl
  have g21 := He.glo_ok X G (c.t.d.fact 21 (f := .glo "entries_rising") rfl)
  have F21 : Fun K "entries_rising" "entries_rising" sRising (He.fAd K ("entries_rising", none)) d21 := funOf F21'
  have D21 : Df K mg "entries_rising" sRising ["book"] _ d21 := ⟨F21, F21.binds (ps := ["book"]) (fun _ _ _ _ _ _ us hl => match us, hl with | [_], _ => rfl), g21⟩
  obtain ⟨d22, F22'⟩ := c.t.d.def_ 22 (d := mkD "named_in" sNamedIn) rfl
  have g22 := He.glo_ok X G (c.t.d.fact 22 (f := .glo "named_in") rfl)
  have F22 : Fun K "named_in" "named_in" sNamedIn (He.fAd K ("named_in", none)) d22 := funOf F22'
  have D22 : Df K mg "named_in" sNamedIn ["entry"] _ d22 := ⟨F22, F22.binds (ps := ["entry"]) (fun _ _ _ _ _ _ us hl => match us, hl with | [_], _ => rfl), g22⟩
  obtain ⟨d23, F23'⟩ := c.t.d.def_ 23 (d := mkD "with_entry" sWithE) rfl
  have g23 := He.glo_ok X G (c.t.d.fact 23 (f := .glo "with_entry") rfl)
  have F23 : Fun K "with_entry" "with_entry" sWithE (He.fAd K ("with_entry", none)) d23 := funOf F23'
  have D23 : Df K mg "with_entry" sWithE ["book", "entry"] _ d23 := ⟨F23, F23.binds (ps := ["book", "entry"]) (fun _ _ _ _ _ _ us hl => match us, hl with | [_, _], _ => rfl), g23⟩
  obtain ⟨d24, F24'⟩ := c.t.d.def_ 24 (d := mkD "without_entry" sWoutE) rfl
  have g24 := He.glo_ok X G (c.t.d.fact 24 (f := .glo "without_entry") rfl)
  have F24 : Fun K "without_entry" "without_entry" sWoutE (He.fAd K ("without_entry", none)) d24 := funOf F24'
  have D24 : Df K mg "without_entry" sWoutE ["book", "number"] _ d24 := ⟨F24, F24.binds (ps := ["book", "number"]) (fun _ _ _ _ _ _ us hl => match us, hl with | [_, _], _ => rfl), g24⟩
  obtain ⟨d25, F25'⟩ := c.t.d.def_ 25 (d := mkD "by_numbers" sByN) rfl
  have g25 := He.glo_ok X G (c.t.d.fact 25 (f := .glo "by_numbers") rfl)
  have F25 : Fun K "by_numbers" "by_numbers" sByN (He.fAd K ("by_numbers", none)) d25 := funOf F25'
  have D25 : Df K mg "by_numbers" sByN ["book"] _ d25 := ⟨F25, F25.binds (ps := ["book"]) (fun _ _ _ _ _ _ us hl => match us, hl with | [_], _ => rfl), g25⟩
  obtain ⟨d26, F26'⟩ := c.t.d.def_ 26 (d := mkD "_law_thing" sLThing) rfl
  have g26 := He.glo_ok X G (c.t.d.fact 26 (f := .glo "_law_thing") rfl)
  have F26 : Fun K "_law_thing" "_law_thing" sLThing (He.fAd K ("_law_thing", none)) d26 := funOf F26'
  have D26 : Df K mg "_law_thing" sLThing ["_law_pen_here", "_law_deep"] _ d26 := ⟨F26, F26.binds (ps := ["_law_pen_here", "_law_deep"]) (fun _ _ _ _ _ _ us hl => match us, hl with | [_, _], _ => rfl), g26⟩
  obtain ⟨d27, F27'⟩ := c.t.d.def_ 27 (d := mkD "_law_spoilt" sLSpoilt) rfl
  have g27 := He.glo_ok X G (c.t.d.fact 27 (f := .glo "_law_spoilt") rfl)
  have F27 : Fun K "_law_spoilt" "_law_spoilt" sLSpoilt (He.fAd K ("_law_spoilt", none)) d27 := funOf F27'
  have D27 : Df K mg "_law_spoilt" sLSpoilt ["_law_pen_here", "_law_thing_here"] _ d27 := ⟨F27, F27.binds (ps := ["_law_pen_here", "_law_thing_here"]) (fun _ _ _ _ _ _ us hl => match us, hl with | [_, _], _ => rfl), g27⟩
  obtain ⟨d28, F28'⟩ := c.t.d.def_ 28 (d := mkD "_law_named" sLNamed) rfl
  have g28 := He.glo_ok X G (c.t.d.fact 28 (f := .glo "_law_named") rfl)
  have F28 : Fun K "_law_named" "_law_named" sLNamed (He.fAd K ("_law_named", none)) d28 := funOf F28'
  have D28 : Df K mg "_law_named" sLNamed ["_law_entry"] _ d28 := ⟨F28, F28.binds (ps := ["_law_entry"]) (fun _ _ _ _ _ _ us hl => match us, hl with | [_], _ => rfl), g28⟩
  obtain ⟨d29, F29'⟩ := c.t.d.def_ 29 (d := mkD "_law_due_of" sLDueOf) rfl
  have g29 := He.glo_ok X G (c.t.d.fact 29 (f := .glo "_law_due_of") rfl)
  have F29 : Fun K "_law_due_of" "_law_due_of" sLDueOf (He.fAd K ("_law_due_of", none)) d29 := funOf F29'
  have D29 : Df K mg "_law_due_of" sLDueOf ["_law_book", "_law_entry"] _ d29 := ⟨F29, F29.binds (ps := ["_law_book", "_law_entry"]) (fun _ _ _ _ _ _ us hl => match us, hl with | [_, _], _ => rfl), g29⟩
  obtain ⟨d30, F30'⟩ := c.t.d.def_ 30 (d := mkD "_law_new_entry" sLNewEnt) rfl
  have g30 := He.glo_ok X G (c.t.d.fact 30 (f := .glo "_law_new_entry") rfl)
  have F30 : Fun K "_law_new_entry" "_law_new_entry" sLNewEnt (He.fAd K ("_law_new_entry", none)) d30 := funOf F30'
  have D30 : Df K mg "_law_new_entry" sLNewEnt ["_law_pen_here", "_law_book"] _ d30 := ⟨F30, F30.binds (ps := ["_law_pen_here", "_law_book"]) (fun _ _ _ _ _ _ us hl => match us, hl with | [_, _], _ => rfl), g30⟩
  obtain ⟨d31, F31'⟩ := c.t.d.def_ 31 (d := mkD "_law_due_out" sLDueOut) rfl
  have g31 := He.glo_ok X G (c.t.d.fact 31 (f := .glo "_law_due_out") rfl)
  have F31 : Fun K "_law_due_out" "_law_due_out" sLDueOut (He.fAd K ("_law_due_out", none)) d31 := funOf F31'
  have D31 : Df K mg "_law_due_out" sLDueOut ["_law_book", "_law_number"] _ d31 := ⟨F31, F31.binds (ps := ["_law_book", "_law_number"]) (fun _ _ _ _ _ _ us hl => match us, hl with | [_, _], _ => rfl), g31⟩
  obtain ⟨d32, F32'⟩ := c.t.d.def_ 32 (d := mkD "_law_said" sLSaid) rfl
  have g32 := He.glo_ok X G (c.t.d.fact 32 (f := .glo "_law_said") rfl)
  have F32 : Fun K "_law_said" "_law_said" sLSaid (He.fAd K ("_law_said", none)) d32 := funOf F32'
  have D32 : Df K mg "_law_said" sLSaid ["_law_call"] _ d32 := ⟨F32, F32.binds (ps := ["_law_call"]) (fun _ _ _ _ _ _ us hl => match us, hl with | [_], _ => rfl), g32⟩
  obtain ⟨d33, F33'⟩ := c.t.d.def_ 33 (d := mkD "_law_due_less" sLDueLess) rfl
  have g33 := He.glo_ok X G (c.t.d.fact 33 (f := .glo "_law_due_less") rfl)
  have F33 : Fun K "_law_due_less" "_law_due_less" sLDueLess (He.fAd K ("_law_due_less", none)) d33 := funOf F33'
  have D33 : Df K mg "_law_due_less" sLDueLess ["_law_book", "_law_number"] _ d33 := ⟨F33, F33.binds (ps := ["_law_book", "_law_number"]) (fun _ _ _ _ _ _ us hl => match us, hl with | [_, _], _ => rfl), g33⟩
  obtain ⟨d34, F34'⟩ := c.t.d.def_ 34 (d := mkD "_law_less" sLLess) rfl
  have g34 := He.glo_ok X G (c.t.d.fact 34 (f := .glo "_law_less") rfl)
  have F34 : Fun K "_law_less" "_law_less" sLLess (He.fAd K ("_law_less", none)) d34 := funOf F34'
  have D34 : Df K mg "_law_less" sLLess ["_law_book", "_law_number"] _ d34 := ⟨F34, F34.binds (ps := ["_law_book", "_law_number"]) (fun _ _ _ _ _ _ us hl => match us, hl with | [_, _], _ => rfl), g34⟩
  obtain ⟨d35, F35'⟩ := c.t.d.def_ 35 (d := mkD "_law_due_in" sLDueIn) rfl
  have g35 := He.glo_ok X G (c.t.d.fact 35 (f := .glo "_law_due_in") rfl)
  have F35 : Fun K "_law_due_in" "_law_due_in" sLDueIn (He.fAd K ("_law_due_in", none)) d35 := funOf F35'
  have D35 : Df K mg "_law_due_in" sLDueIn ["_law_book", "_law_entry"] _ d35 := ⟨F35, F35.binds (ps := ["_law_book", "_law_entry"]) (fun _ _ _ _ _ _ us hl => match us, hl with | [_, _], _ => rfl), g35⟩
  obtain ⟨d36, F36'⟩ := c.t.d.def_ 36 (d := mkD "_law_by_number" sLByNumber) rfl
  have g36 := He.glo_ok X G (c.t.d.fact 36 (f := .glo "_law_by_number") rfl)
  have F36 : Fun K "_law_by_number" "_law_by_number" sLByNumber (He.fAd K ("_law_by_number", none)) d36 := funOf F36'
  have D36 : Df K mg "_law_by_number" sLByNumber ["_law_book"] _ d36 := ⟨F36, F36.binds (ps := ["_law_book"]) (fun _ _ _ _ _ _ us hl => match us, hl with | [_], _ => rfl), g36⟩
  obtain ⟨d37, F37'⟩ := c.t.d.def_ 37 (d := mkD "_law_with" sLWith) rfl
  have g37 := He.glo_ok X G (c.t.d.fact 37 (f := .glo "_law_with") rfl)
  have F37 : Fun K "_law_with" "_law_with" sLWith (He.fAd K ("_law_with", none)) d37 := funOf F37'
  have D37 : Df K mg "_law_with" sLWith ["_law_book", "_law_entry"] _ d37 := ⟨F37, F37.binds (ps := ["_law_book", "_law_entry"]) (fun _ _ _ _ _ _ us hl => match us, hl with | [_, _], _ => rfl), g37⟩
  obtain ⟨d38, F38'⟩ := c.t.d.def_ 38 (d := mkD "_law_step" sLStep) rfl
  have g38 := He.glo_ok X G (c.t.d.fact 38 (f := .glo "_law_step") rfl)
  have F38 : Fun K "_law_step" "_law_step" sLStep (He.fAd K ("_law_step", none)) d38 := funOf F38'
  have D38 : Df K mg "_law_step" sLStep ["_law_pen_here", "_law_scribe", "_law_past"] _ d38 := ⟨F38, F38.binds (ps := ["_law_pen_here", "_law_scribe", "_law_past"]) (fun _ _ _ _ _ _ us hl => match us, hl with | [_, _, _], _ => rfl), g38⟩
  obtain ⟨d39, F39'⟩ := c.t.d.def_ 39 (d := mkD "law" sLaw) rfl
  have g39 := He.glo_ok X G (c.t.d.fact 39 (f := .glo "law") rfl)
  have F39 : Fun K "law" "law" sLaw (He.fAd K ("law", none)) d39 := funOf F39'
  obtain ⟨dM___init__, FM___init__'⟩ := c.t.d.def_ 40 (d := ⟨("Scribe", some "__init__"), "__init__", "Scribe.__init__", defArgs sScI, defBody sScI, defScope sScI, [], []⟩) rfl
  have FM___init__ : Fun K "__init__" "Scribe.__init__" sScI (He.fAd K ("Scribe", some "__init__")) dM___init__ := funOfM FM___init__'
  have bM___init__ : Binds K dM___init__ ["self", "folk", "age"] [] := FM___init__.binds (ps := ["self", "folk", "age"]) (fun _ _ _ _ _ _ us hl => match us, hl with | [_, _, _], _ => rfl)
  obtain ⟨dM_turn_to, FM_turn_to'⟩ := c.t.d.def_ 41 (d := ⟨("Scribe", some "turn_to"), "turn_to", "Scribe.turn_to", defArgs sScT, defBody sScT, defScope sScT, [], []⟩) rfl
  have FM_turn_to : Fun K "turn_to" "Scribe.turn_to" sScT (He.fAd K ("Scribe", some "turn_to")) dM_turn_to := funOfM FM_turn_to'
  have bM_turn_to : Binds K dM_turn_to ["self", "other"] [] := FM_turn_to.binds (ps := ["self", "other"]) (fun _ _ _ _ _ _ us hl => match us, hl with | [_, _], _ => rfl)
  obtain ⟨dM_write, FM_write'⟩ := c.t.d.def_ 42 (d := ⟨("Scribe", some "write"), "write", "Scribe.write", defArgs sScW, defBody sScW, defScope sScW, [], []⟩) rfl
  have FM_write : Fun K "write" "Scribe.write" sScW (He.fAd K ("Scribe", some "write")) dM_write := funOfM FM_write'
  have bM_write : Binds K dM_write ["self", "entry"] [] := FM_write.binds (ps := ["self", "entry"]) (fun _ _ _ _ _ _ us hl => match us, hl with | [_, _], _ => rfl)
  obtain ⟨dM_tear, FM_tear'⟩ := c.t.d.def_ 43 (d := ⟨("Scribe", some "tear"), "tear", "Scribe.tear", defArgs sScR, defBody sScR, defScope sScR, [], []⟩) rfl
  have FM_tear : Fun K "tear" "Scribe.tear" sScR (He.fAd K ("Scribe", some "tear")) dM_tear := funOfM FM_tear'
  have bM_tear : Binds K dM_tear ["self", "number"] [] := FM_tear.binds (ps := ["self", "number"]) (fun _ _ _ _ _ _ us hl => match us, hl with | [_, _], _ => rfl)
  obtain ⟨dM_undo, FM_undo'⟩ := c.t.d.def_ 44 (d := ⟨("Scribe", some "undo"), "undo", "Scribe.undo", defArgs sScU, defBody sScU, defScope sScU, [], []⟩) rfl
  have FM_undo : Fun K "undo" "Scribe.undo" sScU (He.fAd K ("Scribe", some "undo")) dM_undo := funOfM FM_undo'
  have bM_undo : Binds K dM_undo ["self"] [] := FM_undo.binds (ps := ["self"]) (fun _ _ _ _ _ _ us hl => match us, hl with | [_], _ => rfl)
  obtain ⟨dM_book, FM_book'⟩ := c.t.d.def_ 45 (d := ⟨("Scribe", some "book"), "book", "Scribe.book", defArgs sScB, defBody sScB, defScope sScB, [], []⟩) rfl
  have FM_book : Fun K "book" "Scribe.book" sScB (He.fAd K ("Scribe", some "book")) dM_book := funOfM FM_book'
  have bM_book : Binds K dM_book ["self"] [] := FM_book.binds (ps := ["self"]) (fun _ _ _ _ _ _ us hl => match us, hl with | [_], _ => rfl)
  obtain ⟨dM_twin, FM_twin'⟩ := c.t.d.def_ 46 (d := ⟨("Scribe", some "twin"), "twin", "Scribe.twin", defArgs sScN, defBody sScN, defScope sScN, [], []⟩) rfl
  have FM_twin : Fun K "twin" "Scribe.twin" sScN (He.fAd K ("Scribe", some "twin")) dM_twin := funOfM FM_twin'
  have bM_twin : Binds K dM_twin ["self"] [] := FM_twin.binds (ps := ["self"]) (fun _ _ _ _ _ _ us hl => match us, hl with | [_], _ => rfl)
  obtain ⟨dM___eq__, FM___eq__'⟩ := c.t.d.def_ 47 (d := ⟨("Scribe", some "__eq__"), "__eq__", "Scribe.__eq__", defArgs sScE, defBody sScE, defScope sScE, [], []⟩) rfl
  have FM___eq__ : Fun K "__eq__" "Scribe.__eq__" sScE (He.fAd K ("Scribe", some "__eq__")) dM___eq__ := funOfM FM___eq__'
  have bM___eq__ : Binds K dM___eq__ ["self", "other"] [] := FM___eq__.binds (ps := ["self", "other"]) (fun _ _ _ _ _ _ us hl => match us, hl with | [_, _], _ => rfl)
  have m_range := He.free_ok X G (c.t.d.fact 40 (f := .free "range") rfl)
  have m_min := He.free_ok X G (c.t.d.fact 41 (f := .free "min") rfl)
  have m_max := He.free_ok X G (c.t.d.fact 42 (f := .free "max") rfl)
  have m_tuple := He.free_ok X G (c.t.d.fact 43 (f := .free "tuple") rfl)
  have m_list := He.free_ok X G (c.t.d.fact 44 (f := .free "list") rfl)
  have m_len := He.free_ok X G (c.t.d.fact 45 (f := .free "len") rfl)
  have m_sorted := He.free_ok X G (c.t.d.fact 46 (f := .free "sorted") rfl)
  have m_int := He.free_ok X G (c.t.d.fact 47 (f := .free "int") rfl)
  have m_isinstance := He.free_ok X G (c.t.d.fact 48 (f := .free "isinstance") rfl)
  have m_bool := He.free_ok X G (c.t.d.fact 49 (f := .free "bool") rfl)
  have m_dict := He.free_ok X G (c.t.d.fact 50 (f := .free "dict") rfl)
  have m_any := He.free_ok X G (c.t.d.fact 51 (f := .free "any") rfl)
  have m_all := He.free_ok X G (c.t.d.fact 52 (f := .free "all") rfl)
  have m_zip := He.free_ok X G (c.t.d.fact 53 (f := .free "zip") rfl)
  have m_str := He.free_ok X G (c.t.d.fact 54 (f := .free "str") rfl)
  have m_super := He.free_ok X G (c.t.d.fact 55 (f := .free "super") rfl)
  have m_repr := He.free_ok X G (c.t.d.fact 56 (f := .free "repr") rfl)
  have m_enumerate := He.free_ok X G (c.t.d.fact 57 (f := .free "enumerate") rfl)
  have i_NUMBER : MgInt mg "NUMBER" 0 := He.int_ok X G (c.t.d.fact 58 (f := .int "NUMBER" 0) rfl)
  have i_WORD : MgInt mg "WORD" 4 := He.int_ok X G (c.t.d.fact 59 (f := .int "WORD" 4) rfl)
  have i_OF : MgInt mg "OF" 5 := He.int_ok X G (c.t.d.fact 60 (f := .int "OF" 5) rfl)
  have i_RESTS : MgInt mg "RESTS" 7 := He.int_ok X G (c.t.d.fact 61 (f := .int "RESTS" 7) rfl)
  have i_LAST_DAY : MgInt mg "LAST_DAY" 9999 := He.int_ok X G (c.t.d.fact 62 (f := .int "LAST_DAY" 9999) rfl)
  have i_LAST_NUMBER : MgInt mg "LAST_NUMBER" 30 := He.int_ok X G (c.t.d.fact 63 (f := .int "LAST_NUMBER" 30) rfl)
  have i_LAST_HAND : MgInt mg "LAST_HAND" 3 := He.int_ok X G (c.t.d.fact 64 (f := .int "LAST_HAND" 3) rfl)
  have i_MOST_FOLK : MgInt mg "MOST_FOLK" 6 := He.int_ok X G (c.t.d.fact 65 (f := .int "MOST_FOLK" 6) rfl)
  have i_MOST_ENTRIES : MgInt mg "MOST_ENTRIES" 16 := He.int_ok X G (c.t.d.fact 66 (f := .int "MOST_ENTRIES" 16) rfl)
  have i_MOST_RESTS : MgInt mg "MOST_RESTS" 2 := He.int_ok X G (c.t.d.fact 67 (f := .int "MOST_RESTS" 2) rfl)
  have i_MOST_WITNESSES : MgInt mg "MOST_WITNESSES" 3 := He.int_ok X G (c.t.d.fact 68 (f := .int "MOST_WITNESSES" 3) rfl)
  have e := hfa.symm.trans g39
  cases e
  have b := FunD.bindsA (ps := ["_law_script"]) F39' fun _ _ _ _ _ _ us hl => match us, hl with | [_], _ => rfl
  have B : Bi mg := ⟨m_range, m_min, m_max, m_tuple, m_list, m_len, m_sorted, m_int⟩
  have t0 : (("entries_rising", none) : He.Defn) ∈ tfAll := by unfold tfAll; simp only [List.mem_cons, true_or, or_true]
  have t1 : (("_law_step", none) : He.Defn) ∈ tfAll := by unfold tfAll; simp only [List.mem_cons, true_or, or_true]
  have t2 : (("law", none) : He.Defn) ∈ tfAll := by unfold tfAll; simp only [List.mem_cons, true_or, or_true]
  have hex := c.more
  unfold exAll at hex
  obtain ⟨haw, hex⟩ := He.ba hex
  obtain ⟨hx1, hex⟩ := He.ba hex
  obtain ⟨hx2, hex⟩ := He.ba hex
  obtain ⟨h01, hex⟩ := He.ba hex
  obtain ⟨h02, hex⟩ := He.ba hex
  obtain ⟨h12, hex⟩ := He.ba hex
  obtain ⟨heq, hex⟩ := He.ba hex
  obtain ⟨hne, hex⟩ := He.ba hex
  obtain ⟨hmr, hex⟩ := He.ba hex
  obtain ⟨hca, hex⟩ := He.ba hex
  obtain ⟨hcn, hex⟩ := He.ba hex
  obtain ⟨hct, hex⟩ := He.ba hex
  obtain ⟨hcm, hex⟩ := He.ba hex
  obtain ⟨hkt, hex⟩ := He.ba hex
  obtain ⟨hs1, hex⟩ := He.ba hex
  have hs2 := hex
  have h01 := of_decide_eq_true h01
  have h02 := of_decide_eq_true h02
  have h12 := of_decide_eq_true h12
  obtain ⟨heq1, heq2⟩ := He.ba heq
  have gAW := He.glo_ok X G (c.t.d.fact 69 (f := .glo "ACT_WORDS") rfl)
  have AW : ActWG K mg _ := ⟨gAW, fun H => He.tupB_ok haw H⟩
  have gS := He.glo_ok X G (c.t.d.fact 70 (f := .glo "Scribe") rfl)
  have gE := He.glo_ok X G (c.t.d.fact 71 (f := .glo "NoEntry") rfl)
  have gT := He.glo_ok X G (c.t.d.fact 72 (f := .glo "Twice") rfl)
  have gN := He.glo_ok X G (c.t.d.fact 73 (f := .glo "NoName") rfl)
  have gM := He.glo_ok X G (c.t.d.fact 74 (f := .glo "TooMany") rfl)
  have gI := He.glo_ok X G (c.t.d.fact 75 (f := .glo "Missing") rfl)
  have gJ := He.glo_ok X G (c.t.d.fact 76 (f := .glo "Named") rfl)
  have gG := He.glo_ok X G (c.t.d.fact 77 (f := .glo "NothingDone") rfl)
  have gF := He.glo_ok X G (c.t.d.fact 78 (f := .glo "NoFolk") rfl)
  have gA := He.glo_ok X G (c.t.d.fact 79 (f := .glo "NoAge") rfl)
  obtain ⟨xE1, xE2, xE3, xE4⟩ := He.exc_ok (c.t.d.fact 80 (f := .exc "NoEntry") rfl)
  obtain ⟨xN1, xN2, xN3, xN4⟩ := He.exc_ok (c.t.d.fact 81 (f := .exc "NoName") rfl)
  obtain ⟨xM1, xM2, xM3, xM4⟩ := He.exc_ok (c.t.d.fact 82 (f := .exc "TooMany") rfl)
  obtain ⟨xI1, xI2, xI3, xI4⟩ := He.exc_ok (c.t.d.fact 83 (f := .exc "Missing") rfl)
  obtain ⟨xG1, xG2, xG3, xG4⟩ := He.exc_ok (c.t.d.fact 84 (f := .exc "NothingDone") rfl)
  obtain ⟨xF1, xF2, xF3, xF4⟩ := He.exc_ok (c.t.d.fact 85 (f := .exc "NoFolk") rfl)
  obtain ⟨xA1, xA2, xA3, xA4⟩ := He.exc_ok (c.t.d.fact 86 (f := .exc "NoAge") rfl)
  have e_ee := He.exm_ok (c.t.d.fact 87 (f := .exm "NoEntry" "NoEntry" true) rfl)
  have e_te := He.exm_ok (c.t.d.fact 88 (f := .exm "Twice" "NoEntry" false) rfl)
  have e_tt := He.exm_ok (c.t.d.fact 89 (f := .exm "Twice" "Twice" true) rfl)
  have e_ne := He.exm_ok (c.t.d.fact 90 (f := .exm "NoName" "NoEntry" false) rfl)
  have e_nt := He.exm_ok (c.t.d.fact 91 (f := .exm "NoName" "Twice" false) rfl)
  have e_nn := He.exm_ok (c.t.d.fact 92 (f := .exm "NoName" "NoName" true) rfl)
  have e_me := He.exm_ok (c.t.d.fact 93 (f := .exm "TooMany" "NoEntry" false) rfl)
  have e_mt := He.exm_ok (c.t.d.fact 94 (f := .exm "TooMany" "Twice" false) rfl)
  have e_mn := He.exm_ok (c.t.d.fact 95 (f := .exm "TooMany" "NoName" false) rfl)
  have e_mm := He.exm_ok (c.t.d.fact 96 (f := .exm "TooMany" "TooMany" true) rfl)
  have e_ie := He.exm_ok (c.t.d.fact 97 (f := .exm "Missing" "NoEntry" false) rfl)
  have e_it := He.exm_ok (c.t.d.fact 98 (f := .exm "Missing" "Twice" false) rfl)
  have e_in := He.exm_ok (c.t.d.fact 99 (f := .exm "Missing" "NoName" false) rfl)
  have e_im := He.exm_ok (c.t.d.fact 100 (f := .exm "Missing" "TooMany" false) rfl)
  have e_ii := He.exm_ok (c.t.d.fact 101 (f := .exm "Missing" "Missing" true) rfl)
  have e_je := He.exm_ok (c.t.d.fact 102 (f := .exm "Named" "NoEntry" false) rfl)
  have e_jt := He.exm_ok (c.t.d.fact 103 (f := .exm "Named" "Twice" false) rfl)
  have e_jn := He.exm_ok (c.t.d.fact 104 (f := .exm "Named" "NoName" false) rfl)
  have e_jm := He.exm_ok (c.t.d.fact 105 (f := .exm "Named" "TooMany" false) rfl)
  have e_ji := He.exm_ok (c.t.d.fact 106 (f := .exm "Named" "Missing" false) rfl)
  have e_jj := He.exm_ok (c.t.d.fact 107 (f := .exm "Named" "Named" true) rfl)
  have e_ge := He.exm_ok (c.t.d.fact 108 (f := .exm "NothingDone" "NoEntry" false) rfl)
  have e_gt := He.exm_ok (c.t.d.fact 109 (f := .exm "NothingDone" "Twice" false) rfl)
  have e_gn := He.exm_ok (c.t.d.fact 110 (f := .exm "NothingDone" "NoName" false) rfl)
  have e_gm := He.exm_ok (c.t.d.fact 111 (f := .exm "NothingDone" "TooMany" false) rfl)
  have e_gi := He.exm_ok (c.t.d.fact 112 (f := .exm "NothingDone" "Missing" false) rfl)
  have e_gj := He.exm_ok (c.t.d.fact 113 (f := .exm "NothingDone" "Named" false) rfl)
  have e_gg := He.exm_ok (c.t.d.fact 114 (f := .exm "NothingDone" "NothingDone" true) rfl)
  have e_ff := He.exm_ok (c.t.d.fact 115 (f := .exm "NoFolk" "NoFolk" true) rfl)
  have e_aa := He.exm_ok (c.t.d.fact 116 (f := .exm "NoAge" "NoAge" true) rfl)
  have nE : ExcCl K mg "NoEntry" _ := ⟨xE1, gE, xE2, xE3, xE4, e_ee⟩
  have nN : ExcCl K mg "NoName" _ := ⟨xN1, gN, xN2, xN3, xN4, e_nn⟩
  have nM : ExcCl K mg "TooMany" _ := ⟨xM1, gM, xM2, xM3, xM4, e_mm⟩
  have nI : ExcCl K mg "Missing" _ := ⟨xI1, gI, xI2, xI3, xI4, e_ii⟩
  have nG : ExcCl K mg "NothingDone" _ := ⟨xG1, gG, xG2, xG3, xG4, e_gg⟩
  have nF : ExcCl K mg "NoFolk" _ := ⟨xF1, gF, xF2, xF3, xF4, e_ff⟩
  have nA : ExcCl K mg "NoAge" _ := ⟨xA1, gA, xA2, xA3, xA4, e_aa⟩
  obtain ⟨ST, siT, stT, snT⟩ := SupX.supB_ok (st := sTwI) hs1 (congrArg Prod.fst cs) (by decide +kernel)
  obtain ⟨SJ, siJ, stJ, snJ⟩ := SupX.supB_ok (st := sNmI) hs2 (congrArg Prod.snd cs) (by decide +kernel)
  have S7 : Sd7 K mg ⟨He.ga K "NoEntry", He.ga K "Twice", He.ga K "NoName", He.ga K "TooMany", He.ga K "Missing", He.ga K "Named", He.ga K "NothingDone"⟩ := ⟨⟨e_ee, e_te, e_tt, e_ne, e_nt, e_nn, e_me, e_mt, e_mn, e_mm, e_ge, e_gt, e_gn, e_gm, e_gi, e_gj, e_gg⟩, ⟨e_ie, e_it, e_in, e_im, e_ii, e_je, e_jt, e_jn, e_jm, e_ji, e_jj⟩, gE, gT, gN, gM, gI, gJ, gG, xfB_ok hx1, xfB_ok hx2, snT, snJ⟩
  have S : ScT K mg (He.ga K "Scribe") := ⟨He.cls_ok (c.t.d.fact 117 (f := .cls "Scribe") rfl), He.noat_ok (c.t.d.fact 118 (f := .noat "Scribe" "kept") rfl), He.noat_ok (c.t.d.fact 119 (f := .noat "Scribe" "earlier") rfl), gS⟩
  have hMk := He.mkr_ok (c.t.d.fact 120 (f := .mkr "Scribe") rfl)
  have hM_turn_to := He.meth_ok (c.t.d.fact 121 (f := .meth "Scribe" "turn_to") rfl)
  have hM_write := He.meth_ok (c.t.d.fact 122 (f := .meth "Scribe" "write") rfl)
  have hM_tear := He.meth_ok (c.t.d.fact 123 (f := .meth "Scribe" "tear") rfl)
  have hM_undo := He.meth_ok (c.t.d.fact 124 (f := .meth "Scribe" "undo") rfl)
  have hM_book := He.meth_ok (c.t.d.fact 125 (f := .meth "Scribe" "book") rfl)
  have hM_twin := He.meth_ok (c.t.d.fact 126 (f := .meth "Scribe" "twin") rfl)
  have ic : C8.InsC K (He.ga K "Scribe") := ⟨S.cl, of_decide_eq_true hca, of_decide_eq_true hcn, of_decide_eq_true hct, of_decide_eq_true hmr, of_decide_eq_true hcm⟩
  have hk : ∀ t : Tg, PySem.W.kitOne K (.type t.ty) (.ref (He.ga K "Scribe")) = some false := fun t => of_decide_eq_true (List.all_eq_true.mp hkt _ (by cases t <;> simp [Tg.ty]))
  have mT : ∀ {p : Addr × Str}, p ∈ ([((He.cT K ("entries_rising", none)).2, qRis), ((He.cT K ("_law_step", none)).2, qStep), ((He.cT K ("law", none)).2, qLaw73)] : List (Addr × Str)) ↔ (p = ((He.cT K ("entries_rising", none)).2, qRis) ∨ p = ((He.cT K ("_law_step", none)).2, qStep) ∨ p = ((He.cT K ("law", none)).2, qLaw73)) := by
    intro p
    simp only [List.mem_cons, List.not_mem_nil, or_false]
  refine ⟨d39, tfAll.map (He.cT K), spLaw K [((He.cT K ("entries_rising", none)).2, qRis), ((He.cT K ("_law_step", none)).2, qStep), ((He.cT K ("law", none)).2, qLaw73)], fun p hp => ?_, fun p hp => ?_, fun p hp => ?_, fun s v => b s [v] rfl, fun H a ns hl _ hH hS => ?_, fun base hK hG hTB => ?_⟩
  · obtain ⟨q, hq, rfl⟩ := List.mem_map.mp hp
    exact c.empty q hq
  · obtain ⟨q, hq, rfl⟩ := List.mem_map.mp hp
    exact c.out q hq
  · obtain ⟨q, hq, rfl⟩ := List.mem_map.mp hp
    exact PySem.W.codeHd_of_K X (c.hd q hq)
  · refine ⟨a, ns, rfl, hS, hl, fun p hp => ?_, fun _ => rfl⟩
    rcases mT.mp hp with rfl | rfl | rfl
    · exact TabS.nil (hH _ (List.mem_map.mpr ⟨_, t0, rfl⟩))
    · exact TabS.nil (hH _ (List.mem_map.mpr ⟨_, t1, rfl⟩))
    · exact TabS.nil (hH _ (List.mem_map.mpr ⟨_, t2, rfl⟩))
  · have tb0 := hTB _ (List.mem_map.mpr ⟨_, t0, rfl⟩)
    have tb1 := hTB _ (List.mem_map.mpr ⟨_, t1, rfl⟩)
    have tb2 := hTB _ (List.mem_map.mpr ⟨_, t2, rfl⟩)
    have u0 : ∀ p ∈ ([((He.cT K ("entries_rising", none)).2, qRis), ((He.cT K ("_law_step", none)).2, qStep), ((He.cT K ("law", none)).2, qLaw73)] : List (Addr × Str)), p.1 = (He.cT K ("entries_rising", none)).2 → p.2 = qRis := fun p hp e => by
      rcases mT.mp hp with rfl | rfl | rfl
      · rfl
      · exact absurd e.symm h01
      · exact absurd e.symm h02
    have u1 : ∀ p ∈ ([((He.cT K ("entries_rising", none)).2, qRis), ((He.cT K ("_law_step", none)).2, qStep), ((He.cT K ("law", none)).2, qLaw73)] : List (Addr × Str)), p.1 = (He.cT K ("_law_step", none)).2 → p.2 = qStep := fun p hp e => by
      rcases mT.mp hp with rfl | rfl | rfl
      · exact absurd e h01
      · rfl
      · exact absurd e.symm h12
    have u2 : ∀ p ∈ ([((He.cT K ("entries_rising", none)).2, qRis), ((He.cT K ("_law_step", none)).2, qStep), ((He.cT K ("law", none)).2, qLaw73)] : List (Addr × Str)), p.1 = (He.cT K ("law", none)).2 → p.2 = qLaw73 := fun p hp e => by
      rcases mT.mp hp with rfl | rfl | rfl
      · exact absurd e h02
      · exact absurd e h12
      · rfl
    have R : RisD K mg base [((He.cT K ("entries_rising", none)).2, qRis), ((He.cT K ("_law_step", none)).2, qStep), ((He.cT K ("law", none)).2, qLaw73)] _ d21 := ⟨D21, ⟨_, _, codeAt F21, tb0, mT.mpr (.inl rfl), u0⟩, m_sorted, i_NUMBER⟩
    let cDr : ∀ k, CDraw l.prog w K mg base (k + 1) := fun k => D2.call (ok_draw D2.F)
    let cMi : ∀ k, CallOk l.prog w K mg base (k + 2) "_law_mixed" _ (spMixed K) := fun k => D5.call (ok_mixed (k := k) D5.F D2 B)
    let cDy : ∀ k, CallOk l.prog w K mg base (k + 2) "_law_day" _ spDay := fun k => D3.call (ok_day (k := k + 1) D3.F (cDr k))
    let cFe : CallOk l.prog w K mg base 3 "_law_few" _ (spFew K) := D6.call (ok_few (k := 2) D6.F (cDr 1) (cMi 0) m_tuple m_sorted)
    let cDe : CallOk l.prog w K mg base 4 "_law_deed" _ (spDeed K) := D7.call (ok_deed (k := 3) D7.F (cDr 2) (cDy 1) (cMi 1) cFe m_list m_range m_len)
    let cFo : CallOk l.prog w K mg base 4 "_law_folk" _ spFolk := D4.call (ok_folk (k := 3) D4.F (cDr 2) m_range m_min m_tuple)
    let cTh3 : CallOk l.prog w K mg base 5 "_law_thing" _ (spLThing 3) := D26.call (ok_LThing (k := 1) D26 (fun n => (cDr n).mono (by omega)) m_range m_tuple 3)
    let cSp : CallOk l.prog w K mg base 9 "_law_spoilt" _ (spLSpoilt 3) := D27.call (ok_LSpoilt (k := 5) D27 (fun n => (cDr n).mono (by omega)) (fun n => cTh3.mono (by omega)) m_isinstance m_tuple m_len m_list m_int m_str 3)
    let cWh : CallOk l.prog w K mg base 10 "is_whole" _ _ := D9.call (ok_IsWhole (k := 9) D9.F m_isinstance m_int m_bool)
    let cWi : CallOk l.prog w K mg base 11 "is_within" _ _ := D10.call (ok_IsWithin (k := 10) D10.F cWh)
    let cDa : CallOk l.prog w K mg base 12 "is_day" _ _ := D11.call (ok_IsDayG (k := 11) D11.F cWi i_LAST_DAY)
    let cAg : CallOk l.prog w K mg base 12 "is_age" pIsAgeG (spB1 ageT) := D12.call (ok_IsAgeG (k := 11) D12.F cWi i_LAST_DAY)
    let cPe : CallOk l.prog w K mg base 12 "is_person" _ _ := D13.call (ok_IsPerson (k := 11) D13.F cWi m_isinstance m_tuple m_len i_LAST_DAY)
    let cFk : CallOk l.prog w K mg base 13 "is_folk" _ _ := D14.call (ok_IsFolkG (k := 12) D14.F cPe m_isinstance m_tuple m_len m_all i_MOST_FOLK)
    let cRi : CallOk l.prog w K mg base 11 "is_rising" _ _ := D15.call (ok_IsRisG (k := 10) D15.F m_zip m_all)
    let cRb : CallOk l.prog w K mg base 12 "is_rising_below" _ _ := D16.call (ok_IsRisB (k := 11) D16.F cWi cRi m_isinstance m_tuple m_len m_all)
    let cDt : CallOk l.prog w K mg base 13 "is_deed_tail" _ _ := D17.call (ok_IsDeedT (k := 12) D17.F (cWi.mono (by decide)) cRb m_len i_MOST_RESTS i_MOST_WITNESSES)
    let cAt : CallOk l.prog w K mg base 13 "is_act_tail" _ _ := D18.call (ok_IsActT (k := 12) D18.F (cWi.mono (by decide)) m_len)
    let cEn : CallOk l.prog w K mg base 14 "is_entry" _ _ := D19.call (ok_IsEntG (k := 13) D19.F cFk (cWi.mono (by decide)) (cDa.mono (by decide)) cDt cAt m_isinstance m_tuple m_len i_OF i_LAST_NUMBER i_LAST_HAND AW)
    let cNf : CallOk l.prog w K mg base 14 "names_fit" _ _ := D20.call (ok_NFit (k := 13) D20.F m_all i_WORD i_RESTS i_OF AW)
    let cWE : CallOk l.prog w K mg base 15 "with_entry" _ _ := D23.call (ok_WithE (k := 14) D23.F cEn cNf m_len i_NUMBER i_WORD i_MOST_ENTRIES)
    let cER : CallOk l.prog w K mg base 10 "entries_rising" ["book"] (spRising _) := D21.call (R.ok (k := 8))
    let cBN : CallOk l.prog w K mg base 11 "by_numbers" pByN (spByN _) := D25.call (ok_ByN (k := 10) D25.F cER m_tuple)
    let mTu : CallM l.prog w K mg base CX0 15 (He.ga K "Scribe") "turn_to" nScT (spScT _ _) := ⟨_, _, hM_turn_to, bM_turn_to, ok_ScT (k := 14) FM_turn_to S (cBN.mono (by decide))⟩
    let cNa : CallOk l.prog w K mg base 10 "_law_named" _ spLNamedW := D28.call (ok_LNamedW (k := 9) D28.F m_list)
    let cAw : CallOk l.prog w K mg base 4 "_law_act" _ (spActW K) := D8.call (ok_actW (k := 3) D8.F (cDr 2) (cDy 1) m_len)
    let cNE : CallOk l.prog w K mg base 17 "_law_new_entry" _ _ := D30.call (ok_LNewEnt (k := 16) D30.F (cDr 15) (cDe.mono (by decide)) (cAw.mono (by decide)) m_sorted)
    have GDU := all_LDueOf (ok_LDueOf (k := 14) D29.F cEn (cNa.mono (by decide)) m_dict m_len m_int) (no_LDueOf (k := 14) D29.F cEn)
    let cDu : CallOk l.prog w K mg base 15 "_law_due_of" _ _ := D29.call GDU
    let cNi : CallOk l.prog w K mg base 14 "named_in" _ _ := D22.call (ok_NamedIn (k := 13) D22.F i_WORD i_RESTS i_OF)
    have GWT := ok_WoutE (k := 14) (P := l.prog) (w := w) (base := base) D24.F (cWh.mono (by decide)) cNi m_tuple i_NUMBER
    let cWT : CallOk l.prog w K mg base 15 "without_entry" _ _ := D24.call GWT
    let cDO : CallOk l.prog w K mg base 12 "_law_due_out" _ _ := D31.call (ok_LDueOut (k := 11) D31.F (cNa.mono (by decide)) m_isinstance m_int m_bool)
    obtain ⟨fdT, bT, okT⟩ := twi_fn (P := l.prog) (w := w) (base := base) (k := 0) ST m_super snT
    obtain ⟨fdJ, bJ, okJ⟩ := nmd_fn (P := l.prog) (w := w) (base := base) (k := 0) SJ m_super snJ
    let NT : MkX l.prog w K mg base 1 "Twice" "at" _ := ⟨_, fdT, ["self", "at"], ST.oex, gT, siT, stT, bT, okT⟩
    let NJ : MkX l.prog w K mg base 1 "Named" "by" _ := ⟨_, fdJ, ["self", "by"], SJ.oex, gJ, siJ, stJ, bJ, okJ⟩
    have AWE := all_With (cWE.ok) (ref_WithE (k := 14) D23.F nE nN nM NT (by decide) cEn cNf m_len i_NUMBER i_WORD i_MOST_ENTRIES) (ref_WithN (k := 14) D23.F nE cEn)
    have AWO := all_Wout GWT (ref_WoutJ (k := 14) D24.F NJ (by decide) (cWh.mono (by decide)) cNi m_min i_NUMBER) (ref_WoutN (k := 14) D24.F nI (cWh.mono (by decide)) i_NUMBER)
    let xWE : CallX l.prog w K mg base 15 "with_entry" _ _ := D23.callX AWE
    let xWO : CallX l.prog w K mg base 15 "without_entry" _ _ := D24.callX AWO
    let mBk : CallM l.prog w K mg base CX0 2 (He.ga K "Scribe") "book" nScB (spScB _) := ⟨_, _, hM_book, bM_book, ok_ScB (k := 1) FM_book S⟩
    let mUn : CallM l.prog w K mg base (L2.CX l.prog w) 2 (He.ga K "Scribe") "undo" nScB (spScU _ _ [((He.cT K ("entries_rising", none)).2, qRis), ((He.cT K ("_law_step", none)).2, qStep), ((He.cT K ("law", none)).2, qLaw73)]) := ⟨_, _, hM_undo, bM_undo, ok_ScU (k := 1) FM_undo S nG⟩
    let mWr : CallM l.prog w K mg base (L2.CX l.prog w) 16 (He.ga K "Scribe") "write" nScW (spScWA _ _ _ _ _ [((He.cT K ("entries_rising", none)).2, qRis), ((He.cT K ("_law_step", none)).2, qStep), ((He.cT K ("law", none)).2, qLaw73)]) := ⟨_, _, hM_write, bM_write, all_ScW (ok_ScW (k := 15) FM_write S mTu cWE) (ref_ScWX (k := 15) FM_write S mTu xWE)⟩
    let mTe : CallM l.prog w K mg base (L2.CX l.prog w) 16 (He.ga K "Scribe") "tear" nScR (spScRA _ _ _ [((He.cT K ("entries_rising", none)).2, qRis), ((He.cT K ("_law_step", none)).2, qStep), ((He.cT K ("law", none)).2, qLaw73)]) := ⟨_, _, hM_tear, bM_tear, all_ScR (ok_ScR (k := 15) FM_tear S mTu cWT) (ref_ScRX (k := 15) FM_tear S mTu xWO)⟩
    let cMk : CallK l.prog w K mg base (L2.CX l.prog w) 40 "Scribe" (He.ga K "Scribe") nScI (spScI _ _ _) := ⟨_, _, gS, hMk, bM___init__, (ok_ScI (k := 14) FM___init__ S nF nA (cFk.mono (by decide)) (cAg.mono (by decide))).mono (by decide)⟩
    let mTw : CallM l.prog w K mg base CX0 42 (He.ga K "Scribe") "twin" ["self"] (spScN _) := ⟨_, _, hM_twin, bM_twin, ok_ScN (k := 40) FM_twin S cMk m_list⟩
    let sEq : CallS l.prog w K mg base 41 (He.ga K "Scribe") "__eq__" nScE (spScE K _) := ⟨_, _, ⟨of_decide_eq_true heq1, heq2⟩, bM___eq__, (ok_ScE (k := 1) FM___eq__ S ic m_isinstance).mono (by decide)⟩
    let cDL := D33.call (ok_LDueLess (k := 12) D33.F cDO (cNa.mono (by decide)) m_min)
    let cLe := D34.call (ok_LLess (k := 12) (P := l.prog) (w := w) (base := base) D34.F m_tuple)
    let cDI := D35.call (ok_LDueIn (k := 15) D35.F cDu)
    let cBy := D36.call (ok_LByNumber (k := 12) (P := l.prog) (w := w) (base := base) D36.F m_enumerate m_sorted m_tuple)
    let cWi2 := D37.call (ok_LWith (k := 13) D37.F cBy)
    let cSe := D38.call (ok_LStep (k := 38) F38 (codeAt F38) tb1 (mT.mpr (.inr (.inl rfl))) u1 S S7 D32 (mUn.mono (by decide)) (mTe.mono (by decide)) (mWr.mono (by decide)) (cDr 39) (cDL.mono (by decide)) (cLe.mono (by decide)) (cNE.mono (by decide)) (cSp.mono (by decide)) (cDI.mono (by decide)) (cWi2.mono (by decide)) m_len m_int)
    exact ok_law (k := 40) F39 (codeAt F39) tb2 (mT.mpr (.inr (.inr rfl))) u2 S S7 D32 (mUn.mono (by decide)) (mBk.mono (by decide)) mTw (cMk.mono (by decide)) sEq ⟨of_decide_eq_true heq1, heq2, of_decide_eq_true hne, of_decide_eq_true hmr⟩ ic hk (D0.call (ok_cell D0.F m_len)) (D1.call (ok_pen D1.F m_int)) (cFo.mono (by decide)) (cDr 41) (cSe.mono (by decide)) (cTh3.mono (by decide)) m_len m_range m_zip m_list
end Deed
open PySem PySem.W PySem.Calls PyProof.Rows
theorem PySem.Challenge.cw_deedsheaf_k73_scribes_alike_and_apart_holds : PySem.Challenge.rw_deedsheaf_k73_scribes_alike_and_apart.Holds := by
  w_on; o_law
  refine HandSHeadRun.head_any (r := OpenLaw.row PySem.Challenge.rw_deedsheaf_k73_scribes_alike_and_apart) (q := view (OpenLaw.row PySem.Challenge.rw_deedsheaf_k73_scribes_alike_and_apart).prog [76]) (H := Deed.hk) (ob := Deed.ob) (M := 12000) (loose := Deed.looseAll) (d := HandSHeadRun.topDef (OpenLaw.row PySem.Challenge.rw_deedsheaf_k73_scribes_alike_and_apart).prog 76) (kwd := []) Deed.ob_eq
    (by kernel_rfl) (fun s => by kernel_rfl) Deed.run (by kernel_rfl) (by kernel_rfl) (by kernel_rfl) (by rfl) (by first | assumption | decide +kernel) (by decide +kernel) ⟨rfl, rfl, rfl, rfl, rfl, by decide +kernel⟩ ?hw ?hc
  case hw => w_witness2
  case hc =>
    refine LamX.walk_ofTsE (l := PySem.Challenge.rw_deedsheaf_k73_scribes_alike_and_apart) (n := 63) (k := 43) (x := "_law_script") (CX := fun _ => L2.CX0) rfl (by decide) (by kernel_rfl) ⟨rfl, by decide, by decide⟩ ?F (fun _ _ _ _ _ z => z)
    intro w mg fa h Y G hmg0
    obtain ⟨K, KX, c, cs⟩ := Y
    have hmg : mg ("law" : PySem.Str) = some (.ref fa) := by
      have e : (HandSHeadRun.topDef (OpenLaw.row PySem.Challenge.rw_deedsheaf_k73_scribes_alike_and_apart).prog 76).name = ("law" : PySem.Str) := by kernel_rfl
      rw [← e]
      exact hmg0
    exact ⟨K, KX, Deed.facts KX G hmg c cs⟩
