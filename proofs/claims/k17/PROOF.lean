import PyProof.Rows.All
import Wide.All
import OpenK.AllK
import Wide.FinOn
import HandS.ForMost
import HandS.Star
import HandS.SlotsOwn
import HandS.OwnEq
import KE.KOpsOwn
import HandS.Iter
import HandS.IterVal
import HandS.Records
import HandS.TupMul
import KE.KOwnIter
import HandS.Evl
import HandS.Style
import HandS.Defaults
import HandS.ClsMeth
import HandS.CallLocal
import HandS.More
import HandS.Base
import HandS.Call
import HandS.MakeKwOnly
import PyProof.Rows.SortStr
import PyProof.EqAt
import PyProof.EqKinds
import PyProof.TupleCall
import PyProof.Rows.SortShell
import PyProof.Rows.SortWalk
import KE.KSortTup
import HandS.Dict
import HandS.Sort
import HandS.SortOrd
import HandS.SortRule
import HandS.List
import HandS.SortInts
import HandS.NamedTupSort
import HandS.Wide
import HandS.IsInst
import HandS.StrMore
import HandS.Walk
import HandS.TupAny
import HandS.Conv
import HandS.Codes
import HandS.Keys
import HandS.SetFor
import HandS.Strs
import HandS.TupSets
import HandS.SortKw
import KE.BitLaws
import KE.GoesMore
import KE.GoesEnum
import HandS.Text
import HandS.Deep
import PyProof.P3In
import HandS.DictComp
import HandS.Comp
import PyProof.Rows.InDataRows
import HandS.Flow
import HandS.Steps
import HandS.ForExc
import HandS.ExcInit
import HandS.ExcValue
import HandS.ExcField
import KE.KExcIs
import HandS.ExcIs
import HandS.WordsExc
import HandS.Zip
import HandS.WideBits
import HandS.RaiseMore
import KE.KCallOwn
import PyProof.NeKinds
import PyProof.StrLawsChain
import PyProof.StrLawsTight
import HandS.Replace
import PyProof.Walks
import PyProof.PlainList
import HandS.ReplaceDef
import HandS.ReplaceLit
import PyProof.ReprRoads
import PySem.Challenge.RW_layerpost_k17_plans_made_and_written
set_option Elab.async false
set_option linter.all false
set_option maxRecDepth 100000
set_option maxHeartbeats 8000000
/-! operators of own classes, for instances with a dict or with slots -/
namespace OpX
open PySem PySem.Spec PyProof.Rows L2 StX
section
variable {prog : Program} {w : World} {A : Around} {E : Value → Shared → Prop} {s : Shared} {K : PySem.W.Frag} {x y C f L : Addr} {h₀ : Heap} {m : Str → Option Value} {ox oy : Obj} {od od' : Option Obj}
/-- some answer came -/
def Told (Q : Value → Shared → Prop) (r : Option Value) (s' : Shared) : Prop := ∃ v, r = some v ∧ Q v s'
/-- what an operator's first try told is the operator's word -/
theorem told_pure {M : Model} {B : Around} {F : Value → Shared → Prop} {Q : Value → Shared → Prop} {t : Sem (Option Value)} {k : Option Value → Sem Value} {s' : Shared} (h : wpAny M B t (Told Q) F s') (hk : ∀ v, k (some v) = pure v) : wpAny M B (t >>= k) Q F s' :=
  wpAny_bind (wpAny_mono h (fun r s'' ⟨v, e, q⟩ => by rw [e, hk]; exact wpAny_pure q) fun _ _ z => z)
open Builtin in
/-- object's own != asks the class's == and turns its bool about -/
theorem turned {Q : Value → Shared → Prop} {b : Value} (hu : A.in1.units < cLine) (X : K.In s.heap) (I : PySem.W.InstAt s.heap x ox C od) (hm : PySem.W.mroIn K C (.type "object") = some true)
    (hs : PySem.W.findIn K (.ref C) "__eq__" = some (some (.ref f))) (hf : PySem.W.isFn K (.ref f) = true)
    (h : wpAny (model prog w) A.in1 (call (.ref f) [.ref x, b]) (fun r s' => ∃ c, r = .bool c ∧ Q (.bool (!c)) s') E s) : wpAny (model prog w) A (call (.builtin "object.__ne__") [.ref x, b]) Q E s := by
  refine wpAny_call (codeAny_call_builtin PySem.F.slot_object_ne.plain PySem.F.entry_object_ne (PySem.W.check_slot (i := "object.__ne__") (owner := "object") (n := "__ne__") (by decide +kernel) (by decide +kernel) (I.type.andThen (PySem.W.looks_mroIn X hm)) (PySem.F.args_object_ne_2 _ _) ?_))
  show wpAny _ _ (Builtin.«object.__ne__» _) _ _ _
  unfold Builtin.«object.__ne__»
  exact wpAny_bind (m := slotArgs "__ne__" 1 _) (wpAny_pure (wpAny_bind (m := cRoomFor _ _) (wpAny_cRoomFor hu (wpAny_bind (m := callSpecialIfBound? (.ref x) (Str.ofString "__eq__") _)
    (PySem.W.ifBound_K X I hs hf (wpAny_mono h (fun r s' ⟨c, e, q⟩ => by
      subst e
      exact wpAny_bind (m := truthy (.bool c)) (wpAny_truthy_bool (wpAny_pure q))) fun _ _ z => z))))))
/-- x != y, both of one class that has an own == and object's != -/
theorem ne_same {Q : Value → Shared → Prop} (hu : A.units < cLine) (hu1 : A.in1.units < cLine) (X : K.In s.heap) (I : PySem.W.InstAt s.heap x ox C od) (J : PySem.W.InstAt s.heap y oy C od')
    (hne : PySem.W.findIn K (.ref C) "__ne__" = some (some (.builtin "object.__ne__"))) (hm : PySem.W.mroIn K C (.type "object") = some true) (hs : PySem.W.findIn K (.ref C) "__eq__" = some (some (.ref f))) (hf : PySem.W.isFn K (.ref f) = true)
    (h : wpAny (model prog w) A.in1 (call (.ref f) [.ref x, .ref y]) (fun r s' => ∃ c, r = .bool c ∧ Q (.bool (!c)) s') E s) : wpAny (model prog w) A (richCompare .NotEq (.ref x) (.ref y)) Q E s := by
  have word := turned (Q := fun v s' => Q v s' ∧ ∃ c, v = .bool c) hu1 X I hm hs hf (wpAny_mono h (fun r s' ⟨c, e, q⟩ => ⟨c, e, q, _, rfl⟩) fun _ _ z => z)
  have bnd : PySem.W.Looks (model prog w) s.heap (bindSpecial (.builtin "object.__ne__") (.ref x)) (.builtin "object.__ne__", [.ref x]) := PySem.W.Looks.of_pure (PySem.F.slot_object_ne.bind _)
  have asked : wpAny (model prog w) A (call (.builtin "object.__ne__") ([.ref x] ++ [.ref y]) >>= fun v => pure (some v)) (Told fun v s' => Q v s' ∧ ∃ c, v = .bool c) E s := wpAny_bind (wpAny_mono word (fun v s' q => wpAny_pure ⟨v, rfl, q⟩) fun _ _ z => z)
  have tried : wpAny (model prog w) A (tryCompare (.ref x) (cmpInfo .NotEq).2.1 (.ref y)) (Told Q) E s := by
    unfold tryCompare callSpecialIfBound? bindSpecialIfBound?
    refine wpAny_bind (wpAny_holding (wpAny_bind (wpAny_bind (wpAny_bind (I.type.here ((PySem.W.looks_findIn X hne).here (wpAny_bind (wpAny_askSetting (wpAny_ite ?_)))))))))
    split
    · refine wpAny_bind (bnd.here (wpAny_pure ?_))
      exact wpAny_mono asked (fun r s' ⟨v, e, q, c, ec⟩ => by
        subst e ec
        exact wpAny_pure ⟨_, rfl, q⟩) fun _ _ z => z
    · refine wpAny_tryCatch (wpAny_bind (bnd.here (wpAny_pure ?_)))
      exact wpAny_mono asked (fun r s' ⟨v, e, q, c, ec⟩ => by
        subst e ec
        exact wpAny_pure ⟨_, rfl, q⟩) fun _ _ z => z
  have same : (Value.ref C != Value.ref C) = false := by simp
  unfold richCompare
  rw [oneThing_ref]
  refine wpAny_holding (wpAny_bind (wpAny_cRoomFor hu (wpAny_bind (I.type.here (wpAny_bind (J.type.here ?_))))))
  rw [same, if_neg Bool.false_ne_true]
  exact wpAny_bind (wpAny_pure (told_pure tried fun _ => rfl))
end
section
variable {X : Cx} {CX : CXT} {n : Nat} {C g : Addr} {sp : Sp} {E : XK}
/-- x op y: both of the class at C -/
def rS (X : Cx) (C : Addr) (sp : Sp) (E : XK) : R2 := fun x y H Q => ∃ a b, x = .ref a ∧ y = .ref b ∧ InsC X H a C ∧ InsC X H b C ∧ sp [.ref a, .ref b] H Q E
/-- x op i: x of the class at C, i an int -/
def rI (X : Cx) (C : Addr) (sp : Sp) (E : XK) : R2 := fun x y H Q => ∃ a i, x = .ref a ∧ y = .int i ∧ InsC X H a C ∧ sp [.ref a, .int i] H Q E
/-- i op x: the reflected one -/
def rR (X : Cx) (C : Addr) (sp : Sp) (E : XK) : R2 := fun x y H Q => ∃ a i, x = .int i ∧ y = .ref a ∧ InsC X H a C ∧ sp [.ref a, .int i] H Q E
/-- the def of an operator -/
structure Has (K : PySem.W.Frag) (C g : Addr) (name : Str) : Prop where
  at_ : PySem.W.findIn K (.ref C) name = some (some (.ref g))
  fn : PySem.W.isFn K (.ref g) = true
theorem run_own {pins : List (Addr × Obj)} {σ : L2.St} {H : Hp} {s : Shared} {Q : VK} {us : List Value} {vs : List V} (F : FnR X.prog X.w X.K X.mg X.base CX n g sp) (hr : Room n X.A) (hx : Passes CX X E) (I : Inv X pins σ H s) (r : Vals vs us)
    (q : sp vs H Q E) : wpAny (model X.prog X.w) X.A (call (.ref g) us) (PySem.W.CmpBack (EP X pins σ Q)) X.xe s := by
  refine wpAny_mono (wpAny_call (run_fnR F hr hx I r q)) (fun w s' z => ?_) fun _ _ x => x
  obtain ⟨z', H', I', rz, qz⟩ := z
  exact SlX.cmpback rz ⟨z', H', I', rz, qz⟩
theorem op_binS {op : Operator} (hc : PySem.W.selfFirst X.K C = true) (h : Has X.K C g (PySem.dunder op.info.2)) (F : FnR X.prog X.w X.K X.mg X.base CX n g sp) (hr : Room n X.A) (hx : Passes CX X E) :
    OpR X (binaryOp op) (rS X C sp E) := by
  intro pins s σ H x y v u Q I rx ry hq
  obtain ⟨a, b, rfl, rfl, ha, hb, q⟩ := hq
  cases (show v = Value.ref a from rx)
  cases (show u = Value.ref b from ry)
  obtain ⟨ox, od, J, _⟩ := insC_at I ha
  obtain ⟨ox', od', J', _⟩ := insC_at I hb
  obtain ⟨m, hF⟩ := I.fr
  exact PySem.W.binop_K hF I.ok.mod.kin J J'.type hc h.at_ h.fn (run_own (us := [.ref a, .ref b]) (vs := [.ref a, .ref b]) F hr hx I (.cons rfl (.cons rfl .nil)) q)
theorem op_binI {op : Operator} {fo ro rc : Option Value} (hc : PySem.W.selfFirst X.K C = true) (h : Has X.K C g (PySem.dunder op.info.2)) (hrf : PySem.W.findIn X.K (.ref C) (dunderR op.info.2) = some rc) (hp : rc = none ∨ ∃ g : Addr, rc = some (.ref g))
    (h1 : PySem.W.findIn X.K (.type "int") (PySem.dunder op.info.2) = some fo) (h2 : PySem.W.findIn X.K (.type "int") (dunderR op.info.2) = some ro) (hsub : PySem.W.subIn X.K (.type "int") (.ref C) = some false)
    (F : FnR X.prog X.w X.K X.mg X.base CX n g sp) (hr : Room n X.A) (hx : Passes CX X E) : OpR X (binaryOp op) (rI X C sp E) := by
  intro pins s σ H x y v u Q I rx ry hq
  obtain ⟨a, i, rfl, rfl, ha, q⟩ := hq
  cases (show v = Value.ref a from rx)
  obtain ⟨t, e⟩ := (show ∃ t, u = Value.int i t from ry)
  subst e
  obtain ⟨ox, od, J, _⟩ := insC_at I ha
  obtain ⟨m, hF⟩ := I.fr
  exact PySem.W.ksp_binT (T := "int") hF I.ok.mod.kin J rfl hc h.at_ h.fn hrf hp h1 h2 hsub (run_own (us := [.ref a, .int i t]) (vs := [.ref a, .int i]) F hr hx I (.cons rfl (.cons ⟨t, rfl⟩ .nil)) q)
/-- x == y: x of the class at C; y an instance of a class that is not below C -/
def rEqO (X : Cx) (C : Addr) (sp : Sp) (E : XK) : R2 := fun x y H Q => ∃ a b C', x = .ref a ∧ y = .ref b ∧ InsC X H a C ∧ InsC X H b C' ∧ PySem.W.notFirst X.K C (.ref C') = true ∧ sp [.ref a, .ref b] H Q E
theorem op_eqO {op : CmpOp} (hop : ∀ a b, compareOp op a b = richCompare op a b) (h : Has X.K C g (cmpInfo op).2.1) (F : FnR X.prog X.w X.K X.mg X.base CX n g sp)
    (hr : Room n X.A) (hx : Passes CX X E) : OpR X (compareOp op) (rEqO X C sp E) := by
  intro pins s σ H x y v u Q I rx ry hq
  obtain ⟨a, b, C', rfl, rfl, ha, hb, hn, q⟩ := hq
  cases (show v = Value.ref a from rx)
  cases (show u = Value.ref b from ry)
  obtain ⟨ox, od, J, _⟩ := insC_at I ha
  obtain ⟨ox', od', J', _⟩ := insC_at I hb
  obtain ⟨m, hF⟩ := I.fr
  rw [hop]
  exact PySem.W.cmp_K (op := op) (tb := .ref C') hr.units0 hF I.ok.mod.kin J J'.type hn h.at_ h.fn (run_own (us := [.ref a, .ref b]) (vs := [.ref a, .ref b]) F hr hx I (.cons rfl (.cons rfl .nil)) q)
/-- x != y, both of the class at C, which has an own == -/
def rNeO (X : Cx) (C : Addr) (sp : Sp) (E : XK) : R2 := fun x y H Q => ∃ a b, x = .ref a ∧ y = .ref b ∧ InsC X H a C ∧ InsC X H b C ∧ sp [.ref a, .ref b] H (fun v H' => ∃ c, v = .bl c ∧ Q (.bl (!c)) H') E
theorem op_neO (h : Has X.K C g "__eq__") (hne : PySem.W.findIn X.K (.ref C) "__ne__" = some (some (.builtin "object.__ne__"))) (hm : PySem.W.mroIn X.K C (.type "object") = some true) (F : FnR X.prog X.w X.K X.mg X.base CX n g sp)
    (hr : Room (n + 1) X.A) (hx : Passes CX X E) : OpR X (compareOp .NotEq) (rNeO X C sp E) := fun pins s σ H x y v u Q I rx ry ⟨a, b, ex, ey, ha, hb, q⟩ => by
  subst ex ey
  cases (show v = Value.ref a from rx)
  cases (show u = Value.ref b from ry)
  obtain ⟨ox, od, J, _⟩ := insC_at I ha
  obtain ⟨ox', od', J', _⟩ := insC_at I hb
  refine ne_same hr.units0 hr.in1.units0 I.kIn J J' hne hm h.at_ h.fn (wpAny_mono (wpAny_call (SlX.run_at (us := [.ref a, .ref b]) (ws := [.ref a, .ref b]) F hr.in1 I.env0.in1 hx I (.cons rfl (.cons rfl .nil)) q)) (fun r s' back => ?_) fun _ _ z => z)
  obtain ⟨_, H', I', rr, c, ec, qc⟩ := back
  subst ec
  cases (show r = Value.bool c from rr)
  exact ⟨c, rfl, .bl (!c), H', I', rfl, qc⟩
end
end OpX
/-! operators of own classes: an int on the left, +=, in, len, truth, [] -/
namespace OpX
open PySem PySem.Spec PyProof.Rows L2 StX
section
variable {prog : Program} {w : World} {A : Around} {E : Value → Shared → Prop} {s : Shared} {K : PySem.W.Frag} {x C f L : Addr} {h₀ : Heap} {m : Str → Option Value} {ox : Obj} {od : Option Obj} {b tb : Value}
open Builtin in
/-- an int does not know an instance -/
theorem intMul_ref {Q : Value → Shared → Prop} {i : Int} {t : Tok} (ho : s.heap.get? x = some ox) (hd : ox.data = .plain) (h : Q .notImplemented s) : wpAny (model prog w) A (call (.builtin "int.__mul__") [.int i t, .ref x]) Q E s := by
  refine wpAny_call (codeAny_call_builtin PySem.F.slot_int_mul.plain PySem.F.entry_int_mul (PySem.F.slot_int_mul.check _ _ _ _ _ _ _ _ (typeIs_int _ _ _) (PySem.F.args_int_mul_2 _ _) ?_))
  unfold Builtin.«int.__mul__»
  unfold Int.intBinary
  refine wpAny_bind (m := slotArgs "__mul__" 1 _) (wpAny_pure ?_)
  refine wpAny_bind (m := Int.intOfSelf _) (wpAny_bind (m := asInt? _) (wpAny_pure (wpAny_pure ?_)))
  refine wpAny_bind (m := asInt? (.ref x)) (wpAny_bind (wpAny_load ho ?_))
  rw [hd]
  exact wpAny_pure (wpAny_bind (wpAny_rule (wpAny_pure h)))
/-- i * x, x of a class with * on both sides: an int declines, the class's reflected one is asked -/
theorem bin1_rint {i : Int} {t : Tok} {g : Addr} {Q : Value → Shared → Prop} (X : K.In s.heap) (I : PySem.W.InstAt s.heap x ox C od) (hd : ox.data = .plain) (hc : PySem.W.selfFirst K C = true) (hm : PySem.W.findIn K (.ref C) (PySem.dunder "mul") = some (some (.ref g)))
    (hs : PySem.W.findIn K (.ref C) (dunderR "mul") = some (some (.ref f))) (hf : PySem.W.isFn K (.ref f) = true) (hsub : PySem.W.subIn K (.ref C) (.type "int") = some false)
    (h : wpAny (model prog w) A (call (.ref f) [.ref x, .int i t]) (PySem.W.CmpBack Q) E s) : wpAny (model prog w) A (binaryOp1 "mul" (.int i t) (.ref x)) (Told Q) E s := by
  obtain ⟨cd, rest, hcd, hmm⟩ := PySem.W.ksp_first hc
  have mine := PySem.W.fills_K (M := model prog w) X hcd hmm hm
  have apart := PySem.W.looks_subIn (M := model prog w) X hsub
  have plainInt : numberSlotInPython (.type "int") "mul" = pure false := rfl
  have unlike : (Value.type "int" == Value.ref C) = false := by simp
  have answer := PySem.W.ksp_try (name := dunderR "mul") X I hs hf h
  unfold binaryOp1
  refine wpAny_bind (wpAny_typeOf (typeIs_int _ _ _) (wpAny_bind (I.type.here (wpAny_bind (wpAny_of_eq PySem.F.fills_int_mul ?_)))))
  simp only [unlike, Bool.false_eq_true, if_false]
  refine wpAny_bind (mine.here ?_)
  simp only [Bool.and_self, if_true]
  refine wpAny_bind (apart.here ?_)
  simp only [plainInt, Bool.not_false, Bool.and_self, Bool.false_eq_true, if_true, if_false, pure_bind]
  refine wpAny_bind (wpAny_tryMethod_declines (typeIs_int _ _ _) PySem.F.slot_int_mul (intMul_ref I.at_ hd ⟨rfl, ?_⟩))
  simp only [pure_bind]
  exact wpAny_bind (wpAny_mono answer (fun r s' ⟨v, e, q⟩ => by
    subst e
    exact wpAny_bind (wpAny_rule (wpAny_pure ⟨v, rfl, q⟩))) fun _ _ z => z)
/-- x op y, both of one class with an own op -/
theorem bin1_same {nm : String} {y : Addr} {oy : Obj} {od' : Option Obj} {Q : Value → Shared → Prop} (X : K.In s.heap) (I : PySem.W.InstAt s.heap x ox C od) (J : PySem.W.InstAt s.heap y oy C od') (hc : PySem.W.selfFirst K C = true)
    (hs : PySem.W.findIn K (.ref C) (PySem.dunder nm) = some (some (.ref f))) (hf : PySem.W.isFn K (.ref f) = true) (h : wpAny (model prog w) A (call (.ref f) [.ref x, .ref y]) (PySem.W.CmpBack Q) E s) :
    wpAny (model prog w) A (binaryOp1 nm (.ref x) (.ref y)) (Told Q) E s := by
  obtain ⟨cd, rest, hcd, hmm⟩ := PySem.W.ksp_first hc
  have answer := PySem.W.ksp_try (name := PySem.dunder nm) X I hs hf h
  have alike : (Value.ref C == Value.ref C) = true := by simp
  unfold binaryOp1
  refine wpAny_bind (I.type.here (wpAny_bind (J.type.here (wpAny_bind ((PySem.W.fills_K (M := model prog w) X hcd hmm hs).here ?_)))))
  simp only [alike, pure_bind, Bool.and_false, Bool.false_and, Bool.false_eq_true, if_true, if_false]
  exact wpAny_bind (wpAny_mono answer (fun r s' ⟨v, e, q⟩ => by
    subst e
    exact wpAny_pure ⟨v, rfl, q⟩) fun _ _ z => z)
theorem mul_of_bin1 {M : Model} {a b : Value} {Q : Value → Shared → Prop} (h : wpAny M A (binaryOp1 "mul" a b) (Told Q) E s) : wpAny M A (binaryOp .Mult a b) Q E s := by
  unfold binaryOp
  exact wpAny_holding (told_pure (t := binaryOp1 "mul" a b) h fun _ => rfl)
/-- a class of the text whose only base is object, without an own in-place operator -/
structure NoI (K : PySem.W.Frag) (C : Addr) (nm : String) : Prop where
  mro : (PySem.W.clsIn K C).any (fun cd => cd.mro == [.ref C, .type "object"]) = true
  own : PySem.W.findIn K (.ref C) (dunderI nm) = some none
  obj : PySem.W.findIn K (.type "object") (dunderI nm) = some none
theorem fillsI_no {M : Model} {h : Heap} {nm : String} {add : Bool} (X : K.In h) (N : NoI K C nm) : PySem.W.Looks M h (fillsInplaceSlot (.ref C) nm add) false := by
  intro A Q E s k q
  obtain ⟨cd, hc, hm⟩ := PySem.W.any_some N.mro
  have hm' : cd.mro = [.ref C, .type "object"] := beq_iff_eq.mp hm
  unfold fillsInplaceSlot
  refine wpAny_bind ((PySem.W.looks_clsIn X hc).andThen (f := fun cd => pure cd.mro) .now A _ E s k ?_)
  rw [hm', List.anyM_cons]
  refine wpAny_bind (wpAny_bind (PySem.W.looks_findIn X N.own A _ E s k (wpAny_pure ?_)))
  simp only [Bool.false_eq_true, if_false]
  rw [List.anyM_cons]
  refine wpAny_bind (wpAny_bind (PySem.W.looks_findIn X N.obj A _ E s k (wpAny_pure ?_)))
  simp only [Bool.false_eq_true, if_false]
  exact wpAny_pure q
theorem inp_of_bin1 {op : Operator} {b : Value} {Q : Value → Shared → Prop} (X : K.In s.heap) (I : PySem.W.InstAt s.heap x ox C od) (N : NoI K C op.info.2) (h : wpAny (model prog w) A (binaryOp1 op.info.2 (.ref x) b) (Told Q) E s) :
    wpAny (model prog w) A (inplaceOp op (.ref x) b) Q E s := by
  unfold inplaceOp
  refine wpAny_holding (wpAny_bind (I.type.here (wpAny_bind ((fillsI_no X N).here ?_))))
  rw [if_neg Bool.false_ne_true]
  exact told_pure h fun _ => rfl
end
section
variable {X : Cx} {CX : CXT} {n : Nat} {C g g' : Addr} {sp : Sp} {E : XK}
theorem op_rmul (hc : PySem.W.selfFirst X.K C = true) (hm : PySem.W.findIn X.K (.ref C) (PySem.dunder "mul") = some (some (.ref g'))) (h : Has X.K C g (dunderR "mul")) (hsub : PySem.W.subIn X.K (.ref C) (.type "int") = some false)
    (F : FnR X.prog X.w X.K X.mg X.base CX n g sp) (hr : Room n X.A) (hx : Passes CX X E) : OpR X (binaryOp .Mult) (rR X C sp E) := by
  intro pins s σ H x y v u Q I rx ry hq
  obtain ⟨a, i, rfl, rfl, ha, q⟩ := hq
  cases (show u = Value.ref a from ry)
  obtain ⟨t, e⟩ := (show ∃ t, v = Value.int i t from rx)
  subst e
  obtain ⟨ox, od, J, hd⟩ := insC_at I ha
  exact mul_of_bin1 (bin1_rint I.kIn J hd hc hm h.at_ h.fn hsub (run_own (us := [.ref a, .int i t]) (vs := [.ref a, .int i]) F hr hx I (.cons rfl (.cons ⟨t, rfl⟩ .nil)) q))
theorem op_inS {op : Operator} (hc : PySem.W.selfFirst X.K C = true) (N : NoI X.K C op.info.2) (h : Has X.K C g (PySem.dunder op.info.2)) (F : FnR X.prog X.w X.K X.mg X.base CX n g sp) (hr : Room n X.A) (hx : Passes CX X E) :
    OpR X (inplaceOp op) (rS X C sp E) := by
  intro pins s σ H x y v u Q I rx ry hq
  obtain ⟨a, b, rfl, rfl, ha, hb, q⟩ := hq
  cases (show v = Value.ref a from rx)
  cases (show u = Value.ref b from ry)
  obtain ⟨ox, od, J, _⟩ := insC_at I ha
  obtain ⟨ox', od', J', _⟩ := insC_at I hb
  exact inp_of_bin1 I.kIn J N (bin1_same I.kIn J J' hc h.at_ h.fn (run_own (us := [.ref a, .ref b]) (vs := [.ref a, .ref b]) F hr hx I (.cons rfl (.cons rfl .nil)) q))
end
end OpX
/-! own containers: len, truth by len, in, [..], for .. in over iter(a tuple); a tuple taken once -/
namespace OwC
open PySem PySem.Spec PyProof.Rows L2 StX OpX ItX
section
variable {prog : Program} {w : World} {A : Around} {E : Value → Shared → Prop} {s : Shared} {K : PySem.W.Frag} {x C f : Addr} {ox : Obj} {od : Option Obj}
open Builtin in
/-- a class without __bool__, with __len__: its objects' truth is that of their length -/
theorem truth_len {g : Value} {Q : Bool → Shared → Prop} (X : K.In s.heap) (I : PySem.W.InstAt s.heap x ox C od) (nb : PySem.W.findIn K (.ref C) "__bool__" = some none) (hl : PySem.W.findIn K (.ref C) "__len__" = some (some (.ref f))) (hf : PySem.W.isFn K (.ref f) = true)
    (h : wpAny (model prog w) A.in1 (call (.ref f) [.ref x]) (fun v s' => ∃ n t, v = .int n t ∧ 0 ≤ n ∧ n < 2 ^ 63 ∧ ∀ tk, Q (n != 0) { s' with toks := tk }) E s) : wpAny (model prog w) A (truthy (.ref x)) Q E s := by
  have asked : wpAny (model prog w) A (runValue (.builtin "len" ⟨[.ref x], []⟩)) (fun r s' => ∃ n t, r = .int n t ∧ Q (n != 0) s') E s := by
    refine wpAny_runValue (codeAny_builtin entry_len ?_)
    rw [Around.under_plainId plain_len _]
    unfold Builtin.«len»
    refine wpAny_bind (m := oneArg "len" _) (wpAny_pure (wpAny_bind (m := callSpecial? (.ref x) (Str.ofString "__len__")) (PySem.W.special_fn X I hl (beq_iff_eq.mp hf) (wpAny_mono h (fun r s' back => ?_) fun _ _ z => z))))
    obtain ⟨n, t, rfl, n0, n1, q⟩ := back
    refine wpAny_bind (wpAny_holding (wpAny_pure (wpAny_bind (wpAny_letGo ?_))))
    have low : ¬ n < 0 := Int.not_lt.mpr n0
    have high : ¬ n ≥ 2 ^ 63 := Int.not_le.mpr n1
    simp only [low, high, if_false]
    exact wpAny_bind (wpAny_mkInt (wpAny_pure ⟨n, _, rfl, q _⟩))
  unfold truthy
  refine wpAny_bind (m := callSpecial? (.ref x) (Str.ofString "__bool__")) (wpAny_bind (wpAny_bind (I.type.here ((PySem.W.looks_findIn X nb).here (wpAny_pure ?_)))))
  refine wpAny_bind (wpAny_bind (I.type.here ((PySem.W.looks_findIn X hl).here ?_)))
  rw [if_neg (show ¬ (some (Value.ref f)).isNone = true from Bool.false_ne_true)]
  refine wpAny_bind (wpAny_mono asked (fun r s' ⟨n, t, e, q⟩ => ?_) fun _ _ z => z)
  subst e
  exact wpAny_pure q
end
section
variable {X : Cx} {CX : CXT} {n : Nat} {C g : Addr} {sp : Sp} {E : XK}
/-- len(x), x of the class at C -/
def rLenO (X : Cx) (C : Addr) (sp : Sp) (E : XK) : List V → Hp → VK → Prop := fun xs H Q => ∃ a, xs = [.ref a] ∧ InsC X H a C ∧ sp [.ref a] H (fun v H' => ∃ i : Int, v = .int i ∧ 0 ≤ i ∧ i < 2 ^ 63 ∧ Q (.int i) H') E
theorem call_lenO (h : Has X.K C g "__len__") (F : FnR X.prog X.w X.K X.mg X.base CX n g sp) (hr : Room (n + 1) X.A) (hx : Passes CX X E) : CallR X (.builtin "len") (rLenO X C sp E) := by
  intro pins s σ H xs us Q I r hq
  obtain ⟨a, rfl, ha, q⟩ := hq
  obtain ⟨u, rfl, ru⟩ := vals1 r
  cases (show u = Value.ref a from ru)
  obtain ⟨ox, od, J, _⟩ := insC_at I ha
  obtain ⟨m, hF⟩ := I.fr
  refine PySem.W.len_K hF I.ok.mod.kin J h.at_ h.fn (wpAny_mono (wpAny_call (SlX.run_at (us := [.ref a]) (ws := [.ref a]) F hr.in1 I.env0.in1 hx I (.cons rfl .nil) q)) (fun v s' back => ?_) fun _ _ z => z)
  obtain ⟨v', H', I', rv, i, ei, h0, h1, qi⟩ := back
  subst ei
  obtain ⟨t, et⟩ := (show ∃ t, v = Value.int i t from rv)
  subst et
  exact ⟨⟨h0, h1⟩, .int i, H', I'.tok _, ⟨_, rfl⟩, qi⟩
/-- the truth of x, x of the class at C -/
def rTruO (X : Cx) (C : Addr) (sp : Sp) (E : XK) : V → Hp → (Bool → Hp → Prop) → Prop := fun x H Q => ∃ a, x = .ref a ∧ InsC X H a C ∧ sp [.ref a] H (fun v H' => ∃ i : Int, v = .int i ∧ 0 ≤ i ∧ i < 2 ^ 63 ∧ Q (i != 0) H') E
theorem tru_own (h : Has X.K C g "__len__") (nb : PySem.W.findIn X.K (.ref C) "__bool__" = some none) (F : FnR X.prog X.w X.K X.mg X.base CX n g sp) (hr : Room (n + 1) X.A) (hx : Passes CX X E) : TruR X (rTruO X C sp E) := by
  intro pins s σ H x v Q I rx hq
  obtain ⟨a, rfl, ha, q⟩ := hq
  cases (show v = Value.ref a from rx)
  obtain ⟨ox, od, J, _⟩ := insC_at I ha
  refine truth_len (g := .ref g) I.kIn J nb h.at_ h.fn (wpAny_mono (wpAny_call (SlX.run_at (us := [.ref a]) (ws := [.ref a]) F hr.in1 I.env0.in1 hx I (.cons rfl .nil) q)) (fun v s' back => ?_) fun _ _ z => z)
  obtain ⟨v', H', I', rv, i, ei, h0, h1, qi⟩ := back
  subst ei
  obtain ⟨t, et⟩ := (show ∃ t, v = Value.int i t from rv)
  exact ⟨i, t, et, h0, h1, fun tk => ⟨H', I'.tok tk, qi⟩⟩
/-- y in x, x of the class at C -/
def rInO (X : Cx) (C : Addr) (sp : Sp) (E : XK) : R2 := fun y x H Q => ∃ a, x = .ref a ∧ InsC X H a C ∧ sp [.ref a, y] H (fun v H' => ∃ b, v = .bl b ∧ Q (.bl b) H') E
theorem op_inO (h : Has X.K C g "__contains__") (F : FnR X.prog X.w X.K X.mg X.base CX n g sp) (hr : Room n X.A) (hx : Passes CX X E) : OpR X (compareOp .In) (rInO X C sp E) := by
  intro pins s σ H y x v u Q I ry rx hq
  obtain ⟨a, rfl, ha, q⟩ := hq
  cases (show u = Value.ref a from rx)
  obtain ⟨ox, od, J, _⟩ := insC_at I ha
  obtain ⟨m, hF⟩ := I.fr
  refine PySem.W.in_K hF I.ok.mod.kin J h.at_ h.fn (wpAny_mono (wpAny_call (run_fnR (us := [.ref a, v]) (vs := [.ref a, y]) F hr hx I (.cons rfl (.cons ry .nil)) q)) (fun r s' back => ?_) fun _ _ z => z)
  obtain ⟨r', H', I', rr, b, eb, qb⟩ := back
  subst eb
  cases (show r = Value.bool b from rr)
  exact wpAny_truthy_bool ⟨.bl b, H', I', rfl, qb⟩
/-- x[y], x of the class at C -/
def rIxO (X : Cx) (C : Addr) (sp : Sp) (E : XK) : R2 := fun x y H Q => ∃ a, x = .ref a ∧ InsC X H a C ∧ sp [.ref a, y] H Q E
theorem ix_own (h : Has X.K C g "__getitem__") (hf : PySem.W.fnIn X.K g = true) (F : FnR X.prog X.w X.K X.mg X.base CX n g sp) (hr : Room (n + 1) X.A) (hx : Passes CX X E) {value slice : Expr}
    (hsl : ∀ x i, subscripted slice true (.ref x) i = runValue (.builtin "lifetime.subscript" ⟨[.ref x, i], []⟩)) {pins : List (Addr × Obj)} {s : Shared} {σ : L2.St} {H : Hp} {x y : V} {v u : Value} {Q : VK} (I : Inv X pins σ H s) (rx : RelV x v) (ry : RelV y u)
    (hq : rIxO X C sp E x y H Q) : wpAny (model X.prog X.w) X.A (subscriptTail value slice v u) (EP X pins σ Q) X.xe s := by
  obtain ⟨a, rfl, ha, q⟩ := hq
  cases (show v = Value.ref a from rx)
  obtain ⟨ox, od, J, _⟩ := insC_at I ha
  obtain ⟨m, hF⟩ := I.fr
  exact PySem.W.sub_K hF I.ok.mod.kin J h.at_ hf h.fn (wpAny_call (SlX.run_at (us := [.ref a, u]) (ws := [.ref a, y]) F hr.in1 I.env0.in1 hx I (.cons rfl (.cons ry .nil)) q)) (hsl _ _)
theorem pe_ixO {a b : Expr} {ta tb : TE} {pos : Pos} (h : Has X.K C g "__getitem__") (hf : PySem.W.fnIn X.K g = true) (F : FnR X.prog X.w X.K X.mg X.base CX n g sp) (hr : Room (n + 1) X.A) (hx : Passes CX X E) (ha : PE X a ta) (hb : PE X b tb)
    (hsl : ∀ x i, subscripted b true (.ref x) i = runValue (.builtin "lifetime.subscript" ⟨[.ref x, i], []⟩) := by intro _ _; with_unfolding_all rfl) : PE X (.Subscript a b pos) (tOp (rIxO X C sp E) ta tb) := by
  refine ⟨fun pins s σ H Q I hq => ?_⟩
  exact Subscript_ (binT ha hb I hq fun v u s2 x y H2 I2 rx ry q => ix_own h hf F hr hx hsl I2 rx ry q)
end
/-! ### iter(a tuple), and walks over objects whose __iter__ gives one -/
abbrev tIt (t : Addr) : Obj := { cls := .type "tuple_iterator", data := .fields #[.ref t, .int 0 0] }
/-- the iterator of the tuple at t, as it begins, at it -/
def ItT (t it : Addr) : HO := .ext fun h => h.IsTupleIter it t 0
theorem itT_ok {P : Program} {w : World} {H : Hp} {h : Heap} {t it : Addr} (e : h.get? it = some (tIt t)) : ObjOk P w H h it (ItT t it) := ⟨⟨_, e, rfl, rfl⟩, ⟨_, e⟩, fun _ _ q k => q.at fun o z => k o z⟩
theorem iter_tup {prog : Program} {w : World} {A : Around} {E : Value → Shared → Prop} {s : Shared} {t : Addr} {items : Array Value} {Q : Value → Shared → Prop} (ht : s.heap.IsTuple t items) (h : Q (.ref s.heap.objs.size) { s with heap := s.heap.push (tIt t) }) :
    wpAny (model prog w) A (call (.builtin "iter") [.ref t]) Q E s :=
  Calls.call_function_entry (by decide +kernel) (by decide +kernel) PySem.W.kdk_entry_iter (PySem.W.kdk_args_iter (.ref t)) (by
    unfold Builtin.«iter»
    exact wpAny_bind (m := someArgs "iter" 1 2 _) (wpAny_of_eq (a := [Value.ref t]) (by first | rfl | kernel_rfl!) (wpAny_bind (m := pyIter (.ref t)) (wpAny_pyIter_tuple ht (wpAny_pure ⟨_, rfl, h⟩)))))
/-- something that H knows stands at n or above -/
def Old (n : Nat) (H : Hp) : Prop := ∃ b u, H b = some u ∧ n ≤ b
def rIterT (K : PySem.W.Frag) : List V → Hp → VK → Prop := fun xs H Q => ∃ t ys n, xs = [.ref t] ∧ SqT K H t ys ∧ Old n H ∧ ∀ it, H it = none → n ≤ it → Q (.ref it) (upd H it (ItT t it))
/-- tuple(a list), told with its age -/
def rTupA (K : PySem.W.Frag) (n : Nat) : List V → Hp → VK → Prop := fun xs H Q => ∃ l ys, xs = [.ref l] ∧ SqL K H l ys ∧ ∀ p, H p = none → n ≤ p → Q (.ref p) (upd H p (.tup ys))
section
variable {X : Cx} {CX : CXT} {n : Nat} {C g : Addr} {sp : Nat → Sp} {E : XK}
theorem call_iterT : CallR X (.builtin "iter") (rIterT X.K) := by
  intro pins s σ H xs us Q I r hq
  obtain ⟨t, ys, n, rfl, ht, ⟨b, u0, hb, nb⟩, q⟩ := hq
  obtain ⟨u, rfl, ru⟩ := vals1 r
  cases (show u = Value.ref t from ru)
  obtain ⟨its, rv, at_, _⟩ := I.tuple ht
  have far : n ≤ s.heap.objs.size := Nat.le_trans nb (Nat.le_of_lt (I.hok.lt hb))
  exact iter_tup (items := its.toArray) at_ ⟨.ref s.heap.objs.size, _, I.laid (t' := s.toks) (fun b u e => Heap.get?_push_of_some _ e) (Nat.le_refl _) (itT_ok (Heap.get?_push_size _ rfl)), rfl, q _ (I.hok.fresh (Nat.le_refl _)) far⟩
/-- tl gives an object of the class at C; its __iter__ hands back the iterator of a tuple at t, made anew -/
def iOwn (X : Cx) (C : Addr) (sp : Nat → Sp) (E : XK) (tl : TE) : TI := fun σ H R => tl σ H fun x H1 => ∃ a, x = .ref a ∧ InsC X H1 a C ∧
  sp X.s_0.heap.objs.size [.ref a] H1 (fun v H2 => ∃ it t, v = .ref it ∧ H2 it = some (ItT t it) ∧ X.s_0.heap.objs.size ≤ it ∧ R (Itt X.K t) (dropH H2 it)) E
theorem pi_own {tg l : Expr} {tl : TE} (h : Has X.K C g "__iter__") (F : ∀ m, FnR X.prog X.w X.K X.mg X.base CX n g (sp m)) (hr : Room n X.A) (hx : Passes CX X E) (hl : PE X l tl) : PI X tg l (iOwn X C sp E tl) := by
  refine ⟨fun pins s σ H R I hq => ?_⟩
  refine thn (hl.run pins s σ H _ I hq) fun v s1 ⟨x, H1, I1, r1, a, ex, ha, q⟩ => ?_
  subst ex
  cases (show v = Value.ref a from r1)
  obtain ⟨ox, od, J, _⟩ := insC_at I1 ha
  obtain ⟨m, hF⟩ := I1.fr
  refine PySem.W.owit_iter hF I1.ok.mod.kin J h.at_ h.fn (wpAny_mono (wpAny_call (run_fnR (us := [.ref a]) (vs := [.ref a]) (F _) hr hx I1 (.cons rfl .nil) q)) (fun u s2 back => ?_) fun _ _ z => z)
  obtain ⟨v2, H2, I2, r2, it, t, e2, hit, age, k⟩ := back
  subst e2
  cases (show u = Value.ref it from r2)
  have st : s2.heap.IsTupleIter it t 0 := (I2.hok it _ hit).1
  unfold PySem.W.OwitIt
  refine wpAny_specialOf (name := Str.ofString "__next__") st.typeIs PySem.F.slot_tuple_iterator_next.lookup ?_
  refine ⟨it, [it], _, _, dropH H2 it, rfl, inv_drop I2 hit, turn_tuple t it, st, fun b hb => ?_, k⟩
  obtain rfl := List.mem_singleton.mp hb
  exact inv_fp I2 hit age
theorem call_tupA : CallR X (.type "tuple") (rTupA X.K X.s_0.heap.objs.size) := fun pins s σ H xs us Q I r hq => by
  obtain ⟨l, ys, rfl, hl, q⟩ := hq
  obtain ⟨u, rfl, ru⟩ := vals1 r
  cases (show u = Value.ref l from ru)
  obtain ⟨its, rv, pl, hz⟩ := I.list hl
  exact call_tuple_list pl.isList (fun h' kp => by
    have J : Inv X pins σ H { s with heap := h' } := I.kept (t' := s.toks) kp
    exact ⟨.ref h'.objs.size, _, J.laid (t' := s.toks) (fun b o e => Heap.get?_push_of_some _ e) (Nat.le_refl _) (show ObjOk X.prog X.w _ _ _ (.tup ys) from ⟨hz, its, rv, IsTup.new _ _⟩), rfl, q _ (J.hok.fresh (Nat.le_refl _)) J.sz⟩) (by
    have len := rv.length
    rw [List.size_toArray]
    omega)
end
end OwC
/-! (x, y): the tuple stands at an address of this call's own -/
namespace OwC
open PySem PySem.Spec PyProof.Rows L2 StX
def tTupA (n : Nat) (t : TA) : TE := fun σ H Q => t σ H fun zs H1 => zs.length ≤ sizeLine ∧ ∀ p, H1 p = none → n ≤ p → Q (.ref p) (upd H1 p (.tup zs))
theorem pe_tupA {X : Cx} {es : List Expr} {t : TA} {k1} {pos : Pos} (all : PA X es t) : PE X (.Tuple es k1 pos) (tTupA X.s_0.heap.objs.size t) := by
  refine ⟨fun pins s0 σ H Q I0 h => ?_⟩
  refine wpAny_Tuple_spliced (thn (all.run pos pins s0 σ H _ I0 h) fun us s ⟨zs, G, J, rz, few, k⟩ => ⟨by rw [← rz.length]; exact few, ?_⟩)
  have J2 := J.laid (t' := s.toks) (fun b o e => Heap.get?_push_of_some _ e) (Nat.le_refl _) (show ObjOk X.prog X.w _ _ _ (.tup zs) from ⟨few, us, rz, IsTup.new _ _⟩)
  exact ⟨.ref s.heap.objs.size, _, J2, rfl, k _ (J.hok.fresh (Nat.le_refl _)) J.sz⟩
end OwC
/-! C.m(k = v) of a class method; x(e, ..), x a name of the def that holds a class -/
namespace ClK
open PySem PySem.Spec PyProof.Rows L2 ClX StX
section
variable {X : Cx} {CX : CXT} {k : Nat} {C p g f : Addr} {mc : Value} {fd : FuncData} {ps ks : List Str} {sp : Sp} {E : XK} {o e : Expr} {es : List Expr} {x m : Str} {pos apos p1 : Pos} {ta : TE} {tk t : TA} {pl : Sem Bool} {kws : List Keyword} {gg : List Value → List Value → List Value} {gV : List V → List V → List V} {i : Nat}
/-- C.m(k = v, ..), keywords alone, m a class method -/
theorem pe_cmethK (he : PE X o ta) (r : CRead X.K C mc) (c : CMet X.K C mc m p g) (F : FnOk X.prog X.w X.K X.mg X.base CX k g fd ps sp) (hr : Room k X.A) (hx : Passes CX X E) (hb : KBn X.K fd ps 1 ks gg gV) (hkw : PK X kws tk)
    (some_ : (backToKw pos (keywordEach kws X.env)).all (·.1.isSome) = true := by rfl) (names : (backToKw pos (keywordEach kws X.env)).filterMap (·.1) = ks := by rfl)
    (none_ : ((backTo pos (starEach [] X.env)).any (·.1) || (backToKw pos (keywordEach kws X.env)).any (·.1.isNone)) = false := by rfl)
    (form : eval (.Call (.Attribute o m apos) [] kws pos) X.env = (do let ov ← eval o X.env; standAt apos.atName; let (f, first) ← holding [ov] (getMethod ov m pl); callWith pos f first (backTo pos (starEach [] X.env)) (backToKw pos (keywordEach kws X.env))) := by rfl) :
    PE X (.Call (.Attribute o m apos) [] kws pos) (fun σ H Q => ta σ H fun x H1 => x = .ref C ∧ tk σ H1 fun zs H2 => zs.length = ks.length ∧ sp (gV [.ref C] zs) H2 Q E) := by
  refine ⟨fun pins s σ H Q I h => PySem.W.methodCall_KW (pl := pl) (thn (he.run pins s σ H _ I h) fun u s1 ⟨x, H1, I1, rx, ex, q⟩ => ?_) form⟩
  subst ex
  cases (show u = Value.ref C from rx)
  refine getmethcm_ok I1 r c fun s2 I2 => ?_
  refine PySem.W.callWith_of (P := PySem.W.MethP X.K s1.heap.objs.size g (.ref C)) none_ (PySem.W.keeps_M c.fi) (PyProof.Rows.evalArgs_kw2_nil some_ (thn (hkw.run pos _ s2 σ H1 _ I2 q) fun ws s3 ⟨zs, H2, I3, rz, l2, q2⟩ => ⟨⟨pin_at I3, I3.kIn⟩, ?_⟩))
  rw [names]
  have went : wpAny (model X.prog X.w) X.A (call (.ref s1.heap.objs.size) [] (ks.zip ws)) (EP X ((s1.heap.objs.size, PySem.W.methodObj (.ref g) (.ref C)) :: pins) σ Q) X.xe s3 := by
    refine wpAny_call (PySem.W.method_call (pin_at I3) (codeAny_mono (F.run X.A X.stack s3 H2 ⟨[.ref C], ks.zip ws⟩ (gg [.ref C] ws) (gV [.ref C] zs) Q E hr I3.env0 (hb.to s3 [.ref C] ws I3.kIn rfl (rz.length.symm.trans l2)) (hb.rel (.cons rfl .nil) rz) q2) fun r s' back => ?_))
    match r, back with
    | .error er, z => exact hx _ _ _ _ _ _ I3 z
    | .ok (.ret u), z => exact I3.after z
    | .ok .next, z => exact z.elim
    | .ok .brk, z => exact z.elim
    | .ok .cont, z => exact z.elim
  exact thn went fun _ _ y => unpinE y
/-- x(e, ..), x a name of the def (slot i) that holds the class at C -/
def tMakeL (i : Nat) (C : Addr) (sp : Sp) (E : XK) (t : TA) : TE := fun σ H Q => σ[i]? = some (some (.ref C)) ∧ tMakeR C sp E t σ H Q
theorem pe_makeL (M : Mk X.K C f) (F : FnR X.prog X.w X.K X.mg X.base CX k f sp) (hr : Room (k + 1) X.A) (hN : X.N[i]? = some x) (hv : Vis X.env.scope x) (hx : Passes CX X E) (ha : PA X (e :: es) t)
    (notDebug : (x == ("__debug__" : Str)) = false := by decide) (notDict : (x == ("__classdict__" : Str)) = false := by decide)
    (head : starEach (e :: es) X.env = (false, eval e X.env) :: starEach es X.env := by rfl) (plain : (backTo pos (starEach es X.env)).any (·.1) = false := by rfl) : PE X (.Call (.Name x p1) (e :: es) [] pos) (tMakeL i C sp E t) := by
  refine ⟨fun pins s σ H Q I ⟨hs, h⟩ => ?_⟩
  refine wpAny_Call_Name_kw (thn ((pe_var (pos := p1) (i := i) hN hv notDebug notDict).run pins s σ H (fun v H1 => v = .ref C ∧ H1 = H) I ⟨.ref C, hs, rfl, rfl⟩) fun u s1 ⟨v, H1, I1, r1, ev, eH⟩ => ?_)
  subst ev eH
  cases (show u = Value.ref C from r1)
  exact PySem.W.callWith_K (h₀ := X.base) I1.ok.mod.kin M.kp (thn (ha.run pos pins s1 σ _ _ I1 h) fun us s2 ⟨vs, H2, I2, r, q⟩ => ⟨I2.kIn, run_makeR M F hr hx I2 r q⟩) head plain
end
/-- nothing is let out where nothing is wished -/
theorem passN {P : Program} {w : World} {X : Cx} (hp : X.prog = P) (hw : X.w = w) : Passes (L2.CX P w) X E0 := fun _ _ _ _ _ _ _ ⟨_, _, _, _, _, _, _, _, _, _, _, _, z⟩ => z.elim
end ClK
/-! a tuple times any number from one on; x(*y), x a name of the def that holds a class; an own object beside a list -/
namespace RdX
open PySem PySem.Spec PyProof.Rows L2 StX OpX
/-- t * 1 is t itself -/
theorem once_mul (l : Addr) (items : Array Value) (n : Nat) (dd : Option Addr) (sl : Array (Option Value)) (u : Tok) : Meets (Builtin.«tuple.__mul__» ⟨[.ref l, .int 1 u], []⟩) (fun _ R s => s.heap.get? l = some { cls := .type "tuple", dict := dd, data := .seq items n, slots := sl } ∧ R (.ok (.ret (.ref l))) s) := Meets.of_wp fun prog w A R s hh => by
  rcases s with ⟨hp, gs, ds, tk, sys⟩
  rcases hh with ⟨at_, goal⟩
  have f1 := AutoSeq1.idx_int
  have c0 : (decide ((1 : Int) < -(2 ^ 63)) || decide ((1 : Int) ≥ 2 ^ 63)) = false := by decide
  have c1 : (items.isEmpty || (1 : Int) == 1) = true := by rw [show ((1 : Int) == 1) = true from rfl, Bool.or_true]
  wp_walk using wpAny_loadPart' at_
  repeat (first
    | (refine wpAny_ite_false (decide_eq_false (by rw [c0]; exact Bool.false_ne_true)) ?_; wp_walk using wpAny_loadPart' at_)
    | (refine wpAny_ite_true (decide_eq_true c1) ?_; wp_walk using wpAny_loadPart' at_))
  exact ⟨_, rfl, goal⟩
def rOnce (K : PySem.W.Frag) : R2 := fun x y H Q => ∃ l xs, x = .ref l ∧ y = .int 1 ∧ SqT K H l xs ∧ Q (.ref l) H
section
variable {X : Cx}
theorem op_once : OpR X (binaryOp .Mult) (rOnce X.K) := by
  intro pins s σ H x y v u Q I rx ry hq
  obtain ⟨l, xs, rfl, rfl, hT, q⟩ := hq
  cases (show v = Value.ref l from rx)
  obtain ⟨t, e⟩ := (show ∃ t, u = Value.int 1 t from ry)
  subst e
  obtain ⟨its, r, ⟨⟨cls, dd, data, sl⟩, ho, hc, n, hd⟩, hs⟩ := I.tuple hT
  simp only at hc hd
  subst hc hd
  have kind : s.TypeIs (.ref l) "tuple" := ⟨_, ho, rfl⟩
  exact wpAny_binaryOp_repeat_ref (T := "tuple") (U := "int") (by decide) kind (fun s' => typeIs_int s' 1 t) noFill_tuple_mul F.fills_int_mul F.slot_int_rmul repeat_tuple F.slot_int_index.lookup
    (call_meets F.slot_int_rmul (typeIs_int s 1 t) F.entry_int_rmul (F.args_int_rmul_2 _ _) (int_rmul_tuple 1 t l its.toArray n dd sl) ⟨ho, rfl, kind, call_meets F.slot_tuple_mul kind F.entry_tuple_mul (F.args_tuple_mul_2 _ _) (once_mul l its.toArray n dd sl t) ⟨ho, ⟨.ref l, H, I, rfl, q⟩⟩⟩)
end
section
variable {X : Cx} {CX : CXT} {k n i : Nat} {f C g : Addr} {sp : Sp} {E : XK} {x : Str} {e : Expr} {te : TE} {p q pos : Pos}
/-- C(*y), C a class of the module -/
def tMakeS (X : Cx) (C : Addr) (sp : Sp) (E : XK) (te : TE) : TE := fun σ H Q => te σ H fun y H1 => ∃ a xs, y = V.ref a ∧ (SqT X.K H1 a xs ∨ SqL X.K H1 a xs) ∧ ∀ x dx, H1 x = Option.none → H1 dx = Option.none → dx ≠ x →
  sp (V.ref x :: xs) (upd (upd H1 dx (.own x)) x (.ins C dx [])) (fun v H2 => v = .non ∧ Q (.ref x) H2) E
theorem pe_makeS1 (M : Mk X.K C f) (F : FnR X.prog X.w X.K X.mg X.base CX k f sp) (hr : Room (k + 1) X.A) (hg : Gl X x) (hm : X.mg x = some (.ref C)) (hx : Passes CX X E) (he : PE X e te) (hd : (x == ("__debug__" : Str)) = false := by decide)
    (hst : starEach [.Starred e q] X.env = [(true, eval e X.env)] := by rfl) : PE X (.Call (.Name x p) [.Starred e q] [] pos) (tMakeS X C sp E te) := by
  refine ⟨fun pins s σ H Q I h => wpAny_Call_Name_kw (ld_glob I hg hm (PySem.W.callWith_S (h₀ := X.base) I.ok.mod.kin M.kp (thn (he.run pins s σ H _ I h) fun v s1 z => ?_) hst) hd)⟩
  obtain ⟨y, H1, J, ry, a, xs, ey, hxs, q⟩ := z
  subst ey
  cases (show v = Value.ref a from ry)
  exact star_any J hxs fun us s2 J2 rv => ⟨J2.kIn, run_makeR M F hr hx J2 rv q⟩
/-- x(*y), x a name of the def (slot i) that holds the class at C -/
def tMakeLS (X : Cx) (i : Nat) (C : Addr) (sp : Sp) (E : XK) (te : TE) : TE := fun σ H Q => σ[i]? = some (some (.ref C)) ∧ tMakeS X C sp E te σ H Q
theorem pe_makeLS (M : Mk X.K C f) (F : FnR X.prog X.w X.K X.mg X.base CX k f sp) (hr : Room (k + 1) X.A) (hN : X.N[i]? = some x) (hv : Vis X.env.scope x) (hx : Passes CX X E) (he : PE X e te) (hd : (x == ("__debug__" : Str)) = false := by decide) (hcd : (x == ("__classdict__" : Str)) = false := by decide)
    (hst : starEach [.Starred e q] X.env = [(true, eval e X.env)] := by rfl) : PE X (.Call (.Name x p) [.Starred e q] [] pos) (tMakeLS X i C sp E te) := by
  refine ⟨fun pins s σ H Q I ⟨hs, h⟩ => wpAny_Call_Name_kw (thn ((pe_var (pos := p) (i := i) hN hv hd hcd).run pins s σ H (fun v H1 => v = .ref C ∧ H1 = H) I ⟨.ref C, hs, rfl, rfl⟩) fun u s1 z => ?_)⟩
  obtain ⟨v, H1, J, r1, ev, eH⟩ := z
  subst ev eH
  cases (show u = Value.ref C from r1)
  refine PySem.W.callWith_S (h₀ := X.base) J.ok.mod.kin M.kp (thn (he.run pins s1 σ _ _ J h) fun v s2 z => ?_) hst
  obtain ⟨y, H2, J2, ry, a, xs, ey, hxs, q⟩ := z
  subst ey
  cases (show v = Value.ref a from ry)
  exact star_any J2 hxs fun us s3 J3 rv => ⟨J3.kIn, run_makeR M F hr hx J3 rv q⟩
/-- x == y: x of the class at C, y a list -/
def rEqL (X : Cx) (C : Addr) (sp : Sp) (E : XK) : R2 := fun x y H Q => ∃ a b ys, x = .ref a ∧ y = .ref b ∧ InsC X H a C ∧ SqL X.K H b ys ∧ PySem.W.notFirst X.K C (.type "list") = true ∧ sp [.ref a, .ref b] H Q E
theorem op_eqL {op : CmpOp} (hop : ∀ a b, compareOp op a b = richCompare op a b) (h : Has X.K C g (cmpInfo op).2.1) (F : FnR X.prog X.w X.K X.mg X.base CX n g sp) (hr : Room n X.A) (hx : Passes CX X E) : OpR X (compareOp op) (rEqL X C sp E) := fun pins s σ H x y v u Q I rx ry hq => by
  obtain ⟨a, b, ys, rfl, rfl, ha, hb, hn, q⟩ := hq
  cases (show v = Value.ref a from rx)
  cases (show u = Value.ref b from ry)
  obtain ⟨ox, od, J, _⟩ := insC_at I ha
  obtain ⟨its, rv, pl, _⟩ := I.list hb
  obtain ⟨o, ho, hc, _⟩ := pl.isList
  obtain ⟨m, hF⟩ := I.fr
  have kind : PySem.W.Looks (model X.prog X.w) s.heap (typeOf (.ref b)) (.type "list") := fun _ _ _ _ k z => wpAny_typeOf_ref (k _ _ ho) (by rw [hc]; exact z)
  rw [hop]
  exact PySem.W.cmp_K (op := op) (tb := .type "list") hr.units0 hF I.ok.mod.kin J kind hn h.at_ h.fn (run_own (us := [.ref a, .ref b]) (vs := [.ref a, .ref b]) F hr hx I (.cons rfl (.cons rfl .nil)) q)
end
end RdX
/-! C(e, .., *y): a new instance; o.m(), m with a star parameter -/
namespace MkS
open PySem PySem.Spec PyProof.Rows L2 StX
section
variable {X : Cx} {CX : CXT} {k : Nat} {f C : Addr} {sp : Sp} {E : XK} {x m : Str} {e o : Expr} {es : List Expr} {t : TA} {ta : TE} {p pos apos : Pos} {pl : Sem Bool}
theorem pe_makeS (M : Mk X.K C f) (F : FnR X.prog X.w X.K X.mg X.base CX k f sp) (hr : Room (k + 1) X.A) (hg : Gl X x) (hm : X.mg x = some (.ref C)) (hx : Passes CX X E) (ha : PA X (e :: es) t) (notDebug : (x == ("__debug__" : Str)) = false := by decide)
    (head : starEach (e :: es) X.env = (false, eval e X.env) :: starEach es X.env := by rfl) (starred : (backTo pos (starEach es X.env)).any (·.1) = true := by rfl) : PE X (.Call (.Name x p) (e :: es) [] pos) (tMakeR C sp E t) :=
  ⟨fun pins s σ H Q I h => wpAny_Call_Name_kw (ld_glob I hg hm (PySem.W.callWith_S2 (h₀ := X.base) I.ok.mod.kin M.kp (thn (ha.run pos pins s σ H _ I h) fun us s1 z => by
    obtain ⟨vs, H1, J, r, q⟩ := z
    exact ⟨J.kIn, run_makeR M F hr hx J r q⟩) head starred) notDebug)⟩
theorem pe_methR0 {C f : Addr} (he : PE X o ta) (c : Cls X.K C) (hm : Meth X.K C m f) (F : FnR X.prog X.w X.K X.mg X.base CX k f sp) (hr : Room k X.A) (hx : Passes CX X E)
    (form : eval (.Call (.Attribute o m apos) [] [] pos) X.env = (do let ov ← eval o X.env; standAt apos.atName; let (f, first) ← holding [ov] (getMethod ov m pl); callWith pos f first (backTo pos (starEach [] X.env)) (backToKw pos (keywordEach [] X.env))) := by rfl) :
    PE X (.Call (.Attribute o m apos) [] [] pos) (tMethR C m sp E ta tNil) := by
  refine ⟨fun pins s σ H Q I h => PySem.W.methodCall_KW (pl := pl) (thn (he.run pins s σ H _ I h) fun u s1 ⟨y, H1, J, ry, a, dx, fs, ey, ea, l, q⟩ => ?_) form⟩
  subst ey
  cases (show u = Value.ref a from ry)
  exact getmeth_ok J ea c hm l (PySem.W.callWith_K0 (first := [.ref a]) J.kIn hm.kp (wpAny_call (run_fnR (us := [.ref a]) (vs := [.ref a]) F hr hx J (.cons rfl .nil) q)))
end
end MkS
/-! a def (self, *v, x = d): called with x by its name, and without -/
namespace StK
open PySem PySem.Spec PyProof.Rows L2 StX
abbrev SpK := List V → V → Hp → VK → XK → Prop
section
variable {CX : CXT} {P : Program} {w : World} {K : PySem.W.Frag} {mg : Str → Option Value} {base : Heap} {k : Nat} {f : Addr} {name qual : Str} {params : Arguments} {body : List Stmt} {scope : Scope} {dV doc pm cdv ct oc : Value} {D : Addr} {an od : Option Addr} {osl : Array (Option Value)} {N : List Str} {sp : Sp}
def FnRK (P : Program) (w : World) (K : PySem.W.Frag) (mg : Str → Option Value) (base : Heap) (CX : CXT) (k : Nat) (f : Addr) (x : Str) (sp : SpK) : Prop := ∀ (A : Around) (outer : List Env) (s : Shared) (H : Hp) (us : List Value) (u : Value) (vs : List V) (v : V) (Q : VK) (E : XK),
  Room k A → Env0 P w K mg base A outer s H → Vals vs us → RelV v u → sp vs v H Q E → codeAny (model P w) A (.call (.ref f) ⟨us, [(x, u)]⟩) (CR CX outer P w H s Q E) s
/-- what is asked: self, what stands behind it in a new tuple, the keyword's value -/
def starSp (sp : Sp) : SpK := fun vs v H Q E => ∃ a rest, vs = a :: rest ∧ rest.length ≤ sizeLine ∧ ∀ p, H p = Option.none → sp [a, v, V.ref p] (upd H p (.tup rest)) Q E
theorem tup_laid {A : Around} {outer : List Env} {s : Shared} {H : Hp} {rest : List V} {us : List Value} {E : XK} (e0 : Env0 P w K mg base A outer s H) (up : CXUp CX) (r : Vals rest us) (hz : rest.length ≤ sizeLine) :
    ∃ (s2 : Shared) (H2 : Hp), s2 = { s with heap := s.heap.push ({ cls := .type "tuple", data := .seq us.toArray } : Obj) } ∧ H2 = upd H s.heap.objs.size (.tup rest) ∧ Env0 P w K mg base A outer s2 H2 ∧ Un (frs outer) [] H H2 s.heap s2.heap ∧ s2.os = s.os ∧ (∀ e s', CX outer H2 s2 E e s' → CX outer H s E e s') ∧ H s.heap.objs.size = Option.none := by
  have hn : H s.heap.objs.size = Option.none := e0.hok.fresh (Nat.le_refl _)
  have new : ObjOk P w (upd H s.heap.objs.size (.tup rest)) (s.heap.push ({ cls := .type "tuple", data := .seq us.toArray } : Obj)) s.heap.objs.size (.tup rest) := ⟨hz, us, r, ⟨_, Heap.get?_push_size _ rfl, rfl, _, rfl⟩⟩
  have un := un_laid (fs := frs outer) (s := s) (o := ({ cls := .type "tuple", data := .seq us.toArray } : Obj)) (u := .tup rest) hn
  exact ⟨_, _, rfl, rfl, env0_laid e0 new, un, rfl, fun e s' => up outer s H _ _ E e s' un (fun b o q => Heap.get?_push_of_some _ q) rfl, hn⟩
theorem fn_starK {a0 x pv : Str} {kV : Value} (lk : K.lookup f = some ⟨oc, od, .func (PySem.W.fnOf name qual params body scope dV kV doc pm an cdv ct), osl⟩) (hcd : PySem.W.codeIn K cdv qual = true) (S : FnScope N [a0, x, pv] scope) (up : CXUp CX)
    (binds : ∀ (u0 : Value) (rest : List Value) (u : Value), bindArgs (PySem.W.fnOf name qual params body scope dV kV doc pm an cdv ct) ⟨u0 :: rest, [(x, u)]⟩ = (newTuple rest >>= fun t => pure [(a0, u0), (x, u), (pv, t)]))
    (runs : ∀ (A : Around) (outer : List Env) (s : Shared) (H : Hp) (vs : List V) (Q : VK) (E : XK), Room k (A.deeper (envOfC qual scope s.heap.objs.size f cdv)) → sp vs H Q E →
      ∃ t, PSs (cxOf CX P w K mg base N qual scope f cdv A outer s H E) body t ∧ t { nx := fun _ H' => Q .non H', rt := Q } (start N vs) H) : FnRK P w K mg base CX (k + 1) f x (starSp sp) := by
  intro A outer s H us u vs v Q E room e0 r ru told
  obtain ⟨a, rest, rfl, hz, hq⟩ := told
  cases r with
  | @cons _ u0 _ us r0 r =>
    obtain ⟨s2, H2, es, eH, e2, un, os, cx, hn⟩ := tup_laid (E := E) e0 up r hz
    refine run_bnd lk hcd S room e0 (G := fun xs H2 => ∃ p, H p = Option.none ∧ xs = [a, v, V.ref p] ∧ H2 = upd H p (.tup rest)) (fun A' Ex Q' h => ?_) ?_
    · rw [binds]
      refine wpAny_bind (wpAny_newTuple (wpAny_pure ?_) (by rw [← r.length]; exact hz))
      subst es eH
      exact h _ _ [a, v, V.ref s.heap.objs.size] [u0, u, Value.ref s.heap.objs.size] e2 un os cx (.cons r0 (.cons ru (.cons rfl .nil))) rfl ⟨_, hn, rfl, rfl⟩
    · rintro s3 H3 xs ⟨p, hp, rfl, rfl⟩ room'
      exact runs A outer s3 _ _ Q E room' (hq p hp)
theorem fn_starD {a0 x pv : Str} {d : V} {ud : Value} (lk : K.lookup f = some ⟨oc, od, .func (PySem.W.fnOf name qual params body scope dV (.ref D) doc pm an cdv ct), osl⟩) (hcd : PySem.W.codeIn K cdv qual = true) (S : FnScope N [a0, x, pv] scope) (up : CXUp CX)
    (def_ : PySem.W.nsIn K D x = some (some ud)) (rd : RelV d ud)
    (binds : ∀ (u0 : Value) (rest : List Value), ∃ (β γ : Type) (k1 : Option Value → Sem β) (k2 : β → Sem γ) (k3 : γ → Sem (List (Str × Value))) (b : β), bindArgs (PySem.W.fnOf name qual params body scope dV (.ref D) doc pm an cdv ct) ⟨u0 :: rest, []⟩ = ((nsGet D x >>= k1) >>= k2) >>= k3 ∧ k1 (some ud) = pure b ∧
      (k2 b >>= k3) = (newTuple rest >>= fun t => pure [(a0, u0), (x, ud), (pv, t)]))
    (runs : ∀ (A : Around) (outer : List Env) (s : Shared) (H : Hp) (vs : List V) (Q : VK) (E : XK), Room k (A.deeper (envOfC qual scope s.heap.objs.size f cdv)) → sp vs H Q E →
      ∃ t, PSs (cxOf CX P w K mg base N qual scope f cdv A outer s H E) body t ∧ t { nx := fun _ H' => Q .non H', rt := Q } (start N vs) H) : FnR P w K mg base CX (k + 1) f (fun vs H Q E => starSp sp vs d H Q E) := by
  intro A outer s H us vs Q E room e0 r told
  obtain ⟨a, rest, rfl, hz, hq⟩ := told
  cases r with
  | @cons _ u0 _ us r0 r =>
    obtain ⟨s2, H2, es, eH, e2, un, os, cx, hn⟩ := tup_laid (E := E) e0 up r hz
    have KX : K.In s.heap := e0.mod.kin.keeps fun b o e => (e0.bs b o e).1
    refine run_bnd lk hcd S room e0 (G := fun xs H2 => ∃ p, H p = Option.none ∧ xs = [a, d, V.ref p] ∧ H2 = upd H p (.tup rest)) (fun A' Ex Q' h => ?_) ?_
    · obtain ⟨β, γ, k1, k2, k3, b, e1, eb, e3⟩ := binds u0 us
      rw [e1, bind_assoc, bind_assoc]
      refine wpAny_bind ((PySem.W.looks_nsIn (M := model P w) KX def_).here ?_)
      rw [eb, pure_bind, e3]
      refine wpAny_bind (wpAny_newTuple (wpAny_pure ?_) (by rw [← r.length]; exact hz))
      subst es eH
      exact h _ _ [a, d, V.ref s.heap.objs.size] [u0, ud, Value.ref s.heap.objs.size] e2 un os cx (.cons r0 (.cons rd (.cons rfl .nil))) rfl ⟨_, hn, rfl, rfl⟩
    · rintro s3 H3 xs ⟨p, hp, rfl, rfl⟩ room'
      exact runs A outer s3 _ _ Q E room' (hq p hp)
end
/-- C(e, .., x = v) -/
def tMakeSK (C : Addr) (sp : SpK) (E : XK) (t tk : TA) : TE := fun σ H Q => t σ H fun vs H1 => tk σ H1 fun zs H2 => ∃ z, zs = [z] ∧ ∀ o dx, H2 o = Option.none → H2 dx = Option.none → dx ≠ o →
  sp (V.ref o :: vs) z (upd (upd H2 dx (.own o)) o (.ins C dx [])) (fun v H3 => v = .non ∧ Q (.ref o) H3) E
section
variable {X : Cx} {CX : CXT} {E : XK} {k : Nat} {C f : Addr} {n x : Str} {sp : SpK} {spr : Sp} {t tk : TA} {e : Expr} {es : List Expr} {kws : List Keyword} {p pos : Pos}
theorem run_makeSK {pins : List (Addr × Obj)} {σ : L2.St} {H : Hp} {s : Shared} {Q : VK} {us : List Value} {u : Value} {vs : List V} {z : V} (M : Mk X.K C f) (F : FnRK X.prog X.w X.K X.mg X.base CX k f x sp) (hr : Room (k + 1) X.A) (hx : Passes CX X E) (I : Inv X pins σ H s) (r : Vals vs us) (ru : RelV z u)
    (h : ∀ o dx, H o = Option.none → H dx = Option.none → dx ≠ o → sp (V.ref o :: vs) z (upd (upd H dx (.own o)) o (.ins C dx [])) (fun v H2 => v = .non ∧ Q (.ref o) H2) E) :
    wpAny (model X.prog X.w) X.A (call (.ref C) us [(x, u)]) (EP X pins σ Q) X.xe s := by
  have hq := h (s.heap.objs.size + 1) s.heap.objs.size (I.hok.fresh (Nat.le_succ _)) (I.hok.fresh (Nat.le_refl _)) (Nat.ne_of_lt (Nat.lt_succ_self _))
  have I2 := Inv.made (C := C) I
  have r2 : Vals (V.ref (s.heap.objs.size + 1) :: vs) (Value.ref (s.heap.objs.size + 1) :: us) := .cons rfl r
  have ran := F _ X.stack _ _ (Value.ref (s.heap.objs.size + 1) :: us) u _ z _ E (hr.make C us [(x, u)]) (I2.env0.make C us [(x, u)]) r2 ru hq
  refine wpAny_call (make_map (f := f) (kw := [(x, u)]) I.kIn M.makes M.init (beq_iff_eq.mp M.fn) (codeAny_mono ran fun r s' out => ?_))
  match r, out with
  | .error e, out => exact hx pins σ _ _ e s' I2 out
  | .ok (.ret v), out =>
    obtain ⟨v', H', I4, rv, ev, q3⟩ := I2.after out
    subst ev
    exact ⟨rv, ⟨V.ref (s.heap.objs.size + 1), H', I4, rfl, q3⟩⟩
  | .ok .next, out => exact out.elim
  | .ok .brk, out => exact out.elim
  | .ok .cont, out => exact out.elim
theorem pe_makeSK0 (M : Mk X.K C f) (F : FnRK X.prog X.w X.K X.mg X.base CX k f x sp) (hr : Room (k + 1) X.A) (hg : Gl X n) (hm : X.mg n = some (.ref C)) (hx : Passes CX X E) (hkw : PK X kws tk)
    (hall : (backToKw pos (keywordEach kws X.env)).all (·.1.isSome) = true := by rfl) (hks : (backToKw pos (keywordEach kws X.env)).filterMap (·.1) = [x] := by rfl) (hdb : (n == ("__debug__" : Str)) = false := by decide)
    (hpl : ((backTo pos (starEach [] X.env)).any (·.1) || (backToKw pos (keywordEach kws X.env)).any (·.1.isNone)) = false := by rfl) :
    PE X (.Call (.Name n p) [] kws pos) (tMakeSK C sp E tNil tk) := by
  refine ⟨fun pins s σ H Q I h => ?_⟩
  refine wpAny_Call_Name_kw (ld_glob I hg hm ?_ hdb)
  refine PySem.W.callWith_KW0 (h₀ := X.base) I.ok.mod.kin M.kp hall ?_ hpl
  refine thn (hkw.run pos pins s σ H _ I h) fun ws s2 ⟨zs, H2, I2, rz, z, ez, q2⟩ => ⟨I2.kIn, ?_⟩
  subst ez
  obtain ⟨u, eu, ru⟩ := vals1 rz
  subst eu
  rw [hks]
  exact run_makeSK (us := []) (vs := []) M F hr hx I2 .nil ru q2
theorem pe_makeSK (M : Mk X.K C f) (F : FnRK X.prog X.w X.K X.mg X.base CX k f x sp) (hr : Room (k + 1) X.A) (hg : Gl X n) (hm : X.mg n = some (.ref C)) (hx : Passes CX X E) (ha : PA X (e :: es) t) (hkw : PK X kws tk)
    (hall : (backToKw pos (keywordEach kws X.env)).all (·.1.isSome) = true := by rfl) (hks : (backToKw pos (keywordEach kws X.env)).filterMap (·.1) = [x] := by rfl) (hdb : (n == ("__debug__" : Str)) = false := by decide)
    (he : starEach (e :: es) X.env = (false, eval e X.env) :: starEach es X.env := by rfl) (hpl : ((backTo pos (starEach (e :: es) X.env)).any (·.1) || (backToKw pos (keywordEach kws X.env)).any (·.1.isNone)) = false := by rfl) :
    PE X (.Call (.Name n p) (e :: es) kws pos) (tMakeSK C sp E t tk) := by
  refine ⟨fun pins s σ H Q I h => ?_⟩
  refine wpAny_Call_Name_kw (ld_glob I hg hm ?_ hdb)
  refine PySem.W.callWith_KW (h₀ := X.base) I.ok.mod.kin M.kp hall (thn (ha.run pos pins s σ H _ I h) fun us s1 ⟨vs, H1, I1, r, q⟩ => ?_) hpl he
  refine thn (hkw.run pos pins s1 σ H1 _ I1 q) fun ws s2 ⟨zs, H2, I2, rz, z, ez, q2⟩ => ⟨I2.kIn, ?_⟩
  subst ez
  obtain ⟨u, eu, ru⟩ := vals1 rz
  subst eu
  rw [hks]
  exact run_makeSK M F hr hx I2 r ru q2
/-- C() -/
theorem pe_makeR0 (M : Mk X.K C f) (F : FnR X.prog X.w X.K X.mg X.base CX k f spr) (hr : Room (k + 1) X.A) (hg : Gl X n) (hm : X.mg n = some (.ref C)) (hx : Passes CX X E) (hdb : (n == ("__debug__" : Str)) = false := by decide) : PE X (.Call (.Name n p) [] [] pos) (tMakeR C spr E tNil) := by
  refine ⟨fun pins s σ H Q I h => ?_⟩
  refine wpAny_Call_Name_kw (ld_glob I hg hm ?_ hdb)
  exact PySem.W.callWith_K0 I.kIn M.kp (run_makeR (us := []) (vs := []) M F hr hx I .nil h)
end
end StK
/-! texts in order: one row only -/
namespace StO
open PySem PySem.Spec PyProof.Rows L2
def lt (a b : Str) : Prop := ltCps a.cps.toList b.cps.toList = true
theorem lt_iff {a b : Str} : lt a b ↔ a.cps.toList < b.cps.toList := by
  unfold lt
  rw [ltCps_eq, decide_eq_true_iff]
theorem str_ext {a b : Str} (h : a.cps.toList = b.cps.toList) : a = b := by
  cases a
  cases b
  simp only [Str.mk.injEq]
  exact Array.toList_inj.mp h
theorem lt_irr (a : Str) : ¬ lt a a := fun h => List.lt_irrefl _ (lt_iff.mp h)
theorem lt_tr {a b c : Str} (h : lt a b) (h' : lt b c) : lt a c := lt_iff.mpr (List.lt_trans (lt_iff.mp h) (lt_iff.mp h'))
theorem lt_of_ne {a b : Str} (h : ¬ lt b a) (n : a ≠ b) : lt a b := by
  rw [lt_iff] at h ⊢
  have le : a.cps.toList ≤ b.cps.toList := List.not_lt.mp h
  by_cases z : a.cps.toList < b.cps.toList
  · exact z
  · exact absurd (str_ext (List.le_antisymm le (List.not_lt.mp z))) n
/-- rising, each once -/
theorem chain : ∀ (p : Str) (l : List Str), risingS p l = true → (p :: l).Nodup → (p :: l).Pairwise lt
  | p, [], _, _ => List.pairwise_singleton ..
  | p, x :: r, h, d => by
    have h : (!ltCps x.cps.toList p.cps.toList && risingS x r) = true := h
    obtain ⟨h1, h2⟩ := Bool.and_eq_true_iff.mp h
    obtain ⟨d1, d2⟩ := List.nodup_cons.mp d
    have ih := chain x r h2 d2
    have px : lt p x := lt_of_ne (fun z => by
      have z : ltCps x.cps.toList p.cps.toList = true := z
      rw [z] at h1
      cases h1) fun z => d1 (z ▸ List.mem_cons_self)
    refine List.pairwise_cons.mpr ⟨fun y hy => ?_, ih⟩
    rcases List.mem_cons.mp hy with rfl | hy
    · exact px
    · exact lt_tr px ((List.pairwise_cons.mp ih).1 y hy)
theorem rows {l : List Str} (h : sortedS l = true) (d : l.Nodup) : l.Pairwise lt := by
  cases l with
  | nil => exact List.Pairwise.nil
  | cons x r => exact chain x r h d
theorem one : ∀ {l m : List Str}, l.Pairwise lt → m.Pairwise lt → (∀ z, z ∈ l ↔ z ∈ m) → l = m
  | [], [], _, _, _ => rfl
  | [], y :: m, _, _, h => absurd ((h y).mpr List.mem_cons_self) (by simp)
  | x :: l, [], _, _, h => absurd ((h x).mp List.mem_cons_self) (by simp)
  | x :: l, y :: m, hl, hm, h => by
    obtain ⟨a1, a2⟩ := List.pairwise_cons.mp hl
    obtain ⟨b1, b2⟩ := List.pairwise_cons.mp hm
    have e : x = y := by
      rcases List.mem_cons.mp ((h x).mp List.mem_cons_self) with z | z
      · exact z
      · rcases List.mem_cons.mp ((h y).mpr List.mem_cons_self) with u | u
        · exact u.symm
        · exact absurd (lt_tr (a1 y u) (b1 x z)) (lt_irr x)
    subst e
    refine congrArg (x :: ·) (one a2 b2 fun z => ?_)
    constructor
    · intro hz
      rcases List.mem_cons.mp ((h z).mp (List.mem_cons_of_mem _ hz)) with rfl | q
      · exact absurd (a1 z hz) (lt_irr z)
      · exact q
    · intro hz
      rcases List.mem_cons.mp ((h z).mpr (List.mem_cons_of_mem _ hz)) with rfl | q
      · exact absurd (b1 z hz) (lt_irr z)
      · exact q
end StO
/-! sorted of a tuple of pairs of texts -/
namespace SrtT
open PySem PyProof.Rows SrtO
/-- one text before another -/
def ltB (x y : Str) : Bool := decide (x.cps.toList < y.cps.toList)
theorem ltB_irr (x : Str) : ltB x x = false := decide_eq_false (List.lt_irrefl _)
theorem ltB_tr {x y z : Str} (h : ltB x y = true) (h' : ltB y z = true) : ltB x z = true := decide_eq_true (List.lt_trans (of_decide_eq_true h) (of_decide_eq_true h'))
theorem str_ext {a b : Str} (h : a.cps.toList = b.cps.toList) : a = b := by
  cases a
  cases b
  congr
  exact Array.toList_inj.mp h
theorem ltB_tot {x y : Str} (h : ltB x y = false) (n : x ≠ y) : ltB y x = true := by
  have h1 := of_decide_eq_false h
  refine decide_eq_true ?_
  rcases List.le_iff_lt_or_eq.mp (List.not_lt.mp h1) with z | z
  · exact z
  · exact absurd (str_ext z).symm n
/-- pairs, by their first, then by their second -/
def lexT (p q : Str × Str) : Bool := if p.1 = q.1 then ltB p.2 q.2 else ltB p.1 q.1
theorem lexT_irr (p : Str × Str) : lexT p p = false := by unfold lexT; rw [if_pos rfl]; exact ltB_irr _
theorem lexT_tr {p q r : Str × Str} (h : lexT p q = true) (h' : lexT q r = true) : lexT p r = true := by
  unfold lexT at *
  by_cases a : p.1 = q.1
  · rw [if_pos a] at h
    by_cases b : q.1 = r.1
    · rw [if_pos b] at h'
      rw [if_pos (a.trans b)]
      exact ltB_tr h h'
    · rw [if_neg b] at h'
      rw [if_neg (a ▸ b), a]
      exact h'
  · rw [if_neg a] at h
    by_cases b : q.1 = r.1
    · rw [if_pos b] at h'
      rw [if_neg (b ▸ a), ← b]
      exact h
    · rw [if_neg b] at h'
      have c := ltB_tr h h'
      rw [if_neg (fun z => by
        rw [z, ltB_irr] at c
        cases c)]
      exact c
theorem lexT_tot {p q : Str × Str} (h : lexT p q = false) (n : p ≠ q) : lexT q p = true := by
  unfold lexT at *
  by_cases a : p.1 = q.1
  · rw [if_pos a] at h
    rw [if_pos a.symm]
    exact ltB_tot h fun z => n (Prod.ext a z)
  · rw [if_neg a] at h
    rw [if_neg (fun z => a z.symm)]
    exact ltB_tot h a
theorem swo_lexT {α : Type} (k : α → Str × Str) : Swo fun v u => lexT (k v) (k u) := by
  refine ⟨fun x y h => ?_, fun x y z h1 h2 => ?_⟩
  · cases c : lexT (k y) (k x) with
    | false => rfl
    | true =>
      have := lexT_tr h c
      rw [lexT_irr] at this
      cases this
  · cases c : lexT (k z) (k x) with
    | false => rfl
    | true =>
      by_cases e : k y = k x
      · rw [e] at h2
        rw [c] at h2
        cases h2
      · have a := lexT_tot h1 e
        have b := lexT_tr c a
        rw [b] at h2
        cases h2
def IsPairT (h : Heap) (v : Value) (p : Str × Str) : Prop := ∃ a o t u n, v = .ref a ∧ h.get? a = some o ∧ o.cls = .type "tuple" ∧ o.data = .seq #[.str p.1 t, .str p.2 u] n
theorem IsPairT.keeps {h h' : Heap} {v : Value} {p : Str × Str} (q : IsPairT h v p) (k : ∀ b o, h.get? b = some o → o.cls = .type "tuple" → h'.get? b = some o) : IsPairT h' v p := by
  obtain ⟨a, o, t, u, n, e, ho, hc, hd⟩ := q
  exact ⟨a, o, t, u, n, e, k _ _ ho hc, hc, hd⟩
theorem firsts_of {h : Heap} {k : Value → Str × Str} : ∀ {vs : List Value}, (∀ v ∈ vs, IsPairT h v (k v)) → ∃ fs : List Value, PySem.W.KatTups h vs fs ∧ fs.length = vs.length ∧ ∀ f ∈ fs, ∃ x t, f = Value.str x t
  | [], _ => ⟨[], PySem.W.KatTups.nil, rfl, fun _ hm => by simp at hm⟩
  | v :: vs, hp => by
    obtain ⟨fs, h1, h2, h3⟩ := firsts_of (k := k) (vs := vs) fun v' hm => hp v' (List.mem_cons_of_mem _ hm)
    obtain ⟨a, o, t, u, n, e, ho, hc, hd⟩ := hp v (List.mem_cons_self ..)
    subst e
    refine ⟨.str _ t :: fs, PySem.W.KatTups.cons ho hc hd rfl h1, by rw [List.length_cons, List.length_cons, h2], fun f hm => ?_⟩
    rcases List.mem_cons.mp hm with rfl | hm
    · exact ⟨_, t, rfl⟩
    · exact h3 f hm
section
variable {prog : Program} {w : World} {A : Around} {E : Value → Shared → Prop} {s : Shared}
theorem pair_cmp {vs : List Value} {k : Value → Str × Str} (hp : ∀ v ∈ vs, IsPairT s.heap v (k v)) : Cmp prog w A s (tuples' true) (fun p => p.1 ∈ vs) (lt2 fun v u => lexT (k v) (k u)) := by
  intro p q hm hm'
  have h1 := hp _ hm
  have h2 := hp _ hm'
  show wpAny (model prog w) A (keyLt' (tuples' true) p.1 q.1) (fun r s' => s' = s ∧ r = lexT (k p.1) (k q.1)) (fun _ _ => False) s
  unfold lexT
  generalize k p.1 = P at h1 ⊢
  generalize k q.1 = P' at h2 ⊢
  obtain ⟨x, y⟩ := P
  obtain ⟨x', y'⟩ := P'
  obtain ⟨a, o, t, u, n, e, ho, hc, hd⟩ := h1
  obtain ⟨a', o', t', u', n', e', ho', hc', hd'⟩ := h2
  rw [e, e']
  refine PySem.W.kat_lt ho hd ho' hd' ?_
  show PySem.W.KatLex prog w A true (decide (2 < 2)) _ [(.str x t, .str x' t'), (.str y u, .str y' u')] 0 s
  refine PySem.W.kat_cons (SeqAt.EqAt.str_str x t x' t' prog w _ _ ?_)
  refine PySem.W.kat_go (fun e1 => ?_) (fun e1 => ?_)
  · have ex : x = x' := by simpa using e1
    refine PySem.W.kat_yes (PySem.W.kat_cons (SeqAt.EqAt.str_str y u y' u' prog w _ _ ?_))
    refine PySem.W.kat_go (fun e2 => ?_) (fun e2 => ?_)
    · have ey : y = y' := by simpa using e2
      have e3 : (if x = x' then ltB y y' else ltB x x') = false := by
        rw [if_pos ex, ey]
        exact ltB_irr _
      exact PySem.W.kat_yes (PySem.W.kat_nil ⟨rfl, e3.symm⟩)
    · have e3 : (if x = x' then ltB y y' else ltB x x') = ltB y y' := if_pos ex
      refine PySem.W.kat_no (PySem.W.kat_one _ _ (PyProof.Rows.lt_str ?_))
      exact (show s = s ∧ ltB y y' = (if x = x' then ltB y y' else ltB x x') from ⟨rfl, e3.symm⟩)
  · have ex : ¬ x = x' := by simpa using e1
    have e3 : (if x = x' then ltB y y' else ltB x x') = ltB x x' := if_neg ex
    exact PySem.W.kat_no (oneLt_str ⟨rfl, e3.symm⟩)
theorem pairs_sortable {a : Addr} {vs : List Value} {k : Value → Str × Str} (h0 : 0 < vs.length) (hp : ∀ v ∈ vs, IsPairT s.heap v (k v)) (ha : ∀ o, s.heap.get? a = some o → o.cls ≠ .type "tuple") : SortableO prog w A s a vs fun v u => lexT (k v) (k u) := by
  intro h' keep
  have hp' : ∀ v ∈ vs, IsPairT h' v (k v) := fun v hm => (hp v hm).keeps fun b o e c => keep b o (fun z => by subst z; exact ha o e c) e
  obtain ⟨fs, h1, h2, h3⟩ := firsts_of hp'
  refine ⟨tuples' true, fun Q E hq => ?_, pair_cmp hp'⟩
  refine PySem.W.kat_kind (T := .type "str") h1 (by omega) (fun f hm => ?_) (by rfl) ?_
  · obtain ⟨x, t, rfl⟩ := h3 f hm
    exact PySem.W.Looks.now
  · have e : (Value.type "str" != Value.type "tuple") = true := by first | decide +kernel | rfl | decide
    rw [e]
    exact hq
/-- what sorted collects of a tuple -/
theorem collect_tup {l : Addr} {vs : List Value} {Q : List Value → Shared → Prop} (hl : s.heap.IsTuple l vs.toArray)
    (h : Q vs { s with heap := (s.heap.push (seqObj "list" #[] 0)).update s.heap.objs.size (Obj.mapSeq (· ++ vs.toArray)) }) (hsz : vs.length ≤ sizeLine) :
    wpAny (model prog w) A (collect (.ref l)) Q E s := by
  obtain ⟨o, ho, hc, n, hd⟩ := id hl
  unfold collect
  refine wpAny_bind (wpAny_runValue (codeAny_builtin entry_proto_collect' ?_))
  show wpAny _ _ (do again (.builtin "list.__iadd__" ⟨[← newList [], .ref l], []⟩)) _ _ s
  refine wpAny_bind (wpAny_newList (wpAny_pure ⟨Code.quiet_builtin _ (by decide +kernel), codeAny_builtin entry_list_iadd' ?_⟩))
  show wpAny _ _ (Builtin.List.listExtendWith (.ref s.heap.objs.size) (.ref l) (.ref s.heap.objs.size)) _ _ { s with heap := s.heap.push (seqObj "list" #[] 0) }
  unfold Builtin.List.listExtendWith
  have ho' : (s.heap.push (seqObj "list" #[] 0)).get? l = some o := Heap.get?_push_of_some _ ho
  refine wpAny_bind (wpAny_typeOf (T := "tuple") ⟨o, ho', hc⟩ ?_)
  have ht : (Value.type "tuple" == Value.type "tuple") = true := by rfl
  rw [if_pos (by rw [ht]; simp)]
  refine wpAny_bind (listItems_at ho' hd ?_)
  refine wpAny_bind (listItems_at (xs := #[]) (n := 0) (Heap.get?_push_size _ rfl) rfl ?_)
  rw [if_neg (by simp)]
  refine wpAny_bind (listUpdate_at (xs := #[]) (n := 0) (Heap.get?_push_size _ rfl) rfl ?_ (Nat.zero_le _) (by show (#[] ++ vs.toArray).size ≤ sizeLine + 1; simp only [Array.size_append, List.size_toArray, List.length_nil]; omega))
  refine wpAny_pure ?_
  show wpAny (model prog w) A (do
      let o ← load s.heap.objs.size
      match o.data with
      | .seq xs _ => pure xs.toList
      | _ => unsupported "internal:collect") Q E { s with heap := (s.heap.push (seqObj "list" #[] 0)).update s.heap.objs.size (Obj.mapSeq (· ++ vs.toArray)) }
  refine wpAny_bind (wpAny_load (get?_update_seq (Heap.get?_push_size _ rfl) _) ?_)
  show wpAny _ _ (pure ((#[] : Array Value) ++ vs.toArray).toList) Q E _
  rw [show ((#[] : Array Value) ++ vs.toArray).toList = vs by simp]
  exact wpAny_pure h
theorem sorted_tup {l : Addr} {vs : List Value} {k : Value → Str × Str} {Q : Value → Shared → Prop} (hl : s.heap.IsTuple l vs.toArray) (hz : vs.length ≤ sizeLine) (hp : ∀ v ∈ vs, IsPairT s.heap v (k v))
    (h : ∀ (h' : Heap) (d : Addr) (out : List Value), Srtd (fun v u => lexT (k v) (k u)) out → Stb (fun v u => lexT (k v) (k u)) out vs → (∀ b o, s.heap.get? b = some o → h'.get? b = some o) → s.heap.objs.size ≤ d → (∃ n, h'.get? d = some (seqObj "list" out.toArray n)) → Q (.ref d) { s with heap := h' }) :
    wpAny (model prog w) A (call (.builtin "sorted") [.ref l]) Q E s := by
  refine Calls.call_function_entry kind_sorted plain_sorted entry_sorted (args_sorted1 _) ?_
  unfold Builtin.«sorted»
  refine wpAny_bind (m := checkCount "sorted" 1 1 _) (wpAny_pure ?_)
  refine wpAny_bind (collect_tup hl ?_ hz)
  refine wpAny_bind (wpAny_newList ?_ hz)
  have hsz : ((s.heap.push (seqObj "list" #[] 0)).update s.heap.objs.size (Obj.mapSeq (· ++ vs.toArray))).objs.size = s.heap.objs.size + 1 := by
    rw [Heap.size_update, size_push']
  have hoL : (((s.heap.push (seqObj "list" #[] 0)).update s.heap.objs.size (Obj.mapSeq (· ++ vs.toArray))).push (seqObj "list" vs.toArray 0)).get? (s.heap.objs.size + 1) = some (seqObj "list" vs.toArray 0) := by
    rw [← hsz]; exact Heap.get?_push_size _ rfl
  have keep : ∀ b o, s.heap.get? b = some o → b ≠ s.heap.objs.size + 1 ∧ (((s.heap.push (seqObj "list" #[] 0)).update s.heap.objs.size (Obj.mapSeq (· ++ vs.toArray))).push (seqObj "list" vs.toArray 0)).get? b = some o := fun b o q => by
    have hlt : b < s.heap.objs.size := Heap.lt_size q
    refine ⟨Nat.ne_of_lt (Nat.lt_succ_of_lt hlt), Heap.get?_push_of_some _ ?_⟩
    rw [Heap.get?_update_ne _ _ _ _ (Nat.ne_of_lt hlt)]
    exact Heap.get?_push_of_some _ q
  show wpAny _ _ _ _ _ { s with heap := ((s.heap.push (seqObj "list" #[] 0)).update s.heap.objs.size (Obj.mapSeq (· ++ vs.toArray))).push (seqObj "list" vs.toArray 0) }
  rw [hsz]
  refine wpAny_bind (wpAny_holding (wpAny_call_entry slot_list_sort ⟨_, hoL, rfl⟩ entry_list_sort (list_sort_ord (swo_lexT k) hoL hz (fun h2 => pairs_sortable (by omega) (fun v hm => (hp v hm).keeps fun b o e _ => (keep b o e).2) fun o e => ?_) fun out hs hb => ⟨_, rfl, ?_⟩) (args_list_sort _)))
  · have e' : some o = some (seqObj "list" vs.toArray 0) := e.symm.trans hoL
    cases e'
    intro c
    exact absurd (Value.type.inj c) (by decide)
  · exact wpAny_pure ⟨_, rfl, h _ _ out hs hb (fun b o e => sortedAll_old e) (Nat.le_succ _) (sortedAll_at s.heap vs out.toArray)⟩
end
end SrtT
namespace L2
open PySem PySem.Spec PyProof.Rows
abbrev ltT (k : V → Str × Str) (x y : V) : Bool := SrtT.lexT (k x) (k y)
/-- sorted(xs), xs a tuple of pairs of texts (k says which): a new list -/
def rSortedTT (K : PySem.W.Frag) : List V → Hp → VK → Prop := fun vs H Q => ∃ (a : Addr) (xs : List V) (k : V → Str × Str), vs = [V.ref a] ∧ SqT K H a xs ∧ (∀ x ∈ xs, ∃ t, x = V.ref t ∧ H t = some (.tup [.str (k x).1, .str (k x).2])) ∧
  ∀ ys p, SrtO.Srtd (ltT k) ys → ys.Perm xs → H p = none → Q (.ref p) (upd H p (.lst ys))
section
variable {X : Cx}
theorem cr_sortedTT : CallR X (.builtin "sorted") (rSortedTT X.K) := by
  intro pins s σ H vs us Q I r h
  obtain ⟨a, xs, k, rfl, hs, hx, q⟩ := h
  obtain ⟨its, rv, hl, hz⟩ := I.tuple hs
  obtain ⟨u, rfl, ru⟩ := vals1 r
  obtain rfl : u = Value.ref a := ru
  obtain ⟨e1, e2⟩ := refs_back rv fun x m => by
    obtain ⟨t, e, _⟩ := hx x m
    exact ⟨t, e⟩
  refine SrtT.sorted_tup (k := fun u => k (backV u)) hl (by rw [← rv.length]; exact hz) (fun v hv => ?_) fun h' d out h1 h2 kp hd hn => ?_
  · obtain ⟨t, rfl⟩ := e2 v hv
    have hm : V.ref t ∈ xs := by rw [e1]; exact List.mem_map.mpr ⟨_, hv, rfl⟩
    obtain ⟨t', e, ht⟩ := hx _ hm
    cases e
    obtain ⟨_, its2, r2, o, ho, hc, n, hd⟩ := I.hok _ _ ht
    obtain ⟨u1, u2, rfl, ri, rj⟩ := vals2 r2
    obtain ⟨t1, rfl⟩ := ri
    obtain ⟨t2, rfl⟩ := rj
    exact ⟨t, o, t1, t2, n, rfl, ho, hc, hd⟩
  · have h3 : ∀ u ∈ out, ∃ a, u = Value.ref a := fun u hu => e2 u (h2.perm.mem_iff.mp hu)
    obtain ⟨n, hn⟩ := hn
    have hb : (out.map backV).Perm xs := by
      rw [e1]
      exact h2.perm.map backV
    refine ⟨.ref d, upd H d (.lst (out.map backV)), I.laid (t' := s.toks) kp hd ⟨?_, out, n, vals_back h3, hn⟩, rfl, q _ d (SrtO.srtd_map h1) hb (I.hok.fresh hd)⟩
    rw [hb.length_eq]
    exact hz
end
end L2
/-! sorted of a tuple of tuples of whole numbers of any lengths: what comes is as it was, in some order -/
namespace SrtI
open PySem PyProof.Rows SrtO TS
section
variable {prog : Program} {w : World} {A : Around} {E : Value → Shared → Prop} {s : Shared}
theorem oneLt_i (c : Bool) {p q : Int} {t u : Tok} {Q : Bool → Shared → Prop} (h : Q (decide (p < q)) s) : wpAny (model prog w) A (oneLt' c (.int p t) (.int q u)) Q (fun _ _ => False) s := oneLt_ints c h
theorem lexI {b fin : Bool} {Q : Bool → Shared → Prop} {xs ys : List Value} {ns ms : List Int} (i : Nat) (hx : IntsAre xs ns) (hy : IntsAre ys ms) (hl : decide (ns.length < ms.length) = fin) (h : Q (HT.lexLt ns ms) s) : PySem.W.KatLex prog w A b fin Q (xs.zip ys) i s := by
  induction hx generalizing ys ms i with
  | nil =>
    cases hy with
    | nil => exact PySem.W.kat_nil (by rw [← hl]; exact h)
    | cons q u hy => exact PySem.W.kat_nil (by rw [← hl]; exact h)
  | @cons p t xs ns hx ih =>
    cases hy with
    | nil => exact PySem.W.kat_nil (by rw [← hl]; exact h)
    | @cons q u ys ms hy =>
      show PySem.W.KatLex prog w A b fin Q ((Value.int p t, Value.int q u) :: xs.zip ys) i s
      refine PySem.W.kat_cons (wpAny_eqBool_int ?_)
      rw [HT.lexLt_cons] at h
      have hl' : decide (ns.length < ms.length) = fin := by
        rw [← hl, List.length_cons, List.length_cons]
        exact decide_eq_decide.mpr ⟨fun z => by omega, fun z => by omega⟩
      by_cases e : p = q
      · subst e
        rw [if_pos rfl] at h
        rw [beq_self_eq_true]
        refine PySem.W.kat_yes ?_
        first
          | exact ih (i + 1) hy hl' h
          | exact ih _ (i + 1) hy hl' h
          | exact ih _ _ (i + 1) hy hl' h
      · rw [if_neg e] at h
        rw [show (p == q) = false from beq_eq_false_iff_ne.mpr e]
        exact PySem.W.kat_no (oneLt_i _ h)
theorem tup_cmp {vs : List Value} {k : Value → List Int} (hp : ∀ v ∈ vs, TupInts s.heap v (k v)) : SrtO.Cmp prog w A s (tuples' true) (fun p => p.1 ∈ vs) (lt2 fun v u => HT.lexLt (k v) (k u)) := by
  intro p q hm hm'
  have h1 := hp _ hm
  have h2 := hp _ hm'
  show wpAny (model prog w) A (keyLt' (tuples' true) p.1 q.1) (fun r s' => s' = s ∧ r = HT.lexLt (k p.1) (k q.1)) (fun _ _ => False) s
  generalize k p.1 = P at h1 ⊢
  generalize k q.1 = P' at h2 ⊢
  obtain ⟨a, xs, e1, ⟨o, ho, hc, n, hdt⟩, i⟩ := h1
  obtain ⟨a', ys, e2, ⟨o', ho', hc', n', hdt'⟩, i'⟩ := h2
  rw [e1, e2]
  refine PySem.W.kat_lt ho hdt ho' hdt' ?_
  refine lexI 0 i i' ?_ ⟨rfl, rfl⟩
  have l1 := i.length
  have l2 := i'.length
  rw [Array.length_toList] at l1 l2
  exact decide_eq_decide.mpr ⟨fun z => by omega, fun z => by omega⟩
theorem firsts_of {h : Heap} {k : Value → List Int} : ∀ vs : List Value, (∀ v ∈ vs, TupInts h v (k v) ∧ k v ≠ []) → ∃ fs, PySem.W.KatTups h vs fs ∧ fs.length = vs.length ∧ ∀ f, f ∈ fs → ∃ n t, f = Value.int n t
  | [], _ => ⟨[], PySem.W.KatTups.nil, rfl, fun f hf => by simp at hf⟩
  | v :: vs, x => by
    obtain ⟨fs, kt, hl, hi⟩ := firsts_of (k := k) vs fun u hu => x u (List.mem_cons_of_mem _ hu)
    obtain ⟨⟨a, xs, rfl, ⟨o, ho, hc, n, hdt⟩, i⟩, hn⟩ := x v (List.mem_cons_self ..)
    obtain ⟨y, ys, e⟩ : ∃ y ys, xs.toList = y :: ys := by
      cases q : xs.toList with
      | nil =>
        rw [q] at i
        have l := i.length
        exact absurd (List.eq_nil_of_length_eq_zero (by rw [List.length_nil] at l; omega)) hn
      | cons y ys => exact ⟨y, ys, rfl⟩
    obtain ⟨m, t, hy⟩ := i.all y (by rw [e]; exact List.mem_cons_self ..)
    refine ⟨y :: fs, PySem.W.KatTups.cons ho hc hdt ?_ kt, by simp [hl], ?_⟩
    · have z := congrArg (fun l : List Value => l[0]?) e
      simpa using z
    · intro f hf
      rcases List.mem_cons.mp hf with rfl | hf
      · exact ⟨m, t, hy⟩
      · exact hi f hf
theorem tups_sortable {a : Addr} {vs : List Value} {k : Value → List Int} (h0 : 0 < vs.length) (hp : ∀ v ∈ vs, TupInts s.heap v (k v) ∧ k v ≠ []) (ha : ∀ o, s.heap.get? a = some o → o.cls ≠ .type "tuple") : SortableO prog w A s a vs fun v u => HT.lexLt (k v) (k u) := by
  intro h' keep
  have hp' : ∀ v ∈ vs, TupInts h' v (k v) ∧ k v ≠ [] := fun v hm => ⟨(hp v hm).1.keeps fun b o e c => keep b o (fun z => by subst z; exact ha o e c) e, (hp v hm).2⟩
  obtain ⟨fs, h1, h2, h3⟩ := firsts_of vs hp'
  refine ⟨tuples' true, fun Q E hq => ?_, tup_cmp fun v hv => (hp' v hv).1⟩
  refine PySem.W.kat_kind (T := .type "int") h1 (by omega) (fun f hm => ?_) (by rfl) ?_
  · obtain ⟨x, t, rfl⟩ := h3 f hm
    exact PySem.W.Looks.of_pure rfl
  · have e : (Value.type "int" != Value.type "tuple") = true := by first | decide +kernel | rfl | decide
    rw [e]
    exact hq
theorem sorted_tup {l : Addr} {vs : List Value} {k : Value → List Int} {Q : Value → Shared → Prop} (hl : s.heap.IsTuple l vs.toArray) (hz : vs.length ≤ sizeLine) (hp : ∀ v ∈ vs, TupInts s.heap v (k v) ∧ k v ≠ [])
    (h : ∀ (h' : Heap) (d : Addr) (out : List Value), Srtd (fun v u => HT.lexLt (k v) (k u)) out → Stb (fun v u => HT.lexLt (k v) (k u)) out vs → (∀ b o, s.heap.get? b = some o → h'.get? b = some o) → s.heap.objs.size ≤ d → (∃ n, h'.get? d = some (seqObj "list" out.toArray n)) → Q (.ref d) { s with heap := h' }) :
    wpAny (model prog w) A (call (.builtin "sorted") [.ref l]) Q E s := by
  refine Calls.call_function_entry kind_sorted plain_sorted entry_sorted (args_sorted1 _) ?_
  unfold Builtin.«sorted»
  refine wpAny_bind (m := checkCount "sorted" 1 1 _) (wpAny_pure ?_)
  refine wpAny_bind (SrtT.collect_tup hl ?_ hz)
  refine wpAny_bind (wpAny_newList ?_ hz)
  have hsz : ((s.heap.push (seqObj "list" #[] 0)).update s.heap.objs.size (Obj.mapSeq (· ++ vs.toArray))).objs.size = s.heap.objs.size + 1 := by
    rw [Heap.size_update, size_push']
  have hoL : (((s.heap.push (seqObj "list" #[] 0)).update s.heap.objs.size (Obj.mapSeq (· ++ vs.toArray))).push (seqObj "list" vs.toArray 0)).get? (s.heap.objs.size + 1) = some (seqObj "list" vs.toArray 0) := by
    rw [← hsz]; exact Heap.get?_push_size _ rfl
  have keep : ∀ b o, s.heap.get? b = some o → b ≠ s.heap.objs.size + 1 ∧ (((s.heap.push (seqObj "list" #[] 0)).update s.heap.objs.size (Obj.mapSeq (· ++ vs.toArray))).push (seqObj "list" vs.toArray 0)).get? b = some o := fun b o q => by
    have hlt : b < s.heap.objs.size := Heap.lt_size q
    refine ⟨Nat.ne_of_lt (Nat.lt_succ_of_lt hlt), Heap.get?_push_of_some _ ?_⟩
    rw [Heap.get?_update_ne _ _ _ _ (Nat.ne_of_lt hlt)]
    exact Heap.get?_push_of_some _ q
  show wpAny _ _ _ _ _ { s with heap := ((s.heap.push (seqObj "list" #[] 0)).update s.heap.objs.size (Obj.mapSeq (· ++ vs.toArray))).push (seqObj "list" vs.toArray 0) }
  rw [hsz]
  refine wpAny_bind (wpAny_holding (wpAny_call_entry slot_list_sort ⟨_, hoL, rfl⟩ entry_list_sort (list_sort_ord (NtL.swo_lexL k) hoL hz (fun h2 => tups_sortable (by omega) (fun v hm => ⟨(hp v hm).1.keeps fun b o e _ => (keep b o e).2, (hp v hm).2⟩) fun o e => ?_) fun out hs hb => ⟨_, rfl, ?_⟩) (args_list_sort _)))
  · have e' : some o = some (seqObj "list" vs.toArray 0) := e.symm.trans hoL
    cases e'
    intro c
    exact absurd (Value.type.inj c) (by decide)
  · exact wpAny_pure ⟨_, rfl, h _ _ out hs hb (fun b o e => sortedAll_old e) (Nat.le_succ _) (sortedAll_at s.heap vs out.toArray)⟩
end
end SrtI
namespace L2
open PySem PySem.Spec PyProof.Rows
theorem intsT_of : ∀ {l : List Int} {us : List Value}, Vals (l.map V.int) us → IntsAre us l
  | [], _, r => by cases r; exact .nil
  | n :: l, _, r => by
    cases r with
    | @cons _ u _ us r0 r =>
      obtain ⟨t, rfl⟩ := (show ∃ t, u = Value.int n t from r0)
      exact .cons n t (intsT_of r)
/-- sorted(xs), xs a tuple of tuples of ints, none empty: a new list of the same -/
def rSortedTI (K : PySem.W.Frag) : List V → Hp → VK → Prop := fun vs H Q => ∃ (a : Addr) (xs : List V) (k : V → List Int), vs = [V.ref a] ∧ SqT K H a xs ∧ (∀ x ∈ xs, ∃ t, x = V.ref t ∧ H t = some (.tup ((k x).map V.int)) ∧ k x ≠ []) ∧
  ∀ ys p, SrtO.Srtd (fun x y => HT.lexLt (k x) (k y)) ys → ys.Perm xs → H p = none → Q (.ref p) (upd H p (.lst ys))
section
variable {X : Cx}
theorem cr_sortedTI : CallR X (.builtin "sorted") (rSortedTI X.K) := by
  intro pins s σ H vs us Q I r h
  obtain ⟨a, xs, k, rfl, hs, hx, q⟩ := h
  obtain ⟨its, rv, hl, hz⟩ := I.tuple hs
  obtain ⟨u, rfl, ru⟩ := vals1 r
  obtain rfl : u = Value.ref a := ru
  obtain ⟨e1, e2⟩ := refs_back rv fun x m => by
    obtain ⟨t, e, _⟩ := hx x m
    exact ⟨t, e⟩
  refine SrtI.sorted_tup (k := fun u => k (backV u)) hl (by rw [← rv.length]; exact hz) (fun v hv => ?_) fun h' d out h1 h2 kp hd hn => ?_
  · obtain ⟨t, rfl⟩ := e2 v hv
    have hm : V.ref t ∈ xs := by rw [e1]; exact List.mem_map.mpr ⟨_, hv, rfl⟩
    obtain ⟨t', e, ht, ne⟩ := hx _ hm
    cases e
    obtain ⟨_, its2, r2, at2⟩ := I.hok _ _ ht
    exact ⟨⟨t, its2.toArray, rfl, at2, intsT_of r2⟩, ne⟩
  · have h3 : ∀ u ∈ out, ∃ a, u = Value.ref a := fun u hu => e2 u (h2.perm.mem_iff.mp hu)
    obtain ⟨n, hn⟩ := hn
    have hb : (out.map backV).Perm xs := by
      rw [e1]
      exact h2.perm.map backV
    refine ⟨.ref d, upd H d (.lst (out.map backV)), I.laid (t' := s.toks) kp hd ⟨?_, out, n, vals_back h3, hn⟩, rfl, q _ d (SrtO.srtd_map h1) hb (I.hok.fresh hd)⟩
    rw [hb.length_eq]
    exact hz
end
end L2
/-! sequences that come round: periods, borders of a row, the least period, the normal form of a growth -/
namespace Gr
/-! ### periods of a sequence -/
def Pd {α : Type} (d : Nat → α) (q : Nat) : Prop := ∀ k, d (k + q) = d k
section
variable {α : Type} {d : Nat → α} {p q n : Nat}
theorem Pd.zero : Pd d 0 := fun _ => rfl
theorem Pd.mul (h : Pd d q) : ∀ j k, d (k + j * q) = d k
  | 0, k => by rw [Nat.zero_mul, Nat.add_zero]
  | j + 1, k => by rw [Nat.succ_mul, ← Nat.add_assoc, h, Pd.mul h j]
theorem Pd.mod (h : Pd d q) (k : Nat) : d (k % q) = d k := by
  have e := Nat.mod_add_div k q
  rw [Nat.mul_comm] at e
  have := Pd.mul h (k / q) (k % q)
  rw [e] at this
  exact this.symm
theorem Pd.sub (hp : Pd d p) (hq : Pd d q) (h : p ≤ q) : Pd d (q - p) := fun k => by
  have e : k + (q - p) + p = k + q := by omega
  rw [← hp (k + (q - p)), e, hq]
theorem Pd.rem (hp : Pd d p) (hq : Pd d q) : Pd d (q % p) := fun k => by
  have e : k + q % p + q / p * p = k + q := by
    have := Nat.mod_add_div q p
    rw [Nat.mul_comm] at this
    omega
  rw [← Pd.mul hp (q / p) (k + q % p), e, hq]
theorem Pd.gcd : ∀ (p q : Nat), Pd d p → Pd d q → Pd d (Nat.gcd p q) := by
  intro p
  induction p using Nat.strongRecOn with
  | ind p ih =>
    intro q hp hq
    rcases Nat.eq_zero_or_pos p with h | h
    · rw [h, Nat.gcd_zero_left]
      exact hq
    · rw [Nat.gcd_rec]
      exact ih (q % p) (Nat.mod_lt _ h) p (hp.rem hq) hp
/-- the least one -/
structure Least (d : Nat → α) (p : Nat) : Prop where
  pos : 0 < p
  pd : Pd d p
  le : ∀ q, 0 < q → Pd d q → p ≤ q
end
/-! ### rows -/
def at' (g : List Int) (i : Nat) : Int := g.getD i 0
/-- the row, again and again -/
def dif (g : List Int) (k : Nat) : Int := at' g (k % g.length)
/-- within the row what stands p further on is the same -/
def Per (g : List Int) (p : Nat) : Prop := ∀ i, i + p < g.length → at' g (i + p) = at' g i
section
variable {g : List Int} {p q : Nat}
theorem dif_pd : Pd (dif g) g.length := fun k => by unfold dif; rw [Nat.add_mod_right]
theorem dif_lt {k : Nat} (h : k < g.length) : dif g k = at' g k := by unfold dif; rw [Nat.mod_eq_of_lt h]
theorem Pd.per (h : Pd (dif g) p) : Per g p := fun i hi => by
  have := h i
  rwa [dif_lt hi, dif_lt (by omega)] at this
theorem Per.mul (h : Per g p) : ∀ j i, i + j * p < g.length → at' g (i + j * p) = at' g i
  | 0, i, _ => by rw [Nat.zero_mul, Nat.add_zero]
  | j + 1, i, hi => by
    rw [Nat.succ_mul, ← Nat.add_assoc] at hi ⊢
    rw [h _ hi, Per.mul h j i (by omega)]
theorem Per.pd (h : Per g p) (hp : 0 < p) (hd : p ∣ g.length) (hn : 0 < g.length) : Pd (dif g) p := fun k => by
  obtain ⟨c, hc⟩ := hd
  have hr : k % g.length < g.length := Nat.mod_lt _ hn
  unfold dif
  rw [Nat.add_mod]
  generalize k % g.length = r at hr
  have hpn : p ≤ g.length := by
    rcases c with _ | c
    · rw [Nat.mul_zero] at hc; omega
    · rw [hc]; exact Nat.le_mul_of_pos_right p (Nat.succ_pos c)
  rcases Nat.lt_or_ge p g.length with h1 | h1
  · rw [Nat.mod_eq_of_lt h1]
    rcases Nat.lt_or_ge (r + p) g.length with h2 | h2
    · rw [Nat.mod_eq_of_lt h2]
      exact h r h2
    · rw [Nat.mod_eq_sub_mod h2, Nat.mod_eq_of_lt (by omega)]
      rcases c with _ | c
      · rw [Nat.mul_zero] at hc; omega
      have e : r + p - g.length + c * p = r := by
        have : p * (c + 1) = c * p + p := by rw [Nat.mul_comm, Nat.succ_mul]
        omega
      have z := h.mul c (r + p - g.length) (by rw [e]; exact hr)
      rw [e] at z
      exact z.symm
  · have e : p = g.length := Nat.le_antisymm hpn h1
    rw [e, Nat.mod_self, Nat.add_zero, Nat.mod_eq_of_lt hr]
end
/-! ### borders: the longest one of each beginning -/
/-- w signs at the end of the first m are the first w -/
def Bd (g : List Int) (m w : Nat) : Prop := w < m ∧ ∀ i, i < w → at' g (m - w + i) = at' g i
structure Lb (g : List Int) (m w : Nat) : Prop where
  bd : Bd g m w
  top : ∀ v, Bd g m v → v ≤ w
section
variable {g : List Int} {m w v : Nat}
theorem bd_zero (h : 0 < m) : Bd g m 0 := ⟨h, fun i hi => absurd hi (Nat.not_lt_zero i)⟩
theorem lb_one : Lb g 1 0 := ⟨bd_zero Nat.one_pos, fun v h => by have := h.1; omega⟩
theorem bd_succ : Bd g (m + 1) (v + 1) ↔ Bd g m v ∧ at' g m = at' g v := by
  constructor
  · rintro ⟨h, a⟩
    have hv : v < m := by omega
    refine ⟨⟨hv, fun i hi => ?_⟩, ?_⟩
    · have := a i (by omega)
      rwa [show m + 1 - (v + 1) + i = m - v + i by omega] at this
    · have := a v (by omega)
      rwa [show m + 1 - (v + 1) + v = m by omega] at this
  · rintro ⟨⟨h, a⟩, e⟩
    refine ⟨by omega, fun i hi => ?_⟩
    rw [show m + 1 - (v + 1) + i = m - v + i by omega]
    rcases Nat.lt_or_ge i v with h1 | h1
    · exact a i h1
    · have : i = v := by omega
      subst this
      rw [show m - i + i = m by omega]
      exact e
/-- a border of a border, and the other way round -/
theorem bd_trans (h : Bd g m w) (h2 : Bd g w v) : Bd g m v := by
  refine ⟨Nat.lt_trans h2.1 h.1, fun i hi => ?_⟩
  have := h.2 (w - v + i) (by have := h2.1; omega)
  rw [show m - w + (w - v + i) = m - v + i by have := h.1; have := h2.1; omega] at this
  rw [this]
  exact h2.2 i hi
theorem bd_down (h : Bd g m w) (h2 : Bd g m v) (hv : v < w) : Bd g w v := by
  refine ⟨hv, fun i hi => ?_⟩
  have a := h.2 (w - v + i) (by omega)
  rw [show m - w + (w - v + i) = m - v + i by have := h.1; omega] at a
  rw [← a]
  exact h2.2 i hi
/-- what the search for the next border keeps: a border, and none that goes on is longer -/
def Srch (g : List Int) (m w : Nat) : Prop := Bd g m w ∧ ∀ v, Bd g m v → at' g m = at' g v → v ≤ w
theorem srch_start (h : Lb g m w) : Srch g m w := ⟨h.bd, fun v b _ => h.top v b⟩
theorem srch_step (h : Srch g m w) (hw : 0 < w) (hne : at' g m ≠ at' g w) {w' : Nat} (b : Lb g w w') : Srch g m w' ∧ w' < w :=
  ⟨⟨bd_trans h.1 b.bd, fun v hv e => by
    have h1 := h.2 v hv e
    have h2 : v ≠ w := fun z => hne (z ▸ e)
    exact b.top v (bd_down h.1 hv (by omega))⟩, b.bd.1⟩
theorem srch_yes (h : Srch g m w) (e : at' g m = at' g w) : Lb g (m + 1) (w + 1) := by
  refine ⟨bd_succ.mpr ⟨h.1, e⟩, fun v hv => ?_⟩
  rcases v with _ | v
  · exact Nat.zero_le _
  · obtain ⟨a, b⟩ := bd_succ.mp hv
    exact Nat.succ_le_succ (h.2 v a b)
theorem srch_no (h : Srch g m 0) (e : at' g m ≠ at' g 0) : Lb g (m + 1) 0 := by
  refine ⟨bd_zero (Nat.succ_pos m), fun v hv => ?_⟩
  rcases v with _ | v
  · exact Nat.le_refl _
  · obtain ⟨a, b⟩ := bd_succ.mp hv
    have : v = 0 := Nat.le_zero.mp (h.2 v a b)
    subst this
    exact absurd b e
end
/-! ### the least period of a row, by its longest border -/
section
variable {g : List Int} {b : Nat}
theorem Per.bd {p : Nat} (h : Per g p) (hp : 0 < p) (hn : p ≤ g.length) : Bd g g.length (g.length - p) := by
  refine ⟨by omega, fun i hi => ?_⟩
  have := h i (by omega)
  rw [show g.length - (g.length - p) + i = i + p by omega]
  exact this
theorem Bd.per (h : Bd g g.length b) : Per g (g.length - b) := fun i hi => by
  have := h.2 i (by have := h.1; omega)
  rwa [Nat.add_comm] at this
theorem least_of (hn : 0 < g.length) (h : Lb g g.length b) : Least (dif g) (if g.length % (g.length - b) = 0 then g.length - b else g.length) := by
  have hb := h.bd.1
  have hq : 0 < g.length - b := by omega
  have per := h.bd.per
  have top : ∀ p, 0 < p → p ≤ g.length → Per g p → g.length - b ≤ p := fun p hp hpn pp => by
    have := h.top _ (pp.bd hp hpn)
    omega
  -- each period of the endless row has a divisor of the length below it that is one too
  have down : ∀ q, 0 < q → Pd (dif g) q → ∃ c, 0 < c ∧ c ∣ g.length ∧ c ≤ q ∧ c ≤ g.length ∧ Pd (dif g) c := fun q hq0 hqd =>
    ⟨Nat.gcd q g.length, Nat.gcd_pos_of_pos_left _ hq0, Nat.gcd_dvd_right _ _, Nat.gcd_le_left _ hq0, Nat.gcd_le_right _ hn, Pd.gcd q g.length hqd dif_pd⟩
  by_cases e : g.length % (g.length - b) = 0
  · rw [if_pos e]
    refine ⟨hq, per.pd hq (Nat.dvd_of_mod_eq_zero e) hn, fun q hq0 hqd => ?_⟩
    obtain ⟨c, c0, _, cq, cn, cd⟩ := down q hq0 hqd
    exact Nat.le_trans (top c c0 cn cd.per) cq
  · rw [if_neg e]
    refine ⟨hn, dif_pd, fun q hq0 hqd => ?_⟩
    obtain ⟨c, c0, cv, cq, cn, cd⟩ := down q hq0 hqd
    rcases Nat.lt_or_ge c g.length with h1 | h1
    · exfalso
      have h2 : g.length - b ≤ c := top c c0 cn cd.per
      obtain ⟨z, hz⟩ := cv
      have h3 : c + c ≤ g.length := by
        rcases z with _ | _ | z
        · rw [Nat.mul_zero] at hz; omega
        · rw [Nat.mul_one] at hz; omega
        · rw [hz, show z + 1 + 1 = z + 2 from rfl, Nat.mul_add, Nat.mul_two]; omega
      have pd : Pd (dif g) (g.length - b) := fun k => by
        have r : k % c < c := Nat.mod_lt _ c0
        have a : dif g (k % c) = dif g k := cd.mod k
        have a2 : dif g (k + (g.length - b)) = dif g (k % c + (g.length - b)) := by
          have e1 := Nat.mod_add_div k c
          rw [Nat.mul_comm] at e1
          have := cd.mul (k / c) (k % c + (g.length - b))
          rw [show k % c + (g.length - b) + k / c * c = k + (g.length - b) by omega] at this
          exact this
        rw [a2, ← a, dif_lt (by omega), dif_lt (by omega)]
        exact per _ (by omega)
      have q2 := Pd.gcd (g.length - b) g.length pd dif_pd
      have g0 : 0 < Nat.gcd (g.length - b) g.length := Nat.gcd_pos_of_pos_left _ hq
      have l1 := top _ g0 (Nat.gcd_le_right _ hn) q2.per
      have l2 := Nat.gcd_le_left (g.length) hq
      have e2 : Nat.gcd (g.length - b) g.length = g.length - b := Nat.le_antisymm l2 l1
      exact e (Nat.mod_eq_zero_of_dvd (e2 ▸ Nat.gcd_dvd_right (g.length - b) g.length))
    · exact Nat.le_trans h1 cq
end
end Gr
namespace Gr
/-! ### sums of beginnings -/
def acc (d : Nat → Int) : Nat → Int
  | 0 => 0
  | n + 1 => acc d n + d n
theorem acc_add (d : Nat → Int) (m : Nat) : ∀ n, acc d (m + n) = acc d m + acc (fun k => d (m + k)) n
  | 0 => by rw [Nat.add_zero]; exact (Int.add_zero _).symm
  | n + 1 => by
    rw [← Nat.add_assoc]
    show acc d (m + n) + d (m + n) = acc d m + (acc _ n + d (m + n))
    rw [acc_add d m n, Int.add_assoc]
theorem acc_congr {d e : Nat → Int} : ∀ n, (∀ k, k < n → d k = e k) → acc d n = acc e n
  | 0, _ => rfl
  | n + 1, h => by
    show acc d n + d n = acc e n + e n
    rw [acc_congr n fun k hk => h k (by omega), h n (Nat.lt_succ_self n)]
theorem acc_mul {d : Nat → Int} {p : Nat} (h : Pd d p) : ∀ j r, acc d (j * p + r) = j * acc d p + acc d r
  | 0, r => by rw [Nat.zero_mul, Nat.zero_add]; show acc d r = ((0 : Nat) : Int) * _ + _; rw [Int.natCast_zero, Int.zero_mul, Int.zero_add]
  | j + 1, r => by
    rw [Nat.succ_mul, show j * p + p + r = p + (j * p + r) by omega, acc_add]
    rw [acc_congr (e := d) (j * p + r) fun k _ => by rw [Nat.add_comm p k]; exact h k]
    rw [acc_mul h j r]
    rw [show ((j + 1 : Nat) : Int) = (j : Int) + 1 from rfl, Int.add_mul, Int.one_mul]
    omega
/-! ### growths -/
/-- the last one of a row -/
def lst (t : List Int) : Int := at' t (t.length - 1)
/-- the value at a number, by told values and gains -/
def val (t g : List Int) (n : Nat) : Int := if n < t.length then at' t n else lst t + acc (dif g) (n - t.length + 1)
section
variable {t t' g g' : List Int} {n : Nat}
theorem val_lt (h : n < t.length) : val t g n = at' t n := if_pos h
/-- from the last told value on -/
theorem val_ge (h0 : 0 < t.length) (k : Nat) : val t g (t.length - 1 + k) = lst t + acc (dif g) k := by
  unfold val
  rcases Nat.eq_zero_or_pos k with h | h
  · subst h
    rw [if_pos (by omega)]
    show at' t (t.length - 1 + 0) = lst t + 0
    rw [Int.add_zero]
    rfl
  · rw [if_neg (by omega), show t.length - 1 + k - t.length + 1 = k by omega]
theorem val_step (h0 : 0 < t.length) (k : Nat) : val t g (t.length - 1 + k + 1) - val t g (t.length - 1 + k) = dif g k := by
  rw [Nat.add_assoc, val_ge h0, val_ge h0]
  show lst t + (acc (dif g) k + dif g k) - (lst t + acc (dif g) k) = dif g k
  omega
/-- the rounds taken at once -/
theorem val_far (h0 : 0 < t.length) (hn : t.length ≤ n) : val t g n = lst t + ((n - t.length + 1) / g.length : Nat) * acc (dif g) g.length + acc (dif g) ((n - t.length + 1) % g.length) := by
  unfold val
  rw [if_neg (by omega)]
  have e := Nat.mod_add_div (n - t.length + 1) g.length
  rw [Nat.mul_comm, Nat.add_comm] at e
  rw [← e, acc_mul dif_pd, e, Int.add_assoc]
/-- the normal form -/
structure NF (t g : List Int) : Prop where
  told : 0 < t.length
  gains : 0 < g.length
  least : Least (dif g) g.length
  few : t.length = 1 ∨ at' t (t.length - 1) - at' t (t.length - 2) ≠ lst g
/-- by how much the values rise -/
def rise (t g : List Int) (n : Nat) : Int := val t g (n + 1) - val t g n
theorem rise_ge (h0 : 0 < t.length) (h : t.length - 1 ≤ n) : rise t g n = dif g (n - (t.length - 1)) := by
  have := val_step (g := g) h0 (n - (t.length - 1))
  rwa [show t.length - 1 + (n - (t.length - 1)) = n by omega] at this
/-- the number of gains is the least number by which the rises come round at last -/
theorem least_end (h : NF t g) {q : Nat} (hq : 0 < q) {m : Nat} (hm : ∀ n, m ≤ n → rise t g (n + q) = rise t g n) : g.length ≤ q := by
  refine h.least.le q hq fun k => ?_
  have a := hm (t.length - 1 + (k + m * g.length)) (by have : m ≤ m * g.length := Nat.le_mul_of_pos_right m h.gains; omega)
  rw [rise_ge h.told (by omega), rise_ge h.told (by omega)] at a
  rw [show t.length - 1 + (k + m * g.length) + q - (t.length - 1) = k + q + m * g.length by omega, show t.length - 1 + (k + m * g.length) - (t.length - 1) = k + m * g.length by omega] at a
  rwa [dif_pd.mul, dif_pd.mul] at a
theorem end_pd (h : NF t g) (n : Nat) (hn : t.length - 1 ≤ n) : rise t g (n + g.length) = rise t g n := by
  rw [rise_ge h.told (by omega), rise_ge h.told hn, show n + g.length - (t.length - 1) = n - (t.length - 1) + g.length by omega]
  exact dif_pd _
theorem at_eq_of {a b : List Int} (hl : a.length = b.length) (h : ∀ i, i < a.length → at' a i = at' b i) : a = b := by
  refine List.ext_getElem? fun i => ?_
  rcases Nat.lt_or_ge i a.length with h1 | h1
  · have := h i h1
    unfold at' at this
    rw [List.getD_eq_getElem?_getD, List.getD_eq_getElem?_getD] at this
    rw [List.getElem?_eq_getElem h1, List.getElem?_eq_getElem (hl ▸ h1)] at this ⊢
    exact congrArg some this
  · rw [List.getElem?_eq_none h1, List.getElem?_eq_none (hl ▸ h1)]
theorem told_le (h : NF t g) (h' : NF t' g') (e : ∀ n, val t g n = val t' g' n) (eg : g.length = g'.length) : t'.length ≤ t.length := by
  rcases Nat.lt_or_ge t.length t'.length with hl | hl
  · exfalso
    have re : ∀ n, rise t g n = rise t' g' n := fun n => by unfold rise; rw [e, e]
    rcases h'.few with z | z
    · have := h.told; omega
    · apply z
      have t0 := h.told
      have a : rise t' g' (t'.length - 2) = at' t' (t'.length - 1) - at' t' (t'.length - 2) := by
        unfold rise
        rw [show t'.length - 2 + 1 = t'.length - 1 by omega, val_lt (by omega), val_lt (by omega)]
      have b : rise t' g' (t'.length - 2 + g.length) = lst g' := by
        have g0 := h.gains
        rw [rise_ge h'.told (by omega), show t'.length - 2 + g.length - (t'.length - 1) = g'.length - 1 by omega, dif_lt (by omega)]
        rfl
      rw [← a, ← b, ← re, ← re]
      exact (end_pd h _ (by omega)).symm
  · exact hl
/-- one normal form -/
theorem nf_one (h : NF t g) (h' : NF t' g') (e : ∀ n, val t g n = val t' g' n) : t = t' ∧ g = g' := by
  have re : ∀ n, rise t g n = rise t' g' n := fun n => by unfold rise; rw [e, e]
  have l1 : g.length ≤ g'.length := least_end h h'.gains (m := t'.length - 1) fun n hn => by rw [re, re]; exact end_pd h' n hn
  have l2 : g'.length ≤ g.length := least_end h' h.gains (m := t.length - 1) fun n hn => by rw [← re, ← re]; exact end_pd h n hn
  have eg : g.length = g'.length := Nat.le_antisymm l1 l2
  have et : t.length = t'.length := Nat.le_antisymm (told_le h' h (fun n => (e n).symm) eg.symm) (told_le h h' e eg)
  refine ⟨at_eq_of et fun i hi => ?_, at_eq_of eg fun i hi => ?_⟩
  · have := e i
    rwa [val_lt hi, val_lt (et ▸ hi)] at this
  · have a := rise_ge (g := g) h.told (n := t.length - 1 + i) (by omega)
    have b := rise_ge (g := g') h'.told (n := t.length - 1 + i) (by omega)
    rw [re, b, show t.length - 1 + i - (t.length - 1) = i by omega, show t.length - 1 + i - (t'.length - 1) = i by omega, dif_lt hi, dif_lt (eg ▸ hi)] at a
    exact a.symm
end
/-! ### told values that the gains give anyway -/
section
variable {t g : List Int} {s : Nat}
/-- the gain that would be i steps ahead of the first one -/
def back (g : List Int) (s : Nat) : Int := at' g (g.length - 1 - s % g.length)
/-- the last s told values are those that the gains give -/
def Spr (t g : List Int) (s : Nat) : Prop := s < t.length ∧ ∀ i, i < s → at' t (t.length - 1 - i) - at' t (t.length - 1 - i - 1) = back g i
theorem spr_zero (h : 0 < t.length) : Spr t g 0 := ⟨h, fun i hi => absurd hi (Nat.not_lt_zero i)⟩
theorem spr_step (h : Spr t g s) (hs : s < t.length - 1) (e : at' t (t.length - 1 - s) - at' t (t.length - 1 - s - 1) = back g s) : Spr t g (s + 1) :=
  ⟨by omega, fun i hi => by
    rcases Nat.lt_or_ge i s with z | z
    · exact h.2 i z
    · rw [show i = s by omega]
      exact e⟩
/-- told values and gains without the last s told values -/
def cutT (t : List Int) (s : Nat) : List Int := t.take (t.length - s)
def cutG (g : List Int) (s : Nat) : List Int := g.drop (g.length - s % g.length) ++ g.take (g.length - s % g.length)
theorem cutT_len (hs : s < t.length) : (cutT t s).length = t.length - s := by
  unfold cutT
  rw [List.length_take]
  omega
theorem cutG_len : (cutG g s).length = g.length := by
  unfold cutG
  rw [List.length_append, List.length_drop, List.length_take]
  omega
theorem at_take {l : List Int} {n i : Nat} (h : i < n) : at' (l.take n) i = at' l i := by
  unfold at'
  rw [List.getD_eq_getElem?_getD, List.getD_eq_getElem?_getD, List.getElem?_take_of_lt h]
theorem at_drop {l : List Int} {n i : Nat} : at' (l.drop n) i = at' l (n + i) := by
  unfold at'
  rw [List.getD_eq_getElem?_getD, List.getD_eq_getElem?_getD, List.getElem?_drop]
theorem at_app {a b : List Int} {i : Nat} : at' (a ++ b) i = if i < a.length then at' a i else at' b (i - a.length) := by
  unfold at'
  rw [List.getD_eq_getElem?_getD, List.getD_eq_getElem?_getD, List.getD_eq_getElem?_getD]
  by_cases h : i < a.length
  · rw [if_pos h, List.getElem?_append_left h]
  · rw [if_neg h, List.getElem?_append_right (by omega)]
/-- the gains turned: each one s places later -/
theorem dif_cut (hg : 0 < g.length) (k : Nat) : dif (cutG g s) (k + s) = dif g k := by
  have hr : s % g.length < g.length := Nat.mod_lt _ hg
  have hk : k % g.length < g.length := Nat.mod_lt _ hg
  unfold dif
  rw [cutG_len, Nat.add_mod]
  unfold cutG
  generalize s % g.length = r at hr ⊢
  generalize k % g.length = q at hk ⊢
  rw [at_app, List.length_drop, show g.length - (g.length - r) = r by omega]
  rcases Nat.lt_or_ge (q + r) g.length with h | h
  · rw [Nat.mod_eq_of_lt h, if_neg (by omega), at_take (by omega), show q + r - r = q by omega]
  · rw [Nat.mod_eq_sub_mod h, Nat.mod_eq_of_lt (by omega), if_pos (by omega), at_drop, show g.length - r + (q + r - g.length) = q by omega]
theorem dif_cut' (hg : 0 < g.length) {k : Nat} (h : s ≤ k) : dif (cutG g s) k = dif g (k - s) := by
  have := dif_cut (s := s) hg (k - s)
  rwa [show k - s + s = k by omega] at this
/-- the gain i places ahead of the first one, told of the turned ones -/
theorem back_cut (hg : 0 < g.length) {i : Nat} (hi : i < s) : dif (cutG g s) (s - 1 - i) = back g i := by
  have p := (dif_pd (g := cutG g s)).mul (i + 1) (s - 1 - i)
  rw [cutG_len] at p
  rw [← p, dif_cut' hg (by have : i + 1 ≤ (i + 1) * g.length := Nat.le_mul_of_pos_right _ hg; omega)]
  unfold dif back
  congr 1
  have hr : i % g.length < g.length := Nat.mod_lt _ hg
  have e := Nat.mod_add_div i g.length
  generalize i % g.length = r at hr e ⊢
  generalize i / g.length = c at e
  have e3 : (i + 1) * g.length = i * g.length + g.length := by rw [Nat.add_mul, Nat.one_mul]
  have e5 : c * g.length = g.length * c := Nat.mul_comm _ _
  have i0 : i ≤ i * g.length := Nat.le_mul_of_pos_right _ hg
  have cl : c ≤ i := by
    have := Nat.le_mul_of_pos_left c hg
    omega
  -- the number of whole rounds left
  have e4 : s - 1 - i + (i + 1) * g.length - s = g.length - 1 - r + (i - c) * g.length := by
    have : (i - c) * g.length = i * g.length - c * g.length := Nat.sub_mul _ _ _
    have le2 : c * g.length ≤ i * g.length := Nat.mul_le_mul_right _ cl
    omega
  rw [e4, Nat.add_mul_mod_self_right, Nat.mod_eq_of_lt (by omega)]
theorem back_zero (hg : 0 < g.length) : back g 0 = lst g := by
  unfold back lst
  rw [Nat.zero_mod, Nat.sub_zero]
/-- what stands s places ahead of the last told value, by the gains -/
theorem spr_told (h : Spr t g s) : ∀ i, i ≤ s → at' t (t.length - 1 - s + i) = lst (cutT t s) + acc (fun k => back g (s - 1 - k)) i
  | 0, _ => by
    have := h.1
    show _ = lst (cutT t s) + 0
    unfold lst
    rw [cutT_len h.1, Int.add_zero]
    unfold cutT
    rw [at_take (by omega), Nat.add_zero, show t.length - s - 1 = t.length - 1 - s by omega]
  | i + 1, hi => by
    have h1 := h.1
    have a := spr_told h i (by omega)
    have b := h.2 (s - 1 - i) (by omega)
    rw [show t.length - 1 - (s - 1 - i) = t.length - 1 - s + (i + 1) by omega, show t.length - 1 - s + (i + 1) - 1 = t.length - 1 - s + i by omega, a] at b
    show _ = lst (cutT t s) + (acc _ i + back g (s - 1 - i))
    omega
/-- the same values -/
theorem val_cut (hg : 0 < g.length) (h : Spr t g s) (n : Nat) : val (cutT t s) (cutG g s) n = val t g n := by
  have h1 := h.1
  have len := cutT_len (t := t) h1
  rcases Nat.lt_or_ge n (t.length - s) with a | a
  · rw [val_lt (by omega), val_lt (by omega)]
    unfold cutT
    rw [at_take a]
  · obtain ⟨k, rfl⟩ : ∃ k, n = t.length - s - 1 + k := ⟨n - (t.length - s - 1), by omega⟩
    have v := val_ge (g := cutG g s) (t := cutT t s) (by omega) k
    rw [len] at v
    rw [v]
    have b : ∀ i, i < s → dif (cutG g s) i = back g (s - 1 - i) := fun i hi => by
      have := back_cut (g := g) (s := s) hg (i := s - 1 - i) (by omega)
      rwa [show s - 1 - (s - 1 - i) = i by omega] at this
    rcases Nat.lt_or_ge k (s + 1) with c | c
    · rw [val_lt (by omega), show t.length - s - 1 + k = t.length - 1 - s + k by omega, spr_told h k (by omega), acc_congr k fun i hi => b i (by omega)]
    · obtain ⟨j, rfl⟩ : ∃ j, k = s + j := ⟨k - s, by omega⟩
      rw [acc_add, acc_congr s b, acc_congr (e := dif g) j fun i _ => by rw [Nat.add_comm s i]; exact dif_cut hg i]
      have l := spr_told h s (Nat.le_refl s)
      rw [show t.length - 1 - s + s = t.length - 1 by omega] at l
      rw [show t.length - s - 1 + (s + j) = t.length - 1 + j by omega, val_ge (by omega)]
      unfold lst at l ⊢
      rw [l]
      omega
theorem least_cut (hg : 0 < g.length) (h : Least (dif g) g.length) : Least (dif (cutG g s)) (cutG g s).length := by
  refine ⟨by rw [cutG_len]; exact hg, dif_pd, fun q hq hp => ?_⟩
  rw [cutG_len]
  refine h.le q hq fun k => ?_
  have := hp (k + s)
  rw [show k + s + q = k + q + s by omega, dif_cut hg, dif_cut hg] at this
  exact this
/-- the search of told values has come to its end: the normal form -/
theorem nf_cut (hg : 0 < g.length) (l : Least (dif g) g.length) (h : Spr t g s) (e : s = t.length - 1 ∨ at' t (t.length - 1 - s) - at' t (t.length - 1 - s - 1) ≠ back g s) : NF (cutT t s) (cutG g s) := by
  have h1 := h.1
  have len := cutT_len (t := t) h1
  refine ⟨by omega, by rw [cutG_len]; exact hg, least_cut hg l, ?_⟩
  rcases e with e | e
  · left
    omega
  · by_cases z : t.length - s = 1
    · left
      omega
    · right
      rw [len]
      unfold cutT
      rw [at_take (by omega), at_take (by omega), show t.length - s - 1 = t.length - 1 - s by omega, show t.length - s - 2 = t.length - 1 - s - 1 by omega]
      have q : lst (cutG g s) = back g s := by
        have a := back_cut (g := g) (s := s + 1) hg (i := s) (Nat.lt_succ_self s)
        have r : dif (cutG g (s + 1)) (s + 1 - 1 - s) = dif (cutG g s) (g.length - 1) := by
          rw [show s + 1 - 1 - s = 0 by omega]
          have p := (dif_pd (g := cutG g (s + 1))).mul (s + 1) 0
          rw [cutG_len] at p
          have m : s + 1 ≤ (s + 1) * g.length := Nat.le_mul_of_pos_right _ hg
          rw [← p, dif_cut' hg (by omega)]
          have p2 := (dif_pd (g := cutG g s)).mul s (g.length - 1)
          rw [cutG_len] at p2
          have m2 : s ≤ s * g.length := Nat.le_mul_of_pos_right _ hg
          have e3 : (s + 1) * g.length = s * g.length + g.length := by rw [Nat.add_mul, Nat.one_mul]
          rw [← p2, dif_cut' hg (by omega)]
          congr 1
          omega
        rw [r, dif_lt (by rw [cutG_len]; omega)] at a
        unfold lst
        rw [cutG_len]
        exact a
      rw [q]
      exact e
end
end Gr
namespace Gr
/-! ### told values and gains of a sequence that rises in rounds at last -/
section
variable {f : Nat → Int} {b l : Nat}
def pT (f : Nat → Int) (b : Nat) : List Int := (List.range b).map f
def pG (f : Nat → Int) (b l : Nat) : List Int := (List.range l).map fun k => f (b + k) - f (b + k - 1)
theorem pT_len : (pT f b).length = b := by unfold pT; rw [List.length_map, List.length_range]
theorem pG_len : (pG f b l).length = l := by unfold pG; rw [List.length_map, List.length_range]
theorem at_map_range {h : Nat → Int} {n i : Nat} (hi : i < n) : at' ((List.range n).map h) i = h i := by
  unfold at'
  rw [List.getD_eq_getElem?_getD, List.getElem?_map, List.getElem?_range hi]
  rfl
theorem val_parted (hb : 0 < b) (hl : 0 < l) (h : ∀ n, b - 1 ≤ n → f (n + l + 1) - f (n + l) = f (n + 1) - f n) (n : Nat) : val (pT f b) (pG f b l) n = f n := by
  have lt := pT_len (f := f) (b := b)
  have lg := pG_len (f := f) (b := b) (l := l)
  rcases Nat.lt_or_ge n b with a | a
  · rw [val_lt (by omega)]
    exact at_map_range a
  · obtain ⟨k, rfl⟩ : ∃ k, n = b - 1 + k := ⟨n - (b - 1), by omega⟩
    have v := val_ge (t := pT f b) (g := pG f b l) (by omega) k
    rw [lt] at v
    rw [v]
    have d : ∀ i, dif (pG f b l) i = f (b - 1 + i + 1) - f (b - 1 + i) := fun i => by
      unfold dif
      rw [lg]
      have hi : i % l < l := Nat.mod_lt _ hl
      have e : at' (pG f b l) (i % l) = f (b + i % l) - f (b + i % l - 1) := at_map_range hi
      rw [e, show b + i % l = b - 1 + i % l + 1 by omega, Nat.add_sub_cancel]
      have p : Pd (fun i => f (b - 1 + i + 1) - f (b - 1 + i)) l := fun i => by
        have := h (b - 1 + i) (by omega)
        rw [show b - 1 + i + l = b - 1 + (i + l) by omega] at this
        exact this
      exact p.mod i
    have la : lst (pT f b) = f (b - 1) := by
      unfold lst
      rw [lt]
      exact at_map_range (by omega)
    rw [la]
    clear v
    induction k with
    | zero => show f (b - 1) + 0 = f (b - 1 + 0); rw [Int.add_zero, Nat.add_zero]
    | succ k ih =>
      show f (b - 1) + (acc _ k + dif (pG f b l) k) = f (b - 1 + (k + 1))
      have ih' : f (b - 1) + acc (dif (pG f b l)) k = f (b - 1 + k) := by
        rcases Nat.lt_or_ge (b - 1 + k) b with c | c
        · have : k = 0 := by omega
          subst this
          show f (b - 1) + 0 = f (b - 1 + 0)
          rw [Int.add_zero, Nat.add_zero]
        · exact ih c
      rw [d k, ← Int.add_assoc, ih', ← Nat.add_assoc]
      omega
end
/-! ### sums -/
section
variable {t g t' g' : List Int}
/-- rises of a growth come round behind its told values, by each number of which its gains are a divisor -/
theorem rise_pd (h0 : 0 < t.length) {l n : Nat} (hd : g.length ∣ l) (hn : t.length - 1 ≤ n) : val t g (n + l + 1) - val t g (n + l) = val t g (n + 1) - val t g n := by
  have a := rise_ge (g := g) h0 (n := n + l) (by omega)
  have b := rise_ge (g := g) h0 hn
  unfold rise at a b
  rw [a, b, show n + l - (t.length - 1) = n - (t.length - 1) + l by omega]
  obtain ⟨c, rfl⟩ := hd
  rw [Nat.mul_comm]
  exact dif_pd.mul c _
theorem val_sum (h0 : 0 < t.length) (h0' : 0 < t'.length) {b l : Nat} (hb : t.length ≤ b) (hb' : t'.length ≤ b) (hl : 0 < l) (hd : g.length ∣ l) (hd' : g'.length ∣ l) (n : Nat) :
    val (pT (fun n => val t g n + val t' g' n) b) (pG (fun n => val t g n + val t' g' n) b l) n = val t g n + val t' g' n := by
  refine val_parted (by omega) hl (fun n hn => ?_) n
  have a := rise_pd (g := g) h0 (l := l) (n := n) hd (by omega)
  have c := rise_pd (g := g') h0' (l := l) (n := n) hd' (by omega)
  omega
/-! ### each value so many times -/
def sc (k : Int) (l : List Int) : List Int := l.map fun x => k * x
theorem sc_len {k : Int} {l : List Int} : (sc k l).length = l.length := List.length_map _
theorem sc_at {k : Int} {l : List Int} {i : Nat} : at' (sc k l) i = k * at' l i := by
  unfold at' sc
  rw [List.getD_eq_getElem?_getD, List.getD_eq_getElem?_getD, List.getElem?_map]
  cases l[i]? with
  | none => show (0 : Int) = k * 0; rw [Int.mul_zero]
  | some x => rfl
theorem acc_sc {k : Int} {d : Nat → Int} : ∀ n, acc (fun i => k * d i) n = k * acc d n
  | 0 => (Int.mul_zero k).symm
  | n + 1 => by
    show acc _ n + k * d n = k * (acc d n + d n)
    rw [acc_sc n, Int.mul_add]
theorem val_sc {k : Int} {n : Nat} : val (sc k t) (sc k g) n = k * val t g n := by
  have d : dif (sc k g) = fun i => k * dif g i := funext fun i => by unfold dif; rw [sc_len, sc_at]
  unfold val
  rw [sc_len]
  by_cases h : n < t.length
  · rw [if_pos h, if_pos h, sc_at]
  · rw [if_neg h, if_neg h, d, acc_sc, Int.mul_add]
    unfold lst
    rw [sc_len, sc_at]
/-! ### begun later -/
/-- the gains turned the other way -/
def rot (g : List Int) (r : Nat) : List Int := g.drop r ++ g.take r
theorem rot_len {r : Nat} (h : r ≤ g.length) : (rot g r).length = g.length := by
  unfold rot
  rw [List.length_append, List.length_drop, List.length_take]
  omega
theorem dif_rot {r : Nat} (h : r < g.length) (k : Nat) : dif (rot g r) k = dif g (k + r) := by
  unfold dif
  rw [rot_len (Nat.le_of_lt h), Nat.add_mod, Nat.mod_eq_of_lt h]
  have hk : k % g.length < g.length := Nat.mod_lt _ (by omega)
  generalize k % g.length = q at hk ⊢
  unfold rot
  rw [at_app, List.length_drop]
  rcases Nat.lt_or_ge (q + r) g.length with c | c
  · rw [Nat.mod_eq_of_lt c, if_pos (by omega), at_drop, Nat.add_comm]
  · rw [Nat.mod_eq_sub_mod c, Nat.mod_eq_of_lt (by omega), if_neg (by omega), at_take (by omega)]
    congr 1
    omega
/-- still within the told values -/
theorem val_shift1 {m : Nat} (hm : m < t.length) (n : Nat) : val (t.drop m) g n = val t g (n + m) := by
  have l : (t.drop m).length = t.length - m := List.length_drop
  rcases Nat.lt_or_ge n (t.length - m) with a | a
  · rw [val_lt (by omega), val_lt (by omega), at_drop, Nat.add_comm]
  · obtain ⟨k, rfl⟩ : ∃ k, n = t.length - m - 1 + k := ⟨n - (t.length - m - 1), by omega⟩
    have v := val_ge (t := t.drop m) (g := g) (by omega) k
    rw [l] at v
    rw [v, show t.length - m - 1 + k + m = t.length - 1 + k by omega, val_ge (by omega)]
    unfold lst
    rw [l, at_drop, show m + (t.length - m - 1) = t.length - 1 by omega]
/-- behind them -/
theorem val_shift2 {m : Nat} (h0 : 0 < t.length) (hg : 0 < g.length) (hm : t.length ≤ m) (n : Nat) : val [val t g m] (rot g ((m - t.length + 1) % g.length)) n = val t g (n + m) := by
  have hr : (m - t.length + 1) % g.length < g.length := Nat.mod_lt _ hg
  have v := val_ge (t := [val t g m]) (g := rot g ((m - t.length + 1) % g.length)) Nat.one_pos n
  rw [show [val t g m].length - 1 + n = n from Nat.zero_add n] at v
  rw [v, show n + m = t.length - 1 + (m - t.length + 1 + n) by omega, val_ge h0, acc_add]
  have e : lst [val t g m] = lst t + acc (dif g) (m - t.length + 1) := by
    show val t g m = _
    have := val_ge (g := g) h0 (m - t.length + 1)
    rwa [show t.length - 1 + (m - t.length + 1) = m by omega] at this
  rw [e, Int.add_assoc]
  congr 2
  refine acc_congr n fun k _ => ?_
  rw [dif_rot hr]
  have p := (dif_pd (g := g)).mul ((m - t.length + 1) / g.length) (k + (m - t.length + 1) % g.length)
  have q := Nat.mod_add_div (m - t.length + 1) g.length
  rw [Nat.mul_comm] at q
  rw [← p]
  congr 1
  omega
end
end Gr
namespace K17
open PySem L2 Evl
def top (i : Nat) : Stmt := PySem.Challenge.pw_layerpost_k17_plans_made_and_written.main.body.getD i (.Pass ⟨0, 0, 0, 0⟩)
abbrev sPen : Stmt := top 24
abbrev sDraw : Stmt := top 25
abbrev sPick : Stmt := top 26
/-! ### the pen: a list of the cells, the place, the rest -/
def PenAt (H : Hp) (p l : Addr) (cells : List Int) (m : Nat) : Prop :=
  ∃ (k : Nat) (r : Int), H p = some (.lst [.ref l, .int (k : Int), .int r]) ∧ H l = some (.lst (cells.map V.int)) ∧ k ≤ m
/-- all but p is as it was -/
def Keep (p : Addr) (H H' : Hp) : Prop := ∀ b o, H b = some o → b ≠ p → H' b = some o
theorem Keep.of_ex {p : Addr} {H H' : Hp} (e : Ex H H') : Keep p H H' := fun b o h _ => e b o h
theorem Keep.trans {p : Addr} {H H1 H2 : Hp} (a : Keep p H H1) (b : Keep p H1 H2) : Keep p H H2 := fun c o h n => b c o (a c o h n) n
theorem Keep.upd {p : Addr} {H : Hp} {o : HO} : Keep p H (upd H p o) := fun b u h n => by rw [upd_ne n]; exact h
theorem PenAt.mono {H H' : Hp} {p l : Addr} {cells : List Int} {m n : Nat} (h : PenAt H p l cells m) (e : Ex H H') (hm : m ≤ n) : PenAt H' p l cells n := by
  obtain ⟨k, r, h1, h2, h3⟩ := h
  exact ⟨k, r, e _ _ h1, e _ _ h2, by omega⟩
theorem PenAt.ne {H : Hp} {p l : Addr} {cells : List Int} {m : Nat} (h : PenAt H p l cells m) : l ≠ p := by
  obtain ⟨k, r, h1, h2, _⟩ := h
  refine ne_of h2 h1 ?_
  intro z
  have z2 := HO.lst.inj z
  cases cells with
  | nil => exact absurd z2 (by simp)
  | cons c cs => exact absurd (List.cons.inj z2).1 (by intro q; cases q)
structure Glb (mg : Str → Option Value) : Prop where
  int : mg "int" = none
  abs : mg "abs" = none
  len : mg "len" = none
  list : mg "list" = none
def spDraw : Sp := fun vs H Q _ => ∃ (p l : Addr) (cells : List Int) (m : Nat) (many : Int), vs = [.ref p, .int many] ∧ PenAt H p l cells m ∧ m ≤ 50000 ∧ cells.length ≤ 63 ∧ 0 < many ∧ many ≤ 1000000000 ∧
  ∀ d H', 0 ≤ d → d < many → PenAt H' p l cells (m + 1) → Keep p H H' → Q (.int d) H'
theorem scDraw : FnScope ["_law_pen_here", "_law_top_so", "_law_digit", "_law_at", "_law_cell", "_law_great", "_law_mixed"] ["_law_pen_here", "_law_top_so"] (defScope sDraw) := ⟨rfl, rfl, rfl, by decide +kernel, rfl, by decide +kernel, by decide +kernel⟩
theorem rc_int {i : Int} {H : Hp} : RC (fun xs H Q => (∃ i, xs = [V.int i] ∧ Q (.int i) H) ∨ ∃ k, xs = [V.bl k] ∧ Q (.int (if k then 1 else 0)) H) [.int i] H (.int i) := fun H1 _ _ q => .inl ⟨i, rfl, q H1 (Ex.refl H1)⟩
theorem rc_intB {b : Bool} {H : Hp} : RC (fun xs H Q => (∃ i, xs = [V.int i] ∧ Q (.int i) H) ∨ ∃ k, xs = [V.bl k] ∧ Q (.int (if k then 1 else 0)) H) [.bl b] H (.int (if b then 1 else 0)) := fun H1 _ _ q => .inr ⟨b, rfl, q H1 (Ex.refl H1)⟩
theorem rc_abs {i : Int} {H : Hp} : RC (fun xs H Q => ∃ i, xs = [V.int i] ∧ Q (.int (if i < 0 then -i else i)) H) [.int i] H (.int (if i < 0 then -i else i)) := fun H1 _ _ q => ⟨i, rfl, q H1 (Ex.refl H1)⟩
theorem rc_len {K : PySem.W.Frag} {p : Addr} {xs : List V} {H : Hp} (h : SqL K H p xs) : RC (fun xs H Q => ∃ p ys, xs = [V.ref p] ∧ (SqL K H p ys ∨ SqT K H p ys) ∧ Q (.int ys.length) H) [.ref p] H (.int (xs.length : Int)) := fun H1 e _ q => ⟨p, xs, rfl, .inl (ex_l e h), q H1 (Ex.refl H1)⟩
theorem dpAll_ints {K : PySem.W.Frag} {H : Hp} : ∀ (ns : List Int), DpAll K H (ns.map V.int) (ns.map PyData.int)
  | [] => .nil
  | n :: ns => .cons (.int n) (dpAll_ints ns)
section
variable {P : Program} {w : World} {K : PySem.W.Frag} {mg : Str → Option Value} {base : Heap}
theorem shaped_nil : SeqAt.shaped (.list []) = true := by decide +kernel
theorem canLay_ints : ∀ (ns : List Int), PyData.canLayAll0 (ns.map PyData.int) = true
  | [] => by simp [PyData.canLayAll0]
  | n :: ns => by simp [PyData.canLayAll0, PyData.canLay0, canLay_ints ns]
theorem depth_ints : ∀ (ns : List Int), PyData.depthAll (ns.map PyData.int) = 0
  | [] => rfl
  | n :: ns => by simp [PyData.depthAll, PyData.depth, depth_ints ns]
theorem shaped_ints (ns : List Int) : SeqAt.shaped (.list (ns.map PyData.int)) = true := by
  unfold SeqAt.shaped
  simp [PyData.canLay0, canLay_ints, PyData.depth, depth_ints]
/-- xs != [], xs a list of ints -/
theorem ev_neNil {σ : L2.St} {H : Hp} {ta : TE} {l : Addr} {cells : List Int} (ha : Ev ta σ H (.ref l)) (h : SqL K H l (cells.map V.int)) :
    ∃ b : Bool, Ev (tOp (rNeD K) ta (tLst tNil)) σ H (.bl b) ∧ (b = true → cells ≠ []) := by
  refine ⟨!(PyData.eqv (.list (cells.map PyData.int)) (.list [])), ev_opL (xs := []) ha (el_lst ea_nil (by decide)) (fun p H1 h1 e => ?_), ?_⟩
  · exact fun H2 e2 Q q => ⟨_, _, .lst (ex_l (e.trans e2) h) (dpAll_ints cells), .lst (sq_of (e2 _ _ h1)) .nil, shaped_ints cells, shaped_nil, q H2 (Ex.refl H2)⟩
  · intro hb hc
    subst hc
    exact absurd hb (by decide +kernel)
end
end K17
namespace K17
open PySem L2 Evl
section
variable {P : Program} {w : World} {K : PySem.W.Frag} {mg : Str → Option Value} {base : Heap}
theorem emod_bd (a b : Int) (h : 0 < b) : 0 ≤ a % b ∧ a % b < b := ⟨Int.emod_nonneg a (by omega), Int.emod_lt_of_pos a h⟩
theorem mul_bd {a b A B : Int} (a0 : 0 ≤ a) (aA : a ≤ A) (b0 : 0 ≤ b) (bB : b ≤ B) : 0 ≤ a * b ∧ a * b ≤ A * B := ⟨Int.mul_nonneg a0 b0, Int.mul_le_mul aA bB b0 (by omega)⟩
/-- the last part of a draw: the mixing -/
theorem ok_draw {f : Addr} {fd : FuncData} (F : Fun K "_law_draw" "_law_draw" sDraw f fd) (T : Glb mg) : FnOk P w K mg base CX0 1 f fd ["_law_pen_here", "_law_top_so"] spDraw := by
  refine F.ok scDraw (fun vs H Q E h => ?_) (fun cdv A outer s H vs Q E hr h => ?_)
  · obtain ⟨p, l, cells, m, many, rfl, _⟩ := h
    rfl
  · obtain ⟨p, l, cells, m, many, rfl, hp, hm, h63, hm0, hm1, k⟩ := h
    refine ⟨_, pss_cons (ps_if (pt_cmpR op_gt (pe_ix ix_list (pv 0) pe_int (fun _ _ => rfl)) pe_int (nomark _)) (pss_cons (ps_set (i := 2) scDraw.nd rfl (.inl rfl) (pe_op op_mod (pe_callTy call_int1 (by rfl) T.int (by decide +kernel) (pa_cons (pe_ix ix_list (pv 0) pe_int (fun _ _ => rfl)) pa_nil)) (pv 1)))
      (pss_cons (ps_asg (pe_op op_fdiv (pe_callTy call_int1 (by rfl) T.int (by decide +kernel) (pa_cons (pe_ix ix_list (pv 0) pe_int (fun _ _ => rfl)) pa_nil)) (pv 1)) (pg_sub (pv 0) pe_int set_list))
      (pss_one (ps_ret (pv 2))))) pss_nil)
      (pss_cons (ps_set (i := 3) scDraw.nd rfl (.inl rfl) (pe_ix ix_list (pv 0) pe_int (fun _ _ => rfl)))
      (pss_cons (ps_asg (pe_op op_add (pv 3) pe_int) (pg_sub (pv 0) pe_int set_list))
      (pss_cons (ps_set (i := 4) scDraw.nd rfl (.inl rfl) (pe_op op_add (pe_op op_mul pe_int (pv 3)) pe_int))
      (pss_cut (ps_if (pt_cmpR (op_neD hr.units) (pe_ix ix_list (pv 0) pe_int (fun _ _ => rfl)) (pe_lst pa_nil) (nomark _)) (pss_one (ps_set (i := 4) scDraw.nd rfl (.inl rfl) (pe_ix ix_list (pe_ix ix_list (pv 0) pe_int (fun _ _ => rfl)) (pe_op op_mod (pe_callTy call_int1 (by rfl) T.int (by decide +kernel) (pa_cons (pv 3) pa_nil)) (pe_callB call_len_seq (by rfl) T.len PySem.boot_len (pa_cons (pe_ix ix_list (pv 0) pe_int (fun _ _ => rfl)) pa_nil))) (fun _ _ => rfl)))) pss_nil)
      (pss_cons (ps_if (PW.pt (pw_and (pt_cmpR op_lt (pv 3) (pe_callB call_len_seq (by rfl) T.len PySem.boot_len (pa_cons (pe_ix ix_list (pv 0) pe_int (fun _ _ => rfl)) pa_nil)) (nomark _)) (pw_and1 (pt_cmpR op_ge (pe_callB call_abs (by rfl) T.abs (by decide +kernel) (pa_cons (pv 4) pa_nil)) (pe_op op_pow pe_int pe_int) (nomark _))))) (pss_cons (ps_set (i := 5) scDraw.nd rfl (.inl rfl) (pe_op op_add (pe_op op_mul pe_int (pe_op op_sub (pe_callB call_abs (by rfl) T.abs (by decide +kernel) (pa_cons (pv 4) pa_nil)) (pe_op op_pow pe_int pe_int))) (pe_callTy call_int1 (by rfl) T.int (by decide +kernel) (pa_cons (pe_cmpR op_lt (pv 4) pe_int (nomark _)) pa_nil))))
      (pss_cons (ps_asg (pe_op op_fdiv (pe_callTy call_int1 (by rfl) T.int (by decide +kernel) (pa_cons (pv 5) pa_nil)) (pv 1)) (pg_sub (pv 0) pe_int set_list))
      (pss_one (ps_ret (pe_op op_mod (pe_callTy call_int1 (by rfl) T.int (by decide +kernel) (pa_cons (pv 5) pa_nil)) (pv 1)))))) pss_nil)
      (pss_cons (ps_set (i := 6) scDraw.nd rfl (.inl rfl) (pe_op op_mod (pe_callTy call_int1 (by rfl) T.int (by decide +kernel) (pa_cons (pe_op op_pow (pe_op op_add (pe_op op_add (pe_op op_mod (pe_callTy call_int1 (by rfl) T.int (by decide +kernel) (pa_cons (pv 4) pa_nil)) pe_int) (pe_op op_mul pe_int (pv 3))) pe_int) pe_int) pa_nil)) pe_int))
      (pss_cons (ps_set (i := 6) scDraw.nd rfl (.inl rfl) (pe_op op_mod (pe_callTy call_int1 (by rfl) T.int (by decide +kernel) (pa_cons (pe_op op_pow (pe_op op_add (pe_op op_add (pe_op op_mul (pv 6) (pe_op op_add (pe_op op_mul pe_int (pv 3)) pe_int)) (pe_op op_mul (pe_op op_mul pe_int (pv 3)) (pv 3))) pe_int) pe_int) pa_nil)) pe_int))
      (pss_one (ps_ret (pe_op op_mod (pe_callTy call_int1 (by rfl) T.int (by decide +kernel) (pa_cons (pe_op op_fdiv (pv 6) pe_int) pa_nil)) (pv 1))))))))))), ?_⟩
    have hpl := hp.ne
    obtain ⟨n, r, h1, h2, hn⟩ := hp
    have many1 : many < 1073741824 := by omega
    refine q_when (et_test (ev_op (ev_op (ev_var rfl) ev_c (rv_ixL (sq_of h1) (atI_nat (j := 2) rfl))) ev_c rv_I0)) (fun hb H1 e1 => ?_) (fun hb H1 e1 => ?_)
    · -- the rest gives a digit
      have r0 : 0 < r := of_decide_eq_true hb
      have g1 := e1 _ _ h1
      refine q_asg (ev_op (ev_cb (ea_cons (ev_op (ev_var rfl) ev_c (rv_ixL (sq_of g1) (atI_nat (j := 2) rfl))) ea_nil) rc_int) (ev_var rfl) (rv_I hm0)) fun H2 e2 => ?_
      have g2 := e2 _ _ g1
      refine q_setL (j := 2) g2 (ev_op (ev_cb (ea_cons (ev_op (ev_var rfl) ev_c (rv_ixL (sq_of g2) (atI_nat (j := 2) rfl))) ea_nil) rc_int) (ev_var rfl) (rv_I ⟨hm0, many1⟩)) (ev_var rfl) ev_c (by show 2 < 3; decide) fun H3 e3 => ?_
      refine s_ret (ev_var rfl) fun H4 e4 => ?_
      have key : ∀ b o, H b = some o → b ≠ p → H4 b = some o := fun b o hb hbp => e4 b o (by rw [upd_ne hbp]; exact e3 _ _ (e2 _ _ (e1 _ _ hb)))
      exact k _ H4 (emod_bd _ _ hm0).1 (emod_bd _ _ hm0).2 ⟨n, _, e4 _ _ upd_same, key _ _ h2 hpl, by omega⟩ key
    · -- at = pen[1]; pen[1] = at + 1
      have g1 := e1 _ _ h1
      refine q_asg (ev_op (ev_var rfl) ev_c (rv_ixL (sq_of g1) (atI_nat (j := 1) rfl))) fun H2 e2 => ?_
      have g2 := e2 _ _ g1
      refine q_setL (j := 1) g2 (ev_op (ev_var rfl) ev_c rv_I0) (ev_var rfl) ev_c (by show 1 < 3; decide) fun H3 e3 => ?_
      have g3 := e3 _ _ g2
      have hl3 : H3 l = some (.lst (cells.map V.int)) := e3 _ _ (e2 _ _ (e1 _ _ h2))
      have kp3 : ∀ b o, H b = some o → b ≠ p → (upd H3 p (.lst ([V.ref l, V.int (n : Int), V.int r].set 1 (V.int ((n : Int) + 1))))) b = some o := fun b o hb hbp => by
        rw [upd_ne hbp]; exact e3 _ _ (e2 _ _ (e1 _ _ hb))
      generalize hH : upd H3 p (.lst ([V.ref l, V.int (n : Int), V.int r].set 1 (V.int ((n : Int) + 1)))) = J at kp3
      have j1 : J p = some (.lst [V.ref l, V.int ((n + 1 : Nat) : Int), V.int r]) := by
        rw [← hH, upd_same]
        rfl
      have j2 : J l = some (.lst (cells.map V.int)) := kp3 _ _ h2 hpl
      have hn0 : (0 : Int) ≤ (n : Int) ∧ (n : Int) ≤ 50000 := ⟨by omega, by omega⟩
      -- cell = 53748 * at + 4308
      refine q_asg (ev_op (ev_op ev_c (ev_var rfl) (rv_I (.inl ⟨by decide, by decide⟩))) ev_c rv_I0) fun H4 e4 => ?_
      have j41 := e4 _ _ j1
      have j42 := e4 _ _ j2
      -- if pen[0] != []: cell = ..
      obtain ⟨bn, evn, hne⟩ := ev_neNil (K := K) (σ := [some (V.ref p), some (V.int many), none, some (V.int (n : Int)), some (V.int (53748 * (n : Int) + 4308)), none, none]) (H := H4) (cells := cells) (l := l)
        (ta := tOp (rIxL K) (tVar 0) (tC (V.int 0))) (ev_op (ev_var rfl) ev_c (rv_ixL (sq_of j41) (atI_nat (j := 0) rfl))) (sq_of j42)
      refine q_cut (M := fun σ' H' => ∃ c : Int, σ' = [some (V.ref p), some (V.int many), none, some (V.int (n : Int)), some (V.int c), none, none] ∧ Ex H4 H') (s_when (et_test evn) (fun hb H5 e5 => ?_) (fun hb H5 e5 => ⟨_, rfl, e5⟩)) ?_
      · have hlen : 0 < cells.length := List.length_pos_iff.mpr (hne hb)
        have hi : 0 ≤ (n : Int) % (cells.length : Int) ∧ (n : Int) % (cells.length : Int) < (cells.length : Int) := emod_bd _ _ (by omega)
        obtain ⟨i, ei⟩ := Int.eq_ofNat_of_zero_le hi.1
        have il : i < cells.length := by have := hi.2; omega
        have lm : ((cells.map V.int).length : Int) = (cells.length : Int) := by rw [List.length_map]
        refine s_asg (v := V.int (cells[i])) (ev_op (y := V.int (i : Int)) (ev_op (ev_var rfl) ev_c (rv_ixL (sq_of (e5 _ _ j41)) (atI_nat (j := 0) rfl)))
          (ev_is (ev_op (ev_cb (ea_cons (ev_var rfl) ea_nil) rc_int) (ev_cb (ea_cons (ev_op (ev_var rfl) ev_c (rv_ixL (sq_of (e5 _ _ j41)) (atI_nat (j := 0) rfl))) ea_nil) (rc_len (sq_of (e5 _ _ j42)))) (rv_I (by rw [lm]; omega))) (by show V.int ((n : Int) % ((cells.map V.int).length : Int)) = _; rw [lm, ei]))
          (rv_ixL (sq_of (e5 _ _ j42)) (atI_nat (by rw [List.getElem?_map, List.getElem?_eq_getElem il]; rfl)))) fun H6 e6 => ⟨_, rfl, e5.trans e6⟩
      rintro σ' H5 ⟨c, rfl, e5⟩
      have k1 := e5 _ _ j41
      have k2 := e5 _ _ j42
      have kp5 : ∀ b o, H b = some o → b ≠ p → H5 b = some o := fun b o hb hbp => e5 _ _ (e4 _ _ (kp3 _ _ hb hbp))
      have lm : ((cells.map V.int).length : Int) = (cells.length : Int) := by rw [List.length_map]
      refine q_when (et_and (et_test (ev_op (ev_var rfl) (ev_cb (ea_cons (ev_op (ev_var rfl) ev_c (rv_ixL (sq_of k1) (atI_nat (j := 0) rfl))) ea_nil) (rc_len (sq_of k2))) rv_I0))
        (fun _ => et_test (ev_op (ev_cb (ea_cons (ev_var rfl) ea_nil) rc_abs) (ev_op ev_c ev_c (rv_I ⟨by decide, by decide, by decide⟩)) rv_I0))) (fun hb H6 e6 => ?_) (fun hb H6 e6 => ?_)
      · -- a great cell
        refine q_asg (ev_op (ev_op ev_c (ev_op (ev_cb (ea_cons (ev_var rfl) ea_nil) rc_abs) (ev_op ev_c ev_c (rv_I ⟨by decide, by decide, by decide⟩)) rv_I0) (rv_I (.inl ⟨by decide, by decide⟩))) (ev_cb (ea_cons (ev_op (ev_var rfl) ev_c rv_I0) ea_nil) rc_intB) rv_I0) fun H7 e7 => ?_
        have k7 := e7 _ _ (e6 _ _ k1)
        refine q_setL (j := 2) k7 (ev_op (ev_cb (ea_cons (ev_var rfl) ea_nil) rc_int) (ev_var rfl) (rv_I ⟨hm0, many1⟩)) (ev_var rfl) ev_c (by show 2 < 3; decide) fun H8 e8 => ?_
        refine s_ret (ev_op (ev_cb (ea_cons (ev_var rfl) ea_nil) rc_int) (ev_var rfl) (rv_I hm0)) fun H9 e9 => ?_
        have key : ∀ b o, H b = some o → b ≠ p → H9 b = some o := fun b o hb hbp => e9 _ _ (by rw [upd_ne hbp]; exact e8 _ _ (e7 _ _ (e6 _ _ (kp5 _ _ hb hbp))))
        exact k _ H9 (emod_bd _ _ hm0).1 (emod_bd _ _ hm0).2 ⟨n + 1, _, e9 _ _ upd_same, key _ _ h2 hpl, by omega⟩ key
      · -- mixed
        have b1 := emod_bd c 2147483563 (by decide)
        refine q_asg (ev_op (ev_cb (ea_cons (ev_op (ev_op (ev_op (ev_op (ev_cb (ea_cons (ev_var rfl) ea_nil) rc_int) ev_c (rv_I (by decide))) (ev_op ev_c (ev_var rfl) (rv_I (.inl ⟨by decide, by decide⟩))) rv_I0) ev_c rv_I0) ev_c
          (rv_I ⟨by decide, by decide, by omega⟩)) ea_nil) rc_int) ev_c (rv_I (by decide))) fun H7 e7 => ?_
        generalize hx : (c % 2147483563 + 53725 * (n : Int) + 4319) ^ (5 : Int).toNat % 2147483497 = x
        have b2 : 0 ≤ x ∧ x < 2147483497 := by rw [← hx]; exact emod_bd _ _ (by decide)
        have b3 := mul_bd b2.1 (by omega : x ≤ 2147483497) (by omega : 0 ≤ 2 * (n : Int) + 151) (by omega : 2 * (n : Int) + 151 ≤ 100151)
        have b4 := mul_bd (by omega : 0 ≤ 40422 * (n : Int)) (by omega : 40422 * (n : Int) ≤ 2021100000) hn0.1 hn0.2
        refine q_asg (ev_op (ev_cb (ea_cons (ev_op (ev_op (ev_op (ev_op (ev_var rfl) (ev_op (ev_op ev_c (ev_var rfl) (rv_I (.inl ⟨by decide, by decide⟩))) ev_c rv_I0) (rv_I (.inl ⟨by omega, by omega⟩)))
            (ev_op (ev_op ev_c (ev_var rfl) (rv_I (.inl ⟨by decide, by decide⟩))) (ev_var rfl) (rv_I (.inl ⟨by omega, by omega⟩))) rv_I0) ev_c rv_I0) ev_c (rv_I ⟨by decide, by decide, by omega⟩)) ea_nil) rc_int) ev_c (rv_I (by decide))) fun H8 e8 => ?_
        refine s_ret (ev_op (ev_cb (ea_cons (ev_op (ev_var rfl) ev_c (rv_I ⟨by decide, by decide⟩)) ea_nil) rc_int) (ev_var rfl) (rv_I hm0)) fun H9 e9 => ?_
        have k9 := e9 _ _ (e8 _ _ (e7 _ _ (e6 _ _ k1)))
        have key : ∀ b o, H b = some o → b ≠ p → H9 b = some o := fun b o hb hbp => e9 _ _ (e8 _ _ (e7 _ _ (e6 _ _ (kp5 _ _ hb hbp))))
        exact k _ H9 (emod_bd _ _ hm0).1 (emod_bd _ _ hm0).2 ⟨n + 1, _, k9, key _ _ h2 hpl, by omega⟩ key
end
end K17
namespace K17
open PySem L2 Evl
section
variable {P : Program} {w : World} {K : PySem.W.Frag} {mg : Str → Option Value} {base : Heap}
/-! ### _law_pen -/
def spPen (K : PySem.W.Frag) : Sp := fun vs H Q _ => ∃ (a : Addr) (ns : List Int), vs = [.ref a] ∧ SqL K H a (ns.map V.int) ∧ ns.length ≤ 63 ∧
  ∀ p l H', H p = none → H l = none → Ex H H' → PenAt H' p l ns 0 → Q (.ref p) H'
theorem scPen : FnScope ["_law_script"] ["_law_script"] (defScope sPen) := ⟨rfl, rfl, rfl, by decide +kernel, rfl, by decide +kernel, by decide +kernel⟩
theorem cut63 (xs : List V) (h : xs.length ≤ 63) : cutV xs none (some 63) = xs := by
  have e1 : HT.sIx xs.length 0 none = 0 := rfl
  have e2 : HT.sIx xs.length xs.length (some 63) = min 63 xs.length := rfl
  unfold cutV
  rw [e1, e2, List.drop_zero, Nat.sub_zero, Nat.min_eq_right h, List.take_length]
theorem ok_pen {f : Addr} {fd : FuncData} (F : Fun K "_law_pen" "_law_pen" sPen f fd) (T : Glb mg) : FnOk P w K mg base CX0 1 f fd ["_law_script"] (spPen K) := by
  refine F.ok scPen (fun vs H Q E h => ?_) (fun cdv A outer s H vs Q E hr h => ?_)
  · obtain ⟨a, ns, rfl, _⟩ := h
    rfl
  · obtain ⟨a, ns, rfl, hS, hl, k⟩ := h
    refine ⟨_, pss_one (ps_ret (pe_lst (pa_cons (pe_callTy call_list_of (by rfl) T.list (by decide +kernel) (pa_cons (pe_slice sl_list (pv 0) po_none (po_some pe_int)) pa_nil)) (pa_cons pe_int (pa_cons pe_int pa_nil))))), ?_⟩
    have ev := el_sl (K := K) (σ := [some (V.ref a)]) (H := H) (tl := tNoPart) (th := tPart (tC (.int 63))) (ev_var (i := 0) rfl) eo_none (eo_some ev_c) hS
    rw [cut63 _ (by rw [List.length_map]; exact hl)] at ev
    refine ev H (Ex.refl H) _ fun q H1 hq e1 h1 => ?_
    refine ⟨q, _, rfl, .inl (sq_of h1), fun l hl1 => ?_⟩
    refine ⟨by show 3 ≤ sizeLine; decide, fun p hp => ?_⟩
    have hp1 : p ≠ l := fun z => by
      rw [z, upd_same] at hp
      cases hp
    have hpn : H1 p = none := by rw [upd_ne hp1] at hp; exact hp
    exact k p l _ (fresh_back e1 hpn) (fresh_back e1 hl1) ((e1.trans (Ex.new hl1)).trans (Ex.new hp)) ⟨0, 0, upd_same, by rw [upd_ne hp1.symm, upd_same], Nat.le_refl _⟩
/-! ### _law_pick -/
def spPick : Sp := fun vs H Q _ => ∃ (p l a : Addr) (cells : List Int) (m : Nat) (xs : List V), vs = [.ref p, .ref a] ∧ PenAt H p l cells m ∧ m ≤ 50000 ∧ cells.length ≤ 63 ∧ H a = some (.lst xs) ∧ a ≠ p ∧ 0 < xs.length ∧ xs.length ≤ 1000000 ∧
  ∀ (i : Nat) x H', xs[i]? = some x → PenAt H' p l cells (m + 1) → Keep p H H' → Q x H'
theorem scPick : FnScope ["_law_pen_here", "_law_some"] ["_law_pen_here", "_law_some"] (defScope sPick) := ⟨rfl, rfl, rfl, by decide +kernel, rfl, by decide +kernel, by decide +kernel⟩
theorem ok_pick {f fD : Addr} {fd fdD : FuncData} (F : Fun K "_law_pick" "_law_pick" sPick f fd) (T : Glb mg) (FD : Fun K "_law_draw" "_law_draw" sDraw fD fdD) (bD : Binds K fdD ["_law_pen_here", "_law_top_so"] []) (gD : mg "_law_draw" = some (.ref fD)) :
    FnOk P w K mg base CX0 2 f fd ["_law_pen_here", "_law_some"] spPick := by
  have GD : FnOk P w K mg base CX0 1 fD fdD ["_law_pen_here", "_law_top_so"] spDraw := ok_draw FD T
  refine F.ok scPick (fun vs H Q E h => ?_) (fun cdv A outer s H vs Q E hr h => ?_)
  · obtain ⟨p, l, a, cells, m, xs, rfl, _⟩ := h
    rfl
  · obtain ⟨p, l, a, cells, m, xs, rfl, hp, hm, h63, ha, hap, hx0, hx1, k⟩ := h
    refine ⟨_, pss_one (ps_ret (pe_ix ix_list (pv 1) (pe_call GD hr (by rfl) gD FD.kp bD .nil pass0 (pa_cons (pv 0) (pa_cons (pe_callB call_len_seq (by rfl) T.len PySem.boot_len (pa_cons (pv 1) pa_nil)) pa_nil))) (fun _ _ => rfl))), ?_⟩
    refine ⟨_, rfl, _, rfl, _, rfl, a, xs, rfl, .inl (sq_of ha), p, l, cells, m, (xs.length : Int), rfl, hp, hm, h63, by omega, by omega, fun d H' d0 d1 hp' kp => ?_⟩
    obtain ⟨i, rfl⟩ := Int.eq_ofNat_of_zero_le d0
    have hi : i < xs.length := by omega
    have ei : xs[i]? = some xs[i] := List.getElem?_eq_getElem hi
    exact ⟨a, xs, (i : Int), xs[i], rfl, rfl, sq_of (kp _ _ ha hap), atI_nat ei, k i _ H' ei hp' kp⟩
end
end K17
namespace L2
open PySem PySem.Spec PyProof.Rows
section
variable {X : Cx} {k : Nat} {f : Addr} {fd : FuncData} {ps ks : List Str} {sp : Sp} {x : Str} {p pos : Pos} {kws : List Keyword} {tk : TA} {g : List Value → List Value → List Value} {gV : List V → List V → List V}
/-- f(k = v, ..), keywords alone -/
theorem pe_callK0 (F : FnOk X.prog X.w X.K X.mg X.base CX0 k f fd ps sp) (hr : Room k X.A) (hg : Gl X x) (hm : X.mg x = some (.ref f)) (hk : PySem.W.keepIn X.K (.ref f) = true) (hb : KBn X.K fd ps 0 ks g gV) (hkw : PK X kws tk)
    (hall : (backToKw pos (keywordEach kws X.env)).all (·.1.isSome) = true := by rfl) (hks : (backToKw pos (keywordEach kws X.env)).filterMap (·.1) = ks := by rfl) (hdb : (x == ("__debug__" : Str)) = false := by decide)
    (hpl : ((backTo pos (starEach [] X.env)).any (·.1) || (backToKw pos (keywordEach kws X.env)).any (·.1.isNone)) = false := by rfl) :
    PE X (.Call (.Name x p) [] kws pos) (tCallN 0 ks.length sp gV E0 tNil tk) := by
  refine ⟨fun pins s σ H Q I h => ?_⟩
  refine wpAny_Call_Name_kw (ld_glob I hg hm ?_ hdb)
  refine PySem.W.callWith_KW0 (h₀ := X.base) I.ok.mod.kin hk hall ?_ hpl
  refine thn (hkw.run pos pins s σ H _ I h) fun ws s2 ⟨zs, H2, I2, rz, l1, l2, q2⟩ => ⟨I2.kIn, ?_⟩
  rw [hks]
  exact run_fnN (us := []) (vs := []) F hr hb pass0 I2 .nil rz rfl l2 q2
/-- how a def without defaults binds keywords alone -/
theorem Fun.kb {K : PySem.W.Frag} {x qual : Str} {st : Stmt} {f : Addr} {fd : FuncData} {ps ks : List Str} (F : Fun K x qual st f fd) (n : Nat) (g : {α : Type} → List α → List α → List α)
    (hrel : ∀ {vs zs : List V} {us ws : List Value}, Vals vs us → Vals zs ws → Vals (g vs zs) (g us ws))
    (h : ∀ (kV doc pm : Value) (an : Option Addr) (cdv ct : Value) (us ws : List Value), us.length = n → ws.length = ks.length → bindArgs (PySem.W.fnOf x qual (defArgs st) (defBody st) (defScope st) .none kV doc pm an cdv ct) ⟨us, ks.zip ws⟩ = pure (ps.zip (g us ws))) :
    KBn K fd ps n ks (fun us ws => g us ws) (fun vs zs => g vs zs) := by
  obtain ⟨oc, od, kV, doc, pm, an, cdv, ct, osl, rfl, lk, hcd⟩ := F.ex
  exact ⟨fun s us ws _ l1 l2 => .of_eq (h kV doc pm an cdv ct us ws l1 l2), fun r1 r2 => hrel r1 r2⟩
end
end L2
namespace K17
open PySem L2 Evl
abbrev sIsInt : Stmt := top 1
abbrev sWithin : Stmt := top 2
structure GlbT (mg : Str → Option Value) : Prop where
  inst : mg "isinstance" = none
  int : mg "int" = none
  bool : mg "bool" = none
  str : mg "str" = none
  len : mg "len" = none
theorem tyx_mono {K : PySem.W.Frag} {H H' : Hp} {x : V} {t : Value} (e : Ex H H') (h : TyX K H x t) : TyX K H' x t := by
  cases h with
  | base b =>
    refine .base ?_
    cases b with
    | non => exact .non
    | bl b => exact .bl b
    | int i => exact .int i
    | str x => exact .str x
    | flt x => exact .flt x
    | lst q => exact .lst (e _ _ q)
    | frz q => exact .frz (e _ _ q)
    | tup q => exact .tup (e _ _ q)
    | dK q => exact .dK (e _ _ q)
    | dT q => exact .dT (e _ _ q)
    | ins q a b c d f => exact .ins (e _ _ q) a b c d f
  | byt b => exact .byt b
  | set q => exact .set (e _ _ q)
  | kList q c => exact .kList q c
  | kTuple q c => exact .kTuple q c
  | kDict q c => exact .kDict q c
  | fTuple q => exact .fTuple (e _ _ q)
  | fDict q => exact .fDict (e _ _ q)
theorem rc_isi {K : PySem.W.Frag} {H : Hp} {x : V} {a b : String} {r : Bool} (h : TyX K H x (.type a)) (hk : kitB a b = some r) : RC (rIsi K) [x, .ty b] H (.bl r) := fun H1 e _ q => ⟨x, .ty b, .type a, .type b, r, rfl, .ty b, tyx_mono e h, kit_ty hk, q H1 (Ex.refl H1)⟩
section
variable {P : Program} {w : World} {K : PySem.W.Frag} {mg : Str → Option Value} {base : Heap}
/-! ### is_integer -/
def spIsInt (K : PySem.W.Frag) : Sp := fun vs H Q _ => ∃ (x : V) (T : String) (a b : Bool), vs = [x] ∧ TyX K H x (.type T) ∧ kitB T "int" = some a ∧ kitB T "bool" = some b ∧ RetV (.bl (a && !b)) H Q
theorem scIsInt : FnScope ["value"] ["value"] (defScope sIsInt) := ⟨rfl, rfl, rfl, by decide +kernel, rfl, by decide +kernel, by decide +kernel⟩
theorem ok_isInt {f : Addr} {fd : FuncData} (F : Fun K "is_integer" "is_integer" sIsInt f fd) (T : GlbT mg) : FnOk P w K mg base CX0 1 f fd ["value"] (spIsInt K) := by
  refine F.ok scIsInt (fun vs H Q E h => ?_) (fun cdv A outer s H vs Q E hr h => ?_)
  · obtain ⟨x, t, a, b, rfl, _⟩ := h
    rfl
  · obtain ⟨x, t, a, b, rfl, ht, ha, hb, k⟩ := h
    refine ⟨_, pss_one (ps_ret (pe_and (pe_callB call_isi (by rfl) T.inst (by decide +kernel) (pa_cons (pv 0) (pa_cons (pe_bltn (v := .ty "int") (by rfl) T.int (by decide +kernel) rfl) pa_nil)))
      (pe_one (pe_not (pe_callB call_isi (by rfl) T.inst (by decide +kernel) (pa_cons (pv 0) (pa_cons (pe_bltn (v := .ty "bool") (by rfl) T.bool (by decide +kernel) rfl) pa_nil))))))), ?_⟩
    exact s_ret (ev_andV (ev_cb (ea_cons (ev_var rfl) (ea_cons ev_c ea_nil)) (rc_isi ht ha)) fun _ => ev_notV (ev_cb (ea_cons (ev_var rfl) (ea_cons ev_c ea_nil)) (rc_isi ht hb))) k
/-! ### is_within -/
def spWithin (K : PySem.W.Frag) : Sp := fun vs H Q _ => (∃ i lo hi : Int, vs = [.int i, .int lo, .int hi] ∧ RetV (.bl (decide (lo ≤ i) && decide (i ≤ hi))) H Q) ∨
  ∃ (x y z : V) (T : String) (a b : Bool), vs = [x, y, z] ∧ TyX K H x (.type T) ∧ kitB T "int" = some a ∧ kitB T "bool" = some b ∧ (a && !b) = false ∧ RetV (.bl false) H Q
theorem scWithin : FnScope ["value", "least", "most"] ["value", "least", "most"] (defScope sWithin) := ⟨rfl, rfl, rfl, by decide +kernel, rfl, by decide +kernel, by decide +kernel⟩
theorem spv_isInt {H : Hp} {x : V} {t : String} {a b : Bool} (ht : TyX K H x (.type t)) (ha : kitB t "int" = some a) (hb : kitB t "bool" = some b) : SpV (spIsInt K) [x] H (.bl (a && !b)) := fun H1 e Q q E => ⟨x, t, a, b, rfl, tyx_mono e ht, ha, hb, q⟩
theorem kit_int_int : kitB "int" "int" = some true := by decide +kernel
theorem kit_int_bool : kitB "int" "bool" = some false := by decide +kernel
theorem ev_chain {σ : L2.St} {H : Hp} {ta tb tc : TE} {i j l : Int} {f g : Int → Int → Bool} (ha : Ev ta σ H (.int i)) (hb : Ev tb σ H (.int j)) (hc : Ev tc σ H (.int l)) :
    Ev (tChain (rI0 fun i j => .bl (f i j)) (rI0 fun i j => .bl (g i j)) ta tb tc) σ H (.bl (f i j && g j l)) := fun H1 e Q q =>
  ha H1 e _ fun H2 e2 => hb H2 (e.trans e2) _ fun H3 e3 => ⟨i, j, rfl, rfl, f i j, rfl, by
    cases h : f i j with
    | true =>
      simp only [h, Bool.true_and] at q
      exact hc H3 ((e.trans e2).trans e3) _ fun H4 e4 => ⟨j, l, rfl, rfl, q H4 ((e2.trans e3).trans e4)⟩
    | false =>
      simp only [h, Bool.false_and] at q
      exact q H3 (e2.trans e3)⟩
theorem ok_within {f fI : Addr} {fd fdI : FuncData} (F : Fun K "is_within" "is_within" sWithin f fd) (T : GlbT mg) (FI : Fun K "is_integer" "is_integer" sIsInt fI fdI) (bI : Binds K fdI ["value"] []) (gI : mg "is_integer" = some (.ref fI)) :
    FnOk P w K mg base CX0 2 f fd ["value", "least", "most"] (spWithin K) := by
  have GI : FnOk P w K mg base CX0 1 fI fdI ["value"] (spIsInt K) := ok_isInt FI T
  refine F.ok scWithin (fun vs H Q E h => ?_) (fun cdv A outer s H vs Q E hr h => ?_)
  · rcases h with ⟨i, lo, hi, rfl, _⟩ | ⟨x, y, z, t, a, b, rfl, _⟩ <;> rfl
  · have body : ∀ {x y z : V}, vs = [x, y, z] → ∀ {r : Bool}, Ev (tAndV (tCall (spIsInt K) [] E0 (tCons (tVar 0) tNil)) (tChain (rI0 fun i j => .bl (decide (i ≤ j))) (rI0 fun i j => .bl (decide (i ≤ j))) (tVar 1) (tVar 0) (tVar 2))) [some x, some y, some z] H (.bl r) → RetV (.bl r) H Q →
        ∃ t, PSs (cxOf CX0 P w K mg base ["value", "least", "most"] "is_within" (defScope sWithin) f cdv A outer s H E).nox (defBody sWithin) t ∧ t { nx := fun _ H' => Q .non H', rt := Q } (start ["value", "least", "most"] vs) H := by
      rintro x y z rfl r ev k
      exact ⟨_, pss_one (ps_ret (pe_and (pe_call GI hr (by rfl) gI FI.kp bI .nil pass0 (pa_cons (pv 0) pa_nil)) (pe_one (pe_chain op_le op_le (pv 1) (pv 0) (pv 2))))), s_ret ev k⟩
    rcases h with ⟨i, lo, hi, rfl, k⟩ | ⟨x, y, z, t, a, b, rfl, ht, ha, hb, hn, k⟩
    · refine body rfl (ev_andV (a := true) (ev_call (z := .bl true) (ea_cons (ev_var rfl) ea_nil) (spv_isInt (.base (.int i)) kit_int_int kit_int_bool)) fun _ => ev_chain (ev_var rfl) (ev_var rfl) (ev_var rfl)) k
    · refine body rfl (r := false) (ev_andV (a := false) (b := false) (ev_call (ea_cons (ev_var rfl) ea_nil) (by have q := spv_isInt ht ha hb; rw [hn] at q; exact q)) fun z => absurd z (by decide)) k
end
end K17
namespace L2
open PySem PySem.Spec PyProof.Rows
section
variable {X : Cx}
def tNo : TS := fun _ _ _ => False
theorem ps_no {st : Stmt} : PS X st tNo := ⟨fun _ _ _ _ _ _ h => h.elim⟩
end
theorem PI.or {X : Cx} {tg e : Expr} {w1 w2 : TI} (h1 : PI X tg e w1) (h2 : PI X tg e w2) : PI X tg e (fun σ H R => w1 σ H R ∨ w2 σ H R) := ⟨fun pins s σ H R I h => h.elim (h1.run pins s σ H R I) (h2.run pins s σ H R I)⟩
end L2
namespace K17
open PySem L2 Evl Gr
def Sq (K : PySem.W.Frag) (H : Hp) (a : Addr) (xs : List V) : Prop := SqL K H a xs ∨ SqT K H a xs
theorem Sq.mono {K : PySem.W.Frag} {H H' : Hp} {a : Addr} {xs : List V} (e : Ex H H') (h : Sq K H a xs) : Sq K H' a xs := h.elim (fun h => .inl (ex_l e h)) fun h => .inr (ex_t e h)
def vI (g : List Int) : List V := g.map V.int
theorem vI_len {g : List Int} : (vI g).length = g.length := List.length_map _
theorem vI_get {g : List Int} {i : Nat} (h : i < g.length) : (vI g)[i]? = some (V.int (at' g i)) := by
  unfold vI at'
  rw [List.getElem?_map, List.getD_eq_getElem?_getD, List.getElem?_eq_getElem h]
  rfl
theorem rv_ix {K : PySem.W.Frag} {H : Hp} {p : Addr} {xs : List V} {i : Int} {v : V} (h : Sq K H p xs) (ha : atI xs i = some v) : RV (rIx K) (.ref p) (.int i) H v := fun H1 e Q q => by
  rcases h with h | h
  · exact .inl ⟨p, xs, i, v, rfl, rfl, ex_l e h, ha, q H1 (Ex.refl H1)⟩
  · exact .inr (.inl ⟨p, xs, i, v, rfl, rfl, ex_t e h, ha, q H1 (Ex.refl H1)⟩)
theorem rc_lenQ {K : PySem.W.Frag} {p : Addr} {xs : List V} {H : Hp} (h : Sq K H p xs) : RC (fun xs H Q => ∃ p ys, xs = [V.ref p] ∧ (SqL K H p ys ∨ SqT K H p ys) ∧ Q (.int ys.length) H) [.ref p] H (.int (xs.length : Int)) := fun H1 e _ q => ⟨p, xs, rfl, h.mono e, q H1 (Ex.refl H1)⟩
theorem st_asI {K : PySem.W.Frag} {H : Hp} {a : Addr} {g : List Int} (h : H a = some (.lst (vI g))) : Sq K H a (vI g) := .inl (sq_of h)
theorem atI_vI {g : List Int} {i : Nat} (h : i < g.length) : atI (vI g) (i : Int) = some (V.int (at' g i)) := atI_nat (vI_get h)
theorem atI_vlast {g : List Int} (h : 0 < g.length) : atI (vI g) (-1) = some (V.int (at' g (g.length - 1))) := by
  have e : ixN (vI g).length (-1) = some (g.length - 1) := by
    unfold ixN
    rw [vI_len, if_neg (by decide), if_pos (by omega)]
    congr 1
    omega
  unfold atI
  rw [e]
  exact vI_get (by omega)
theorem vI_app {g : List Int} {x : Int} : vI g ++ [V.int x] = vI (g ++ [x]) := by unfold vI; rw [List.map_append]; rfl
theorem vint_inj {x y : Int} : decide (V.int x = V.int y) = decide (x = y) := by
  by_cases h : x = y
  · rw [decide_eq_true h, decide_eq_true (congrArg V.int h)]
  · rw [decide_eq_false h, decide_eq_false fun z => h (V.int.inj z)]
structure GlbS (mg : Str → Option Value) : Prop where
  len : mg "len" = none
  range : mg "range" = none
  tuple : mg "tuple" = none
  list : mg "list" = none
def EvTu (K : PySem.W.Frag) (te : TE) (σ : L2.St) (H : Hp) (xs : List V) : Prop := ∀ H1, Ex H H1 → ∀ Q : VK, (∀ p H2, Ex H1 H2 → SqT K H2 p xs → Q (.ref p) H2) → te σ H1 Q
def rSlQ (K : PySem.W.Frag) : V → Option Int → Option Int → Hp → VK → Prop := fun x lo hi H Q => rSlL K x lo hi H Q ∨ rSlA K x lo hi H Q
theorem sl_seq {X : Cx} : SlR X (rSlQ X.K) := sl_list.or sl_tupA
section
variable {K : PySem.W.Frag} {σ : L2.St} {H : Hp} {te ta tb : TE} {tl th : TO} {a : Addr} {xs ys : List V} {lo hi : Option Int}
theorem cutV_all {n : Nat} (h1 : HT.sIx xs.length 0 lo = 0) (h2 : HT.sIx xs.length xs.length hi = xs.length) : cutV xs lo hi = xs := by
  unfold cutV
  rw [h1, h2, List.drop_zero, Nat.sub_zero, List.take_length]
theorem etu_cut (h : Ev te σ H (.ref a)) (h1 : EvO tl σ H lo) (h2 : EvO th σ H hi) (hs : SqT K H a xs) : EvTu K (tSl (rSlA K) te tl th) σ H (cutV xs lo hi) := fun H1 e Q q =>
  h H1 e _ fun H2 e2 => h1 H2 (e.trans e2) _ fun H3 e3 => h2 H3 ((e.trans e2).trans e3) _ fun H4 e4 =>
    ⟨a, xs, rfl, ex_t (((e.trans e2).trans e3).trans e4) hs, fun z => q a H4 ((e2.trans e3).trans e4) (by rw [cutV_all (n := 0) z.1 z.2]; exact ex_t (((e.trans e2).trans e3).trans e4) hs),
      fun _ p hp => q p _ (((e2.trans e3).trans e4).trans (Ex.new hp)) (st_of upd_same)⟩
theorem etu_cat (h1 : EvTu K ta σ H xs) (h2 : EvTu K tb σ H ys) (hz : xs.length + ys.length ≤ 100000) : EvTu K (tOp (rCatA K) ta tb) σ H (xs ++ ys) := fun H1 e Q q =>
  h1 H1 e _ fun p H2 e2 hp => h2 H2 (e.trans e2) _ fun r H3 e3 hr =>
    ⟨p, r, xs, ys, rfl, rfl, ex_t e3 hp, hr, sz_of hz, fun z => q r H3 (e2.trans e3) (by rw [z]; exact hr), fun _ z => q p H3 (e2.trans e3) (by rw [z, List.append_nil]; exact ex_t e3 hp),
      fun _ _ b hb => q b _ ((e2.trans e3).trans (Ex.new hb)) (st_of upd_same)⟩
theorem etu_of (h : Ev te σ H (.ref a)) (h1 : EvO tl σ H lo) (h2 : EvO th σ H hi) (hs : Sq K H a xs) : EvTu K (tThen (tSl (rSlQ K) te tl th) (kTup K)) σ H (cutV xs lo hi) := fun H1 e Q q =>
  h H1 e _ fun H2 e2 => h1 H2 (e.trans e2) _ fun H3 e3 => h2 H3 ((e.trans e2).trans e3) _ fun H4 e4 => by
    have E := ((e.trans e2).trans e3).trans e4
    have E1 := (e2.trans e3).trans e4
    rcases hs.mono E with z | z
    · exact .inl ⟨a, xs, rfl, z, fun p hp => .inl ⟨p, _, rfl, sq_of upd_same, fun r hr => q r _ ((E1.trans (Ex.new hp)).trans (Ex.new hr)) (st_of upd_same)⟩⟩
    · exact .inr ⟨a, xs, rfl, z, fun c => .inr ⟨a, _, rfl, z, q a H4 E1 (by rw [cutV_all (n := 0) c.1 c.2]; exact z)⟩, fun _ p hp => .inr ⟨p, _, rfl, st_of upd_same, q p _ (E1.trans (Ex.new hp)) (st_of upd_same)⟩⟩
theorem q_asgT {i : Nat} {tz : TS} {D : Ends} (h : EvTu K te σ H xs) (k : ∀ p H1, Ex H H1 → SqT K H1 p xs → tz D (σ.set i (some (.ref p))) H1) : tSeq (tAsg te (gName i)) tz D σ H := h H (Ex.refl H) _ fun p H1 e s => k p H1 e s
end
theorem cut_take {g : List Int} {n : Nat} (h : n ≤ g.length) : cutV (vI g) none (some (n : Int)) = vI (g.take n) := by
  unfold cutV vI
  rw [show HT.sIx (g.map V.int).length 0 none = 0 from rfl, HT.sIx_nat, List.drop_zero, Nat.sub_zero, List.length_map, Nat.min_eq_left h, List.map_take]
theorem cut_drop {g : List Int} {n : Nat} (h : n ≤ g.length) : cutV (vI g) (some (n : Int)) none = vI (g.drop n) := by
  unfold cutV vI
  rw [HT.sIx_none, HT.sIx_nat, List.length_map, Nat.min_eq_left h, List.take_of_length_le (by rw [List.length_drop, List.length_map]; exact Nat.le_refl _), List.map_drop]
theorem ev_fld {K : PySem.W.Frag} {σ : L2.St} {H : Hp} {ta : TE} {o C dx : Addr} {fs : List (Str × V)} {v : V} {f : Str} (ha : Ev ta σ H (.ref o)) (ho : H o = some (.ins C dx fs)) (c : Cls K C) (n : NoAttr K C f) (hf : fs.lookup f = some v) :
    Ev (tFld K ta f) σ H v := fun H1 e Q q => ha H1 e _ fun H2 e2 => ⟨o, C, dx, fs, v, rfl, e2 _ _ (e _ _ ho), c, n, hf, q H2 e2⟩
section
variable {K : PySem.W.Frag} {σ : L2.St} {H H' : Hp} {te ta tb tl : TE} {t : TT} {xs : List V} {p l : Addr} {cells : List Int} {m : Nat} {i : Nat} {D : Ends}
theorem el_ofT (h : EvTu K te σ H xs) : EvL (tCB (rListS K) (tCons te tNil)) σ H xs := fun H1 e Q q =>
  h H1 e _ fun p H2 e2 hp => ⟨p, xs, rfl, .inr hp, fun l hl => q l _ (fresh_back e2 hl) (e2.trans (Ex.new hl)) upd_same⟩
theorem el_lcR2 {ta : TA} {j : Nat} {vs : List Nat} {lo n : Int} (f : Nat → Bool) (v : Nat → V) (h : EvA ta σ H [.int lo, .int n]) (hn : 0 ≤ lo ∧ lo ≤ n ∧ n ≤ 40000) (hw : ∀ x, wipe ((wipe σ vs).set j (some x)) vs = wipe σ vs)
    (ht : ∀ (i : Nat) H1, Ex H H1 → lo + (i : Int) < n → EvT t ((wipe σ vs).set j (some (.int (lo + (i : Int))))) H1 (f i)) (he : ∀ (i : Nat) H1, Ex H H1 → lo + (i : Int) < n → f i = true → Ev te ((wipe σ vs).set j (some (.int (lo + (i : Int))))) H1 (v i)) :
    EvL (tLc (iRng2 ta) (gName j) t te vs) σ H (given (n - lo).toNat f v) := fun H0 e Q q => h H0 e _ fun H1 e1 => ⟨lo, n, rfl, ⟨by omega, by omega, by omega, by omega⟩, fun Dl hD =>
  lc_range (lo := lo) (n := (n - lo).toNat) (Cw H1 f v Dl) ⟨hD, Ex.new hD, upd_same⟩ (fun i H' hi p =>
    ⟨hw _, cw_turn p (by omega) (ht i H1 (e.trans e1) (by omega)) (fun hf => he i H1 (e.trans e1) (by omega) hf)⟩) (fun H' p => q Dl H' (fresh_back e1 p.1) (e1.trans p.2.1) p.2.2)⟩
theorem given_all {n : Nat} {v : Nat → V} : given n (fun _ => true) v = (List.range n).map v := by
  unfold given
  rw [List.filter_eq_self.mpr fun _ _ => rfl]
theorem et_none : EvT (fun σ H Q => Q true H) σ H true := fun H1 _ _ q => q H1 (Ex.refl H1)
def iQ (K : PySem.W.Frag) (tl : TE) : TI := fun σ H R => iList K tl σ H R ∨ iTup K tl σ H R
theorem pi_seq {X : Cx} {tg e : Expr} {tl : TE} (h : PE X e tl) : PI X tg e (iQ X.K tl) := (pi_list h).or (pi_tup h)
theorem el_lcQ {a : Addr} {xs : List V} {tl : TE} {j : Nat} {vs : List Nat} (v : Nat → V) (h : Ev tl σ H (.ref a)) (hx : Sq K H a xs) (hz : xs.length ≤ 40000) (hw : ∀ x, wipe ((wipe σ vs).set j (some x)) vs = wipe σ vs)
    (he : ∀ (i : Nat) (x : V) H1, Ex H H1 → xs[i]? = some x → Ev te ((wipe σ vs).set j (some x)) H1 (v i)) : EvL (tLc (iQ K tl) (gName j) tYes te vs) σ H ((List.range xs.length).map v) := fun H0 e Q q => by
  rcases hx with hx | hx
  · exact .inl (h H0 e _ fun H1 e1 => ⟨a, rfl, ⟨xs, ex_l (e.trans e1) hx⟩, fun Dl hD => lc_it (n := xs.length) (walk_list (xs := xs)) (Cw H1 (fun _ => true) v Dl) ⟨hD, Ex.new hD, upd_same⟩ (fun _ H' _ p => ex_l ((e.trans e1).trans p.2.1) hx)
      (fun k x H' H'' hk p y => by
        obtain ⟨rfl, hx'⟩ := y
        exact ⟨hw _, cw_turn p (by omega) et_none (fun _ => he k x H1 (e.trans e1) hx')⟩)
      (fun H' p => q Dl H' (fresh_back e1 p.1) (e1.trans p.2.1) (by rw [← given_all]; exact p.2.2))⟩)
  · exact .inr (h H0 e _ fun H1 e1 => ⟨a, rfl, ⟨xs, ex_t (e.trans e1) hx⟩, fun Dl hD => lc_it (n := xs.length) (walk_tup (xs := xs)) (Cw H1 (fun _ => true) v Dl) ⟨hD, Ex.new hD, upd_same⟩ (fun _ H' _ p => ex_t ((e.trans e1).trans p.2.1) hx)
      (fun k x H' H'' hk p y => by
        obtain ⟨rfl, hx'⟩ := y
        exact ⟨hw _, cw_turn p (by omega) et_none (fun _ => he k x H1 (e.trans e1) hx')⟩)
      (fun H' p => q Dl H' (fresh_back e1 p.1) (e1.trans p.2.1) (by rw [← given_all]; exact p.2.2))⟩)
theorem sq_ty {a : Addr} {xs : List V} (h : Sq K H a xs) : ∃ T : String, TyX K H (.ref a) (.type T) ∧ (T = "list" ∨ T = "tuple") := by
  rcases h with (h | h) | (h | h)
  · rcases h with h | ⟨o, h⟩
    · exact ⟨"list", .base (.lst h), .inl rfl⟩
    · exact ⟨"list", .base (.frz h), .inl rfl⟩
  · obtain ⟨o, its, n, lk, hc, _⟩ := h
    exact ⟨"list", .kList lk hc, .inl rfl⟩
  · rcases h with h | ⟨o, h⟩
    · exact ⟨"tuple", .base (.tup h), .inr rfl⟩
    · exact ⟨"tuple", .fTuple h, .inr rfl⟩
  · obtain ⟨o, its, n, lk, hc, _⟩ := h
    exact ⟨"tuple", .kTuple lk hc, .inr rfl⟩
theorem sqT_upd {K : PySem.W.Frag} {H : Hp} {o p C dx : Addr} {fs : List (Str × V)} {u : HO} {xs : List V} (h : SqT K H p xs) (ho : H o = some (.ins C dx fs)) : SqT K (upd H o u) p xs := by
  rcases h with (h | ⟨o', h⟩) | h
  · exact .inl (.inl (by rw [upd_ne (fun z => by rw [z, ho] at h; cases h)]; exact h))
  · exact .inl (.inr ⟨o', by rw [upd_ne (fun z => by rw [z, ho] at h; cases h)]; exact h⟩)
  · exact .inr h
theorem eqv_ints : ∀ xs ys : List Int, PyData.eqvAll (xs.map PyData.int) (ys.map PyData.int) = decide (xs = ys)
  | [], [] => by simp [PyData.eqvAll]
  | [], y :: ys => by simp [PyData.eqvAll]
  | x :: xs, [] => by simp [PyData.eqvAll]
  | x :: xs, y :: ys => by
    have ih := eqv_ints xs ys
    simp only [List.map_cons, PyData.eqvAll, PyData.eqv, ih]
    by_cases h : x = y <;> by_cases h2 : xs = ys <;> simp [h, h2]
theorem shaped_tup (ns : List Int) : SeqAt.shaped (.tuple (ns.map PyData.int)) = true := by
  unfold SeqAt.shaped
  simp [PyData.canLay0, canLay_ints, PyData.depth, depth_ints]
theorem ev_eqT {p q : Addr} {xs ys : List Int} (ha : Ev ta σ H (.ref p)) (hb : Ev tb σ H (.ref q)) (hp : SqT K H p (vI xs)) (hq : SqT K H q (vI ys)) : Ev (tOp (rEqD K) ta tb) σ H (.bl (decide (xs = ys))) :=
  ev_op ha hb fun H1 e Q q' => ⟨.tuple (xs.map PyData.int), .tuple (ys.map PyData.int), .tup (ex_t e hp) (dpAll_ints xs), .tup (ex_t e hq) (dpAll_ints ys), shaped_tup xs, shaped_tup ys, by
    have e2 : PyData.eqv (.tuple (xs.map PyData.int)) (.tuple (ys.map PyData.int)) = decide (xs = ys) := by
      rw [← eqv_ints]
      simp [PyData.eqv]
    rw [e2]
    exact q' H1 (Ex.refl H1)⟩
def EvW (p l : Addr) (cells : List Int) (n : Nat) (te : TE) (σ : L2.St) (H : Hp) (R : V → Prop) : Prop := ∀ m H1, Keep p H H1 → PenAt H1 p l cells m → m + n ≤ 50000 → ∀ Q : VK, (∀ v H2, R v → PenAt H2 p l cells (m + n) → Keep p H1 H2 → Q v H2) → te σ H1 Q
theorem w_draw {i : Nat} {tb : TE} {many : Int} (hi : σ[i]? = some (some (.ref p))) (hb : ∀ H1, Keep p H H1 → Ev tb σ H1 (.int many)) (h0 : 0 < many) (h1 : many ≤ 1000000000) (h63 : cells.length ≤ 63) :
    EvW p l cells 1 (tCall spDraw [] E0 (tCons (tVar i) (tCons tb tNil))) σ H (fun v => ∃ d : Nat, v = .int (d : Int) ∧ (d : Int) < many) := fun m H1 kp hP hm Q q =>
  ⟨_, hi, hb H1 kp H1 (Ex.refl H1) _ fun H2 e2 => ⟨p, l, cells, m, many, rfl, hP.mono e2 (Nat.le_refl m), by omega, h63, h0, h1, fun d H3 d0 d1 hP3 k3 => by
    obtain ⟨n, rfl⟩ := Int.eq_ofNat_of_zero_le d0
    exact q _ H3 ⟨n, rfl, d1⟩ hP3 ((Keep.of_ex e2).trans k3)⟩⟩
theorem PenAt.upd' {H : Hp} {p l a : Addr} {cells : List Int} {m : Nat} {o : HO} (h : PenAt H p l cells m) (h1 : a ≠ p) (h2 : a ≠ l) : PenAt (upd H a o) p l cells m := by
  obtain ⟨k, r, q1, q2, q3⟩ := h
  exact ⟨k, r, by rw [upd_ne h1.symm]; exact q1, by rw [upd_ne h2.symm]; exact q2, q3⟩
theorem PenAt.le {H : Hp} {p l : Addr} {cells : List Int} {m n : Nat} (h : PenAt H p l cells m) (hm : m ≤ n) : PenAt H p l cells n := h.mono (Ex.refl H) hm
theorem Keep.mut {p a : Addr} {H H' : Hp} {o : HO} (h : Keep p H H') (ha : H a = none) : Keep p H (L2.upd H' a o) := fun b u hb hn => by
  have : b ≠ a := fun z => by rw [z, ha] at hb; cases hb
  rw [upd_ne this]
  exact h b u hb hn
theorem q_asgR {σ : L2.St} {H : Hp} {te : TE} {i : Nat} {tz : TS} {D : Ends} (h : te σ H fun x H1 => tz D (σ.set i (some x)) H1) : tSeq (tAsg te (gName i)) tz D σ H := h
theorem q_call {σ : L2.St} {H : Hp} {sp : Sp} {dvs vs : List V} {E : XK} {ta : TA} {i : Nat} {tz : TS} {D : Ends} (h : EvA ta σ H vs) (k : ∀ H1, Ex H H1 → sp (vs ++ dvs) H1 (fun v H2 => tz D (σ.set i (some v)) H2) E) :
    tSeq (tAsg (tCall sp dvs E ta) (gName i)) tz D σ H := h H (Ex.refl H) _ k
theorem lst_i {t : TA} {Q : VK} {σ : L2.St} {H : Hp} (h : t σ H fun xs H1 => xs.length ≤ sizeLine ∧ ∀ l, H1 l = none → Q (.ref l) (upd H1 l (.lst xs))) : tLst t σ H Q := h
theorem cons_i {te : TE} {tr : TA} {σ : L2.St} {H : Hp} {Q : List V → Hp → Prop} (h : te σ H fun x H1 => tr σ H1 fun xs H2 => Q (x :: xs) H2) : tCons te tr σ H Q := h
theorem op_i {r : R2} {ta tb : TE} {σ : L2.St} {H : Hp} {Q : VK} (h : ta σ H fun x H1 => tb σ H1 fun y H2 => r x y H2 Q) : tOp r ta tb σ H Q := h
theorem fnR0 {P : Program} {w : World} {K : PySem.W.Frag} {mg : Str → Option Value} {base : Heap} {CX : CXT} {k : Nat} {f : Addr} {fd : FuncData} {ps : List Str} {sp : Sp} (F : FnOk P w K mg base CX k f fd ps sp) (b : Binds K fd ps []) : FnR P w K mg base CX k f sp :=
  (F.raw b .nil).imp fun vs H Q E h => by rw [List.append_nil]; exact h
theorem c_i {x : V} {Q : VK} (h : Q x H) : tC x σ H Q := h
theorem q_par {ta : TA} {i j : Nat} {tz : TS} {D : Ends} (h : ta σ H fun vs H1 => ∃ u v, vs = [u, v] ∧ tz D ((σ.set i (some u)).set j (some v)) H1) : tSeq (tPar i j ta) tz D σ H := h
theorem etu_tuple {K : PySem.W.Frag} {te : TE} {xs : List V} (h : EvL te σ H xs) : EvTu K (tThen te (kTup K)) σ H xs := fun H1 e Q q =>
  h H1 e _ fun p H2 _ e2 h2 => .inl ⟨p, xs, rfl, sq_of h2, fun r hr => q r _ (e2.trans (Ex.new hr)) (st_of upd_same)⟩
def Gfn (P : Program) (w : World) (K : PySem.W.Frag) (mg : Str → Option Value) (base : Heap) (k : Nat) (name : Str) (ps : List Str) (sp : Sp) : Prop :=
  ∃ f fd, FnOk P w K mg base CX0 k f fd ps sp ∧ PySem.W.keepIn K (.ref f) = true ∧ Binds K fd ps [] ∧ mg name = some (.ref f)
theorem sqt_keep {q : Addr} {xs : List V} (hP : PenAt H p l cells m) (kp : Keep p H H') (h : SqT K H q xs) : SqT K H' q xs := by
  obtain ⟨_, _, hp, _⟩ := hP
  rcases h with (h | ⟨o, h⟩) | h
  · exact .inl (.inl (kp _ _ h fun z => by rw [z, hp] at h; cases h))
  · exact .inl (.inr ⟨o, kp _ _ h fun z => by rw [z, hp] at h; cases h⟩)
  · exact .inr h
theorem sql_keep {q : Addr} {xs : List Int} (hP : PenAt H p l cells m) (kp : Keep p H H') (h : SqL K H q (vI xs)) : SqL K H' q (vI xs) := by
  obtain ⟨_, _, hp, _⟩ := hP
  have no : ∀ {k r : Int}, ¬ [V.ref l, V.int k, V.int r] = vI xs := fun e => by
    cases xs with
    | nil => cases e
    | cons x xs => cases e
  rcases h with (h | ⟨o, h⟩) | h
  · exact .inl (.inl (kp _ _ h fun z => by rw [z, hp] at h; exact no (HO.lst.inj (Option.some.inj h))))
  · exact .inl (.inr ⟨o, kp _ _ h fun z => by rw [z, hp] at h; cases h⟩)
  · exact .inr h
theorem yes_i {σ : L2.St} {H : Hp} {A B : Hp → Prop} (h : A H) : tYes σ H (fun b H3 => if b = true then A H3 else B H3) := iteT (A := A H) (B := B H) h
theorem given_none {n : Nat} {v : Nat → V} : given n (fun _ => false) v = vI [] := by
  unfold given
  have f : ∀ l : List Nat, l.filter (fun _ => false) = [] := fun l => by induction l with | nil => rfl | cons a l ih => exact ih
  rw [f]
  rfl
theorem el_noneN {t : TT} {j : Nat} {xs : List V} (hl : EvL tl σ H xs) (h4 : xs.length ≤ 40000) (hw : ∀ x, wipe ((wipe σ [j]).set j (some x)) [j] = wipe σ [j])
    (ht : ∀ (i : Nat) (x : V) H1, Ex H H1 → xs[i]? = some x → EvT t ((wipe σ [j]).set j (some x)) H1 false) : EvL (tLc (iList K tl) (gName j) t (tVar j) [j]) σ H (vI []) := by
  have c := el_lcNL (K := K) (σ := σ) (H := H) (t := t) (te := tVar j) (j := j) (vs := [j]) (fun _ => false) (fun _ => V.non) hl h4 hw ht (fun i x H1 e hi hf => by cases hf)
  rw [given_none] at c
  exact c
theorem el_nil : EvL (tLst tNil) σ H (vI []) := el_lst ea_nil (by decide)
theorem eqv_lists (xs ys : List Int) : PyData.eqv (.list (xs.map PyData.int)) (.list (ys.map PyData.int)) = decide (xs = ys) := by
  have := eqv_ints xs ys
  simpa [PyData.eqv] using this
theorem ev_eqL {xs ys : List Int} (ha : EvL ta σ H (vI xs)) (hb : EvL tb σ H (vI ys)) : Ev (tOp (rEqD K) ta tb) σ H (.bl (decide (xs = ys))) := fun H1 e Q q =>
  ha H1 e _ fun p H2 _ e2 hp => hb H2 (e.trans e2) _ fun r H3 _ e3 hr => ⟨.list (xs.map PyData.int), .list (ys.map PyData.int), .lst (sq_of (e3 _ _ hp)) (dpAll_ints xs), .lst (sq_of hr) (dpAll_ints ys), shaped_ints xs, shaped_ints ys, by rw [eqv_lists]; exact q H3 (e2.trans e3)⟩
theorem eqv_tups (xs ys : List Int) : PyData.eqv (.tuple (xs.map PyData.int)) (.tuple (ys.map PyData.int)) = decide (xs = ys) := by
  have := eqv_ints xs ys
  simpa [PyData.eqv] using this
theorem ev_neTu {xs ys : List Int} (ha : EvTu K ta σ H (vI xs)) (hb : EvTu K tb σ H (vI ys)) : Ev (tOp (rNeD K) ta tb) σ H (.bl (!decide (xs = ys))) := fun H1 e Q q =>
  ha H1 e _ fun p H2 e2 hp => hb H2 (e.trans e2) _ fun r H3 e3 hr => ⟨.tuple (xs.map PyData.int), .tuple (ys.map PyData.int), .tup (ex_t e3 hp) (dpAll_ints xs), .tup hr (dpAll_ints ys), shaped_tup xs, shaped_tup ys, by rw [eqv_tups]; exact q H3 (e2.trans e3)⟩
theorem ev_eqTuG {xs ys : List Int} (ha : EvTu K ta σ H (vI xs)) (hb : EvTu K tb σ H (vI ys)) : Ev (tOp (rEqD K) ta tb) σ H (.bl (decide (xs = ys))) := fun H1 e Q q =>
  ha H1 e _ fun p H2 e2 hp => hb H2 (e.trans e2) _ fun r H3 e3 hr => ⟨.tuple (xs.map PyData.int), .tuple (ys.map PyData.int), .tup (ex_t e3 hp) (dpAll_ints xs), .tup hr (dpAll_ints ys), shaped_tup xs, shaped_tup ys, by rw [eqv_tups]; exact q H3 (e2.trans e3)⟩
theorem ev_lenL {p : Addr} {g : List Int} (h : Ev ta σ H (.ref p)) (hs : SqL K H p (vI g)) : Ev (tCB (fun xs H Q => ∃ p ys, xs = [V.ref p] ∧ (SqL K H p ys ∨ SqT K H p ys) ∧ Q (.int ys.length) H) (tCons ta tNil)) σ H (.int (g.length : Int)) := ev_is (ev_cb (ea_cons h ea_nil) (rc_lenQ (.inl hs))) (by rw [vI_len])
theorem el_listL {p : Addr} {xs : List V} (h : Ev te σ H (.ref p)) (hs : SqL K H p xs) : EvL (tCB (rListS K) (tCons te tNil)) σ H xs := fun H1 e Q q =>
  h H1 e _ fun H2 e2 => ⟨p, xs, rfl, .inl (ex_l (e.trans e2) hs), fun l hl => q l _ (fresh_back e2 hl) (e2.trans (Ex.new hl)) upd_same⟩
theorem etu_tupleP {p : Addr} {xs : List V} (h : Ev te σ H (.ref p)) (hs : SqL K H p xs) : EvTu K (tThen te (kTup K)) σ H xs := fun H1 e Q q =>
  h H1 e _ fun H2 e2 => .inl ⟨p, xs, rfl, ex_l (e.trans e2) hs, fun r hr => q r _ (e2.trans (Ex.new hr)) (st_of upd_same)⟩
theorem el_catN {xs ys : List Int} (ha : EvL ta σ H (vI xs)) (hb : EvL tb σ H (vI ys)) (hz : xs.length + ys.length ≤ 100000) : EvL (tOp rCat ta tb) σ H (vI (xs ++ ys)) := fun H1 e Q k =>
  ha H1 e _ fun p H2 _ e2 hp => hb H2 (e.trans e2) _ fun r H3 _ e3 hr => ⟨p, r, vI xs, vI ys, rfl, rfl, e3 _ _ hp, hr, by rw [vI_len, vI_len]; exact sz_of hz, fun a ha => k a _ (fresh_back (e2.trans e3) ha) ((e2.trans e3).trans (Ex.new ha)) (by rw [upd_same]; unfold vI; rw [List.map_append])⟩
theorem ev_eqLP {p : Addr} {xs ys : List Int} (ha : EvL ta σ H (vI xs)) (hb : Ev tb σ H (.ref p)) (hp : SqL K H p (vI ys)) : Ev (tOp (rEqD K) ta tb) σ H (.bl (decide (xs = ys))) := fun H1 e Q q =>
  ha H1 e _ fun r H2 _ e2 hr => hb H2 (e.trans e2) _ fun H3 e3 => ⟨.list (xs.map PyData.int), .list (ys.map PyData.int), .lst (sq_of (e3 _ _ hr)) (dpAll_ints xs), .lst (ex_l (e.trans (e2.trans e3)) hp) (dpAll_ints ys), shaped_ints xs, shaped_ints ys, by rw [eqv_lists]; exact q H3 (e2.trans e3)⟩
theorem lst_keep {p l q : Addr} {cells : List Int} {m : Nat} {H' : Hp} {xs : List Int} (hP : PenAt H p l cells m) (kp : Keep p H H') (h : H q = some (.lst (vI xs))) : H' q = some (.lst (vI xs)) := by
  obtain ⟨_, _, hp, _⟩ := hP
  have no : ∀ {k r : Int}, ¬ [V.ref l, V.int k, V.int r] = vI xs := fun {k r} e => by
    cases xs with
    | nil => cases e
    | cons x xs => cases e
  exact kp _ _ h fun z => by rw [z, hp] at h; exact no (HO.lst.inj (Option.some.inj h))
theorem tup_keep {p l q : Addr} {cells : List Int} {m : Nat} {H' : Hp} {xs : List V} (hP : PenAt H p l cells m) (kp : Keep p H H') (h : H q = some (.tup xs)) : H' q = some (.tup xs) := by
  obtain ⟨_, _, hp, _⟩ := hP
  exact kp _ _ h fun z => by rw [z, hp] at h; cases h
theorem tup_i {t : TA} {Q : VK} (h : t σ H fun xs H1 => xs.length ≤ sizeLine ∧ ∀ l, H1 l = none → Q (.ref l) (upd H1 l (.tup xs))) : tTup t σ H Q := h
theorem el_catPL {q : Addr} {xs ys : List Int} (ha : Ev ta σ H (.ref q)) (hq : H q = some (.lst (vI xs))) (hb : EvL tb σ H (vI ys)) (hz : xs.length + ys.length ≤ 100000) : EvL (tOp rCat ta tb) σ H (vI (xs ++ ys)) := fun H1 e Q k =>
  ha H1 e _ fun H2 e2 => hb H2 (e.trans e2) _ fun r H3 _ e3 hr => ⟨q, r, vI xs, vI ys, rfl, rfl, (e.trans (e2.trans e3)) _ _ hq, hr, by rw [vI_len, vI_len]; exact sz_of hz, fun a ha => k a _ (fresh_back (e2.trans e3) ha) ((e2.trans e3).trans (Ex.new ha)) (by rw [upd_same]; unfold vI; rw [List.map_append])⟩
theorem etu_fld {o p C dx : Addr} {fs : List (Str × V)} {f : Str} {xs : List V} (ha : Ev ta σ H (.ref o)) (ho : H o = some (.ins C dx fs)) (c : Cls K C) (n : NoAttr K C f) (hf : fs.lookup f = some (.ref p)) (hp : SqT K H p xs) : EvTu K (tFld K ta f) σ H xs := fun H1 e Q q =>
  ev_fld ha ho c n hf H1 e _ fun H2 e2 => q p H2 e2 (ex_t (e.trans e2) hp)
theorem ev_nePP {p q : Addr} {xs ys : List Int} (ha : Ev ta σ H (.ref p)) (hp : SqL K H p (vI xs)) (hb : Ev tb σ H (.ref q)) (hq : SqL K H q (vI ys)) : Ev (tOp (rNeD K) ta tb) σ H (.bl (!decide (xs = ys))) := fun H1 e Q k =>
  ha H1 e _ fun H2 e2 => hb H2 (e.trans e2) _ fun H3 e3 => ⟨.list (xs.map PyData.int), .list (ys.map PyData.int), .lst (ex_l (e.trans (e2.trans e3)) hp) (dpAll_ints xs), .lst (ex_l (e.trans (e2.trans e3)) hq) (dpAll_ints ys), shaped_ints xs, shaped_ints ys, by rw [eqv_lists]; exact k H3 (e2.trans e3)⟩
theorem etu_var {i : Nat} {p : Addr} {xs : List V} (h0 : σ[i]? = some (some (.ref p))) (hs : SqT K H p xs) : EvTu K (tVar i) σ H xs := fun H1 e Q q => ⟨_, h0, q p H1 (Ex.refl H1) (ex_t e hs)⟩
theorem sqt_updL {q Dl : Addr} {xs ys : List V} {u : HO} (s : SqT K H q ys) (hD : H Dl = some (.lst xs)) : SqT K (upd H Dl u) q ys := by
  rcases s with (s | ⟨w, s⟩) | s
  · exact .inl (.inl (by rw [upd_ne (fun e => by rw [e, hD] at s; cases s)]; exact s))
  · exact .inl (.inr ⟨w, by rw [upd_ne (fun e => by rw [e, hD] at s; cases s)]; exact s⟩)
  · exact .inr s
theorem etu_nil : EvTu K (tTup tNil) σ H (vI []) := fun H1 e Q q => ⟨by show 0 ≤ sizeLine; decide, fun p hp => q p _ (Ex.new hp) (st_of upd_same)⟩
theorem for_i {tl : TE} {g : TG} {tu tz : TS} {D : Ends} (h : tl σ H fun x H1 => ∃ a, x = .ref a ∧ (∃ xs, SqL K H1 a xs) ∧ tFor (fun _ _ R => R (Itl K a) H1) g tu { D with nx := tz D } σ H1) : tSeq (tFor (iList K tl) g tu) tz D σ H := h
theorem s_retR {D : Ends} (h : te σ H D.rt) : tRet te D σ H := h
theorem ev_lenT {p : Addr} {g : List Int} (h : Ev ta σ H (.ref p)) (hs : SqT K H p (vI g)) : Ev (tCB (fun xs H Q => ∃ p ys, xs = [V.ref p] ∧ (SqL K H p ys ∨ SqT K H p ys) ∧ Q (.int ys.length) H) (tCons ta tNil)) σ H (.int (g.length : Int)) := ev_is (ev_cb (ea_cons h ea_nil) (rc_lenQ (.inr hs))) (by rw [vI_len])
theorem etu_disp {t : TA} {xs : List V} (h : EvA t σ H xs) (hl : xs.length ≤ 100000) : EvTu K (tTup t) σ H xs := fun H1 e Q q => eu_tup h hl H1 e _ fun p H2 _ e2 h2 => q p H2 e2 (st_of h2)
end
end K17
namespace L2
open PySem PySem.Spec PyProof.Rows
/-! ### set(xs), xs a list of ints -/
namespace SL
/-- a set as it is laid, without members -/
abbrev bare (w : World) : Obj := { cls := .type "set", dict := none, data := .set #[] 0 (.fresh 0 0 (!w.params.followText "set-order")) }
section
variable {P : Program} {w : World} {A : Around} {E : Value → Shared → Prop} {s : Shared}
/-- what the filling leaves: a set of these ints at the place, all else as it was -/
def Filled (w : World) (s : Shared) (ns : List Int) (s2 : Shared) : Prop :=
  ∃ hp tk c, s2 = { s with heap := hp, toks := tk } ∧ SetR w hp s.heap.objs.size (fun j => decide (j ∈ ns)) c ∧ c ≤ ns.length ∧ ∀ b u, s.heap.get? b = some u → hp.get? b = some u
theorem bare_at : (s.heap.push (bare w)).get? s.heap.objs.size = some (bare w) := Heap.get?_push_size _ rfl
/-- the loop over the list's iterator, which lies behind the set -/
theorem fill_loop {l : Addr} {its : Array Value} {ns : List Int} (quiet : A.in1.handled = none) (here : s.heap.IsList l its) (are : IntsAre its.toList ns) (few : ns.length + 1 < scanBound) {R : Result → Shared → Prop}
    (out : ∀ s2, Filled w s ns s2 → R (.ok (.ret .none)) s2) :
    codeAny (model P w) A (.builtin "set.update.loop" ⟨[.ref s.heap.objs.size, .ref (s.heap.objs.size + 1)], []⟩) R
      { s with heap := (s.heap.push (bare w)).push { cls := .type "list_iterator", data := .fields #[.ref l, .int 0 0] } } := by
  have low : l < s.heap.objs.size := by
    obtain ⟨u, hu, _⟩ := here
    exact Heap.lt_size hu
  have many : its.size = ns.length := (Array.length_toList ..).symm.trans are.length
  have wide : (s.heap.push (bare w)).objs.size = s.heap.objs.size + 1 := Heap.size_push ..
  have far : l ≠ s.heap.objs.size + 1 := Nat.ne_of_lt (Nat.lt_succ_of_lt low)
  have apart : s.heap.objs.size ∉ [s.heap.objs.size + 1, l] := by
    intro z
    rcases List.mem_cons.mp z with z | z
    · exact absurd z (Nat.ne_of_lt (Nat.lt_succ_self _))
    · exact absurd (List.mem_singleton.mp z) (Nat.ne_of_gt low)
  have tells : ∀ (i : Nat) (v : Value), its[i]? = some v → ∃ k t, ns[i]? = some k ∧ v = .int k t := by
    intro i v hv
    have lt : i < ns.length := many ▸ (Array.getElem?_eq_some_iff.mp hv).1
    obtain ⟨t, e⟩ := are.int_at i v (by rw [Array.getElem?_toList, hv])
    refine ⟨ns[i], t, List.getElem?_eq_getElem lt, e.trans ?_⟩
    rw [List.getD_eq_getElem?_getD, List.getElem?_eq_getElem lt]
    rfl
  have old : ∀ b u, s.heap.get? b = some u → ((s.heap.push (bare w)).push { cls := .type "list_iterator", data := .fields #[.ref l, .int 0 0] }).get? b = some u := fun b u e => Heap.get?_push_of_some _ (Heap.get?_push_of_some _ e)
  have W := (Walks.list (prog := P) (w := w) quiet (s.heap.objs.size + 1) l far its).toS
  have listed : ((s.heap.push (bare w)).push { cls := .type "list_iterator", data := .fields #[.ref l, .int 0 0] }).IsList l its := (here.push _).push _
  have iter : ((s.heap.push (bare w)).push { cls := .type "list_iterator", data := .fields #[.ref l, .int 0 0] }).get? (s.heap.objs.size + 1) = some { cls := .type "list_iterator", data := .fields #[.ref l, .int 0 0] } := by
    rw [← wide]
    exact Heap.get?_push_size _ rfl
  refine set_update_ints W s.heap.objs.size apart ns many few tells its.size 0 _ rfl (Nat.zero_le _) ⟨⟨_, iter, rfl, rfl⟩, listed⟩ ⟨0, Nat.le_refl 0, setR_new_at (Heap.get?_push_of_some _ bare_at)⟩ ?_
  intro s2 c moved le R2
  rw [many] at le
  refine out s2 ⟨s2.heap, s2.toks, c, ?_, R2, le, fun b u e => moved.heap b u (fun z => ?_) (old b u e)⟩
  · have a1 := moved.gens
    have a2 := moved.drawn
    have a3 := moved.os
    obtain ⟨hp, gs, dr, tk, os⟩ := s2
    obtain ⟨hp', gs', dr', tk', os'⟩ := s
    simp only at a1 a2 a3
    subst a1 a2 a3
    rfl
  · have lt := Heap.lt_size e
    rcases List.mem_cons.mp z with z | z
    · exact absurd z (Nat.ne_of_lt lt)
    · exact absurd (List.mem_singleton.mp z) (Nat.ne_of_lt (Nat.lt_succ_of_lt lt))
/-- set.__init__(a new set, a list) -/
theorem fill {l : Addr} {its : Array Value} {ns : List Int} (quiet : A.handled = none) (here : s.heap.IsList l its) (are : IntsAre its.toList ns) (few : ns.length + 1 < scanBound) {B : Around} {R : Result → Shared → Prop}
    (out : ∀ s2, Filled w s ns s2 → R (.ok (.ret .none)) s2) :
    wpAny (model P w) A (Builtin.«set.__init__» ⟨[.ref s.heap.objs.size, .ref l], []⟩) (fun fin s2 => match fin with | .done f => R (.ok f) s2 | .again c => c.quiet = true ∧ codeAny (model P w) B c R s2) E { s with heap := s.heap.push (bare w) } := by
  have listed : (s.heap.push (bare w)).IsList l its := here.push _
  obtain ⟨u, hu, hc, k, hd⟩ := listed
  obtain ⟨ucls, udict, udata, uslots⟩ := u
  simp only at hc hd
  subst hc hd
  have notSet := F.sub_list_set
  have notFrozen := F.sub_list_frozenset
  have notDict : (Value.type "list" == Value.type "dict") = false := by decide
  have place := bare_at (w := w) (s := s)
  unfold Builtin.«set.__init__» noKeywords Builtin.Frozenset.updateFrom
  generalize iter : pyIter = walk
  wp_walk
  subst iter
  refine wpAny_pyIter_list (here.push _) ?_
  refine wpAny_bind (wpAny_runValue ?_)
  have wide : (s.heap.push (bare w)).objs.size = s.heap.objs.size + 1 := Heap.size_push ..
  rw [wide]
  refine fill_loop (by simp [quiet]) here are few fun s2 filled => ?_
  refine wpAny_pure ?_
  exact wpAny_pure (out s2 filled)
/-- set(xs) -/
theorem made {l : Addr} {its : Array Value} {ns : List Int} {Q : Value → Shared → Prop} (quiet : A.handled = none) (here : s.heap.IsList l its) (are : IntsAre its.toList ns) (few : ns.length + 1 < scanBound)
    (out : ∀ s2, Filled w s ns s2 → Q (.ref s.heap.objs.size) s2) : wpAny (model P w) A (call (.type "set") [.ref l]) Q E s := by
  have known := F.called_set
  obtain ⟨top, rest, order⟩ := known.mro
  have m1 := known.made
  have m2 := known.sub
  have m3 := known.notType
  have m4 := known.canCreate
  have m5 := F.typeCall_set_1 (.ref l)
  refine wpAny_call (codeAny_of_tree ?_)
  show wpAny _ _ (callAny (.type "set") ⟨[.ref l], []⟩) _ _ _
  refine wpAny_pure ⟨Code.quiet_builtin _ (by decide +kernel), codeAny_builtin F.entry_type_call ?_⟩
  rw [Around.under_plain (weight_type_call_type "set" [.ref l] []) rfl]
  repeat (any_goals (first | assumption | wp_step))
  refine codeAny_mono (code_set_led1 (.ref l) (E := E) (Q₁ := fun v s1 => v = .ref s.heap.objs.size ∧ s1 = { s with heap := s.heap.push (bare w) }) ⟨rfl, rfl⟩) ?_
  rintro (e | f) s1 h1
  · exact h1
  cases f with
  | ret v =>
    obtain ⟨rfl, rfl⟩ := h1
    have place := bare_at (w := w) (s := s)
    have kind : Shared.TypeIs { s with heap := s.heap.push (bare w) } (.ref s.heap.objs.size) "set" := ⟨_, place, rfl⟩
    have n1 := known.init.lookup
    have n2 := known.init.bind (.ref s.heap.objs.size)
    repeat (any_goals (first | assumption | wp_step))
    refine codeAny_mono (codeAny_call_builtin (R := wants (fun v s2 => v = .none ∧ Filled w s ns s2) E) known.init.plain F.entry_set_init (check_set_init_1 kind (fill (by simp [quiet]) here are few fun s2 z => ⟨rfl, z⟩))) ?_
    rintro (e | f) s2 h2
    · exact h2
    cases f with
    | ret v =>
      obtain ⟨rfl, z⟩ := h2
      repeat (any_goals (first | assumption | wp_step))
      exact out s2 z
    | _ => exact h2.elim
  | _ => exact h1.elim
end
end SL
section
variable {X : Cx}
/-- set(xs), xs a list of ints -/
def rSetI (K : PySem.W.Frag) (w : World) : List V → Hp → VK → Prop := fun xs H Q => ∃ (l : Addr) (ns : List Int), xs = [V.ref l] ∧ SqL K H l (ns.map V.int) ∧ ns.length < 1000 ∧
  ∀ a c, H a = none → c ≤ ns.length → Q (.ref a) (upd H a (SetO w a (fun j => decide (j ∈ ns)) c))
theorem cr_setI (hc : X.calm = true) : CallR X (.type "set") (rSetI X.K X.w) := by
  intro pins s σ H xs us Q I r h
  obtain ⟨l, ns, rfl, hl, hz, q⟩ := h
  rw [Vals.ref1 r]
  obtain ⟨its, rv, here, _⟩ := I.list hl
  have new : H s.heap.objs.size = none := I.hok.fresh (Nat.le_refl _)
  refine SL.made (I.ok.hd hc) here.isList (ns := ns) (by simpa using rv.ints) (by unfold scanBound; omega) fun s2 z => ?_
  obtain ⟨hp, tk, c, rfl, R, le, keeps⟩ := z
  exact ⟨.ref s.heap.objs.size, upd H s.heap.objs.size (SetO X.w s.heap.objs.size (fun j => decide (j ∈ ns)) c), I.laid (t' := tk) keeps (Nat.le_refl _) (setO_new R), rfl, q _ c new le⟩
/-! ### any(xs), xs a list of ints -/
def rAnyI (K : PySem.W.Frag) : List V → Hp → VK → Prop := fun vs H Q => ∃ (a : Addr) (ns : List Int), vs = [V.ref a] ∧ SqL K H a (ns.map V.int) ∧ Q (.bl (ns.any fun i => i != 0)) H
theorem cr_anyI (hc : X.calm = true) : CallR X (.builtin "any") (rAnyI X.K) := by
  intro pins s σ H vs us Q I r h
  obtain ⟨a, ns, rfl, hs, q⟩ := h
  obtain ⟨its, rv, here, _⟩ := I.list hs
  rw [Vals.ref1 r]
  have are : IntsAre its ns := by simpa using rv.ints
  have tr : TruthOf X.prog X.w X.A.in1 (fun i v => its.toArray[i]? = some v) (fun i => ns.getD i 0 != 0) := fun i v s2 Q2 E2 hv q2 => by
    obtain ⟨t, e⟩ := are.int_at i v (by simpa using hv)
    subst e
    exact PyProof.Rows.truthy_int q2
  refine call_any_walk (iter_any here.isList fun s2 e st ne => ?_)
  subst e
  refine ⟨_, _, _, _, _, _, _, rfl, Walks.list (A := X.A.in1) (I.ok.hd hc) _ a ne its.toArray, st, tr, fun h2 tk keeps => ?_⟩
  have same : (List.range its.toArray.size).any (fun i => ns.getD i 0 != 0) = ns.any fun i => i != 0 := by
    have : its.toArray.size = ns.length := by rw [List.size_toArray]; exact are.length
    rw [this, Bool.eq_iff_iff, List.any_eq_true, List.any_eq_true]
    constructor
    · rintro ⟨i, hi, z⟩
      have lt := List.mem_range.mp hi
      refine ⟨ns[i], List.getElem_mem lt, ?_⟩
      rwa [List.getD_eq_getElem?_getD, List.getElem?_eq_getElem lt] at z
    · rintro ⟨x, hx, z⟩
      obtain ⟨i, lt, e⟩ := List.mem_iff_getElem.mp hx
      refine ⟨i, List.mem_range.mpr lt, ?_⟩
      rw [List.getD_eq_getElem?_getD, List.getElem?_eq_getElem lt, e]
      exact z
  rw [same]
  refine ⟨.bl _, H, I.kept fun b u eu => keeps b u (fun z => ?_) (Heap.get?_push_of_some _ eu), rfl, q⟩
  exact absurd (List.mem_singleton.mp z) (Nat.ne_of_lt (Heap.lt_size eu))
end
end L2
namespace K17
/-! ### spans of whole numbers by xor -/
def Spn : List Nat → Nat → Prop
  | [], x => x = 0
  | v :: vs, x => Spn vs x ∨ Spn vs (x ^^^ v)
def Lin (P : Nat → Prop) : Prop := P 0 ∧ ∀ x y, P x → P y → P (x ^^^ y)
theorem xx_cancel (x v : Nat) : x ^^^ v ^^^ v = x := by rw [Nat.xor_assoc, Nat.xor_self, Nat.xor_zero]
theorem x_swap (x y v : Nat) : x ^^^ y ^^^ v = x ^^^ v ^^^ y := by rw [Nat.xor_assoc, Nat.xor_comm y v, ← Nat.xor_assoc]
theorem sp_zero : ∀ vs, Spn vs 0
  | [] => rfl
  | _ :: vs => .inl (sp_zero vs)
theorem sp_xor : ∀ vs x y, Spn vs x → Spn vs y → Spn vs (x ^^^ y)
  | [], x, y, hx, hy => by cases hx; cases hy; rfl
  | v :: vs, x, y, hx, hy => by
    rcases hx with hx | hx <;> rcases hy with hy | hy
    · exact .inl (sp_xor vs x y hx hy)
    · exact .inr (by rw [Nat.xor_assoc]; exact sp_xor vs x _ hx hy)
    · exact .inr (by rw [x_swap]; exact sp_xor vs _ y hx hy)
    · exact .inl (by
        have h := sp_xor vs _ _ hx hy
        rwa [← Nat.xor_assoc, x_swap x v y, xx_cancel] at h)
theorem sp_lin (vs : List Nat) : Lin (Spn vs) := ⟨sp_zero vs, sp_xor vs⟩
theorem sp_mem : ∀ {vs : List Nat} {v : Nat}, v ∈ vs → Spn vs v
  | u :: vs, v, h => by
    rcases List.mem_cons.mp h with e | h
    · subst e
      exact .inr (by rw [Nat.xor_self]; exact sp_zero vs)
    · exact .inl (sp_mem h)
theorem sp_least {P : Nat → Prop} (L : Lin P) : ∀ {vs : List Nat} {x : Nat}, (∀ v ∈ vs, P v) → Spn vs x → P x
  | [], x, _, h => by cases h; exact L.1
  | v :: vs, x, hv, h => by
    rcases h with h | h
    · exact sp_least L (fun u hu => hv u (List.mem_cons_of_mem _ hu)) h
    · have h1 := L.2 _ _ (sp_least L (fun u hu => hv u (List.mem_cons_of_mem _ hu)) h) (hv v List.mem_cons_self)
      rwa [xx_cancel] at h1
theorem sp_sub {vs ws : List Nat} (h : ∀ v ∈ vs, Spn ws v) {x : Nat} (hx : Spn vs x) : Spn ws x := sp_least (sp_lin ws) h hx
theorem sp_lt {n : Nat} {vs : List Nat} (h : ∀ v ∈ vs, v < 2 ^ n) {x : Nat} (hx : Spn vs x) : x < 2 ^ n :=
  sp_least (P := fun x => x < 2 ^ n) ⟨Nat.two_pow_pos n, fun _ _ => Nat.xor_lt_two_pow⟩ h hx
theorem sp_snoc (l : List Nat) (v x : Nat) : Spn (l ++ [v]) x ↔ Spn l x ∨ Spn l (x ^^^ v) := by
  have e1 : ∀ y, Spn (v :: l) y → Spn (l ++ [v]) y := fun y => sp_sub fun u hu => sp_mem (by simpa [or_comm] using hu)
  have e2 : ∀ y, Spn (l ++ [v]) y → Spn (v :: l) y := fun y => sp_sub fun u hu => sp_mem (by simpa [or_comm] using hu)
  exact ⟨e2 x, e1 x⟩
/-! ### reduced rows -/
structure Red (B : List Nat) : Prop where
  desc : B.Pairwise (· > ·)
  pos : ∀ b ∈ B, b ≠ 0
  red : ∀ b ∈ B, ∀ c ∈ B, b ≠ c → c.testBit b.log2 = false
theorem top_on {b : Nat} (h : b ≠ 0) : b.testBit b.log2 = true := Nat.testBit_log2 h
theorem Red.tops {B : List Nat} (R : Red B) {b c : Nat} (hb : b ∈ B) (hc : c ∈ B) (h : b.log2 = c.log2) : b = c := by
  refine Classical.byContradiction fun n => ?_
  have h1 := R.red b hb c hc n
  rw [h, top_on (R.pos c hc)] at h1
  cases h1
theorem xor_ne {x y : Nat} (h : x ≠ y) : x ^^^ y ≠ 0 := fun e => h (by
  have h1 := xx_cancel x y
  rw [e, Nat.zero_xor] at h1
  exact h1.symm)
theorem log2_of {x t : Nat} (h1 : x.testBit t = true) (h2 : x < 2 ^ (t + 1)) : x.log2 = t := by
  have h3 : 2 ^ t ≤ x := Nat.ge_two_pow_of_testBit h1
  have h0 : x ≠ 0 := by
    intro e
    subst e
    simp at h1
  exact (Nat.log2_eq_iff h0).mpr ⟨h3, h2⟩
/-- the top of what lies in the span is the top of a row -/
theorem red_top : ∀ {B : List Nat}, Red B → ∀ {y : Nat}, Spn B y → y ≠ 0 → ∃ b ∈ B, b.log2 = y.log2
  | [], _, y, h, h0 => absurd h h0
  | b :: B, R, y, h, h0 => by
    have R' : Red B := ⟨(List.pairwise_cons.mp R.desc).2, fun c hc => R.pos c (List.mem_cons_of_mem _ hc), fun c hc d hd => R.red c (List.mem_cons_of_mem _ hc) d (List.mem_cons_of_mem _ hd)⟩
    rcases h with h | h
    · obtain ⟨c, hc, e⟩ := red_top R' h h0
      exact ⟨c, List.mem_cons_of_mem _ hc, e⟩
    · refine ⟨b, List.mem_cons_self, ?_⟩
      have hb0 : b ≠ 0 := R.pos b List.mem_cons_self
      by_cases z : y = b
      · rw [z]
      · obtain ⟨c, hc, e⟩ := red_top R' h (xor_ne z)
        have hcb : c < b := (List.pairwise_cons.mp R.desc).1 c hc
        have hne : b.log2 ≠ c.log2 := fun e' => Nat.lt_irrefl _ (by
          have := R.tops List.mem_cons_self (List.mem_cons_of_mem _ hc) e'
          rw [this] at hcb
          exact hcb)
        have hc0 : c ≠ 0 := R'.pos c hc
        have hlt : c.log2 < b.log2 := by
          have : c.log2 ≤ b.log2 := (Nat.le_log2 hb0).mpr (Nat.le_trans (Nat.log2_self_le hc0) (Nat.le_of_lt hcb))
          omega
        have hz : y ^^^ b < 2 ^ b.log2 := by
          have : y ^^^ b < 2 ^ ((y ^^^ b).log2 + 1) := Nat.lt_log2_self
          refine Nat.lt_of_lt_of_le this (Nat.pow_le_pow_right (by decide) ?_)
          omega
        have hy : y = (y ^^^ b) ^^^ b := (xx_cancel y b).symm
        have hbit : y.testBit b.log2 = true := by
          rw [hy, Nat.testBit_xor, Nat.testBit_lt_two_pow hz, top_on hb0]
          rfl
        have hlt2 : y < 2 ^ (b.log2 + 1) := by
          rw [hy]
          exact Nat.xor_lt_two_pow (Nat.lt_trans hz (Nat.pow_lt_pow_right (by decide) (by omega))) Nat.lt_log2_self
        exact (log2_of hbit hlt2).symm
theorem red_sub {B D : List Nat} (R : Red B) (S : Red D) (h : ∀ x, Spn B x ↔ Spn D x) {x : Nat} (hx : x ∈ B) : x ∈ D := by
  obtain ⟨d, hd, e⟩ := red_top S ((h x).mp (sp_mem hx)) (R.pos x hx)
  by_cases z : x = d
  · rw [z]; exact hd
  · exfalso
    have hs : Spn B (x ^^^ d) := sp_xor B _ _ (sp_mem hx) ((h d).mpr (sp_mem hd))
    obtain ⟨b, hb, e2⟩ := red_top R hs (xor_ne z)
    have ht := top_on (xor_ne z)
    rw [← e2, Nat.testBit_xor] at ht
    by_cases zb : b = x
    · rw [zb, top_on (R.pos x hx), ← e, top_on (S.pos d hd)] at ht
      cases ht
    · rw [R.red b hb x hx zb] at ht
      obtain ⟨f, hf, e3⟩ := red_top S ((h b).mp (sp_mem hb)) (R.pos b hb)
      by_cases zf : f = d
      · have : b.log2 = x.log2 := by rw [← e3, zf, e]
        exact zb (R.tops hb hx this)
      · rw [← e3, S.red f hf d hd zf] at ht
        cases ht
theorem desc_ext {B D : List Nat} (hb : B.Pairwise (· > ·)) (hd : D.Pairwise (· > ·)) (h : ∀ x, x ∈ B ↔ x ∈ D) : B = D := by
  have n1 : B.Nodup := hb.imp fun h => Nat.ne_of_gt h
  have n2 : D.Nodup := hd.imp fun h => Nat.ne_of_gt h
  exact List.Perm.eq_of_pairwise (le := (· > ·)) (fun a b _ _ h1 h2 => by omega) hb hd ((List.perm_ext_iff_of_nodup n1 n2).mpr h)
theorem asc_ext {B D : List Nat} (hb : B.Pairwise (· < ·)) (hd : D.Pairwise (· < ·)) (h : ∀ x, x ∈ B ↔ x ∈ D) : B = D := by
  have n1 : B.Nodup := hb.imp fun h => Nat.ne_of_lt h
  have n2 : D.Nodup := hd.imp fun h => Nat.ne_of_lt h
  exact List.Perm.eq_of_pairwise (le := (· < ·)) (fun a b _ _ h1 h2 => by omega) hb hd ((List.perm_ext_iff_of_nodup n1 n2).mpr h)
theorem red_unique {B D : List Nat} (R : Red B) (S : Red D) (h : ∀ x, Spn B x ↔ Spn D x) : B = D :=
  desc_ext R.desc S.desc fun _ => ⟨red_sub R S h, red_sub S R fun x => (h x).symm⟩
/-! ### one row more -/
def low (x r : Nat) : Nat := if x ^^^ r < x then x ^^^ r else x
theorem low_or (x r : Nat) : low x r = x ∨ low x r = x ^^^ r := by
  unfold low
  split
  · exact .inr rfl
  · exact .inl rfl
theorem low_le (x r : Nat) : low x r ≤ x := by
  unfold low
  split <;> omega
theorem low_lt {x r n : Nat} (h : x < n) : low x r < n := Nat.lt_of_le_of_lt (low_le x r) h
theorem low_bit {x r : Nat} (h0 : r ≠ 0) : (low x r).testBit r.log2 = false := by
  -- by the numbers above the top
  have hs : (x ^^^ r) >>> r.log2 = (x >>> r.log2) ^^^ 1 := by
    rw [Nat.shiftRight_xor_distrib]
    congr 1
    rw [Nat.shiftRight_eq_div_pow]
    have h1 := Nat.log2_self_le h0
    have h2 : r < 2 ^ (r.log2 + 1) := Nat.lt_log2_self
    rw [Nat.pow_succ] at h2
    exact Nat.div_eq_of_lt_le (by omega) (by omega)
  have hb : ∀ y : Nat, y.testBit r.log2 = decide ((y >>> r.log2) % 2 = 1) := fun y => by
    rw [Nat.shiftRight_eq_div_pow, Nat.testBit_eq_decide_div_mod_eq]
  have hx1 : ∀ q : Nat, q ^^^ 1 = if q % 2 = 1 then q - 1 else q + 1 := fun q => by
    refine Nat.eq_of_testBit_eq fun i => ?_
    rw [Nat.testBit_xor]
    cases i with
    | zero =>
      rw [Nat.testBit_zero, Nat.testBit_zero, Nat.testBit_zero]
      have h1 : (decide (1 % 2 = 1)) = true := rfl
      rw [h1]
      by_cases z : q % 2 = 1
      · rw [if_pos z, decide_eq_true z, decide_eq_false (show ¬ (q - 1) % 2 = 1 by omega)]; rfl
      · rw [if_neg z, decide_eq_false z, decide_eq_true (show (q + 1) % 2 = 1 by omega)]; rfl
    | succ i =>
      rw [Nat.testBit_succ, Nat.testBit_succ, Nat.testBit_succ]
      have : (1 : Nat) / 2 = 0 := rfl
      rw [this, Nat.zero_testBit]
      have e : (if q % 2 = 1 then q - 1 else q + 1) / 2 = q / 2 := by split <;> omega
      rw [e]
      simp
  unfold low
  by_cases z : (x >>> r.log2) % 2 = 1
  · have hlt : x ^^^ r < x := by
      refine Classical.byContradiction fun n => ?_
      have h1 : x >>> r.log2 ≤ (x ^^^ r) >>> r.log2 := by
        rw [Nat.shiftRight_eq_div_pow, Nat.shiftRight_eq_div_pow]
        exact Nat.div_le_div_right (by omega)
      rw [hs, hx1, if_pos z] at h1
      revert z h1
      generalize x >>> r.log2 = q
      intro z h1
      omega
    rw [if_pos hlt, hb, hs, hx1, if_pos z]
    refine decide_eq_false ?_
    revert z
    generalize x >>> r.log2 = q
    intro z
    omega
  · have hlt : ¬ x ^^^ r < x := fun n => by
      have h1 : (x ^^^ r) >>> r.log2 ≤ x >>> r.log2 := by
        rw [Nat.shiftRight_eq_div_pow, Nat.shiftRight_eq_div_pow]
        exact Nat.div_le_div_right (by omega)
      rw [hs, hx1, if_neg z] at h1
      exact Nat.not_succ_le_self _ h1
    rw [if_neg hlt, hb]
    exact decide_eq_false z
def red (B : List Nat) (v : Nat) : Nat := B.foldl low v
theorem low_keeps {x r i : Nat} (hx : x.testBit i = false) (hr : r.testBit i = false) : (low x r).testBit i = false := by
  rcases low_or x r with e | e
  · rw [e, hx]
  · rw [e, Nat.testBit_xor, hx, hr]; rfl
theorem red_lt : ∀ (B : List Nat) {v n : Nat}, v < n → red B v < n
  | [], _, _, h => h
  | r :: B, v, n, h => red_lt B (low_lt (r := r) h)
theorem red_keeps : ∀ (B : List Nat) (v i : Nat), v.testBit i = false → (∀ b ∈ B, b.testBit i = false) → (red B v).testBit i = false
  | [], _, _, h, _ => h
  | r :: B, v, i, h, hb => red_keeps B (low v r) i (low_keeps h (hb r List.mem_cons_self)) fun b h => hb b (List.mem_cons_of_mem _ h)
theorem red_sp : ∀ (B : List Nat) (v : Nat), Spn B (v ^^^ red B v)
  | [], v => Nat.xor_self v
  | r :: B, v => by
    have h := red_sp B (low v r)
    rcases low_or v r with e | e
    · refine .inl ?_
      show Spn B (v ^^^ red B (low v r))
      rw [e] at h ⊢
      exact h
    · refine .inr ?_
      show Spn B (v ^^^ red B (low v r) ^^^ r)
      rw [e] at h ⊢
      rwa [x_swap]
theorem red_clear : ∀ {B : List Nat}, Red B → ∀ (v : Nat), ∀ b ∈ B, (red B v).testBit b.log2 = false
  | [], _, _, b, h => absurd h (by simp)
  | r :: B, R, v, b, h => by
    have R' : Red B := ⟨(List.pairwise_cons.mp R.desc).2, fun c hc => R.pos c (List.mem_cons_of_mem _ hc), fun c hc d hd => R.red c (List.mem_cons_of_mem _ hc) d (List.mem_cons_of_mem _ hd)⟩
    rcases List.mem_cons.mp h with e | h
    · subst e
      refine red_keeps B _ _ (low_bit (R.pos b List.mem_cons_self)) fun c hc => R.red b List.mem_cons_self c (List.mem_cons_of_mem _ hc) fun e => ?_
      have := (List.pairwise_cons.mp R.desc).1 c hc
      omega
    · exact red_clear R' _ b h
theorem red_new {B : List Nat} (R : Red B) {r : Nat} (h0 : r ≠ 0) (hr : ∀ b ∈ B, r.testBit b.log2 = false) {D : List Nat} (hp : D.Perm (r :: B.map (low · r))) (hd : D.Pairwise (· ≥ ·)) :
    Red D ∧ ∀ x, Spn D x ↔ Spn (r :: B) x := by
  have hm : ∀ x, x ∈ D ↔ x = r ∨ ∃ b ∈ B, low b r = x := fun x => by
    rw [hp.mem_iff, List.mem_cons, List.mem_map]
  have hbit : ∀ b ∈ B, (low b r).testBit b.log2 = true := fun b hb => by
    rcases low_or b r with e | e
    · rw [e, top_on (R.pos b hb)]
    · rw [e, Nat.testBit_xor, hr b hb, top_on (R.pos b hb)]; rfl
  have hoff : ∀ b ∈ B, ∀ c ∈ B, b ≠ c → (low c r).testBit b.log2 = false := fun b hb c hc n => low_keeps (R.red b hb c hc n) (hr b hb)
  have hlog : ∀ b ∈ B, (low b r).log2 = b.log2 := fun b hb => log2_of (hbit b hb) (Nat.lt_of_le_of_lt (low_le b r) Nat.lt_log2_self)
  have nd : D.Nodup := by
    rw [hp.nodup_iff, List.nodup_cons]
    constructor
    · intro h
      obtain ⟨b, hb, e⟩ := List.mem_map.mp h
      have h1 := hr b hb
      rw [← e, hbit b hb] at h1
      cases h1
    · have nb : B.Nodup := R.desc.imp fun h => Nat.ne_of_gt h
      rw [List.Nodup, List.pairwise_map]
      refine List.Pairwise.imp_of_mem ?_ nb
      intro a b ha hb n e
      have h1 := hoff a ha b hb n
      rw [← e, hbit a ha] at h1
      cases h1
  refine ⟨⟨?_, ?_, ?_⟩, fun x => ⟨fun h => ?_, fun h => ?_⟩⟩
  · have : D.Pairwise fun a b => a ≥ b ∧ a ≠ b := hd.and nd
    exact this.imp fun h => by omega
  · intro x hx
    rcases (hm x).mp hx with e | ⟨b, hb, e⟩
    · rw [e]; exact h0
    · intro z
      have h1 := hbit b hb
      rw [e, z] at h1
      simp at h1
  · intro x hx y hy n
    rcases (hm x).mp hx with e | ⟨b, hb, e⟩ <;> rcases (hm y).mp hy with e' | ⟨c, hc, e'⟩
    · exact absurd (e.trans e'.symm) n
    · rw [e, ← e']; exact low_bit h0
    · rw [e', ← e, hlog b hb]; exact hr b hb
    · rw [← e, ← e', hlog b hb]
      exact hoff b hb c hc fun z => n (by rw [← e, ← e', z])
  · refine sp_sub (fun v hv => ?_) h
    rcases (hm v).mp hv with e | ⟨b, hb, e⟩
    · rw [e]; exact sp_mem List.mem_cons_self
    · rw [← e]
      rcases low_or b r with z | z
      · rw [z]; exact sp_mem (List.mem_cons_of_mem _ hb)
      · rw [z]; exact sp_xor _ _ _ (sp_mem (List.mem_cons_of_mem _ hb)) (sp_mem List.mem_cons_self)
  · refine sp_sub (fun v hv => ?_) h
    have hrD : Spn D r := sp_mem ((hm r).mpr (.inl rfl))
    rcases List.mem_cons.mp hv with e | hb
    · rw [e]; exact hrD
    · have h1 : Spn D (low v r) := sp_mem ((hm _).mpr (.inr ⟨v, hb, rfl⟩))
      rcases low_or v r with z | z
      · rwa [z] at h1
      · rw [z] at h1
        have h2 := sp_xor _ _ _ h1 hrD
        rwa [xx_cancel] at h2
theorem red_nil : Red [] := ⟨List.Pairwise.nil, fun _ h => absurd h (by simp), fun _ h => absurd h (by simp)⟩
/-! ### rows heard: the even ones -/
structure Par (od : Nat → Bool) : Prop where
  zero : od 0 = false
  xor : ∀ x y, od (x ^^^ y) = (od x ^^ od y)
theorem par_mask {od : Nat → Bool} (p : Par od) (m : Nat) : Par fun x => od (x &&& m) :=
  ⟨by show od (0 &&& m) = false; rw [Nat.zero_and]; exact p.zero, fun x y => by show od ((x ^^^ y) &&& m) = _; rw [Nat.and_xor_distrib_right]; exact p.xor _ _⟩
theorem heard_sp {od : Nat → Bool} (p : Par od) (vs : List Nat) (x : Nat) :
    Spn (vs.filter (fun v => !od v) ++ ((vs.filter fun v => od v).drop 1).map (· ^^^ ((vs.filter fun v => od v).headD 0))) x ↔ Spn vs x ∧ od x = false := by
  generalize hR : vs.filter (fun v => !od v) ++ ((vs.filter fun v => od v).drop 1).map (· ^^^ ((vs.filter fun v => od v).headD 0)) = R
  have hmem : ∀ u, u ∈ vs.filter (fun v => od v) → u ∈ vs ∧ od u = true := fun u hu => List.mem_filter.mp hu
  constructor
  · have hL : Lin fun x => Spn vs x ∧ od x = false := ⟨⟨sp_zero vs, p.zero⟩, fun a b ha hb => ⟨sp_xor vs _ _ ha.1 hb.1, by rw [p.xor, ha.2, hb.2]; rfl⟩⟩
    refine sp_least hL fun v hv => ?_
    rw [← hR] at hv
    rcases List.mem_append.mp hv with h | h
    · have h1 := List.mem_filter.mp h
      exact ⟨sp_mem h1.1, by simpa using h1.2⟩
    · obtain ⟨u, hu, e⟩ := List.mem_map.mp h
      have hu1 := hmem u (List.mem_of_mem_drop hu)
      have ho : (vs.filter fun v => od v).headD 0 ∈ vs.filter fun v => od v := by
        cases hf : vs.filter fun v => od v with
        | nil => rw [hf] at hu; exact absurd hu (by simp)
        | cons a l => exact List.mem_cons_self
      have ho1 := hmem _ ho
      rw [← e]
      exact ⟨sp_xor vs _ _ (sp_mem hu1.1) (sp_mem ho1.1), by rw [p.xor, hu1.2, ho1.2]; rfl⟩
  · intro ⟨hx, hod⟩
    cases hf : vs.filter fun v => od v with
    | nil =>
      refine sp_sub (fun v hv => ?_) hx
      refine sp_mem ?_
      rw [← hR]
      refine List.mem_append.mpr (.inl (List.mem_filter.mpr ⟨hv, ?_⟩))
      cases z : od v with
      | false => rfl
      | true =>
        have : v ∈ vs.filter fun v => od v := List.mem_filter.mpr ⟨hv, z⟩
        rw [hf] at this
        exact absurd this (by simp)
    | cons o l =>
      have hL : Lin fun x => Spn R (if od x then x ^^^ o else x) := by
        refine ⟨?_, fun a b ha hb => ?_⟩
        · show Spn R (if od 0 then 0 ^^^ o else 0)
          rw [p.zero]
          exact sp_zero R
        · show Spn R (if od (a ^^^ b) then a ^^^ b ^^^ o else a ^^^ b)
          rw [p.xor]
          cases za : od a <;> cases zb : od b <;> simp only [za, zb, if_true, if_false, Bool.false_eq_true, Bool.xor_false, Bool.false_xor, Bool.xor_true, Bool.true_xor, Bool.not_true, Bool.not_false, Bool.xor_self] at ha hb ⊢
          · exact sp_xor R _ _ ha hb
          · have := sp_xor R _ _ ha hb
            rwa [← Nat.xor_assoc] at this
          · have := sp_xor R _ _ ha hb
            rwa [x_swap] at this
          · have := sp_xor R _ _ ha hb
            rwa [← Nat.xor_assoc, x_swap a o b, xx_cancel] at this
      have h1 := sp_least hL (vs := vs) (x := x) (fun v hv => ?_) hx
      · rwa [hod, if_neg (by decide)] at h1
      · show Spn R (if od v then v ^^^ o else v)
        cases z : od v with
        | false =>
          rw [if_neg (by decide)]
          refine sp_mem ?_
          rw [← hR]
          exact List.mem_append.mpr (.inl (List.mem_filter.mpr ⟨hv, by rw [z]; rfl⟩))
        | true =>
          rw [if_pos rfl]
          have hm : v ∈ vs.filter fun v => od v := List.mem_filter.mpr ⟨hv, z⟩
          rw [hf] at hm hR
          rcases List.mem_cons.mp hm with e | h
          · rw [e, Nat.xor_self]; exact sp_zero R
          · refine sp_mem ?_
            rw [← hR]
            exact List.mem_append.mpr (.inr (List.mem_map.mpr ⟨v, h, rfl⟩))
/-! ### images -/
theorem sp_image {f : Nat → Nat} (h0 : f 0 = 0) (hf : ∀ x y, f (x ^^^ y) = f x ^^^ f y) (B : List Nat) (y : Nat) : Spn (B.map f) y ↔ ∃ x, Spn B x ∧ f x = y := by
  constructor
  · refine sp_least (P := fun y => ∃ x, Spn B x ∧ f x = y) ⟨⟨0, sp_zero B, h0⟩, fun a b ⟨x, hx, e⟩ ⟨z, hz, e'⟩ => ⟨x ^^^ z, sp_xor B _ _ hx hz, by rw [hf, e, e']⟩⟩ fun v hv => ?_
    obtain ⟨b, hb, e⟩ := List.mem_map.mp hv
    exact ⟨b, sp_mem hb, e⟩
  · intro ⟨x, hx, e⟩
    rw [← e]
    exact sp_least (P := fun x => Spn (B.map f) (f x)) ⟨by show Spn _ (f 0); rw [h0]; exact sp_zero _, fun a b ha hb => by show Spn _ (f (a ^^^ b)); rw [hf]; exact sp_xor _ _ _ ha hb⟩ (fun v hv => sp_mem (List.mem_map.mpr ⟨v, hv, rfl⟩)) hx
theorem bit_xor (a b c d : Nat) (ha : a < 2) (hc : c < 2) : (a + 2 * b) ^^^ (c + 2 * d) = (a ^^^ c) + 2 * (b ^^^ d) := by
  have hac : a ^^^ c < 2 := Nat.xor_lt_two_pow (n := 1) ha hc
  refine Nat.eq_of_testBit_eq fun i => ?_
  rw [Nat.testBit_xor]
  cases i with
  | zero =>
    rw [Nat.testBit_zero, Nat.testBit_zero, Nat.testBit_zero, Nat.add_mul_mod_self_left, Nat.add_mul_mod_self_left, Nat.add_mul_mod_self_left]
    rcases (show a = 0 ∨ a = 1 by omega) with e | e <;> rcases (show c = 0 ∨ c = 1 by omega) with e' | e' <;> subst e <;> subst e' <;> rfl
  | succ i =>
    rw [Nat.testBit_succ, Nat.testBit_succ, Nat.testBit_succ, ← Nat.testBit_xor]
    congr 1
    rw [show (a + 2 * b) / 2 = b by omega, show (c + 2 * d) / 2 = d by omega, show ((a ^^^ c) + 2 * (b ^^^ d)) / 2 = b ^^^ d by omega]
/-- the signs of x at these places -/
def pk (x : Nat) : List Nat → Nat
  | [] => 0
  | p :: ps => (x.testBit p).toNat + 2 * pk x ps
theorem toNat_xor (a b : Bool) : (a ^^ b).toNat = a.toNat ^^^ b.toNat := by cases a <;> cases b <;> rfl
theorem toNat_lt (a : Bool) : a.toNat < 2 := by cases a <;> decide
theorem pk_zero : ∀ ps, pk 0 ps = 0
  | [] => rfl
  | p :: ps => by
    show ((0 : Nat).testBit p).toNat + 2 * pk 0 ps = 0
    rw [pk_zero ps, Nat.zero_testBit]
    rfl
theorem pk_xor (x y : Nat) : ∀ ps, pk (x ^^^ y) ps = pk x ps ^^^ pk y ps
  | [] => (Nat.xor_self 0).symm
  | p :: ps => by
    show ((x ^^^ y).testBit p).toNat + 2 * pk (x ^^^ y) ps = ((x.testBit p).toNat + 2 * pk x ps) ^^^ ((y.testBit p).toNat + 2 * pk y ps)
    rw [bit_xor _ _ _ _ (toNat_lt _) (toNat_lt _), Nat.testBit_xor, toNat_xor, pk_xor x y ps]
theorem pk_lt (x : Nat) : ∀ ps, pk x ps < 2 ^ ps.length
  | [] => (by decide : 0 < 2 ^ 0)
  | p :: ps => by
    show (x.testBit p).toNat + 2 * pk x ps < 2 ^ (ps.length + 1)
    have := pk_lt x ps
    have := toNat_lt (x.testBit p)
    rw [Nat.pow_succ]
    omega
theorem pk_snoc (x p : Nat) : ∀ ps, pk x (ps ++ [p]) = pk x ps + (x.testBit p).toNat * 2 ^ ps.length
  | [] => by show (x.testBit p).toNat + 2 * 0 = 0 + (x.testBit p).toNat * 1; omega
  | q :: ps => by
    show (x.testBit q).toNat + 2 * pk x (ps ++ [p]) = (x.testBit q).toNat + 2 * pk x ps + (x.testBit p).toNat * 2 ^ (ps.length + 1)
    rw [pk_snoc x p ps, Nat.pow_succ, Nat.mul_add, ← Nat.mul_assoc _ _ 2, Nat.mul_comm _ 2]
    omega
theorem dbl_xor (x y : Nat) : 2 * (x ^^^ y) = 2 * x ^^^ 2 * y := by
  have := bit_xor 0 x 0 y (by decide) (by decide)
  simpa using this.symm
/-! ### parity -/
def od (x : Nat) : Bool := x.testBit 0 ^^ x.testBit 1 ^^ x.testBit 2 ^^ x.testBit 3 ^^ x.testBit 4 ^^ x.testBit 5 ^^ x.testBit 6 ^^ x.testBit 7
theorem par_bit (i : Nat) : Par fun x => x.testBit i := ⟨Nat.zero_testBit i, fun x y => Nat.testBit_xor x y i⟩
theorem bool4 : ∀ a b c d : Bool, ((a ^^ b) ^^ (c ^^ d)) = ((a ^^ c) ^^ (b ^^ d)) := by decide
theorem Par.add {f g : Nat → Bool} (p : Par f) (q : Par g) : Par fun x => f x ^^ g x :=
  ⟨by show (f 0 ^^ g 0) = false; rw [p.zero, q.zero]; rfl, fun x y => by show (f (x ^^^ y) ^^ g (x ^^^ y)) = ((f x ^^ g x) ^^ (f y ^^ g y)); rw [p.xor, q.xor]; exact bool4 _ _ _ _⟩
theorem od_par : Par od := (((((((par_bit 0).add (par_bit 1)).add (par_bit 2)).add (par_bit 3)).add (par_bit 4)).add (par_bit 5)).add (par_bit 6)).add (par_bit 7)
theorem od_step : ∀ x, x < 256 → x = 0 ∨ od (x &&& (x - 1)) = !od x := by decide +kernel
def bits8 : List Nat := [1, 2, 4, 8, 16, 32, 64, 128]
theorem od_count : ∀ x, x < 256 → ((bits8.filter fun b => decide (0 < x &&& b)).length ∈ [1, 3, 5, 7] ↔ od x = true) := by decide +kernel
theorem top_max {x m : Nat} (h0 : x ≠ 0) (hx : x < 256) (hm : m ∈ bits8.filter fun b => decide (b ≤ x)) (ht : ∀ y ∈ bits8.filter fun b => decide (b ≤ x), y ≤ m) : m = 2 ^ x.log2 := by
  have h1 := List.mem_filter.mp hm
  have hb : ∃ i, i < 8 ∧ m = 2 ^ i := by
    have : m ∈ bits8 → ∃ i, i < 8 ∧ m = 2 ^ i := by
      intro h
      simp only [bits8, List.mem_cons, List.not_mem_nil, or_false] at h
      rcases h with h | h | h | h | h | h | h | h
      · exact ⟨0, by decide, h⟩
      · exact ⟨1, by decide, h⟩
      · exact ⟨2, by decide, h⟩
      · exact ⟨3, by decide, h⟩
      · exact ⟨4, by decide, h⟩
      · exact ⟨5, by decide, h⟩
      · exact ⟨6, by decide, h⟩
      · exact ⟨7, by decide, h⟩
    exact this h1.1
  obtain ⟨i, hi, e⟩ := hb
  have h2 : m ≤ x := by simpa using h1.2
  have h3 : i ≤ x.log2 := (Nat.le_log2 h0).mpr (by rw [← e]; exact h2)
  have h4 : x.log2 < 8 := (Nat.log2_lt h0).mpr hx
  have h5 : 2 ^ x.log2 ≤ m := by
    refine ht _ (List.mem_filter.mpr ⟨?_, by simpa using Nat.log2_self_le h0⟩)
    have : ∀ j, j < 8 → 2 ^ j ∈ bits8 := by decide
    exact this _ h4
  have h6 : 2 ^ i ≤ 2 ^ x.log2 := Nat.pow_le_pow_right (by decide) h3
  omega
/-! ### lists of spans -/
def IsS (P : Nat → Prop) (l : List Nat) : Prop := l.Pairwise (· < ·) ∧ ∀ x, x ∈ l ↔ P x
theorem IsS.eq {P Q : Nat → Prop} {l k : List Nat} (h : IsS P l) (g : IsS Q k) (e : ∀ x, P x ↔ Q x) : l = k :=
  asc_ext h.1 g.1 fun x => by rw [h.2, g.2, e]
theorem IsS.congr {P Q : Nat → Prop} {l : List Nat} (h : IsS P l) (e : ∀ x, P x ↔ Q x) : IsS Q l := ⟨h.1, fun x => by rw [h.2, e]⟩
theorem isS_of {P : Nat → Prop} {l k : List Nat} (hp : k.Perm l) (hs : k.Pairwise (· ≤ ·)) (hn : l.Nodup) (hm : ∀ x, x ∈ l ↔ P x) : IsS P k := by
  have nk : k.Nodup := hp.nodup_iff.mpr hn
  have : k.Pairwise fun a b => a ≤ b ∧ a ≠ b := hs.and nk
  exact ⟨this.imp fun h => by omega, fun x => by rw [hp.mem_iff, hm]⟩
theorem isS_filter {P : Nat → Prop} {l : List Nat} (h : IsS P l) (f : Nat → Bool) : IsS (fun x => P x ∧ f x = true) (l.filter f) :=
  ⟨h.1.filter f, fun x => by rw [List.mem_filter, h.2]⟩
/-- one vector more: what is found grows -/
theorem span_step {l found : List Nat} {v : Nat} (nd : found.Nodup) (hm : ∀ x, x ∈ found ↔ Spn l x) :
    (v ∈ found → ∀ x, x ∈ found ↔ Spn (l ++ [v]) x) ∧ (v ∉ found → (found ++ found.map (· ^^^ v)).Nodup ∧ ∀ x, x ∈ found ++ found.map (· ^^^ v) ↔ Spn (l ++ [v]) x) := by
  constructor
  · intro hv x
    rw [hm, sp_snoc]
    refine ⟨.inl, fun h => ?_⟩
    rcases h with h | h
    · exact h
    · have := sp_xor l _ _ h ((hm v).mp hv)
      rwa [xx_cancel] at this
  · intro hv
    have inj : ∀ a b : Nat, a ^^^ v = b ^^^ v → a = b := fun a b e => by rw [← xx_cancel a v, e, xx_cancel]
    constructor
    · rw [List.nodup_append]
      refine ⟨nd, ?_, ?_⟩
      · rw [List.Nodup, List.pairwise_map]
        exact nd.imp fun h e => h (inj _ _ e)
      · intro a ha b hb e
        obtain ⟨c, hc, e2⟩ := List.mem_map.mp hb
        refine hv ((hm v).mpr ?_)
        have := sp_xor l _ _ ((hm c).mp hc) ((hm a).mp ha)
        rw [e, ← e2, ← Nat.xor_assoc, Nat.xor_self, Nat.zero_xor] at this
        exact this
    · intro x
      rw [List.mem_append, sp_snoc, hm]
      constructor
      · rintro (h | h)
        · exact .inl h
        · obtain ⟨c, hc, e⟩ := List.mem_map.mp h
          refine .inr ?_
          rw [← e, xx_cancel]
          exact (hm c).mp hc
      · rintro (h | h)
        · exact .inl h
        · exact .inr (List.mem_map.mpr ⟨x ^^^ v, (hm _).mpr h, xx_cancel x v⟩)
/-! ### opened, known -/
theorem opened_sp (B : List Nat) (y : Nat) : Spn (B.map (2 * ·) ++ [1]) y ↔ ∃ x, Spn B x ∧ (y = 2 * x ∨ y = 2 * x + 1) := by
  have img := fun z => sp_image (f := (2 * ·)) rfl dbl_xor B z
  have hx : ∀ x, 2 * x ^^^ 1 = 2 * x + 1 := fun x => by
    have := bit_xor 0 x 1 0 (by decide) (by decide)
    simp at this
    omega
  rw [sp_snoc, img, img]
  constructor
  · rintro (⟨x, hx1, e⟩ | ⟨x, hx1, e⟩)
    · exact ⟨x, hx1, .inl e.symm⟩
    · refine ⟨x, hx1, .inr ?_⟩
      have e : 2 * x = y ^^^ 1 := e
      rw [← hx, e, xx_cancel]
  · rintro ⟨x, hx1, e | e⟩
    · exact .inl ⟨x, hx1, e.symm⟩
    · refine .inr ⟨x, hx1, ?_⟩
      show 2 * x = y ^^^ 1
      rw [e, ← hx, xx_cancel]
theorem closed_sp (B : List Nat) (y : Nat) : Spn (B.map (2 * ·)) y ↔ ∃ x, Spn B x ∧ y = 2 * x := by
  rw [sp_image (f := (2 * ·)) rfl dbl_xor B y]
  exact ⟨fun ⟨x, h, e⟩ => ⟨x, h, e.symm⟩, fun ⟨x, h, e⟩ => ⟨x, h, e.symm⟩⟩
theorem knows_sp {B : List Nat} {p : Nat} : (∀ b ∈ B, b.testBit p = false) ↔ ∀ x, Spn B x → x.testBit p = false :=
  ⟨fun h _ hx => sp_least (P := fun x => x.testBit p = false) ⟨Nat.zero_testBit p, fun a b ha hb => by show (a ^^^ b).testBit p = false; rw [Nat.testBit_xor, ha, hb]; rfl⟩ h hx, fun h b hb => h b (sp_mem hb)⟩
/-- the shapes of the lists of a law -/
theorem isS_dbl {P : Nat → Prop} {l : List Nat} (h : IsS P l) : IsS (fun y => ∃ x, P x ∧ y = 2 * x) (l.map (2 * ·)) :=
  ⟨by
    rw [List.pairwise_map]
    exact h.1.imp fun h => by omega, fun y => by
    rw [List.mem_map]
    exact ⟨fun ⟨x, hx, e⟩ => ⟨x, (h.2 x).mp hx, e.symm⟩, fun ⟨x, hx, e⟩ => ⟨x, (h.2 x).mpr hx, e.symm⟩⟩⟩
theorem nd_open {P : Nat → Prop} {l : List Nat} (h : IsS P l) : (l.map (2 * ·) ++ l.map (2 * · + 1)).Nodup ∧ ∀ y, y ∈ l.map (2 * ·) ++ l.map (2 * · + 1) ↔ ∃ x, P x ∧ (y = 2 * x ∨ y = 2 * x + 1) := by
  constructor
  · rw [List.nodup_append]
    refine ⟨?_, ?_, ?_⟩
    · rw [List.Nodup, List.pairwise_map]
      exact h.1.imp fun h => by omega
    · rw [List.Nodup, List.pairwise_map]
      exact h.1.imp fun h => by omega
    · intro a ha b hb e
      obtain ⟨x, _, e1⟩ := List.mem_map.mp ha
      obtain ⟨z, _, e2⟩ := List.mem_map.mp hb
      omega
  · intro y
    rw [List.mem_append, List.mem_map, List.mem_map]
    constructor
    · rintro (⟨x, hx, e⟩ | ⟨x, hx, e⟩)
      · exact ⟨x, (h.2 x).mp hx, .inl e.symm⟩
      · exact ⟨x, (h.2 x).mp hx, .inr e.symm⟩
    · rintro ⟨x, hx, e | e⟩
      · exact .inl ⟨x, (h.2 x).mpr hx, e.symm⟩
      · exact .inr ⟨x, (h.2 x).mpr hx, e.symm⟩
end K17
namespace K17
open PySem L2 Evl Gr StX
/-! ### lists of numbers from zero -/
def zI (l : List Nat) : List Int := l.map fun n : Nat => (n : Int)
abbrev vN (l : List Nat) : List V := vI (zI l)
theorem zI_len {l : List Nat} : (zI l).length = l.length := List.length_map _
theorem vN_len {l : List Nat} : (vN l).length = l.length := by rw [vI_len, zI_len]
theorem zI_app {l k : List Nat} : zI (l ++ k) = zI l ++ zI k := List.map_append
theorem zI_inj {l k : List Nat} : zI l = zI k ↔ l = k := by
  constructor
  · intro h
    have := congrArg (List.map Int.toNat) h
    unfold zI at this
    have e : ∀ m : List Nat, m.map (Int.toNat ∘ fun n : Nat => (n : Int)) = m := fun m => by
      rw [show (Int.toNat ∘ fun n : Nat => (n : Int)) = id from funext fun n => Int.toNat_natCast n, List.map_id]
    rw [List.map_map, List.map_map, e, e] at this
    exact this
  · rintro rfl; rfl
theorem dec_zI {l k : List Nat} : decide (zI l = zI k) = decide (l = k) := by
  by_cases h : l = k
  · rw [decide_eq_true h, decide_eq_true (zI_inj.mpr h)]
  · rw [decide_eq_false h, decide_eq_false fun z => h (zI_inj.mp z)]
theorem vN_app {l : List Nat} {x : Nat} : vN l ++ [V.int (x : Int)] = vN (l ++ [x]) := by show vI (zI l) ++ _ = vI (zI (l ++ [x])); rw [vI_app, zI_app]; rfl
theorem vN_get {l : List Nat} {i : Nat} {x : V} (h : (vN l)[i]? = some x) : ∃ n, l[i]? = some n ∧ x = .int (n : Int) := by
  unfold vN vI zI at h
  rw [List.getElem?_map, List.getElem?_map] at h
  cases e : l[i]? with
  | none => rw [e] at h; cases h
  | some n => rw [e] at h; exact ⟨n, rfl, (Option.some.inj h).symm⟩
theorem vN_at {l : List Nat} {i n : Nat} (h : l[i]? = some n) : (vN l)[i]? = some (.int (n : Int)) := by
  unfold vN vI zI
  rw [List.getElem?_map, List.getElem?_map, h]
  rfl
theorem perm_zI {ns : List Int} {l : List Nat} (h : ns.Perm (zI l)) : ∃ D : List Nat, ns = zI D ∧ D.Perm l := by
  refine ⟨ns.map Int.toNat, ?_, ?_⟩
  · have e : zI (ns.map Int.toNat) = ns.map id := by
      unfold zI
      rw [List.map_map]
      refine List.map_congr_left fun x hx => ?_
      obtain ⟨n, _, e⟩ := List.mem_map.mp (h.mem_iff.mp hx)
      show ((x.toNat : Nat) : Int) = x
      omega
    rw [e, List.map_id]
  · have := h.map Int.toNat
    unfold zI at this
    rw [List.map_map] at this
    have e : l.map (Int.toNat ∘ fun n : Nat => (n : Int)) = l := by
      rw [show (Int.toNat ∘ fun n : Nat => (n : Int)) = id from funext fun n => Int.toNat_natCast n, List.map_id]
    rwa [e] at this
theorem le_zI {D : List Nat} (h : (zI D).Pairwise (· ≤ ·)) : D.Pairwise (· ≤ ·) := by
  unfold zI at h
  rw [List.pairwise_map] at h
  exact h.imp fun h => by omega
theorem ge_zI {D : List Nat} (h : (zI D).Pairwise (· ≥ ·)) : D.Pairwise (· ≥ ·) := by
  unfold zI at h
  rw [List.pairwise_map] at h
  exact h.imp fun h => by omega
/-- what a comprehension over such a list gives -/
theorem given_nats (l : List Nat) (f : Nat → Bool) (g : Nat → Nat) : given l.length (fun i => f (l.getD i 0)) (fun i => V.int ((g (l.getD i 0) : Nat) : Int)) = vN ((l.filter f).map g) := by
  have e : l = (List.range l.length).map fun i => l.getD i 0 := by
    refine List.ext_getElem? fun i => ?_
    rw [List.getElem?_map]
    by_cases h : i < l.length
    · rw [List.getElem?_range h, List.getElem?_eq_getElem h]
      show some l[i] = some (l.getD i 0)
      rw [List.getD_eq_getElem?_getD, List.getElem?_eq_getElem h]
      rfl
    · rw [List.getElem?_eq_none (by omega), List.getElem?_eq_none (by rw [List.length_range]; omega)]
      rfl
  have e2 : l.filter f = ((List.range l.length).filter fun i => f (l.getD i 0)).map fun i => l.getD i 0 := by
    conv => lhs; rw [e]
    rw [List.filter_map]
    rfl
  rw [e2]
  unfold given vN vI zI
  rw [List.map_map, List.map_map, List.map_map]
  rfl
theorem getD_of {l : List Nat} {i n : Nat} (h : l[i]? = some n) : l.getD i 0 = n := by rw [List.getD_eq_getElem?_getD, h]; rfl
section
variable {K : PySem.W.Frag} {σ : L2.St} {H : Hp} {ta tb te : TE}
theorem ev_xor {a b : Nat} (ha : Ev ta σ H (.int (a : Int))) (hb : Ev tb σ H (.int (b : Int))) : Ev (tOp (rI0 fun i j => .int (Builtin.bitXor i j)) ta tb) σ H (.int ((a ^^^ b : Nat) : Int)) :=
  ev_is (ev_op ha hb rv_I0) (by rw [Bits.bitXor_pp (by omega) (by omega), Int.toNat_natCast, Int.toNat_natCast])
theorem ev_and {a b : Nat} (ha : Ev ta σ H (.int (a : Int))) (hb : Ev tb σ H (.int (b : Int))) : Ev (tOp (rI0 fun i j => .int (Builtin.bitAnd i j)) ta tb) σ H (.int ((a &&& b : Nat) : Int)) :=
  ev_is (ev_op ha hb rv_I0) (by rw [PyProof.Rows.bitAnd_pp (by omega) (by omega), Int.toNat_natCast, Int.toNat_natCast])
theorem ev_or {a b : Nat} (ha : Ev ta σ H (.int (a : Int))) (hb : Ev tb σ H (.int (b : Int))) : Ev (tOp (rI0 fun i j => .int (Builtin.bitOr i j)) ta tb) σ H (.int ((a ||| b : Nat) : Int)) :=
  ev_is (ev_op ha hb rv_I0) (by rw [Bits.bitOr_pp (by omega) (by omega), Int.toNat_natCast, Int.toNat_natCast])
/-- v >> p & 1 -/
theorem ev_bit {v p : Nat} (ha : Ev ta σ H (.int (v : Int))) (hb : Ev tb σ H (.int (p : Int))) : Ev (tOp (rI0 fun i j => .int (Builtin.bitAnd i j)) (tOp (rI (fun _ j => 0 ≤ j) fun i j => .int (i / 2 ^ j.toNat)) ta tb) (tC (.int 1))) σ H (.int (((v.testBit p).toNat : Nat) : Int)) :=
  ev_is (ev_and (a := v / 2 ^ p) (b := 1) (ev_is (ev_op ha hb (rv_I (by omega))) (by rw [Int.toNat_natCast]; congr 1)) ev_c) (by rw [Nat.and_one_is_mod, ← Nat.toNat_testBit])
/-- [.., *a new list, ..] -/
theorem ea_star {t : TA} {xs ys : List V} (h : EvL te σ H xs) (hr : EvA t σ H ys) : EvA (tStar K te t) σ H (xs ++ ys) := fun H1 e Q q =>
  h H1 e _ fun p H2 _ e2 hp => ⟨p, xs, rfl, .inr (sq_of hp), hr H2 (e.trans e2) _ fun H3 e3 => q H3 (e2.trans e3)⟩
/-- a comprehension over a list of numbers -/
theorem el_nums {a : Addr} {l : List Nat} {tl : TE} {t : TT} {j : Nat} {vs : List Nat} (f : Nat → Bool) (g : Nat → Nat) (h : Ev tl σ H (.ref a)) (hx : SqL K H a (vN l)) (hz : l.length ≤ 40000) (hw : ∀ x, wipe ((wipe σ vs).set j (some x)) vs = wipe σ vs)
    (ht : ∀ n ∈ l, ∀ H1, Ex H H1 → EvT t ((wipe σ vs).set j (some (.int (n : Int)))) H1 (f n)) (he : ∀ n ∈ l, ∀ H1, Ex H H1 → f n = true → Ev te ((wipe σ vs).set j (some (.int (n : Int)))) H1 (.int ((g n : Nat) : Int))) :
    EvL (tLc (iList K tl) (gName j) t te vs) σ H (vN ((l.filter f).map g)) := by
  have c := el_lcL (K := K) (σ := σ) (H := H) (t := t) (te := te) (a := a) (xs := vN l) (tl := tl) (j := j) (vs := vs) (fun i => f (l.getD i 0)) (fun i => V.int ((g (l.getD i 0) : Nat) : Int)) h hx (by rw [vN_len]; exact hz) hw
    (fun i x H1 e hi => by
      obtain ⟨n, hn, rfl⟩ := vN_get hi
      rw [getD_of hn]
      exact ht n (List.mem_of_getElem? hn) H1 e)
    (fun i x H1 e hi hf => by
      obtain ⟨n, hn, rfl⟩ := vN_get hi
      rw [getD_of hn] at hf ⊢
      exact he n (List.mem_of_getElem? hn) H1 e hf)
  rw [vN_len, given_nats] at c
  exact c
theorem filter_yes (l : List Nat) : l.filter (fun _ => true) = l := List.filter_eq_self.mpr fun _ _ => rfl
end
end K17
/-! enumerate over a tuple -/
namespace EnT
open PySem PySem.Spec PyProof.Rows L2
/-- the iterator of a tuple, as it begins -/
abbrev tupIt (t : Addr) : Obj := { cls := .type "tuple_iterator", data := .fields #[.ref t, .int 0 0] }
/-- the enumeration over the iterator at n, as it begins -/
abbrev enuAt (n : Addr) : Obj := { cls := .type "enumerate", data := .fields #[.none, .bool false, .ref n, rawInt 0, .none, .none] }
set_option maxHeartbeats 2000000 in
theorem new_enumT (t : Addr) (its : Array Value) : Meets (Builtin.«enumerate.__new__» ⟨[.type "enumerate", .ref t], []⟩)
    (fun _ R s => s.heap.IsTuple t its ∧ R (.ok (.ret (.ref (s.heap.push (tupIt t)).objs.size))) { s with heap := (s.heap.push (tupIt t)).push (enuAt s.heap.objs.size) }) := Meets.of_wp fun P w A R s hh => by
  rcases s with ⟨hp, gs, ds, tk, sys⟩
  rcases hh with ⟨hT, goal⟩
  have kind := sub_enumerate
  have begin_ : ∀ {B : Around} {E : Value → Shared → Prop} {Q : Value → Shared → Prop}, Q (.ref hp.objs.size) ⟨hp.push (tupIt t), gs, ds, tk, sys⟩ → wpAny (model P w) B (pyIter (.ref t)) Q E ⟨hp, gs, ds, tk, sys⟩ := fun q => wpAny_pyIter_tuple hT q
  wp_walk using begin_
  refine wpAny_stack_any (fun _ => wpAny_pure ?_)
  split
  next c _ _ _ _ _ => cases (c == Value.type "enumerate") <;> (wp_walk using begin_; exact ⟨_, rfl, goal⟩)
  next => (wp_walk using begin_; exact ⟨_, rfl, goal⟩)
theorem call_enumT {P : Program} {w : World} {A : Around} {E : Value → Shared → Prop} {s : Shared} {t : Addr} {its : Array Value} {Q : Value → Shared → Prop} (hT : s.heap.IsTuple t its)
    (k : ∀ h', IsEnum h' (s.heap.objs.size + 1) s.heap.objs.size 0 .none → h'.IsTupleIter s.heap.objs.size t 0 → (∀ b o, s.heap.get? b = some o → h'.get? b = some o) → Q (.ref (s.heap.objs.size + 1)) { s with heap := h' }) :
    wpAny (model P w) A (call (.type "enumerate") [.ref t]) Q E s := by
  have sz : (s.heap.push (tupIt t)).objs.size = s.heap.objs.size + 1 := Heap.size_push ..
  have at1 : ((s.heap.push (tupIt t)).push (enuAt s.heap.objs.size)).get? (s.heap.objs.size + 1) = some (enuAt s.heap.objs.size) := sz ▸ Heap.get?_push_size (s.heap.push (tupIt t)) rfl
  have at0 : ((s.heap.push (tupIt t)).push (enuAt s.heap.objs.size)).get? s.heap.objs.size = some (tupIt t) := Heap.get?_push_of_some _ (Heap.get?_push_size _ rfl)
  refine callType_new F.called_enumerate (by decide) (F.typeCall_enumerate_1 _) (F.newCall_enumerate_1 _) (fun obj => F.args_object_init_2 obj _) F.entry_enumerate_new (new_enumT t its) ⟨hT, ?_⟩
  show _ ∧ _
  rw [sz]
  exact ⟨⟨_, at1, rfl⟩, k _ at1 ⟨_, at0, rfl, rfl⟩ fun b o e => Heap.get?_push_of_some _ (Heap.get?_push_of_some _ e)⟩
/-- the tuple at a, turn by turn: each item with its place, in a new pair -/
def Itn (K : PySem.W.Frag) (a : Addr) : It where
  go i H := ∃ (ys : List V) (y : V), SqT K H a ys ∧ ys[i]? = some y
  yld i H v H' := ∃ T y, v = .ref T ∧ H T = none ∧ H' = upd H T (.tup [.int (i : Nat), y]) ∧ ∀ ys, SqT K H a ys → ys[i]? = some y
  stop i H := ∃ ys : List V, SqT K H a ys ∧ ys.length = i
theorem turn_enumT {P : Program} {w : World} {K : PySem.W.Frag} {elts : List Expr} {kk : Nat} {tpos : Pos} (a e it : Addr) :
    Turn P w K (.Tuple elts kk tpos) (Itn K a) [e, it] e (fun i h => (∃ old, IsEnum h e it ((i : Nat) : Int) old) ∧ h.IsTupleIter it a i) where
  mem := List.mem_cons_self ..
  obj := fun i h ⟨⟨old, he⟩, o, ho, _, hd⟩ b hb => by
    rcases List.mem_cons.mp hb with rfl | hb
    · exact ⟨_, he, fun v q => nomatch q⟩
    · obtain rfl := List.mem_singleton.mp hb
      exact ⟨o, ho, fun v q => by rw [hd] at q; cases q⟩
  keep := fun i h h' ⟨⟨old, he⟩, hi⟩ k => ⟨⟨old, k e (List.mem_cons_self ..) _ he⟩, hi.at fun o q => k it (by simp) o q⟩
  item := by
    rintro X rfl rfl rfl hc i pins s σ H E I hf ⟨⟨old, he⟩, hit⟩ ⟨ys, y, hq, hy⟩
    obtain ⟨its, rv, p, hz⟩ := I.tuple hq
    have ht : s.heap.IsTuple a its.toArray := p
    obtain ⟨u, hu, ru⟩ := rv.get hy
    have len : i < its.length := (List.getElem?_eq_some_iff.mp hu).1
    have ai : a ≠ it := fun z => by
      obtain ⟨o1, g1, c1, _⟩ := ht
      obtain ⟨o2, g2, c2, _⟩ := id hit
      rw [z, g2] at g1
      rw [← Option.some.inj g1, c2] at c1
      exact absurd c1 (by decide)
    have ei : e ≠ it := fun z => by
      obtain ⟨o2, g2, c2, _⟩ := id hit
      have g1 : s.heap.get? e = _ := he
      rw [z, g2] at g1
      rw [Option.some.inj g1] at c2
      exact absurd (show Value.type "enumerate" = Value.type "tuple_iterator" from c2) (by decide)
    have ea : e ≠ a := fun z => by
      obtain ⟨o2, g2, c2, _⟩ := ht
      have g1 : s.heap.get? e = _ := he
      rw [z, g2] at g1
      rw [Option.some.inj g1] at c2
      exact absurd (show Value.type "enumerate" = Value.type "tuple" from c2) (by decide)
    refine wpAny_pyNext_enum_itemD (Draws.tuple (A := X.A.in1) (I.ok.hd hc) it a ai its.toArray) he ⟨hit, ht⟩ (by simpa using len) ei (by simp [ei, ea]) fun x h' tk hx ho hst hT sz1 hk => ?_
    have xu : x = u := by
      have : its[i]? = some x := by simpa using hx
      rw [hu] at this
      exact (Option.some.inj this).symm
    subst xu
    have hel : e < s.heap.objs.size := Heap.lt_size he
    have hil : it < s.heap.objs.size := by obtain ⟨_, q, _⟩ := hit; exact Heap.lt_size q
    refine ⟨_, rfl, wpAny_letOwnedTupleGo_enum (s := { s with heap := h', toks := tk + 1 }) ho fun h2 he2 sb => ?_⟩
    have pair : h2.get? s.heap.objs.size = some { cls := .type "tuple", data := .seq #[.int i tk, x] } := (sb.2 _ (Nat.ne_of_gt hel)).trans hT
    have new : ObjOk X.prog X.w (upd H s.heap.objs.size (.tup [.int (i : Nat), y])) h2 s.heap.objs.size (.tup [.int (i : Nat), y]) :=
      ⟨by show 2 ≤ sizeLine; decide, [.int i tk, x], .cons ⟨_, rfl⟩ (.cons ru .nil), ⟨_, pair, rfl, _, rfl⟩⟩
    have J : Inv X pins σ (upd H s.heap.objs.size (.tup [.int (i : Nat), y])) { s with heap := h2, toks := tk + 1 } :=
      I.turnedNew (ch := [e, it]) (fun b o hb q => (sb.2 b fun z => hb (by simp [z])).trans (hk b o (fun z => hb (by simp [z])) (fun z => hb (by simp [z])) q)) hf (Nat.le_refl _) new
    refine ⟨.ref s.heap.objs.size, _, J, rfl, ⟨_, y, rfl, I.hok.fresh (Nat.le_refl _), rfl, fun zs hz => by rw [I.tuple_inj hz hq]; exact hy⟩, ⟨⟨x, ?_⟩, hst.1.at fun o q => (sb.2 it (Ne.symm ei)).trans q⟩, fun b hb => ?_⟩
    · have e1 : ((i + 1 : Nat) : Int) = (i : Int) + 1 := rfl
      rw [e1]
      exact he2
    · have lt : b < s.heap.objs.size := by
        rcases List.mem_cons.mp hb with rfl | hb
        · exact hel
        · obtain rfl := List.mem_singleton.mp hb
          exact hil
      rw [upd_ne (Nat.ne_of_lt lt)]
      exact (hf b hb).1
  done := by
    rintro X rfl rfl rfl hc i pins s σ H E I hf ⟨⟨old, he⟩, hit⟩ ⟨ys, hq, hy⟩
    obtain ⟨its, rv, p, hz⟩ := I.tuple hq
    have ht : s.heap.IsTuple a its.toArray := p
    have hl := rv.length
    obtain ⟨f0, f1, f2, f3, f4, f5⟩ := hf it (by simp)
    have ai : a ≠ it := fun z => by
      obtain ⟨o1, g1, c1, _⟩ := ht
      obtain ⟨o2, g2, c2, _⟩ := id hit
      rw [z, g2] at g1
      rw [← Option.some.inj g1, c2] at c1
      exact absurd c1 (by decide)
    have hi : its.toArray.size = i := by rw [List.size_toArray]; omega
    exact wpAny_pyNext_enum_endD (Draws.tuple (A := X.A.in1) (I.ok.hd hc) it a ai its.toArray) he (hi.symm ▸ ⟨hit, ht⟩) fun h' eb => ⟨rfl, I.turned (t' := s.toks) (fun b o hb z => eb b o hb z) f0 f1 f3 f4 f5⟩
  self := fun A i s Q E ⟨⟨_, he⟩, _⟩ h => wpAny_pyIter_enum he h
/-- enumerate(a tuple) -/
def iEnumT (K : PySem.W.Frag) (ta : TA) : TI := fun σ H R => ta σ H fun vs H1 => ∃ a ys, vs = [.ref a] ∧ SqT K H1 a ys ∧ R (Itn K a) H1
theorem pi_enumT {X : Cx} {e : Expr} {ta : TA} {p pos tpos : Pos} {elts : List Expr} {kk : Nat} (hg : Gl X "enumerate") (hm : X.mg "enumerate" = none) (ha : PA X [e] ta)
    (one : starEach [e] X.env = [(false, eval e X.env)] := by rfl) : PI X (.Tuple elts kk tpos) (.Call (.Name "enumerate" p) [e] [] pos) (iEnumT X.K ta) := by
  refine ⟨fun pins s σ H R I h => Call_ (ld_blt I hg hm boot_enumerate (PyProof.Rows.callWith_type1 (thn (ha.run pos pins s σ H _ I h) fun us s1 ⟨vs, H1, J, r1, a, ys, ev, hq, q⟩ => ?_) one rfl))⟩
  subst ev
  rcases r1 with _ | ⟨r, r0⟩
  cases r0
  cases r
  obtain ⟨its, rv, at_, hz⟩ := J.tuple hq
  refine call_enumT (its := its.toArray) at_ fun h' he hit hk => wpAny_pyIter_enum he ?_
  refine ⟨s1.heap.objs.size + 1, [s1.heap.objs.size + 1, s1.heap.objs.size], _, _, H1, rfl, J.kept (t' := s1.toks) hk, turn_enumT a _ _, ⟨⟨.none, he⟩, hit⟩, fun b hb => ?_, q⟩
  have le : s1.heap.objs.size ≤ b := by
    rcases List.mem_cons.mp hb with rfl | hb
    · exact Nat.le_succ _
    · exact Nat.le_of_eq (List.mem_singleton.mp hb).symm
  exact J.fpOk le (J.hok.fresh le)
theorem walk_enumT {K : PySem.W.Frag} {a : Addr} {ys : List V} : Walk (Itn K a) ys.length (fun H => SqT K H a ys) (YPair (fun i => some (.int (i : Nat))) (fun i => ys[i]?)) :=
  ⟨fun i _ hi q => ⟨ys, ys[i], q, List.getElem?_eq_getElem hi⟩, fun _ q => ⟨ys, q, rfl⟩, fun i H v H' _ q ⟨T, y, h1, h2, h3, h4⟩ => ⟨T, .int (i : Nat), y, h1, h2, h3, rfl, h4 ys q⟩⟩
end EnT
namespace K17
open PySem L2 Evl Gr StX EnT
section
variable {K : PySem.W.Frag} {σ : L2.St} {H : Hp} {ta tb te : TE}
/-- a comprehension over a new list of numbers -/
theorem el_numsN {l : List Nat} {tl : TE} {t : TT} {j : Nat} {vs : List Nat} (f : Nat → Bool) (g : Nat → Nat) (h : EvL tl σ H (vN l)) (hz : l.length ≤ 40000) (hw : ∀ x, wipe ((wipe σ vs).set j (some x)) vs = wipe σ vs)
    (ht : ∀ n ∈ l, ∀ H1, Ex H H1 → EvT t ((wipe σ vs).set j (some (.int (n : Int)))) H1 (f n)) (he : ∀ n ∈ l, ∀ H1, Ex H H1 → f n = true → Ev te ((wipe σ vs).set j (some (.int (n : Int)))) H1 (.int ((g n : Nat) : Int))) :
    EvL (tLc (iList K tl) (gName j) t te vs) σ H (vN ((l.filter f).map g)) := by
  have c := el_lcNL (K := K) (σ := σ) (H := H) (t := t) (te := te) (xs := vN l) (tl := tl) (j := j) (vs := vs) (fun i => f (l.getD i 0)) (fun i => V.int ((g (l.getD i 0) : Nat) : Int)) h (by rw [vN_len]; exact hz) hw
    (fun i x H1 e hi => by
      obtain ⟨n, hn, rfl⟩ := vN_get hi
      rw [getD_of hn]
      exact ht n (List.mem_of_getElem? hn) H1 e)
    (fun i x H1 e hi hf => by
      obtain ⟨n, hn, rfl⟩ := vN_get hi
      rw [getD_of hn] at hf ⊢
      exact he n (List.mem_of_getElem? hn) H1 e hf)
  rw [vN_len, given_nats] at c
  exact c
theorem map_idN (l : List Nat) : l.map (fun n => n) = l := List.map_id' l
/-- for i, x in enumerate(a tuple) -/
theorem q_forNT {a : Addr} {xs : List V} {ta : TA} {g : TG} {tu tz : TS} {D : Ends} (h : EvA ta σ H [.ref a]) (hx : SqT K H a xs) (Pv : Nat → L2.St → Hp → Prop) (h0 : ∀ H1, Ex H H1 → Pv 0 σ H1) (hl : ∀ i σ' H', i ≤ xs.length → Pv i σ' H' → SqT K H' a xs)
    (hs : ∀ i x σ' H' T, xs[i]? = some x → Pv i σ' H' → H' T = none → g (.ref T) σ' (L2.upd H' T (.tup [.int (i : Nat), x])) fun σ2 H2 => tu { D with nx := Pv (i + 1), ct := Pv (i + 1), bk := tz D } σ2 H2)
    (hd : ∀ σ' H', Pv xs.length σ' H' → tz D σ' H') : tSeq (tFor (iEnumT K ta) g tu) tz D σ H :=
  h H (Ex.refl H) _ fun H1 e1 => ⟨a, xs, rfl, ex_t e1 hx, for_it (D := { D with nx := tz D }) walk_enumT Pv (h0 H1 e1) hl (fun i v σ' H' H2 hi p y => by
    obtain ⟨T, x, z, rfl, hn, rfl, ex, ez⟩ := y
    obtain rfl := Option.some.inj ex
    exact hs i z σ' H' T ez p hn) hd⟩
/-- two lists of numbers, one behind the other -/
theorem el_catV {p : Addr} {xs ys : List Nat} (ha : Ev ta σ H (.ref p)) (hp : H p = some (.lst (vN xs))) (hb : EvL tb σ H (vN ys)) (hz : xs.length + ys.length ≤ 100000) : EvL (tOp rCat ta tb) σ H (vN (xs ++ ys)) := by
  have := el_catPL ha hp hb (by rw [zI_len, zI_len]; exact hz)
  rwa [← zI_app] at this
end
section
variable {P : Program} {w : World} {K : PySem.W.Frag} {mg : Str → Option Value} {base : Heap}
/-! ### heard_vectors -/
end
end K17
/-! pure: parity of any number, what is heard, when a row is known -/
namespace Kn
open K17
/-- the parity of the first n bits -/
def prF : Nat → Nat → Bool
  | 0, _ => false
  | n + 1, x => x.testBit 0 ^^ prF n (x / 2)
theorem prF_zero : ∀ n, prF n 0 = false
  | 0 => rfl
  | n + 1 => by
    show (Nat.testBit 0 0 ^^ prF n (0 / 2)) = false
    rw [Nat.zero_testBit, Nat.zero_div, prF_zero n]
    rfl
theorem xor_half (x y : Nat) : (x ^^^ y) / 2 = x / 2 ^^^ y / 2 := by
  apply Nat.eq_of_testBit_eq
  intro i
  rw [Nat.testBit_div_two, Nat.testBit_xor, Nat.testBit_xor, Nat.testBit_div_two, Nat.testBit_div_two]
theorem prF_xor : ∀ n x y, prF n (x ^^^ y) = (prF n x ^^ prF n y)
  | 0, _, _ => rfl
  | n + 1, x, y => by
    show ((x ^^^ y).testBit 0 ^^ prF n ((x ^^^ y) / 2)) = ((x.testBit 0 ^^ prF n (x / 2)) ^^ (y.testBit 0 ^^ prF n (y / 2)))
    rw [xor_half, prF_xor n, Nat.testBit_xor, bool4]
theorem par_prF (n : Nat) : Par (prF n) := ⟨prF_zero n, prF_xor n⟩
theorem prF_more : ∀ n x, x < 2 ^ n → prF (n + 1) x = prF n x
  | 0, x, h => by
    have : x = 0 := by rw [Nat.pow_zero] at h; omega
    rw [this, prF_zero, prF_zero]
  | n + 1, x, h => by
    show (x.testBit 0 ^^ prF (n + 1) (x / 2)) = (x.testBit 0 ^^ prF n (x / 2))
    rw [prF_more n (x / 2) (by rw [Nat.pow_succ] at h; omega)]
theorem half_and (x y : Nat) : (x &&& y) / 2 = x / 2 &&& y / 2 := by
  apply Nat.eq_of_testBit_eq
  intro i
  rw [Nat.testBit_div_two, Nat.testBit_and, Nat.testBit_and, Nat.testBit_div_two, Nat.testBit_div_two]
/-- the lowest bit taken away -/
theorem prF_less : ∀ n x, x ≠ 0 → x < 2 ^ n → prF n (x &&& (x - 1)) = !prF n x
  | 0, x, h0, h => by rw [Nat.pow_zero] at h; omega
  | n + 1, x, h0, h => by
    show ((x &&& (x - 1)).testBit 0 ^^ prF n ((x &&& (x - 1)) / 2)) = !(x.testBit 0 ^^ prF n (x / 2))
    rw [half_and, Nat.testBit_and]
    rw [Nat.pow_succ] at h
    rcases Nat.mod_two_eq_zero_or_one x with e | e
    · have b0 : x.testBit 0 = false := by rw [Nat.testBit_zero, e]; rfl
      have e2 : (x - 1) / 2 = x / 2 - 1 := by omega
      rw [b0, e2, prF_less n (x / 2) (by omega) (by omega)]
      cases prF n (x / 2) <;> rfl
    · have b0 : x.testBit 0 = true := by rw [Nat.testBit_zero, e]; rfl
      have b1 : (x - 1).testBit 0 = false := by rw [Nat.testBit_zero]; have : (x - 1) % 2 = 0 := by omega
                                                rw [this]; rfl
      have e2 : (x - 1) / 2 = x / 2 := by omega
      rw [b0, b1, e2, Nat.and_self]
      cases prF n (x / 2) <;> rfl
def pr (x : Nat) : Bool := prF 420 x
theorem par_pr : Par pr := par_prF 420
theorem pr_less {x : Nat} (h0 : x ≠ 0) (h : x < 2 ^ 420) : pr (x &&& (x - 1)) = !pr x := prF_less 420 x h0 h
theorem pr_half {x : Nat} (h : x < 2 ^ 420) : pr x = (x.testBit 0 ^^ pr (x / 2)) := by
  have e : pr (x / 2) = prF 419 (x / 2) := prF_more 419 (x / 2) (by have : 2 ^ 420 = 2 * 2 ^ 419 := by rw [Nat.pow_succ, Nat.mul_comm]
                                                                    omega)
  rw [e]
  rfl
/-! ### what is heard -/
def odsP (l : List Nat) (m : Nat) : List Nat := l.filter fun v => pr (v &&& m)
def hvP (l : List Nat) (m : Nat) : List Nat := l.filter (fun v => !pr (v &&& m)) ++ ((odsP l m).drop 1).map (· ^^^ ((odsP l m).headD 0))
theorem hvP_sp (l : List Nat) (m x : Nat) : Spn (hvP l m) x ↔ Spn l x ∧ pr (x &&& m) = false := heard_sp (od := fun v => pr (v &&& m)) (par_mask par_pr m) l x
theorem hvP_lt {l : List Nat} {m n : Nat} (h : ∀ v ∈ l, v < 2 ^ n) : ∀ v ∈ hvP l m, v < 2 ^ n := fun v hv => sp_lt h (((hvP_sp l m v).mp (sp_mem hv)).1)
theorem two_parts (f : Nat → Bool) : ∀ l : List Nat, (l.filter fun v => !f v).length + (l.filter f).length = l.length
  | [] => rfl
  | x :: l => by
    have ih := two_parts f l
    rw [List.filter_cons, List.filter_cons, List.length_cons]
    cases f x
    · rw [if_pos (show (!false) = true from rfl), if_neg Bool.false_ne_true, List.length_cons]
      omega
    · rw [if_neg (show ¬ (!true) = true by decide), if_pos rfl, List.length_cons]
      omega
theorem hvP_len (l : List Nat) (m : Nat) : (hvP l m).length ≤ l.length := by
  unfold hvP odsP
  rw [List.length_append, List.length_map, List.length_drop]
  have := two_parts (fun v => pr (v &&& m)) l
  have h : (l.filter fun v => !pr (v &&& m)).length + (l.filter fun v => pr (v &&& m)).length = l.length := this
  omega
theorem hvs_sp : ∀ (ms l : List Nat) (x : Nat), Spn (ms.foldl hvP l) x ↔ Spn l x ∧ ∀ m ∈ ms, pr (x &&& m) = false
  | [], l, x => ⟨fun h => ⟨h, fun m hm => by cases hm⟩, fun h => h.1⟩
  | m :: ms, l, x => by
    rw [List.foldl_cons, hvs_sp ms (hvP l m) x, hvP_sp]
    constructor
    · rintro ⟨⟨a, b⟩, c⟩
      exact ⟨a, fun k hk => by rcases List.mem_cons.mp hk with rfl | hk; exact b; exact c k hk⟩
    · rintro ⟨a, b⟩
      exact ⟨⟨a, b m List.mem_cons_self⟩, fun k hk => b k (List.mem_cons_of_mem _ hk)⟩
end Kn
/-! pure: when a row is known, by the program's vectors and by all differences -/
namespace Kn
open K17
abbrev Ph := Bool × List (List Nat)
def msk (n : Nat) (ages : List Nat) : Nat := ((ages.filter fun a => decide (a ≤ n)).map fun a => 2 ^ (n - a)).sum
def masks (p : Ph) (n : Nat) : List Nat := if p.1 then p.2.map (msk n) else 2 ^ n :: p.2.map (msk n)
def behind (V : List Nat) (p : Ph) (n : Nat) (kept : Bool) : List Nat := if kept then (masks p n).foldl hvP (if p.1 then V else V ++ [2 ^ n]) else if p.1 then V else V ++ [2 ^ n]
def orv (V : List Nat) : Nat := V.foldl (fun a b => a ||| b) 0
section
variable (pl : Nat → Ph) (kp : Nat → Bool)
def vst : Nat → List Nat
  | 0 => []
  | n + 1 => behind (vst n) (pl n) n (kp n)
def kst : Nat → Nat → Option Nat
  | 0, _ => none
  | n + 1, r => if (decide (r ≤ n) && (!(pl r).1 && ((kst n r).isNone && !(orv (vst pl kp (n + 1))).testBit r))) = true then some n else kst n r
/-- all differences -/
def sst : Nat → List Nat
  | 0 => [0]
  | n + 1 => if kp n then (pl n).2.foldl (fun l ages => l.filter fun v => !pr (v &&& msk n ages)) (sst n) else if (pl n).1 then sst n else sst n ++ (sst n).map fun v => v ||| 2 ^ n
def lst : Nat → Nat → Option Nat
  | 0, _ => none
  | n + 1, r => if r = n ∧ kp n = true ∧ (pl n).1 = false then some n else if r ≤ n ∧ kp r = false ∧ (pl r).1 = false ∧ (lst n r).isNone = true ∧ ((sst pl kp (n + 1)).all fun v => !v.testBit r) = true then some n else lst n r
end
theorem orv_bit : ∀ (V : List Nat) (a r : Nat), (V.foldl (fun a b => a ||| b) a).testBit r = (a.testBit r || V.any fun v => v.testBit r)
  | [], a, r => by simp
  | v :: V, a, r => by
    rw [List.foldl_cons, orv_bit V, Nat.testBit_or, List.any_cons, Bool.or_assoc]
theorem orv_no {V : List Nat} {r : Nat} : (orv V).testBit r = false ↔ ∀ v ∈ V, v.testBit r = false := by
  unfold orv
  rw [orv_bit, Nat.zero_testBit, Bool.false_or, List.any_eq_false]
  exact ⟨fun h v hv => by have := h v hv; simpa using this, fun h v hv => by rw [h v hv]; decide⟩
theorem prF_two : ∀ n k, k < n → prF n (2 ^ k) = true
  | 0, k, h => by omega
  | n + 1, 0, _ => by
    show ((2 ^ 0).testBit 0 ^^ prF n (2 ^ 0 / 2)) = true
    rw [show (2 ^ 0 : Nat) / 2 = 0 from rfl, prF_zero]
    rfl
  | n + 1, k + 1, h => by
    show ((2 ^ (k + 1)).testBit 0 ^^ prF n (2 ^ (k + 1) / 2)) = true
    have e : 2 ^ (k + 1) / 2 = 2 ^ k := by rw [Nat.pow_succ]; omega
    have b : (2 ^ (k + 1)).testBit 0 = false := by rw [Nat.testBit_zero, Nat.pow_succ]; have : 2 ^ k * 2 % 2 = 0 := by omega
                                                   rw [this]; rfl
    rw [e, b, prF_two n k (by omega)]
    rfl
theorem pr_bit {x n : Nat} (h : n < 420) : pr (x &&& 2 ^ n) = x.testBit n := by
  have e : x &&& 2 ^ n = if x.testBit n = true then 2 ^ n else 0 := by
    apply Nat.eq_of_testBit_eq
    intro i
    rw [Nat.testBit_and, Nat.testBit_two_pow]
    by_cases c : n = i
    · subst c
      rw [decide_eq_true rfl, Bool.and_true]
      cases hb : x.testBit n
      · rw [if_neg Bool.false_ne_true, Nat.zero_testBit]
      · rw [if_pos rfl, Nat.testBit_two_pow_self]
    · rw [decide_eq_false c, Bool.and_false]
      split
      · rw [Nat.testBit_two_pow, decide_eq_false c]
      · rw [Nat.zero_testBit]
  rw [e]
  cases x.testBit n
  · rw [if_neg Bool.false_ne_true]
    exact prF_zero _
  · rw [if_pos rfl]
    exact prF_two 420 n h
theorem small_bit {x n : Nat} (h : x < 2 ^ n) : x.testBit n = false := Nat.testBit_lt_two_pow h
theorem or_new {v n : Nat} (h : v < 2 ^ n) : v ||| 2 ^ n = v ^^^ 2 ^ n := by
  apply Nat.eq_of_testBit_eq
  intro i
  rw [Nat.testBit_or, Nat.testBit_xor, Nat.testBit_two_pow]
  by_cases e : n = i
  · subst e
    rw [small_bit h, decide_eq_true rfl]
    rfl
  · rw [decide_eq_false e]
    cases v.testBit i <;> rfl
section
variable {pl pl' : Nat → Ph} {kp : Nat → Bool}
theorem behind_lt {V : List Nat} {p : Ph} {n : Nat} {k : Bool} (h : ∀ v ∈ V, v < 2 ^ n) : ∀ v ∈ behind V p n k, v < 2 ^ (n + 1) := by
  have up : ∀ v ∈ (if p.1 then V else V ++ [2 ^ n]), v < 2 ^ (n + 1) := fun v hv => by
    have p2 : 2 ^ (n + 1) = 2 * 2 ^ n := by rw [Nat.pow_succ, Nat.mul_comm]
    have p0 : 0 < 2 ^ n := Nat.two_pow_pos n
    have : v ∈ V ∨ v = 2 ^ n := by
      split at hv
      · exact .inl hv
      · rcases List.mem_append.mp hv with z | z
        · exact .inl z
        · exact .inr (List.mem_singleton.mp z)
    rcases this with z | z
    · have := h v z
      omega
    · omega
  unfold behind
  cases k with
  | false => exact up
  | true =>
    intro v hv
    have hv : v ∈ (masks p n).foldl hvP (if p.1 then V else V ++ [2 ^ n]) := hv
    exact sp_lt up (((hvs_sp _ _ v).mp (sp_mem hv)).1)
theorem vst_lt : ∀ n, ∀ v ∈ vst pl kp n, v < 2 ^ n
  | 0 => fun v h => by cases h
  | n + 1 => behind_lt (vst_lt n)
/-- what is let behind a slot -/
theorem behind_sp {V : List Nat} {p : Ph} {n : Nat} (h : ∀ v ∈ V, v < 2 ^ n) (n420 : n < 420) (x : Nat) (k : Bool) :
    Spn (behind V p n k) x ↔ (if k = true then Spn V x ∧ ∀ a ∈ p.2, pr (x &&& msk n a) = false else Spn V x ∨ (p.1 = false ∧ Spn V (x ^^^ 2 ^ n))) := by
  unfold behind
  cases k with
  | false =>
    rw [if_neg Bool.false_ne_true, if_neg Bool.false_ne_true]
    cases hm : p.1 with
    | true => simp
    | false => rw [if_neg Bool.false_ne_true, sp_snoc]; simp
  | true =>
    rw [if_pos rfl, if_pos rfl, hvs_sp]
    cases hm : p.1 with
    | true =>
      rw [if_pos rfl]
      unfold masks
      rw [if_pos hm]
      constructor
      · rintro ⟨a, b⟩
        exact ⟨a, fun z hz => b _ (List.mem_map.mpr ⟨z, hz, rfl⟩)⟩
      · rintro ⟨a, b⟩
        exact ⟨a, fun m hm => by obtain ⟨z, hz, rfl⟩ := List.mem_map.mp hm; exact b z hz⟩
    | false =>
      rw [if_neg Bool.false_ne_true, sp_snoc]
      unfold masks
      rw [if_neg (by rw [hm]; decide)]
      constructor
      · rintro ⟨a, b⟩
        have b0 := b _ List.mem_cons_self
        rw [pr_bit n420] at b0
        refine ⟨?_, fun z hz => b _ (List.mem_cons_of_mem _ (List.mem_map.mpr ⟨z, hz, rfl⟩))⟩
        rcases a with a | a
        · exact a
        · have := small_bit (sp_lt h a)
          rw [Nat.testBit_xor, b0, Nat.testBit_two_pow_self] at this
          cases this
      · rintro ⟨a, b⟩
        refine ⟨.inl a, fun m hm => ?_⟩
        rcases List.mem_cons.mp hm with rfl | hm
        · rw [pr_bit n420]
          exact small_bit (sp_lt h a)
        · obtain ⟨z, hz, rfl⟩ := List.mem_map.mp hm
          exact b z hz
theorem sieve : ∀ (as : List (List Nat)) (l : List Nat) (n x : Nat), x ∈ as.foldl (fun l ages => l.filter fun v => !pr (v &&& msk n ages)) l ↔ x ∈ l ∧ ∀ a ∈ as, pr (x &&& msk n a) = false
  | [], l, n, x => ⟨fun h => ⟨h, fun a ha => by cases ha⟩, fun h => h.1⟩
  | a :: as, l, n, x => by
    rw [List.foldl_cons, sieve as, List.mem_filter]
    constructor
    · rintro ⟨⟨h1, h2⟩, h3⟩
      exact ⟨h1, fun b hb => by rcases List.mem_cons.mp hb with rfl | hb; simpa using h2; exact h3 b hb⟩
    · rintro ⟨h1, h2⟩
      exact ⟨⟨h1, by rw [h2 a List.mem_cons_self]; rfl⟩, fun b hb => h2 b (List.mem_cons_of_mem _ hb)⟩
/-- the law's differences are the vectors' span -/
theorem sst_is (same : ∀ n, (pl n).1 = (pl' n).1 ∧ ∀ a, a ∈ (pl n).2 ↔ a ∈ (pl' n).2) : ∀ n, n ≤ 420 → ∀ x, x ∈ sst pl' kp n ↔ Spn (vst pl kp n) x
  | 0, _, x => by
    show x ∈ [0] ↔ Spn [] x
    exact List.mem_singleton
  | n + 1, hn, x => by
    have ih := sst_is same n (by omega)
    have lt := vst_lt (pl := pl) (kp := kp) n
    show x ∈ (if kp n then _ else _) ↔ Spn (behind _ _ _ _) x
    rw [behind_sp lt (by omega)]
    cases kp n with
    | true =>
      rw [if_pos rfl, if_pos rfl, sieve, ih]
      constructor
      · rintro ⟨a, b⟩
        exact ⟨a, fun z hz => b z (((same n).2 z).mp hz)⟩
      · rintro ⟨a, b⟩
        exact ⟨a, fun z hz => b z (((same n).2 z).mpr hz)⟩
    | false =>
      rw [if_neg Bool.false_ne_true, if_neg Bool.false_ne_true, (same n).1]
      cases hm : (pl' n).1 with
      | true =>
        rw [if_pos rfl, ih]
        constructor
        · exact .inl
        · rintro (h | ⟨h, _⟩)
          · exact h
          · cases h
      | false =>
        rw [if_neg Bool.false_ne_true, List.mem_append, ih, List.mem_map]
        constructor
        · rintro (h | ⟨v, hv, rfl⟩)
          · exact .inl h
          · have sv := (ih v).mp hv
            refine .inr ⟨rfl, ?_⟩
            rw [or_new (sp_lt lt sv), xx_cancel]
            exact sv
        · rintro (h | ⟨_, h⟩)
          · exact .inl h
          · refine .inr ⟨x ^^^ 2 ^ n, (ih _).mpr h, ?_⟩
            rw [or_new (sp_lt lt h), xx_cancel]
theorem kst_late : ∀ n r, n ≤ r → kst pl kp n r = none
  | 0, r, _ => rfl
  | n + 1, r, h => by
    show (if (decide (r ≤ n) && _) = true then some n else kst pl kp n r) = none
    rw [decide_eq_false (by omega), Bool.false_and, if_neg Bool.false_ne_true, kst_late n r (by omega)]
theorem det_is {n r : Nat} : (orv (vst pl kp n)).testBit r = false ↔ ∀ x, Spn (vst pl kp n) x → x.testBit r = false := orv_no.trans knows_sp
/-- a row that is kept is known at once -/
theorem kst_kept {n : Nat} (n420 : n < 420) (hk : kp n = true) (hm : (pl n).1 = false) : kst pl kp (n + 1) n = some n := by
  have lt := vst_lt (pl := pl) (kp := kp) n
  have d : (orv (vst pl kp (n + 1))).testBit n = false := det_is.mpr fun x hx => by
    have hx : Spn (behind _ _ _ _) x := hx
    rw [behind_sp lt n420, hk, if_pos rfl] at hx
    exact small_bit (sp_lt lt hx.1)
  show (if (decide (n ≤ n) && (!(pl n).1 && ((kst pl kp n n).isNone && !(orv (vst pl kp (n + 1))).testBit n))) = true then some n else kst pl kp n n) = some n
  rw [kst_late n n (Nat.le_refl n), d, hm, decide_eq_true (Nat.le_refl n)]
  rfl
theorem kst_stays {n r v : Nat} (h : kst pl kp n r = some v) : kst pl kp (n + 1) r = some v := by
  show (if (decide (r ≤ n) && (!(pl r).1 && ((kst pl kp n r).isNone && _))) = true then some n else kst pl kp n r) = some v
  rw [h]
  simp
theorem kst_on {n m r v : Nat} (h : kst pl kp n r = some v) (l : n ≤ m) : kst pl kp m r = some v := by
  induction m with
  | zero =>
    obtain rfl : n = 0 := by omega
    exact h
  | succ m ih =>
    rcases Nat.lt_or_ge m n with z | z
    · obtain rfl : n = m + 1 := by omega
      exact h
    · exact kst_stays (ih z)
/-- both tell the same -/
theorem lst_is (same : ∀ n, (pl n).1 = (pl' n).1 ∧ ∀ a, a ∈ (pl n).2 ↔ a ∈ (pl' n).2) : ∀ n, n ≤ 420 → ∀ r, lst pl' kp n r = kst pl kp n r
  | 0, _, r => rfl
  | n + 1, hn, r => by
    have ih := lst_is same n (by omega)
    show (if r = n ∧ kp n = true ∧ (pl' n).1 = false then some n else if r ≤ n ∧ kp r = false ∧ (pl' r).1 = false ∧ (lst pl' kp n r).isNone = true ∧ ((sst pl' kp (n + 1)).all fun v => !v.testBit r) = true then some n else lst pl' kp n r) = _
    by_cases c : r = n ∧ kp n = true ∧ (pl' n).1 = false
    · obtain ⟨rfl, c1, c2⟩ := c
      rw [if_pos ⟨rfl, c1, c2⟩, kst_kept (by omega) c1 ((same r).1.trans c2)]
    rw [if_neg c, ih]
    show _ = (if (decide (r ≤ n) && (!(pl r).1 && ((kst pl kp n r).isNone && !(orv (vst pl kp (n + 1))).testBit r))) = true then some n else kst pl kp n r)
    have dd : ((sst pl' kp (n + 1)).all fun v => !v.testBit r) = true ↔ (orv (vst pl kp (n + 1))).testBit r = false := by
      rw [det_is, List.all_eq_true]
      exact ⟨fun h x hx => by simpa using h x ((sst_is same (n + 1) hn x).mpr hx), fun h x hx => by rw [h x ((sst_is same (n + 1) hn x).mp hx)]; rfl⟩
    by_cases c2 : (decide (r ≤ n) && (!(pl r).1 && ((kst pl kp n r).isNone && !(orv (vst pl kp (n + 1))).testBit r))) = true
    · have c3 := c2
      simp only [Bool.and_eq_true, decide_eq_true_iff, Bool.not_eq_true', Option.isNone_iff_eq_none] at c3
      obtain ⟨h1, h2, h3, h4⟩ := c3
      have lost : kp r = false := by
        cases hk : kp r with
        | false => rfl
        | true =>
          rcases Nat.lt_or_ge r n with z | z
          · have := kst_on (kst_kept (pl := pl) (kp := kp) (n := r) (by omega) hk h2) (show r + 1 ≤ n by omega)
            rw [h3] at this
            cases this
          · obtain rfl : r = n := by omega
            exact absurd ⟨rfl, hk, (same r).1.symm.trans h2⟩ c
      rw [if_pos ⟨h1, lost, (same r).1.symm.trans h2, by rw [h3]; rfl, dd.mpr h4⟩, if_pos c2]
    · rw [if_neg c2, if_neg]
      rintro ⟨h1, h2, h3, h4, h5⟩
      refine c2 ?_
      rw [decide_eq_true h1, (same r).1, h3, h4, dd.mp h5]
      rfl
/-- what comes later changes nothing ahead of it -/
theorem vst_same {kp' : Nat → Bool} : ∀ n, (∀ i, i < n → kp i = kp' i) → vst pl kp n = vst pl kp' n
  | 0, _ => rfl
  | n + 1, h => by
    show behind _ _ _ (kp n) = behind _ _ _ (kp' n)
    rw [vst_same n (fun i hi => h i (by omega)), h n (Nat.lt_succ_self n)]
theorem kst_same {kp' : Nat → Bool} : ∀ n, (∀ i, i < n → kp i = kp' i) → ∀ r, kst pl kp n r = kst pl kp' n r
  | 0, _, r => rfl
  | n + 1, h, r => by
    show (if _ then _ else _) = (if _ then _ else _)
    rw [kst_same n (fun i hi => h i (by omega)) r, vst_same (n + 1) h]
theorem vst_len : ∀ n, (vst pl kp n).length ≤ n
  | 0 => Nat.le_refl 0
  | n + 1 => by
    have ih := vst_len n
    have up : (if (pl n).1 then vst pl kp n else vst pl kp n ++ [2 ^ n]).length ≤ n + 1 := by
      split
      · omega
      · rw [List.length_append]
        show _ + 1 ≤ _
        omega
    have fold : ∀ (ms l : List Nat), (ms.foldl hvP l).length ≤ l.length := fun ms => by
      induction ms with
      | nil => exact fun l => Nat.le_refl _
      | cons m ms ih => exact fun l => Nat.le_trans (ih _) (hvP_len l m)
    show (behind _ _ _ _).length ≤ n + 1
    unfold behind
    cases kp n with
    | false => exact up
    | true => exact Nat.le_trans (fold _ _) up
end
end Kn
/-! data told by what they are; comprehensions told by filter and map; slots -/
namespace K17
open PySem L2 Evl Gr
mutual
theorem dp_up {K : PySem.W.Frag} {H H' : Hp} (e : Ex H H') : ∀ (d : PyData) {v : V}, Dp K H v d → Dp K H' v d
  | .none, _, .non => .non
  | .bool _, _, .bl b => .bl b
  | .int _, _, .int i => .int i
  | .str _, _, .str x => .str x
  | .list ds, _, .lst h a => .lst (ex_l e h) (dps_up e ds a)
  | .tuple ds, _, .tup h a => .tup (ex_t e h) (dps_up e ds a)
theorem dps_up {K : PySem.W.Frag} {H H' : Hp} (e : Ex H H') : ∀ (ds : List PyData) {vs : List V}, DpAll K H vs ds → DpAll K H' vs ds
  | [], _, .nil => .nil
  | d :: ds, _, .cons h a => .cons (dp_up e d h) (dps_up e ds a)
end
/-- gives a thing that is d -/
def EvD (K : PySem.W.Frag) (te : TE) (σ : L2.St) (H : Hp) (d : PyData) : Prop := ∀ H1, Ex H H1 → ∀ Q : VK, (∀ v H2, Ex H1 H2 → Dp K H2 v d → Q v H2) → te σ H1 Q
section
variable {K : PySem.W.Frag} {σ : L2.St} {H H' : Hp} {te ta tb tl : TE} {t : TT} {d e : PyData} {ds : List PyData} {xs : List V} {v : V} {a : Addr}
theorem EvD.mono (h : EvD K te σ H d) (e : Ex H H') : EvD K te σ H' d := fun H1 e1 => h H1 (e.trans e1)
theorem ed_of (h : Ev te σ H v) (hd : ∀ H1, Ex H H1 → Dp K H1 v d) : EvD K te σ H d := fun H1 e Q q => h H1 e _ fun H2 e2 => q v H2 e2 (hd H2 (e.trans e2))
theorem ed_L (h : EvL te σ H xs) (hd : ∀ H1, Ex H H1 → DpAll K H1 xs ds) : EvD K te σ H (.list ds) := fun H1 e Q q => h H1 e _ fun p H2 _ e2 hp => q _ H2 e2 (.lst (sq_of hp) (hd H2 (e.trans e2)))
theorem ed_T (h : EvTu K te σ H xs) (hd : ∀ H1, Ex H H1 → DpAll K H1 xs ds) : EvD K te σ H (.tuple ds) := fun H1 e Q q => h H1 e _ fun p H2 e2 hp => q _ H2 e2 (.tup hp (hd H2 (e.trans e2)))
theorem ev_eqD (ha : EvD K ta σ H d) (hb : EvD K tb σ H e) (sd : SeqAt.shaped d = true) (se : SeqAt.shaped e = true) : Ev (tOp (rEqD K) ta tb) σ H (.bl (PyData.eqv d e)) := fun H1 e1 Q q =>
  ha H1 e1 _ fun v H2 e2 hv => hb H2 (e1.trans e2) _ fun u H3 e3 hu => ⟨d, e, dp_up e3 d hv, hu, sd, se, q H3 (e2.trans e3)⟩
theorem ev_neD (ha : EvD K ta σ H d) (hb : EvD K tb σ H e) (sd : SeqAt.shaped d = true) (se : SeqAt.shaped e = true) : Ev (tOp (rNeD K) ta tb) σ H (.bl (!PyData.eqv d e)) := fun H1 e1 Q q =>
  ha H1 e1 _ fun v H2 e2 hv => hb H2 (e1.trans e2) _ fun u H3 e3 hu => ⟨d, e, dp_up e3 d hv, hu, sd, se, q H3 (e2.trans e3)⟩
theorem ev_inD (ha : EvD K ta σ H d) (hb : EvD K tb σ H (.list ds)) (sd : SeqAt.shaped d = true) (se : SeqAt.shaped (.list ds) = true) : Ev (tOp (rInD K) ta tb) σ H (.bl (ds.any fun z => PyData.eqv z d)) := fun H1 e1 Q q =>
  ha H1 e1 _ fun v H2 e2 hv => hb H2 (e1.trans e2) _ fun u H3 e3 hu => ⟨d, ds, dp_up e3 d hv, hu, sd, se, q H3 (e2.trans e3)⟩
end
/-! ### what is not deep -/
def Low (n : Nat) (d : PyData) : Prop := d.canLay0 = true ∧ d.depth ≤ n
theorem lay_all : ∀ {ds : List PyData}, (∀ d ∈ ds, d.canLay0 = true) → PyData.canLayAll0 ds = true
  | [], _ => by simp [PyData.canLayAll0]
  | d :: ds, h => by simp [PyData.canLayAll0, h d List.mem_cons_self, lay_all fun x hx => h x (List.mem_cons_of_mem _ hx)]
theorem depth_all {n : Nat} : ∀ {ds : List PyData}, (∀ d ∈ ds, d.depth ≤ n) → PyData.depthAll ds ≤ n
  | [], _ => by simp [PyData.depthAll]
  | d :: ds, h => by
    simp only [PyData.depthAll]
    exact Nat.max_le.mpr ⟨h d List.mem_cons_self, depth_all fun x hx => h x (List.mem_cons_of_mem _ hx)⟩
theorem low_list {n : Nat} {ds : List PyData} (h : ∀ d ∈ ds, Low n d) : Low (n + 1) (.list ds) := by
  refine ⟨?_, ?_⟩
  · simp only [PyData.canLay0]
    exact lay_all fun d hd => (h d hd).1
  · have := depth_all fun d hd => (h d hd).2
    simp only [PyData.depth]
    omega
theorem low_tup {n : Nat} {ds : List PyData} (h : ∀ d ∈ ds, Low n d) : Low (n + 1) (.tuple ds) := by
  refine ⟨?_, ?_⟩
  · simp only [PyData.canLay0]
    exact lay_all fun d hd => (h d hd).1
  · have := depth_all fun d hd => (h d hd).2
    simp only [PyData.depth]
    omega
theorem low_shaped {n : Nat} {d : PyData} (h : Low n d) (hn : n ≤ 64) : SeqAt.shaped d = true := by
  unfold SeqAt.shaped
  rw [h.1, decide_eq_true (Nat.le_trans h.2 hn)]
  rfl
theorem low_int (i : Int) : Low 0 (.int i) := ⟨by simp [PyData.canLay0], by simp [PyData.depth]⟩
theorem low_str {z : Str} (h : PyData.strOk z = true) : Low 0 (.str z) := ⟨by simp [PyData.canLay0, h], by simp [PyData.depth]⟩
theorem low_non : Low 0 .none := ⟨by simp [PyData.canLay0], by simp [PyData.depth]⟩
theorem eqvAll_map {α : Type} [DecidableEq α] (f : α → PyData) (h : ∀ x y, PyData.eqv (f x) (f y) = decide (x = y)) : ∀ xs ys : List α, PyData.eqvAll (xs.map f) (ys.map f) = decide (xs = ys)
  | [], [] => by simp [PyData.eqvAll]
  | [], y :: ys => by simp [PyData.eqvAll]
  | x :: xs, [] => by simp [PyData.eqvAll]
  | x :: xs, y :: ys => by
    simp only [List.map_cons, PyData.eqvAll, eqvAll_map f h xs ys, h]
    by_cases h1 : x = y <;> by_cases h2 : xs = ys <;> simp [h1, h2]
/-! ### comprehensions -/
def at_ {α : Type} (l : List α) (p : α → Bool) (i : Nat) : Bool := (l[i]?).elim false p
def got {α : Type} (l : List α) (g : α → V) (i : Nat) : V := (l[i]?).elim .non g
theorem at_of {α : Type} {l : List α} {i : Nat} {x : α} {p : α → Bool} (h : l[i]? = some x) : at_ l p i = p x := by unfold at_; rw [h]; rfl
theorem got_of {α : Type} {l : List α} {i : Nat} {x : α} {g : α → V} (h : l[i]? = some x) : got l g i = g x := by unfold got; rw [h]; rfl
theorem all_got {α : Type} (l : List α) : (List.range l.length).map (fun i => l[i]?) = l.map some := by
  refine List.ext_getElem? fun i => ?_
  rw [List.getElem?_map, List.getElem?_map]
  by_cases h : i < l.length
  · rw [List.getElem?_range h, List.getElem?_eq_getElem h]
    show some l[i]? = some (some l[i])
    rw [List.getElem?_eq_getElem h]
  · rw [List.getElem?_eq_none (by rw [List.length_range]; omega), List.getElem?_eq_none (by omega)]
    rfl
theorem given_of {α : Type} (l : List α) (p : α → Bool) (g : α → V) : given l.length (at_ l p) (got l g) = (l.filter p).map g := by
  have e1 : given l.length (at_ l p) (got l g) = (((List.range l.length).map fun i => l[i]?).filter fun o => o.elim false p).map fun o => o.elim V.non g := by
    unfold given
    rw [List.filter_map, List.map_map]
    rfl
  rw [e1, all_got, List.filter_map, List.map_map]
  rfl
theorem nth_map {α : Type} {f : α → V} {l : List α} {i : Nat} {x : V} (h : (l.map f)[i]? = some x) : ∃ y, l[i]? = some y ∧ x = f y := by
  rw [List.getElem?_map] at h
  obtain ⟨y, hy, rfl⟩ := Option.map_eq_some_iff.mp h
  exact ⟨y, hy, rfl⟩
section
variable {K : PySem.W.Frag} {σ : L2.St} {H : Hp} {te ta tl : TE} {t : TT} {α : Type}
/-- [e for x in a list if t] -/
theorem el_mapL (f : α → V) {l : List α} {j : Nat} {vs : List Nat} {a : Addr} (p : α → Bool) (g : α → V) (h : Ev tl σ H (.ref a)) (hx : SqL K H a (l.map f)) (hz : l.length ≤ 40000) (hw : ∀ x, wipe ((wipe σ vs).set j (some x)) vs = wipe σ vs)
    (ht : ∀ x ∈ l, ∀ H1, Ex H H1 → EvT t ((wipe σ vs).set j (some (f x))) H1 (p x)) (he : ∀ x ∈ l, ∀ H1, Ex H H1 → p x = true → Ev te ((wipe σ vs).set j (some (f x))) H1 (g x)) : EvL (tLc (iList K tl) (gName j) t te vs) σ H ((l.filter p).map g) := by
  have c := el_lcL (K := K) (σ := σ) (H := H) (t := t) (te := te) (a := a) (xs := l.map f) (tl := tl) (j := j) (vs := vs) (at_ l p) (got l g) h hx (by rw [List.length_map]; exact hz) hw
    (fun i x H1 e hi => by
      obtain ⟨y, hy, rfl⟩ := nth_map hi
      rw [at_of hy]
      exact ht y (List.mem_of_getElem? hy) H1 e)
    (fun i x H1 e hi hf => by
      obtain ⟨y, hy, rfl⟩ := nth_map hi
      rw [at_of hy] at hf
      rw [got_of hy]
      exact he y (List.mem_of_getElem? hy) H1 e hf)
  rw [List.length_map, given_of] at c
  exact c
theorem el_mapNL (f : α → V) {l : List α} {j : Nat} {vs : List Nat} (p : α → Bool) (g : α → V) (h : EvL tl σ H (l.map f)) (hz : l.length ≤ 40000) (hw : ∀ x, wipe ((wipe σ vs).set j (some x)) vs = wipe σ vs)
    (ht : ∀ x ∈ l, ∀ H1, Ex H H1 → EvT t ((wipe σ vs).set j (some (f x))) H1 (p x)) (he : ∀ x ∈ l, ∀ H1, Ex H H1 → p x = true → Ev te ((wipe σ vs).set j (some (f x))) H1 (g x)) : EvL (tLc (iList K tl) (gName j) t te vs) σ H ((l.filter p).map g) := by
  have c := el_lcNL (K := K) (σ := σ) (H := H) (t := t) (te := te) (xs := l.map f) (tl := tl) (j := j) (vs := vs) (at_ l p) (got l g) h (by rw [List.length_map]; exact hz) hw
    (fun i x H1 e hi => by
      obtain ⟨y, hy, rfl⟩ := nth_map hi
      rw [at_of hy]
      exact ht y (List.mem_of_getElem? hy) H1 e)
    (fun i x H1 e hi hf => by
      obtain ⟨y, hy, rfl⟩ := nth_map hi
      rw [at_of hy] at hf
      rw [got_of hy]
      exact he y (List.mem_of_getElem? hy) H1 e hf)
  rw [List.length_map, given_of] at c
  exact c
/-- [e for x in a tuple if t] -/
theorem el_tup {xs : List V} {j : Nat} {vs : List Nat} (f : Nat → Bool) (v : Nat → V) (h : EvTu K tl σ H xs) (hz : xs.length ≤ 40000) (hw : ∀ x, wipe ((wipe σ vs).set j (some x)) vs = wipe σ vs)
    (ht : ∀ (i : Nat) (x : V) H1, Ex H H1 → xs[i]? = some x → EvT t ((wipe σ vs).set j (some x)) H1 (f i)) (he : ∀ (i : Nat) (x : V) H1, Ex H H1 → xs[i]? = some x → f i = true → Ev te ((wipe σ vs).set j (some x)) H1 (v i)) :
    EvL (tLc (iTup K tl) (gName j) t te vs) σ H (given xs.length f v) := fun H0 e Q q => h H0 e _ fun a H1 e1 hx =>
  ⟨a, rfl, ⟨xs, hx⟩, fun Dl hD => lc_it (n := xs.length) (walk_tup (xs := xs)) (Cw H1 f v Dl) ⟨hD, Ex.new hD, upd_same⟩ (fun _ H' _ p => ex_t p.2.1 hx)
    (fun k x H' H'' hk p y => by
      obtain ⟨rfl, hx'⟩ := y
      exact ⟨hw _, cw_turn p (by omega) (ht k x H1 (e.trans e1) hx') fun hf => he k x H1 (e.trans e1) hx' hf⟩)
    (fun H' p => q Dl H' (fresh_back e1 p.1) (e1.trans p.2.1) p.2.2)⟩
theorem el_mapT (f : α → V) {l : List α} {j : Nat} {vs : List Nat} (p : α → Bool) (g : α → V) (h : EvTu K tl σ H (l.map f)) (hz : l.length ≤ 40000) (hw : ∀ x, wipe ((wipe σ vs).set j (some x)) vs = wipe σ vs)
    (ht : ∀ x ∈ l, ∀ H1, Ex H H1 → EvT t ((wipe σ vs).set j (some (f x))) H1 (p x)) (he : ∀ x ∈ l, ∀ H1, Ex H H1 → p x = true → Ev te ((wipe σ vs).set j (some (f x))) H1 (g x)) : EvL (tLc (iTup K tl) (gName j) t te vs) σ H ((l.filter p).map g) := by
  have c := el_tup (K := K) (σ := σ) (H := H) (t := t) (te := te) (xs := l.map f) (tl := tl) (j := j) (vs := vs) (at_ l p) (got l g) h (by rw [List.length_map]; exact hz) hw
    (fun i x H1 e hi => by
      obtain ⟨y, hy, rfl⟩ := nth_map hi
      rw [at_of hy]
      exact ht y (List.mem_of_getElem? hy) H1 e)
    (fun i x H1 e hi hf => by
      obtain ⟨y, hy, rfl⟩ := nth_map hi
      rw [at_of hy] at hf
      rw [got_of hy]
      exact he y (List.mem_of_getElem? hy) H1 e hf)
  rw [List.length_map, given_of] at c
  exact c
/-- [e for i, x in enumerate(a tuple) if t] -/
theorem el_enT {ta : TA} {a : Addr} {xs : List V} {i j : Nat} {vs : List Nat} (f : Nat → Bool) (v : Nat → V) (h : EvA ta σ H [.ref a]) (hx : SqT K H a xs) (hz : xs.length ≤ 40000) (hw : ∀ x y, wipe (((wipe σ vs).set i (some x)).set j (some y)) vs = wipe σ vs)
    (ht : ∀ (k : Nat) (x : V) H1, Ex H H1 → xs[k]? = some x → EvT t (((wipe σ vs).set i (some (.int (k : Int)))).set j (some x)) H1 (f k)) (he : ∀ (k : Nat) (x : V) H1, Ex H H1 → xs[k]? = some x → f k = true → Ev te (((wipe σ vs).set i (some (.int (k : Int)))).set j (some x)) H1 (v k)) :
    EvL (tLc (EnT.iEnumT K ta) (gTup K 2 (gCons (gName i) (gCons (gName j) gNil))) t te vs) σ H (given xs.length f v) := fun H0 e Q q => h H0 e _ fun H1 e1 =>
  ⟨a, xs, rfl, ex_t (e.trans e1) hx, fun Dl hD => lc_it (n := xs.length) (EnT.walk_enumT (ys := xs)) (Cw H1 f v Dl) ⟨hD, Ex.new hD, upd_same⟩ (fun _ H' _ p => ex_t ((e.trans e1).trans p.2.1) hx)
    (fun k x H' H'' hk p y => by
      obtain ⟨T, x1, y1, rfl, hT, rfl, ex, ey⟩ := y
      obtain rfl := Option.some.inj ex
      have e2 := Ex.new (H := H') (o := .tup [.int (k : Nat), y1]) hT
      have p' : Cw H1 f v Dl k (upd H' T (.tup [.int (k : Nat), y1])) := ⟨p.1, p.2.1.trans e2, e2 _ _ p.2.2⟩
      exact ⟨T, _, rfl, st_of upd_same, rfl, _, _, rfl, _, _, rfl, rfl, hw _ _, cw_turn p' (by omega) (ht k y1 H1 (e.trans e1) ey) fun hf => he k y1 H1 (e.trans e1) ey hf⟩)
    (fun H' p => q Dl H' (fresh_back e1 p.1) (e1.trans p.2.1) p.2.2)⟩
end
end K17
namespace K17
open PySem L2 Evl Gr
/-! ### x in a tuple, as data -/
section
variable {X : Cx}
def rInDT (K : PySem.W.Frag) : R2 := fun x y H Q => ∃ d ds, Dp K H x d ∧ Dp K H y (.tuple ds) ∧ SeqAt.shaped d = true ∧ SeqAt.shaped (.tuple ds) = true ∧ Q (.bl (ds.any fun z => PyData.eqv z d)) H
theorem op_inDT (hu : X.A.units + 65 < cLine) : OpR X (compareOp .In) (rInDT X.K) := by
  intro pins s σ H x y v u Q I rx ry h
  obtain ⟨d, ds, hd, he, sd, se, q⟩ := h
  obtain ⟨as, r1⟩ := Dp.reads I d x v hd rx
  obtain ⟨bs, r2⟩ := Dp.reads I (.tuple ds) y u he ry
  exact SeqAt.in_tuple_reads r2 r1 (SeqAt.canLay_of_shaped se) (SeqAt.canLay_of_shaped sd) (PyProof.Rows.room_in_shaped sd hu) ⟨.bl _, H, I, rfl, q⟩
end
/-! ### comprehensions of two clauses, and of dicts -/
section
variable {J J1 : It} {n n1 : Nat} {G G1 : Hp → Prop} {Y Y1 : Nat → Hp → V → Hp → Prop}
theorem lc2_it (w : Walk J n G Y) {g : TG} {tt : TT} {wi1 : TI} {g1 : TG} {tt1 : TT} {te : TE} {vs vs1 : List Nat} {σ : L2.St} {H1 : Hp} {D : Addr} {Qd : Hp → Prop} (Pv : Nat → Hp → Prop) (h0 : Pv 0 (upd H1 D (.lst []))) (hG : ∀ i H, i ≤ n → Pv i H → G H)
    (hs : ∀ i x H H', i < n → Pv i H → Y i H x H' → g x (wipe σ vs) H' fun σ2 H2 => wipe σ2 vs = wipe σ vs ∧ tt σ2 H2 fun b H3 =>
      if b = true then wi1 σ2 H3 fun J1 H4 => ∃ W1 : Nat → Nat → Hp → Prop, (∃ m, W1 0 m H4) ∧ ∀ j k H, W1 j k H →
        (J1.stop j H ∧ Pv (i + 1) H) ∨ (J1.go j H ∧ ∃ Nx1 : Hp → Prop, (∀ H', Nx1 H' → ∃ k', k' < k ∧ W1 (j + 1) k' H') ∧ ∀ x H', J1.yld j H x H' → g1 x (wipe σ2 vs1) H' fun σ3 H5 => wipe σ3 vs1 = wipe σ2 vs1 ∧ tt1 σ3 H5 fun b H6 =>
          if b = true then te σ3 H6 fun y H7 => ∃ acc, H7 D = some (.lst acc) ∧ acc.length < sizeLine ∧ Nx1 (upd H7 D (.lst (acc ++ [y]))) else Nx1 H6)
      else Pv (i + 1) H3) (hd : ∀ H, Pv n H → Qd H) :
    ∃ W : Nat → Nat → Hp → Prop, (∃ m, W 0 m (upd H1 D (.lst []))) ∧ ∀ i m H, W i m H →
      (J.stop i H ∧ Qd H) ∨ (J.go i H ∧ ∃ Nx : Hp → Prop, (∀ H', Nx H' → ∃ m', m' < m ∧ W (i + 1) m' H') ∧ ∀ x H', J.yld i H x H' → g x (wipe σ vs) H' fun σ2 H2 => wipe σ2 vs = wipe σ vs ∧ tt σ2 H2 fun b H3 =>
        if b = true then wi1 σ2 H3 fun J1 H4 => ∃ W1 : Nat → Nat → Hp → Prop, (∃ m, W1 0 m H4) ∧ ∀ j k H, W1 j k H →
          (J1.stop j H ∧ Nx H) ∨ (J1.go j H ∧ ∃ Nx1 : Hp → Prop, (∀ H', Nx1 H' → ∃ k', k' < k ∧ W1 (j + 1) k' H') ∧ ∀ x H', J1.yld j H x H' → g1 x (wipe σ2 vs1) H' fun σ3 H5 => wipe σ3 vs1 = wipe σ2 vs1 ∧ tt1 σ3 H5 fun b H6 =>
            if b = true then te σ3 H6 fun y H7 => ∃ acc, H7 D = some (.lst acc) ∧ acc.length < sizeLine ∧ Nx1 (upd H7 D (.lst (acc ++ [y]))) else Nx1 H6)
        else Nx H3) := by
  refine ⟨fun i m H => m = n - i ∧ i ≤ n ∧ Pv i H, ⟨n, by simp, Nat.zero_le _, h0⟩, fun i m H ⟨em, hi, p⟩ => ?_⟩
  subst em
  have q := hG i H hi p
  rcases Nat.lt_or_ge i n with lt | ge
  · exact .inr ⟨w.goes i H lt q, Pv (i + 1), fun H' p' => ⟨n - (i + 1), by omega, rfl, lt, p'⟩, fun x H' y => hs i x H H' lt p (w.yields i H x H' lt q y)⟩
  · obtain rfl : i = n := by omega
    exact .inl ⟨w.stops H q, hd H p⟩
theorem in2_it (w : Walk J1 n1 G1 Y1) {g1 : TG} {tt1 : TT} {te : TE} {vs1 : List Nat} {σ2 : L2.St} {H4 : Hp} {D : Addr} {Nx : Hp → Prop} (Qv : Nat → Hp → Prop) (h0 : Qv 0 H4) (hG : ∀ i H, i ≤ n1 → Qv i H → G1 H)
    (hs : ∀ i x H H', i < n1 → Qv i H → Y1 i H x H' → g1 x (wipe σ2 vs1) H' fun σ3 H5 => wipe σ3 vs1 = wipe σ2 vs1 ∧ tt1 σ3 H5 fun b H6 =>
      if b = true then te σ3 H6 fun y H7 => ∃ acc, H7 D = some (.lst acc) ∧ acc.length < sizeLine ∧ Qv (i + 1) (upd H7 D (.lst (acc ++ [y]))) else Qv (i + 1) H6) (hd : ∀ H, Qv n1 H → Nx H) :
    ∃ W1 : Nat → Nat → Hp → Prop, (∃ m, W1 0 m H4) ∧ ∀ j k H, W1 j k H →
      (J1.stop j H ∧ Nx H) ∨ (J1.go j H ∧ ∃ Nx1 : Hp → Prop, (∀ H', Nx1 H' → ∃ k', k' < k ∧ W1 (j + 1) k' H') ∧ ∀ x H', J1.yld j H x H' → g1 x (wipe σ2 vs1) H' fun σ3 H5 => wipe σ3 vs1 = wipe σ2 vs1 ∧ tt1 σ3 H5 fun b H6 =>
        if b = true then te σ3 H6 fun y H7 => ∃ acc, H7 D = some (.lst acc) ∧ acc.length < sizeLine ∧ Nx1 (upd H7 D (.lst (acc ++ [y]))) else Nx1 H6) := by
  refine ⟨fun i m H => m = n1 - i ∧ i ≤ n1 ∧ Qv i H, ⟨n1, by simp, Nat.zero_le _, h0⟩, fun i m H ⟨em, hi, p⟩ => ?_⟩
  subst em
  have q := hG i H hi p
  rcases Nat.lt_or_ge i n1 with lt | ge
  · exact .inr ⟨w.goes i H lt q, Qv (i + 1), fun H' p' => ⟨n1 - (i + 1), by omega, rfl, lt, p'⟩, fun x H' y => hs i x H H' lt p (w.yields i H x H' lt q y)⟩
  · obtain rfl : i = n1 := by omega
    exact .inl ⟨w.stops H q, hd H p⟩
theorem dc_it (w : Walk J n G Y) {g : TG} {tt : TT} {tk tv : TE} {vs : List Nat} {σ : L2.St} {H1 : Hp} {D : Addr} {Qd : Hp → Prop} (Pv : Nat → Hp → Prop) (h0 : Pv 0 (upd H1 D (.dK []))) (hG : ∀ i H, i ≤ n → Pv i H → G H)
    (hs : ∀ i x H H', i < n → Pv i H → Y i H x H' → g x (wipe σ vs) H' fun σ2 H2 => wipe σ2 vs = wipe σ vs ∧ tt σ2 H2 fun b H3 =>
      if b = true then tk σ2 H3 fun y H4 => tv σ2 H4 fun z H5 => ∃ kvs k, y = kV k ∧ H5 D = some (.dK kvs) ∧ kvs.length < sizeLine ∧ Pv (i + 1) (upd H5 D (.dK (putK kvs k z))) else Pv (i + 1) H3) (hd : ∀ H, Pv n H → Qd H) :
    ∃ W : Nat → Nat → Hp → Prop, (∃ m, W 0 m (upd H1 D (.dK []))) ∧ ∀ i m H, W i m H →
      (J.stop i H ∧ Qd H) ∨ (J.go i H ∧ ∃ Nx : Hp → Prop, (∀ H', Nx H' → ∃ m', m' < m ∧ W (i + 1) m' H') ∧ ∀ x H', J.yld i H x H' → g x (wipe σ vs) H' fun σ2 H2 => wipe σ2 vs = wipe σ vs ∧ tt σ2 H2 fun b H3 =>
        if b = true then tk σ2 H3 fun y H4 => tv σ2 H4 fun z H5 => ∃ kvs k, y = kV k ∧ H5 D = some (.dK kvs) ∧ kvs.length < sizeLine ∧ Nx (upd H5 D (.dK (putK kvs k z))) else Nx H3) := by
  refine ⟨fun i m H => m = n - i ∧ i ≤ n ∧ Pv i H, ⟨n, by simp, Nat.zero_le _, h0⟩, fun i m H ⟨em, hi, p⟩ => ?_⟩
  subst em
  have q := hG i H hi p
  rcases Nat.lt_or_ge i n with lt | ge
  · exact .inr ⟨w.goes i H lt q, Pv (i + 1), fun H' p' => ⟨n - (i + 1), by omega, rfl, lt, p'⟩, fun x H' y => hs i x H H' lt p (w.yields i H x H' lt q y)⟩
  · obtain rfl : i = n := by omega
    exact .inl ⟨w.stops H q, hd H p⟩
end
end K17
namespace K17
open PySem L2 Evl Gr StX EnT Kn
/-! ### ages and sums -/
def AgesOk (l : List Nat) : Prop := l ≠ [] ∧ l.length ≤ 4 ∧ (∀ a ∈ l, 1 ≤ a ∧ a ≤ 4) ∧ l.Pairwise (· < ·)
theorem vN_map (l : List Nat) : vN l = l.map fun n : Nat => V.int (n : Int) := by
  show vI (zI l) = _
  unfold vI zI
  rw [List.map_map]
  rfl
theorem ev_all {K : PySem.W.Frag} {σ : L2.St} {H : Hp} {te : TE} {bs : List Bool} (h : EvL te σ H (bs.map V.bl)) : Ev (tCB (rAll K) (tCons te tNil)) σ H (.bl (bs.all id)) := fun H1 e Q q =>
  h H1 e _ fun p H2 _ e2 hp => ⟨p, bs, rfl, sq_of hp, q H2 e2⟩
theorem all_yes (n : Nat) : ((List.replicate n true).all id) = true := by
  rw [List.all_eq_true]
  intro x hx
  rw [(List.mem_replicate.mp hx).2]
  rfl
theorem rep_map (n : Nat) : (List.replicate n true).map V.bl = List.replicate n (V.bl true) := List.map_replicate
section
variable {P : Program} {w : World} {K : PySem.W.Frag} {mg : Str → Option Value} {base : Heap}
abbrev sAsc : Stmt := top 14
abbrev sSum : Stmt := top 15
def spAsc (K : PySem.W.Frag) : Sp := fun vs H Q _ => ∃ (a : Addr) (l : List Nat), vs = [.ref a] ∧ SqT K H a (vN l) ∧ l.length ≤ 4 ∧ l.Pairwise (· < ·) ∧ l ≠ [] ∧ RetV (.bl true) H Q
theorem scAsc : FnScope ["values", "at"] ["values"] (defScope sAsc) := ⟨rfl, rfl, rfl, by decide +kernel, rfl, by decide +kernel, by decide +kernel⟩
theorem ok_Asc {f : Addr} {fd : FuncData} (F : Fun K "is_ascending" "is_ascending" sAsc f fd) (S : GlbS mg) (all : mg "all" = none) : FnOk P w K mg base CX0 1 f fd ["values"] (spAsc K) := by
  refine F.ok scAsc (fun vs H Q E h => ?_) (fun cdv A outer s H vs Q E hr h => ?_)
  · obtain ⟨a, l, rfl, _⟩ := h
    rfl
  · obtain ⟨a, l, rfl, hL, h4, up, ne, k⟩ := h
    refine ⟨_, (pss_one (ps_ret (pe_callB (cr_all rfl) (by rfl) all (by decide +kernel) (pa_cons (pe_lc (own := [("at", 1)]) (g := gName 1) rfl scAsc.nd (pi_range2 (by rfl) S.range (pa_cons pe_int (pa_cons (pe_callB call_len_seq (by rfl) S.len PySem.boot_len (pa_cons (pv 0) pa_nil)) pa_nil)))
        (blkOk_by (own := [("at", 1)]) (N := ["values", "at"]) (sc := defScope sAsc) (by decide +kernel)) (fun _ _ _ _ _ => pg_name (i := 1) scAsc.nd rfl (Or.inl rfl)) (fun _ _ _ _ _ => pts_nil)
        (fun _ _ _ _ _ => pe_cmpR op_lt (pe_ix (show IxR _ (rIxT K) from ix_tup) (pv 0) (pe_op op_sub (pv 1) pe_int) (fun _ _ => rfl)) (pe_ix (show IxR _ (rIxT K) from ix_tup) (pv 0) (pv 1) (fun _ _ => rfl)) (nomark _))) pa_nil)))), ?_⟩
    have l0 : 0 < l.length := List.length_pos_iff.mpr ne
    have at_ : ∀ {i : Nat} {v : Nat}, l[i]? = some v → atI (vN l) (i : Int) = some (V.int (v : Int)) := fun h => atI_nat (vN_at h)
    have c1 := el_lcR2 (σ := [some (.ref a), none]) (H := H) (t := tYes) (j := 1) (vs := [1]) (lo := 1) (n := (l.length : Int))
      (te := tOp (rI0 fun i j => .bl (decide (i < j))) (tOp (rIxT K) (tVar 0) (tOp (rI0 fun i j => .int (i - j)) (tVar 1) (tC (.int 1)))) (tOp (rIxT K) (tVar 0) (tVar 1)))
      (fun _ => true) (fun _ => V.bl true)
      (ta := tCons (tC (.int 1)) (tCons (tCB (fun xs H Q => ∃ p ys, xs = [V.ref p] ∧ (SqL K H p ys ∨ SqT K H p ys) ∧ Q (.int ys.length) H) (tCons (tVar 0) tNil)) tNil))
      (ea_cons ev_c (ea_cons (ev_is (ev_cb (ea_cons (ev_var rfl) ea_nil) (rc_lenQ (.inr hL))) (by rw [vN_len])) ea_nil)) (by omega) (fun _ => rfl) (fun i H1 e1 hi => et_none) (fun i H1 e1 hi _ => by
        have hi' : i + 1 < l.length := by omega
        have g1 : l[i]? = some l[i] := List.getElem?_eq_getElem (by omega)
        have g2 : l[i + 1]? = some l[i + 1] := List.getElem?_eq_getElem hi'
        have lt := List.pairwise_iff_getElem.mp up i (i + 1) (by omega) hi' (by omega)
        exact ev_is (ev_op (ev_op (y := .int (i : Int)) (ev_var rfl) (ev_is (ev_op (ev_var rfl) ev_c rv_I0) (by congr 1; omega)) (rv_ixT (ex_t e1 hL) (at_ g1))) (ev_op (y := .int ((i + 1 : Nat) : Int)) (ev_var rfl) (ev_is (ev_var rfl) (by congr 1; omega)) (rv_ixT (ex_t e1 hL) (at_ g2))) rv_I0) (congrArg V.bl (decide_eq_true (by omega))))
    rw [given_all] at c1
    have c2 : (List.range ((l.length : Int) - 1).toNat).map (fun _ : Nat => V.bl true) = (List.replicate ((l.length : Int) - 1).toNat true).map V.bl := by
      rw [rep_map, List.map_const', List.length_range]
    rw [c2] at c1
    exact s_ret (ev_is (ev_all c1) (congrArg V.bl (all_yes _))) k
def spSum (K : PySem.W.Frag) : Sp := fun vs H Q _ => ∃ (a : Addr) (l : List Nat), vs = [.ref a] ∧ H a = some (.tup (vN l)) ∧ AgesOk l ∧ RetV (.bl true) H Q
theorem scSum : FnScope ["value", "age"] ["value"] (defScope sSum) := ⟨rfl, rfl, rfl, by decide +kernel, rfl, by decide +kernel, by decide +kernel⟩
theorem kit_tt : kitB "tuple" "tuple" = some true := by decide +kernel
theorem ok_Sum {f : Addr} {fd : FuncData} (F : Fun K "is_sum" "is_sum" sSum f fd) (T : GlbT mg) (S : GlbS mg) (all : mg "all" = none) (hm : ∃ t, mg "MOST_AGE" = some (.int 4 t)) (GW : Gfn P w K mg base 2 "is_within" ["value", "least", "most"] (spWithin K)) (GA : Gfn P w K mg base 1 "is_ascending" ["values"] (spAsc K)) :
    FnOk P w K mg base CX0 3 f fd ["value"] (spSum K) := by
  obtain ⟨fW, fdW, GW, kW, bW, gW⟩ := GW
  obtain ⟨fA, fdA, GA, kA, bA, gA⟩ := GA
  obtain ⟨t4, hm⟩ := hm
  refine F.ok scSum (fun vs H Q E h => ?_) (fun cdv A outer s H vs Q E hr h => ?_)
  · obtain ⟨a, l, rfl, _⟩ := h
    rfl
  · obtain ⟨a, l, rfl, hL, ok, k⟩ := h
    have r1 := hr.mono (show 1 ≤ 2 by decide)
    refine ⟨_, (pss_cons (ps_if (PW.pt (pw_or (pt_not (pt_val (pe_callB call_isi (by rfl) T.inst (by decide +kernel) (pa_cons (pv 0) (pa_cons (pe_bltn (v := .ty "tuple") (by rfl) S.tuple (by decide +kernel) rfl) pa_nil))))) (pw_or1 (pt_not (pt_chain op_le op_le pe_int (pe_callB call_len_seq (by rfl) S.len PySem.boot_len (pa_cons (pv 0) pa_nil)) (pe_glob (v := .int 4) (by rfl) hm ⟨t4, rfl⟩)))))) (pss_one (ps_ret pe_bl)) pss_nil)
      (pss_one (ps_ret (pe_and (pe_callB (cr_all rfl) (by rfl) all (by decide +kernel) (pa_cons (pe_lc (own := [("age", 1)]) (g := gName 1) rfl scSum.nd (pi_tup (pv 0)) (blkOk_by (own := [("age", 1)]) (N := ["value", "age"]) (sc := defScope sSum) (by decide +kernel)) (fun _ _ _ _ _ => pg_name (i := 1) scSum.nd rfl (Or.inl rfl)) (fun _ _ _ _ _ => pts_nil)
        (fun _ _ _ _ _ => pe_call GW hr (by rfl) gW kW bW .nil pass0 (pa_cons (pv 1) (pa_cons pe_int (pa_cons (pe_glob (v := .int 4) (by rfl) hm ⟨t4, rfl⟩) pa_nil))))) pa_nil)) (pe_one (pe_call GA r1 (by rfl) gA kA bA .nil pass0 (pa_cons (pv 0) pa_nil))))))), ?_⟩
    obtain ⟨ne, h4, h14, up⟩ := ok
    have l0 : 0 < l.length := List.length_pos_iff.mpr ne
    refine q_when (b := false) (et_is (et_or (et_not (et_B (ev_cb (ea_cons (ev_var rfl) (ea_cons ev_c ea_nil)) (rc_isi (.base (.tup hL)) kit_tt)))) fun _ => et_not (et_test (ev_chain ev_c (ev_is (ev_cb (ea_cons (ev_var rfl) ea_nil) (rc_lenQ (.inr (st_of hL)))) (by rw [vN_len])) ev_c))) ?_) (fun z => absurd z (by decide)) (fun _ H1 e1 => ?_)
    · show (!true || !(decide ((1 : Int) ≤ (l.length : Int)) && decide ((l.length : Int) ≤ 4))) = false
      rw [decide_eq_true (by omega), decide_eq_true (by omega)]
      rfl
    have hL1 := e1 _ _ hL
    have c := el_mapT (K := K) (σ := [some (.ref a), none]) (H := H1) (tl := tVar 0) (t := tYes) (te := tCall (spWithin K) [] E0 (tCons (tVar 1) (tCons (tC (.int 1)) (tCons (tC (.int 4)) tNil)))) (fun n : Nat => V.int (n : Int)) (l := l) (j := 1) (vs := [1]) (fun _ => true) (fun _ => V.bl true)
      (etu_var rfl (by rw [← vN_map]; exact st_of hL1)) (by omega) (fun _ => rfl) (fun n hn H2 e2 => et_none) (fun n hn H2 e2 _ => ev_is (ev_call (z := .bl (decide ((1 : Int) ≤ (n : Int)) && decide ((n : Int) ≤ 4))) (ea_cons (ev_var rfl) (ea_cons ev_c (ea_cons ev_c ea_nil))) fun H3 e3 Q3 q3 E3 => .inl ⟨_, _, _, rfl, q3⟩) (by
        have := h14 n hn
        rw [decide_eq_true (by omega), decide_eq_true (by omega)]
        rfl))
    have c2 : (l.filter fun _ => true).map (fun _ : Nat => V.bl true) = (List.replicate l.length true).map V.bl := by
      rw [filter_yes, rep_map, List.map_const']
    rw [c2] at c
    refine s_ret (ev_is (ev_andV (ev_all c) fun _ => ev_call (z := .bl true) (ea_cons (ev_var rfl) ea_nil) fun H3 e3 Q3 q3 E3 => ⟨a, l, rfl, st_of (e3 _ _ hL1), h4, up, ne, q3⟩) (by rw [all_yes]; rfl)) fun H2 e2 => k H2 (e1.trans e2)
end
end K17
namespace K17
open PySem L2 Evl Gr StX EnT MkS StK Kn
structure GlbE (mg : Str → Option Value) : Prop where
  enum : mg "enumerate" = none
  sorted : mg "sorted" = none
  any : mg "any" = none
  all : mg "all" = none
  sum : mg "sum" = none
/-! ### rows of sums -/
def TRow (H : Hp) (xs : List V) (ss : List (List Nat)) : Prop := xs.length = ss.length ∧ ∀ (i : Nat) (x : V) (l : List Nat), xs[i]? = some x → ss[i]? = some l → ∃ a : Addr, x = V.ref a ∧ H a = some (.tup (vN l))
theorem TRow.mono {H H' : Hp} {xs : List V} {ss : List (List Nat)} (e : Ex H H') (h : TRow H xs ss) : TRow H' xs ss := ⟨h.1, fun i x l hx hl => by
  obtain ⟨a, h1, h2⟩ := h.2 i x l hx hl
  exact ⟨a, h1, e _ _ h2⟩⟩
theorem TRow.at {H : Hp} {xs : List V} {ss : List (List Nat)} (h : TRow H xs ss) {i : Nat} {x : V} (hx : xs[i]? = some x) : ∃ (a : Addr) (l : List Nat), ss[i]? = some l ∧ x = .ref a ∧ H a = some (.tup (vN l)) := by
  have lt : i < ss.length := by rw [← h.1]; exact (List.getElem?_eq_some_iff.mp hx).1
  obtain ⟨a, h1, h2⟩ := h.2 i x _ hx (List.getElem?_eq_getElem lt)
  exact ⟨a, _, List.getElem?_eq_getElem lt, h1, h2⟩
theorem TRow.take {H : Hp} {xs : List V} {ss : List (List Nat)} (h : TRow H xs ss) (n : Nat) : TRow H (xs.take n) (ss.take n) := ⟨by rw [List.length_take, List.length_take, h.1], fun i x l hx hl => by
  rw [List.getElem?_take] at hx hl
  by_cases c : i < n
  · rw [if_pos c] at hx hl
    exact h.2 i x l hx hl
  · rw [if_neg c] at hx
    cases hx⟩
theorem TRow.tail {H : Hp} {x : V} {xs : List V} {l : List Nat} {ss : List (List Nat)} (h : TRow H (x :: xs) (l :: ss)) : TRow H xs ss := ⟨Nat.succ.inj h.1, fun i y m hy hm => h.2 (i + 1) y m hy hm⟩
theorem trow_nil {H : Hp} : TRow H [] [] := ⟨rfl, fun i x l hx => by cases hx⟩
theorem trow_cons {H : Hp} {a : Addr} {xs : List V} {l : List Nat} {ss : List (List Nat)} (ha : H a = some (.tup (vN l))) (h : TRow H xs ss) : TRow H (.ref a :: xs) (l :: ss) := ⟨by rw [List.length_cons, List.length_cons, h.1], fun i y m hy hm => by
  cases i with
  | zero =>
    cases hy
    cases hm
    exact ⟨a, rfl, ha⟩
  | succ i => exact h.2 i y m hy hm⟩
def tD (l : List Nat) : PyData := .tuple ((zI l).map PyData.int)
theorem tD_eqv (a b : List Nat) : PyData.eqv (tD a) (tD b) = decide (a = b) := by
  unfold tD
  rw [eqv_tups]
  exact decide_eq_decide.mpr zI_inj
theorem tD_low (l : List Nat) : Low 1 (tD l) := low_tup (n := 0) fun d hd => by
  obtain ⟨i, _, rfl⟩ := List.mem_map.mp hd
  exact low_int i
theorem tDs_low (ss : List (List Nat)) : Low 2 (.tuple (ss.map tD)) := low_tup (n := 1) fun d hd => by
  obtain ⟨i, _, rfl⟩ := List.mem_map.mp hd
  exact tD_low i
theorem dp_tD {K : PySem.W.Frag} {H : Hp} {a : Addr} {l : List Nat} (h : H a = some (.tup (vN l))) : Dp K H (.ref a) (tD l) := .tup (st_of h) (dpAll_ints (zI l))
theorem trow_dp {K : PySem.W.Frag} {H : Hp} : ∀ {xs : List V} {ss : List (List Nat)}, TRow H xs ss → DpAll K H xs (ss.map tD)
  | [], [], _ => .nil
  | [], l :: ss, h => by cases h.1
  | x :: xs, [], h => by cases h.1
  | x :: xs, l :: ss, h => by
    obtain ⟨a, rfl, ha⟩ := h.2 0 x l rfl rfl
    exact .cons (dp_tD ha) (trow_dp h.tail)
theorem tD_any (l : List Nat) : ∀ ss : List (List Nat), ((ss.map tD).any fun z => PyData.eqv z (tD l)) = decide (l ∈ ss)
  | [] => by simp
  | m :: ss => by
    rw [List.map_cons, List.any_cons, tD_eqv, tD_any l ss, Bool.eq_iff_iff, Bool.or_eq_true, decide_eq_true_iff, decide_eq_true_iff, decide_eq_true_iff, List.mem_cons]
    exact ⟨fun h => h.elim (fun z => .inl z.symm) .inr, fun h => h.elim (fun z => .inl z.symm) .inr⟩
/-- what stands at a tuple of numbers -/
def nmO : Option HO → List Nat
  | some (.tup vs) => vs.map fun v => match v with
    | .int n => n.toNat
    | _ => 0
  | _ => []
def nmV (H : Hp) : V → List Nat
  | .ref a => nmO (H a)
  | _ => []
theorem nmO_tup (l : List Nat) : nmO (some (.tup (vN l))) = l := by
  show (vN l).map _ = l
  rw [vN_map, List.map_map]
  exact List.map_id'' (fun n => Int.toNat_natCast n) l
theorem TRow.is {H : Hp} {xs : List V} {ss : List (List Nat)} (h : TRow H xs ss) : ss = xs.map (nmV H) := by
  refine List.ext_getElem? fun i => ?_
  rw [List.getElem?_map]
  cases hx : xs[i]? with
  | none =>
    rw [List.getElem?_eq_none_iff] at hx
    rw [List.getElem?_eq_none (by rw [← h.1]; exact hx)]
    rfl
  | some x =>
    obtain ⟨a, l, hl, rfl, ha⟩ := h.at hx
    rw [hl]
    show some l = some (nmO (H a))
    rw [ha, nmO_tup]
theorem TRow.perm {H : Hp} {xs ys : List V} {ss : List (List Nat)} (h : TRow H xs ss) (p : ys.Perm xs) : ∃ ss', TRow H ys ss' ∧ ss'.Perm ss := by
  refine ⟨ys.map (nmV H), ⟨by rw [List.length_map], fun i x l hx hl => ?_⟩, by rw [h.is]; exact p.map _⟩
  rw [List.getElem?_map, hx] at hl
  obtain rfl := Option.some.inj hl
  obtain ⟨j, hj⟩ := List.mem_iff_getElem?.mp (p.mem_iff.mp (List.mem_of_getElem? hx))
  obtain ⟨a, l, _, rfl, ha⟩ := h.at hj
  refine ⟨a, rfl, ?_⟩
  show H a = some (.tup (vN (nmO (H a))))
  rw [ha, nmO_tup]
/-! ### phases -/
structure PhC (K : PySem.W.Frag) (C : Addr) : Prop where
  cls : Cls K C
  sums : NoAttr K C "sums"
  mute : NoAttr K C "mute"
/-- in order, none after a greater one -/
def Asc (ss : List (List Nat)) : Prop := ss.Pairwise fun a b => HT.lexLt (zI b) (zI a) = false
def PhA (ss : List (List Nat)) : Prop := (∀ l ∈ ss, AgesOk l) ∧ ss.length ≤ 4 ∧ Asc ss
def PhOk (ss : List (List Nat)) : Prop := (∀ l ∈ ss, AgesOk l) ∧ ss.length ≤ 4
/-- a phase that is so stands at o -/
def PhAt (K : PySem.W.Frag) (C : Addr) (H : Hp) (o : Addr) (p : Ph) : Prop := ∃ dx q xs, H o = some (.ins C dx [("sums", .ref q), ("mute", .bl p.1)]) ∧ SqT K H q xs ∧ TRow H xs p.2 ∧ PhA p.2
theorem PhAt.mono {K : PySem.W.Frag} {C : Addr} {H H' : Hp} {o : Addr} {p : Ph} (e : Ex H H') (h : PhAt K C H o p) : PhAt K C H' o p := by
  obtain ⟨dx, q, xs, h1, h2, h3, h4⟩ := h
  exact ⟨dx, q, xs, e _ _ h1, ex_t e h2, h3.mono e, h4⟩
abbrev sPh (i : Nat) : Stmt := inClass (top 20) i
abbrev nPh : List Str := ["self", "mute", "sums", "at", "ages"]
theorem scPh : FnScope nPh ["self", "mute", "sums"] (defScope (sPh 0)) := ⟨rfl, rfl, rfl, by decide +kernel, rfl, by decide +kernel, by decide +kernel⟩
theorem cut_n {xs : List V} {n : Nat} (h : n ≤ xs.length) : cutV xs none (some (n : Int)) = xs.take n := by
  unfold cutV
  rw [show HT.sIx xs.length 0 none = 0 from rfl, HT.sIx_nat, List.drop_zero, Nat.sub_zero, Nat.min_eq_left h]
theorem kit_bb : kitB "bool" "bool" = some true := by decide +kernel
section
variable {P : Program} {w : World} {K : PySem.W.Frag} {mg : Str → Option Value} {base : Heap}
def spPh (K : PySem.W.Frag) (C : Addr) : Sp := fun vs H Q _ => ∃ (o p dx : Addr) (m : Bool) (xs : List V) (ss : List (List Nat)), vs = [.ref o, .bl m, .ref p] ∧ H o = some (.ins C dx []) ∧ SqT K H p xs ∧ TRow H xs ss ∧ PhOk ss ∧ ss.Nodup ∧
  ∀ H' ss', Keep o H H' → PhAt K C H' o (m, ss') → ss'.Perm ss → Q .non H'
theorem trow_upd {H : Hp} {o C dx : Addr} {fs : List (Str × V)} {u : HO} {xs : List V} {ss : List (List Nat)} (h : TRow H xs ss) (ho : H o = some (.ins C dx fs)) : TRow (upd H o u) xs ss := ⟨h.1, fun i x l hx hl => by
  obtain ⟨a, h1, h2⟩ := h.2 i x l hx hl
  exact ⟨a, h1, by rw [upd_ne (fun z => by rw [z, ho] at h2; cases h2)]; exact h2⟩⟩
theorem runs_Ph {C f : Addr} {cdv : Value} (G : PhC K C) (T : GlbT mg) (S : GlbS mg) (I : GlbE mg) (hm : ∃ t, mg "MOST_SUMS" = some (.int 4 t)) (GS : Gfn P w K mg base 3 "is_sum" ["value"] (spSum K))
    (A : Around) (outer : List Env) (s : Shared) (H : Hp) (vs : List V) (Q : VK) (E : XK) (hr : Room 3 (A.deeper (PyProof.Rows.envOfC "Phase.__init__" (defScope (sPh 0)) s.heap.objs.size f cdv))) (h : spPh K C vs H Q E) :
    ∃ t, PSs (cxOf CX0 P w K mg base nPh "Phase.__init__" (defScope (sPh 0)) f cdv A outer s H E) (defBody (sPh 0)) t ∧ t { nx := fun _ H' => Q .non H', rt := Q } (L2.start nPh vs) H := by
  suffices z : ∃ t, PSs (cxOf CX0 P w K mg base nPh "Phase.__init__" (defScope (sPh 0)) f cdv A outer s H E).nox (defBody (sPh 0)) t ∧ t { nx := fun _ H' => Q .non H', rt := Q } (L2.start nPh vs) H from
    let ⟨t, a, b⟩ := z
    ⟨t, a.nox, b⟩
  obtain ⟨fS, fdS, GS, kS, bS, gS⟩ := GS
  obtain ⟨t4, hm⟩ := hm
  obtain ⟨o, p, dx, m, xs, ss, rfl, hO, hP, row, ok, nd, k⟩ := h
  have hu : (A.deeper (PyProof.Rows.envOfC "Phase.__init__" (defScope (sPh 0)) s.heap.objs.size f cdv)).units + 65 < cLine := by have := hr.un; omega
  refine ⟨_, (pss_cons (ps_for PassesOwn.never rfl (pi_enumT (by rfl) I.enum (pa_cons (pv 2) pa_nil)) (pg_tup rfl (pgs_cons (pg_name (i := 3) scPh.nd rfl (.inl rfl)) (pgs_cons (pg_name (i := 4) scPh.nd rfl (.inl rfl)) pgs_nil)))
      (pss_one (ps_if (PW.pt (pw_or (pt_not (pt_val (pe_call GS hr (by rfl) gS kS bS .nil pass0 (pa_cons (pv 4) pa_nil)))) (pw_or1 (pt_cmpR (op_inDT hu) (pv 4) (pe_slice sl_tup (pv 2) po_none (po_some (pv 3))) (by with_unfolding_all rfl))))) (pss_one ps_no) pss_nil)))
      (pss_cons (ps_if (pt_cmpR op_gt (pe_callB call_len_seq (by rfl) S.len PySem.boot_len (pa_cons (pv 2) pa_nil)) (pe_glob (v := .int 4) (by rfl) hm ⟨t4, rfl⟩) (nomark _)) (pss_one ps_no) pss_nil)
      (pss_cons (ps_if (pt_not (pt_val (pe_callB call_isi (by rfl) T.inst (by decide +kernel) (pa_cons (pv 1) (pa_cons (pe_bltn (v := .ty "bool") (by rfl) T.bool (by decide +kernel) rfl) pa_nil))))) (pss_one ps_no) pss_nil)
      (pss_cons (ps_fld (pv 0) (pe_tupleOf (by rfl) S.tuple (pe_callB cr_sortedTI (by rfl) I.sorted (by decide +kernel) (pa_cons (pv 2) pa_nil))) (by rfl))
      (pss_one (ps_fld (pv 0) (pv 1) (by rfl))))))), ?_⟩
  have ln : xs.length = ss.length := row.1
  refine q_forNT (K := K) (a := p) (xs := xs) (ea_cons (ev_var rfl) ea_nil) hP (fun _ σ' H' => (∃ x1 x2 : Option V, σ' = [some (.ref o), some (.bl m), some (.ref p), x1, x2]) ∧ Ex H H') (fun H2 e2 => ⟨⟨none, none, rfl⟩, e2⟩) (fun _ _ H' _ q => ex_t q.2 hP) ?_ ?_
  · rintro i z σ' H2 T2 hz ⟨⟨x1, x2, rfl⟩, e2⟩ hT2
    have e3 := e2.trans (Ex.new (o := .tup [.int (i : Nat), z]) hT2)
    refine ⟨T2, [.int (i : Nat), z], rfl, st_of upd_same, rfl, _, _, rfl, _, _, rfl, rfl, ?_⟩
    obtain ⟨a, l, hl, rfl, ha⟩ := row.at hz
    have li : i < xs.length := (List.getElem?_eq_some_iff.mp hz).1
    have notin : decide (l ∈ ss.take i) = false := by
      refine decide_eq_false fun hin => ?_
      obtain ⟨j, hj⟩ := List.mem_iff_getElem?.mp hin
      rw [List.getElem?_take] at hj
      by_cases c : j < i
      · rw [if_pos c] at hj
        have := List.pairwise_iff_getElem.mp nd j i (by omega) (by omega) c
        obtain ⟨q1, q2⟩ := List.getElem?_eq_some_iff.mp hj
        obtain ⟨q3, q4⟩ := List.getElem?_eq_some_iff.mp hl
        exact this (q2.trans q4.symm)
      · rw [if_neg c] at hj
        cases hj
    refine s_if (b := false) (et_is (et_or (et_not (et_B (ev_call (z := .bl true) (ea_cons (ev_var rfl) ea_nil) fun H3 e4 Q3 q3 E3 => ⟨a, l, rfl, (e3.trans e4) _ _ ha, ok.1 l (List.mem_of_getElem? hl), q3⟩))) fun _ => et_test (b := false) fun H3 e4 Q3 q3 => ⟨_, rfl, _, rfl, _, rfl, _, rfl, by
      have E4 := e3.trans e4
      refine ⟨p, xs, rfl, ex_t E4 hP, fun z => ?_, fun q hq => ?_⟩
      · have z2 := z.2
        rw [HT.sIx_nat] at z2
        omega
      · rw [cut_n (by omega)]
        have e5 := Ex.new (o := .tup (xs.take i)) hq
        refine ⟨tD l, (ss.take i).map tD, dp_tD (e5 _ _ (E4 _ _ ha)), .tup (st_of upd_same) (trow_dp ((row.take i).mono (E4.trans e5))), low_shaped (tD_low l) (by decide), low_shaped (tDs_low _) (by decide), ?_⟩
        rw [tD_any, notin]
        exact q3 _ e5⟩) rfl) (fun z => absurd z (by decide)) fun _ H3 e4 => ⟨⟨_, _, rfl⟩, e3.trans e4⟩
  · rintro σ' H2 ⟨⟨x1, x2, rfl⟩, e2⟩
    refine q_when (b := false) (et_is (et_test (ev_op (ev_is (ev_cb (ea_cons (ev_var rfl) ea_nil) (rc_lenQ (.inr (ex_t e2 hP)))) (by rw [ln])) ev_c rv_I0)) (decide_eq_false (by have := ok.2; omega))) (fun z => absurd z (by decide)) (fun _ H3 e3 => ?_)
    refine q_when (b := false) (et_is (et_not (et_B (ev_cb (ea_cons (ev_var rfl) (ea_cons ev_c ea_nil)) (rc_isi (.base (.bl m)) kit_bb)))) rfl) (fun z => absurd z (by decide)) (fun _ H4 e4 => ?_)
    have E4 := (e2.trans e3).trans e4
    refine ⟨_, rfl, p, xs, fun x => zI (nmV H x), rfl, ex_t E4 hP, fun x hx => ?_, fun ys q hst hys hq => ?_⟩
    · obtain ⟨i, hi⟩ := List.mem_iff_getElem?.mp hx
      obtain ⟨a, l, hl, rfl, ha⟩ := row.at hi
      have e : nmV H (.ref a) = l := by show nmO (H a) = l; rw [ha, nmO_tup]
      refine ⟨a, rfl, ?_, fun z => ?_⟩
      · show H4 a = some (.tup (vN (nmV H (.ref a))))
        rw [e]
        exact E4 _ _ ha
      have z : zI (nmV H (.ref a)) = [] := z
      rw [e] at z
      have := (ok.1 l (List.mem_of_getElem? hl)).1
      cases l with
      | nil => exact this rfl
      | cons b l => cases z
    · have e5 := Ex.new (o := .lst ys) hq
      refine .inl ⟨q, ys, rfl, sq_of upd_same, fun r hr => ?_⟩
      have e6 := Ex.new (o := .tup ys) hr
      have E6 := (E4.trans e5).trans e6
      have hO6 := E6 _ _ hO
      obtain ⟨ss', row', pm⟩ := row.perm hys
      have ok' : PhA ss' := ⟨fun l hl => ok.1 l (pm.mem_iff.mp hl), by rw [pm.length_eq]; exact ok.2, by rw [row'.is]; exact List.pairwise_map.mpr hst⟩
      have row6 := row'.mono E6
      have hr6 : SqT K (upd (upd H4 q (.lst ys)) r (.tup ys)) r ys := st_of upd_same
      generalize upd (upd H4 q (.lst ys)) r (.tup ys) = H6 at E6 hO6 row6 hr6 ⊢
      refine ⟨_, rfl, o, C, dx, [], rfl, hO6, G.cls, G.sums, Nat.le_of_ble_eq_true rfl, ?_⟩
      have hr7 : SqT K (upd H6 o (.ins C dx (putF "sums" (.ref r) []))) r ys := sqT_upd hr6 hO6
      have row7 : TRow (upd H6 o (.ins C dx (putF "sums" (.ref r) []))) ys ss' := trow_upd row6 hO6
      have kp7 : Keep o H (upd H6 o (.ins C dx (putF "sums" (.ref r) []))) := fun c u hc hn => by
        rw [upd_ne hn]
        exact E6 _ _ hc
      have hO7 : (upd H6 o (.ins C dx (putF "sums" (.ref r) []))) o = some (.ins C dx [("sums", .ref r)]) := upd_same
      generalize upd H6 o (.ins C dx (putF "sums" (.ref r) [])) = H7 at hr7 row7 kp7 hO7 ⊢
      refine ⟨_, rfl, _, rfl, o, C, dx, _, rfl, hO7, G.cls, G.mute, Nat.le_of_ble_eq_true rfl, ?_⟩
      exact k _ ss' (fun c u hc hn => by rw [upd_ne hn]; exact kp7 _ _ hc hn) ⟨dx, r, ys, upd_same, sqT_upd hr7 hO7, trow_upd row7 hO7, ok'⟩ pm
end
end K17
namespace K17
open PySem L2 Evl Gr StX EnT MkS StK Kn
/-! ### Phase made -/
structure GIsi (K : PySem.W.Frag) (C : Addr) : Prop where
  ca : PySem.W.findIn K (.ref C) "__class__" = some (some (.builtin "object.__class__"))
  cn : PySem.W.specialIn K (.builtin "object.__class__") "__get__" = some (some (.builtin "getset_descriptor.__get__"))
  ct : PySem.W.takesIn K (.builtin "object.__class__") = some true
  cm : PySem.W.mroIn K C (.type "object") = some true
theorem kit_self {K : PySem.W.Frag} {C : Addr} : PySem.W.kitOne K (.ref C) (.ref C) = some true := by
  unfold PySem.W.kitOne
  rw [if_pos (by simp)]
theorem ins_ty {K : PySem.W.Frag} {C : Addr} {H : Hp} {o dx : Addr} {fs : List (Str × V)} (c : Cls K C) (I : GIsi K C) (h : H o = some (.ins C dx fs)) : TyX K H (.ref o) (.ref C) := .base (.ins h c I.ca I.cn I.ct I.cm)
theorem rc_own {K : PySem.W.Frag} {C : Addr} {H : Hp} {o dx : Addr} {fs : List (Str × V)} (c : Cls K C) (I : GIsi K C) (h : H o = some (.ins C dx fs)) : RC (rIsi K) [.ref o, .ref C] H (.bl true) := fun H1 e _ q => ⟨.ref o, .ref C, .ref C, .ref C, true, rfl, .own C, tyx_mono e (ins_ty c I h), kit_self, q H1 (Ex.refl H1)⟩
/-- the def Phase.__init__ -/
structure FunD (K : PySem.W.Frag) (x y : Str) (st : Stmt) (f D : Addr) : Prop where
  l : ∃ (oc : Value) (od : Option Addr) (doc pm : Value) (an : Option Addr) (cdv ct : Value) (osl : Array (Option Value)),
    K.lookup f = some ⟨oc, od, .func (PySem.W.fnOf x y (defArgs st) (defBody st) (defScope st) .none (.ref D) doc pm an cdv ct), osl⟩ ∧ PySem.W.codeIn K cdv y = true
section
variable {P : Program} {w : World} {K : PySem.W.Frag} {mg : Str → Option Value} {base : Heap}
theorem made_PhK {C f D : Addr} (F : FunD K "__init__" "Phase.__init__" (sPh 0) f D) (G : PhC K C) (T : GlbT mg) (S : GlbS mg) (I : GlbE mg) (hm : ∃ t, mg "MOST_SUMS" = some (.int 4 t)) (GS : Gfn P w K mg base 3 "is_sum" ["value"] (spSum K)) :
    FnRK P w K mg base CX0 4 f "mute" (starSp (spPh K C)) := by
  obtain ⟨oc, od, doc, pm, an, cdv, ct, osl, lk, hcd⟩ := F.l
  exact fn_starK (a0 := "self") (pv := "sums") lk hcd scPh cxUp_none (fun _ rest _ => by cases rest <;> rfl) fun A outer s H vs Q E hr h => runs_Ph G T S I hm GS A outer s H vs Q E hr h
theorem made_PhD {C f D : Addr} (F : FunD K "__init__" "Phase.__init__" (sPh 0) f D) (hD : PySem.W.nsIn K D "mute" = some (some (.bool false))) (G : PhC K C) (T : GlbT mg) (S : GlbS mg) (I : GlbE mg) (hm : ∃ t, mg "MOST_SUMS" = some (.int 4 t)) (GS : Gfn P w K mg base 3 "is_sum" ["value"] (spSum K)) :
    FnR P w K mg base CX0 4 f (fun vs H Q E => starSp (spPh K C) vs (.bl false) H Q E) := by
  obtain ⟨oc, od, doc, pm, an, cdv, ct, osl, lk, hcd⟩ := F.l
  exact fn_starD (a0 := "self") (x := "mute") (pv := "sums") (d := .bl false) lk hcd scPh cxUp_none hD rfl (fun _ rest => by cases rest <;> exact ⟨_, _, _, _, _, _, rfl, rfl, rfl⟩) fun A outer s H vs Q E hr h => runs_Ph G T S I hm GS A outer s H vs Q E hr h
end
/-- gives such a phase, its sums in some order -/
def EvPh (K : PySem.W.Frag) (C : Addr) (te : TE) (σ : L2.St) (H : Hp) (p : Ph) : Prop := ∀ H1, Ex H H1 → ∀ Q : VK, (∀ o ss H2, Ex H1 H2 → PhAt K C H2 o (p.1, ss) → ss.Perm p.2 → Q (.ref o) H2) → te σ H1 Q
/-- gives rows of sums -/
def EvAR (ta : TA) (σ : L2.St) (H : Hp) (ss : List (List Nat)) : Prop := ∀ H1, Ex H H1 → ∀ Q : List V → Hp → Prop, (∀ xs H2, Ex H1 H2 → TRow H2 xs ss → Q xs H2) → ta σ H1 Q
section
variable {K : PySem.W.Frag} {C : Addr} {σ : L2.St} {H : Hp} {t tk : TA} {E : XK} {m : Bool} {ss : List (List Nat)} {xs : List V}
theorem ph_told {Q : VK} {o dx : Addr} (ho : H o = none) (hd : H dx = none) (hn : dx ≠ o) (row : TRow H xs ss) (ok : PhOk ss) (nd : ss.Nodup) (q : ∀ o ss' H2, Ex H H2 → PhAt K C H2 o (m, ss') → ss'.Perm ss → Q (.ref o) H2) :
    starSp (spPh K C) (V.ref o :: xs) (.bl m) (upd (upd H dx (.own o)) o (.ins C dx [])) (fun v H3 => v = .non ∧ Q (.ref o) H3) E := by
  have e3 : Ex H (upd (upd H dx (.own o)) o (.ins C dx [])) := (Ex.new hd).trans (Ex.new (by rw [upd_ne hn.symm]; exact ho))
  refine ⟨.ref o, xs, rfl, sz_of (by rw [row.1]; have := ok.2; omega), fun p hp => ?_⟩
  have e4 := Ex.new (o := .tup xs) hp
  exact ⟨o, p, dx, m, xs, ss, rfl, e4 _ _ upd_same, st_of upd_same, row.mono (e3.trans e4), ok, nd, fun H' ss' kp h1 h2 => ⟨rfl, q o ss' H' (fun c u hc => kp c u (e4 _ _ (e3 _ _ hc)) (ne_of_none hc ho)) h1 h2⟩⟩
theorem ep_K (h : EvAR t σ H ss) (hk : EvA tk σ H [.bl m]) (ok : PhOk ss) (nd : ss.Nodup) : EvPh K C (tMakeSK C (starSp (spPh K C)) E t tk) σ H (m, ss) := fun H1 e Q q =>
  h H1 e _ fun xs H2 e2 row => hk H2 (e.trans e2) _ fun H3 e3 => ⟨.bl m, rfl, fun o dx ho hd hn => ph_told ho hd hn (row.mono e3) ok nd fun o ss' H4 e4 => q o ss' H4 ((e2.trans e3).trans e4)⟩
theorem ear_nil : EvAR tNil σ H [] := fun H1 _ _ q => q [] H1 (Ex.refl H1) trow_nil
/-- made without mute -/
theorem ep_D (h : EvAR t σ H ss) (ok : PhOk ss) (nd : ss.Nodup) : EvPh K C (tMakeR C (fun vs H Q E => starSp (spPh K C) vs (.bl false) H Q E) E t) σ H (false, ss) := fun H1 e Q q =>
  h H1 e _ fun xs H2 e2 row => fun o dx ho hd hn => ph_told ho hd hn row ok nd fun o ss' H4 e4 => q o ss' H4 (e2.trans e4)
theorem ear_var {i : Nat} {a : Addr} {l : List Nat} {te : TE} {tr : TA} (h : Ev te σ H (.ref a)) (ha : H a = some (.tup (vN l))) (hr : EvAR tr σ H ss) : EvAR (tCons te tr) σ H (l :: ss) := fun H1 e Q q =>
  h H1 e _ fun H2 e2 => hr H2 (e.trans e2) _ fun xs H3 e3 row => q _ H3 (e2.trans e3) (trow_cons (((e.trans e2).trans e3) _ _ ha) row)
theorem ear_new {l : List Nat} {te : TE} {tr : TA} (h : EvU te σ H (vN l)) (hr : EvAR tr σ H ss) : EvAR (tCons te tr) σ H (l :: ss) := fun H1 e Q q =>
  h H1 e _ fun a H2 _ e2 ha => hr H2 (e.trans e2) _ fun xs H3 e3 row => q _ H3 (e2.trans e3) (trow_cons (e3 _ _ ha) row)
end
/-! ### plans -/
structure PlC (K : PySem.W.Frag) (C : Addr) : Prop where
  cls : Cls K C
  phases : NoAttr K C "phases"
def PRow (K : PySem.W.Frag) (C : Addr) (H : Hp) (xs : List V) (ps : List Ph) : Prop := xs.length = ps.length ∧ ∀ (i : Nat) (x : V) (p : Ph), xs[i]? = some x → ps[i]? = some p → ∃ o : Addr, x = V.ref o ∧ PhAt K C H o p
theorem PRow.mono {K : PySem.W.Frag} {C : Addr} {H H' : Hp} {xs : List V} {ps : List Ph} (e : Ex H H') (h : PRow K C H xs ps) : PRow K C H' xs ps := ⟨h.1, fun i x p hx hp => by
  obtain ⟨o, h1, h2⟩ := h.2 i x p hx hp
  exact ⟨o, h1, h2.mono e⟩⟩
theorem PRow.at {K : PySem.W.Frag} {C : Addr} {H : Hp} {xs : List V} {ps : List Ph} (h : PRow K C H xs ps) {i : Nat} {x : V} (hx : xs[i]? = some x) : ∃ (o : Addr) (p : Ph), ps[i]? = some p ∧ x = .ref o ∧ PhAt K C H o p := by
  have lt : i < ps.length := by rw [← h.1]; exact (List.getElem?_eq_some_iff.mp hx).1
  obtain ⟨o, h1, h2⟩ := h.2 i x _ hx (List.getElem?_eq_getElem lt)
  exact ⟨o, _, List.getElem?_eq_getElem lt, h1, h2⟩
theorem PRow.to {K : PySem.W.Frag} {C : Addr} {H : Hp} {xs : List V} {ps : List Ph} (h : PRow K C H xs ps) {i : Nat} {p : Ph} (hp : ps[i]? = some p) : ∃ o : Addr, xs[i]? = some (.ref o) ∧ PhAt K C H o p := by
  have lt : i < xs.length := by rw [h.1]; exact (List.getElem?_eq_some_iff.mp hp).1
  obtain ⟨o, h1, h2⟩ := h.2 i _ p (List.getElem?_eq_getElem lt) hp
  exact ⟨o, by rw [List.getElem?_eq_getElem lt, h1], h2⟩
theorem prow_nil {K : PySem.W.Frag} {C : Addr} {H : Hp} : PRow K C H [] [] := ⟨rfl, fun i x p hx => by cases hx⟩
theorem prow_snoc {K : PySem.W.Frag} {C : Addr} {H : Hp} {xs : List V} {ps : List Ph} {o : Addr} {p : Ph} (h : PRow K C H xs ps) (ho : PhAt K C H o p) : PRow K C H (xs ++ [.ref o]) (ps ++ [p]) := ⟨by rw [List.length_append, List.length_append, h.1]; rfl, fun i x q hx hq => by
  rcases Nat.lt_or_ge i xs.length with c | c
  · rw [List.getElem?_append_left c] at hx
    rw [List.getElem?_append_left (by rw [← h.1]; exact c)] at hq
    exact h.2 i x q hx hq
  · rw [List.getElem?_append_right c] at hx
    rw [List.getElem?_append_right (by rw [← h.1]; exact c), ← h.1] at hq
    generalize i - xs.length = j at hx hq
    cases j with
    | zero =>
      cases hx
      cases hq
      exact ⟨o, rfl, ho⟩
    | succ j => cases hx⟩
def cyc (ps : List Ph) (i : Int) : Ph := ps.getD (i % (ps.length : Int)).toNat (false, [])
theorem cyc_at {ps : List Ph} (h : 0 < ps.length) (i : Int) : ∃ k : Nat, k < ps.length ∧ i % (ps.length : Int) = (k : Int) ∧ ps[k]? = some (cyc ps i) := by
  have h1 := Int.emod_nonneg i (show (ps.length : Int) ≠ 0 by omega)
  have h2 := Int.emod_lt_of_pos i (show 0 < (ps.length : Int) by omega)
  obtain ⟨k, hk⟩ := Int.eq_ofNat_of_zero_le h1
  refine ⟨k, by omega, hk, ?_⟩
  unfold cyc
  rw [hk, Int.toNat_natCast, List.getD_eq_getElem?_getD, List.getElem?_eq_getElem (by omega)]
  rfl
theorem cyc_small {ps : List Ph} {k : Nat} (h : k < ps.length) : ps[k]? = some (cyc ps (k : Int)) := by
  unfold cyc
  rw [Int.emod_eq_of_lt (by omega) (by omega), Int.toNat_natCast, List.getD_eq_getElem?_getD, List.getElem?_eq_getElem h]
  rfl
def NoTell (ps : List Ph) : Prop := ∀ i : Nat, i < ps.length → ∀ l ∈ (cyc ps (i : Int)).2, ∀ a ∈ l, (cyc ps ((i : Int) - (a : Int))).1 = false
def PlOk (ps : List Ph) : Prop := 1 ≤ ps.length ∧ ps.length ≤ 4 ∧ (∃ p ∈ ps, p.1 = false) ∧ NoTell ps
def PlAt (K : PySem.W.Frag) (CP C : Addr) (H : Hp) (o : Addr) (ps : List Ph) : Prop := ∃ dx q xs, H o = some (.ins CP dx [("phases", .ref q)]) ∧ SqT K H q xs ∧ PRow K C H xs ps ∧ 1 ≤ ps.length ∧ ps.length ≤ 4
theorem PlAt.mono {K : PySem.W.Frag} {CP C : Addr} {H H' : Hp} {o : Addr} {ps : List Ph} (e : Ex H H') (h : PlAt K CP C H o ps) : PlAt K CP C H' o ps := by
  obtain ⟨dx, q, xs, h1, h2, h3, h4⟩ := h
  exact ⟨dx, q, xs, e _ _ h1, ex_t e h2, h3.mono e, h4⟩
theorem ev_anyB {K : PySem.W.Frag} {σ : L2.St} {H : Hp} {te : TE} {bs : List Bool} (h : EvL te σ H (bs.map V.bl)) : Ev (tCB (rAny K) (tCons te tNil)) σ H (.bl (bs.any id)) := fun H1 e Q q =>
  h H1 e _ fun p H2 _ e2 hp => ⟨p, bs, rfl, sq_of hp, q H2 e2⟩
section
variable {K : PySem.W.Frag} {σ : L2.St} {H : Hp} {ta tb : TE} {C o : Addr} {p : Ph}
theorem ev_mute (G : PhC K C) (h : Ev ta σ H (.ref o)) (ho : PhAt K C H o p) : Ev (tFld K ta "mute") σ H (.bl p.1) := by
  obtain ⟨dx, q, xs, h1, _⟩ := ho
  exact ev_fld h h1 G.cls G.mute rfl
/-- xs[i % len(xs)] of phases -/
theorem ev_cyc {a : Addr} {xs : List V} {ps : List Ph} {i : Int} (h : Ev ta σ H (.ref a)) (hb : Ev tb σ H (.int (i % (ps.length : Int)))) (hx : SqT K H a xs) (row : PRow K C H xs ps) (h0 : 0 < ps.length) {R : V → Hp → Prop} :
    ∃ o : Addr, Ev (tOp (rIxT K) ta tb) σ H (.ref o) ∧ PhAt K C H o (cyc ps i) := by
  obtain ⟨k, k1, k2, k3⟩ := cyc_at h0 i
  obtain ⟨o, o1, o2⟩ := row.to k3
  rw [k2] at hb
  exact ⟨o, ev_op h hb (rv_ixT hx (atI_nat o1)), o2⟩
end
section
variable {P : Program} {w : World} {K : PySem.W.Frag} {mg : Str → Option Value} {base : Heap}
abbrev sTel : Stmt := top 21
def spTel (K : PySem.W.Frag) (C : Addr) : Sp := fun vs H Q _ => ∃ (a : Addr) (i : Nat) (xs : List V) (ps : List Ph), vs = [.ref a, .int (i : Int)] ∧ SqT K H a xs ∧ PRow K C H xs ps ∧ i < ps.length ∧ NoTell ps ∧ RetV (.bl false) H Q
abbrev nTel : List Str := ["phases", "at", "ages", "age"]
theorem scTel : FnScope nTel ["phases", "at"] (defScope sTel) := ⟨rfl, rfl, rfl, by decide +kernel, rfl, by decide +kernel, by decide +kernel⟩
theorem any_no (n : Nat) : ((List.replicate n false).any id) = false := by
  rw [List.any_eq_false]
  intro x hx
  rw [(List.mem_replicate.mp hx).2]
  decide
abbrev rLen (K : PySem.W.Frag) : List V → Hp → VK → Prop := fun xs H Q => ∃ p ys, xs = [V.ref p] ∧ (SqL K H p ys ∨ SqT K H p ys) ∧ Q (.int ys.length) H
abbrev teTel (K : PySem.W.Frag) : TE := tFld K (tOp (rIxT K) (tVar 0) (tOp (rI (fun _ j => 0 < j) fun i j => .int (i % j)) (tOp (rI0 fun i j => .int (i - j)) (tVar 1) (tVar 3)) (tCB (rLen K) (tCons (tVar 0) tNil)))) "mute"
theorem ok_Tel {C f : Addr} {fd : FuncData} (F : Fun K "tells_mute" "tells_mute" sTel f fd) (G : PhC K C) (S : GlbS mg) (I : GlbE mg) : FnOk P w K mg base CX0 1 f fd ["phases", "at"] (spTel K C) := by
  refine F.ok scTel (fun vs H Q E h => ?_) (fun cdv A outer s H vs Q E hr h => ?_)
  · obtain ⟨a, i, xs, ps, rfl, _⟩ := h
    rfl
  · obtain ⟨a, i, xs, ps, rfl, hx, row, hi, no, k⟩ := h
    refine ⟨_, (pss_one (ps_ret (pe_callB (cr_any rfl) (by rfl) I.any (by decide +kernel) (pa_cons (pe_lc2 (te := teTel K) (own := [("ages", 2), ("age", 3)]) (vs1 := [3]) (g := gName 2) (g1 := gName 3) (wi1 := iTup K (tVar 2)) rfl scTel.nd (pi_tup (pe_fld (pe_ix (show IxR _ (rIxT K) from ix_tup) (pv 0) (pv 1) (fun _ _ => rfl)) rfl)) (blkOk_by (own := [("ages", 2), ("age", 3)]) (N := nTel) (sc := defScope sTel) (by decide +kernel)) (by decide)
        (fun _ _ _ _ _ => pg_name (i := 2) scTel.nd rfl (Or.inl rfl)) (fun _ _ _ _ _ => pts_nil)
        (fun _ _ _ _ _ => pi_tup (pv 2)) (fun _ _ _ _ _ => pg_name (i := 3) scTel.nd rfl (Or.inl rfl)) (fun _ _ _ _ _ => pts_nil)
        (fun _ _ _ _ _ => pe_fld (pe_ix (show IxR _ (rIxT K) from ix_tup) (pv 0) (pe_op op_mod (pe_op op_sub (pv 1) (pv 3)) (pe_callB call_len_seq (by rfl) S.len PySem.boot_len (pa_cons (pv 0) pa_nil))) (fun _ _ => rfl)) rfl)) pa_nil)))), ?_⟩
    have pi := cyc_small hi
    obtain ⟨o, o1, o2⟩ := row.to pi
    obtain ⟨dx, q, ys, q1, q2, q3, q4⟩ := id o2
    refine s_ret (v := .bl false) (fun H3 e3 Q3 q3' => ?_) k
    refine ⟨_, rfl, _, rfl, a, xs, (i : Int), .ref o, rfl, rfl, ex_t e3 hx, atI_nat o1, ?_⟩
    refine ⟨o, C, dx, _, _, rfl, e3 _ _ q1, G.cls, G.sums, rfl, q, rfl, ⟨ys, ex_t e3 q2⟩, fun D hD => ?_⟩
    refine lc2_it (n := ys.length) (walk_tup (K := K) (a := q) (xs := ys)) (σ := [some (.ref a), some (.int (i : Int)), none, none]) (H1 := H3) (D := D) (fun i H' => Ex H3 H' ∧ ∃ n, n ≤ 4 * i ∧ H' D = some (.lst (List.replicate n (V.bl false)))) ⟨Ex.new hD, 0, by omega, upd_same⟩ (fun _ H' _ h => ex_t (e3.trans h.1) q2) (fun j x H' H'' hj h y => ?_) (fun H' h => ?_)
    · obtain ⟨rfl, hxj⟩ := y
      obtain ⟨b, l, hl, rfl, hb⟩ := q3.at hxj
      have lm := List.mem_of_getElem? hl
      have al := q4.1 l lm
      refine ⟨rfl, ?_⟩
      refine ⟨_, rfl, b, rfl, ⟨vN l, st_of ((e3.trans h.1) _ _ hb)⟩, in2_it (n1 := (vN l).length) (walk_tup (K := K) (a := b) (xs := vN l)) (H4 := H'') (D := D) (fun m H' => Ex H3 H' ∧ ∃ n, n ≤ 4 * j + m ∧ H' D = some (.lst (List.replicate n (V.bl false)))) h (fun _ H' _ h => st_of ((e3.trans h.1) _ _ hb)) (fun m y Ha Hb hm hq ym => ?_) (fun Ha ha => ?_)⟩
      · obtain ⟨rfl, hym⟩ := ym
        obtain ⟨g, hg, rfl⟩ := vN_get hym
        refine ⟨rfl, ?_⟩
        obtain ⟨hq1, n, n1, n2⟩ := hq
        have E := e3.trans hq1
        have ln : Ev (tCB (rLen K) (tCons (tVar 0) tNil)) [some (.ref a), some (.int (i : Int)), some (.ref b), some (.int (g : Int))] Hb (.int (ps.length : Int)) := ev_is (ev_cb (ea_cons (ev_var rfl) ea_nil) (rc_lenQ (.inr (ex_t E hx)))) (by rw [row.1])
        obtain ⟨o', w1, w2⟩ := ev_cyc (K := K) (C := C) (ta := tVar 0) (σ := [some (.ref a), some (.int (i : Int)), some (.ref b), some (.int (g : Int))]) (tb := tOp (rI (fun _ j => 0 < j) fun i j => .int (i % j)) (tOp (rI0 fun i j => .int (i - j)) (tVar 1) (tVar 3)) (tCB (rLen K) (tCons (tVar 0) tNil))) (i := (i : Int) - (g : Int)) (ev_var rfl) (ev_op (ev_op (ev_var rfl) (ev_var rfl) rv_I0) ln (rv_I (by omega))) (ex_t E hx) (row.mono E) (by omega) (R := fun _ _ => True)
        have mu := ev_mute G w1 w2
        rw [no i hi l (by rw [show (cyc ps (i : Int)).2 = _ from rfl]; exact lm) g (List.mem_of_getElem? hg)] at mu
        have l4 := al.2.1
        have vl := vN_len (l := l)
        have j4 : j < 4 := by have := q3.1; have := q4.2; omega
        refine mu Hb (Ex.refl Hb) _ fun Hc ec => ⟨_, ec _ _ n2, by rw [List.length_replicate]; exact sz_lt (by omega), Ex.mut (hq1.trans ec) hD, n + 1, by omega, ?_⟩
        rw [upd_same, List.replicate_succ']
      · obtain ⟨h1, n, n1, n2⟩ := ha
        have l4 := al.2.1
        have vl := vN_len (l := l)
        exact ⟨h1, n, by omega, n2⟩
    · obtain ⟨h1, n, _, n2⟩ := h
      refine ⟨D, List.replicate n false, rfl, sq_of (by rw [n2, List.map_replicate]), ?_⟩
      rw [any_no]
      exact q3' H' h1
end
end K17
namespace ClK
open PySem PySem.Spec PyProof.Rows L2 ClX
section
variable {X : Cx} {CX : CXT} {k : Nat} {C p g : Addr} {mc : Value} {sp : Sp} {E : XK} {o : Expr} {m : Str} {pos apos : Pos} {ta : TE} {pl : Sem Bool}
/-- C.m(), m a class method -/
theorem pe_cmeth0 (he : PE X o ta) (r : CRead X.K C mc) (c : CMet X.K C mc m p g) (F : FnR X.prog X.w X.K X.mg X.base CX k g sp) (hr : Room k X.A) (hx : Passes CX X E)
    (ht : eval (.Call (.Attribute o m apos) [] [] pos) X.env = (do
      let ov ← eval o X.env
      standAt apos.atName
      let (f, first) ← holding [ov] (getMethod ov m pl)
      callWith pos f first (backTo pos (starEach [] X.env)) (backToKw pos (keywordEach [] X.env))) := by rfl) :
    PE X (.Call (.Attribute o m apos) [] [] pos) (tCMeth C sp E ta tNil) := by
  refine ⟨fun pins s σ H Q I h => ?_⟩
  refine PySem.W.methodCall_KW (pl := pl) (thn (he.run pins s σ H _ I h) fun u s1 ⟨x, H1, I1, rx, ex, q⟩ => ?_) ht
  subst ex
  obtain rfl : u = Value.ref C := rx
  refine getmethcm_ok I1 r c fun s2 I2 => ?_
  exact PySem.W.callWith_M0 (first := []) ⟨pin_at I2, I2.kIn⟩ c.fi (run_cm F hr hx I2 .nil q)
end
end ClK
namespace K17
open PySem L2 Evl Gr StX EnT MkS StK ClX ClK RdX Kn
abbrev sPl (i : Nat) : Stmt := inClass (top 22) i
abbrev nPl : List Str := ["self", "phases", "at", "phase"]
theorem scPl : FnScope nPl ((["self"] : List Str) ++ (["phases"] : List Str)) (defScope (sPl 0)) := ⟨rfl, rfl, rfl, by decide +kernel, rfl, by decide +kernel, by decide +kernel⟩
theorem prow_upd {K : PySem.W.Frag} {C : Addr} {H : Hp} {o CP dx : Addr} {u : HO} {xs : List V} {ps : List Ph} (h : PRow K C H xs ps) (ho : H o = some (.ins CP dx [])) : PRow K C (upd H o u) xs ps := ⟨h.1, fun i x p hx hp => by
  obtain ⟨b, h1, dx', q, ys, h2, h3, h4, h5⟩ := h.2 i x p hx hp
  refine ⟨b, h1, dx', q, ys, ?_, sqT_upd h3 ho, ⟨h4.1, fun j y l hy hl => ?_⟩, h5⟩
  · rw [upd_ne (fun z => by rw [z, ho] at h2; cases h2)]
    exact h2
  · obtain ⟨c, c1, c2⟩ := h4.2 j y l hy hl
    exact ⟨c, c1, by rw [upd_ne (fun z => by rw [z, ho] at c2; cases c2)]; exact c2⟩⟩
theorem PhAt.ins {K : PySem.W.Frag} {C : Addr} {H : Hp} {o : Addr} {p : Ph} (h : PhAt K C H o p) : ∃ dx fs, H o = some (.ins C dx fs) := by
  obtain ⟨dx, q, xs, h1, _⟩ := h
  exact ⟨dx, _, h1⟩
section
variable {P : Program} {w : World} {K : PySem.W.Frag} {mg : Str → Option Value} {base : Heap}
def spPl (K : PySem.W.Frag) (CP C : Addr) : Sp := fun vs H Q _ => ∃ (o p dx : Addr) (xs : List V) (ps : List Ph), vs = [.ref o, .ref p] ∧ H o = some (.ins CP dx []) ∧ SqT K H p xs ∧ PRow K C H xs ps ∧ PlOk ps ∧
  ∀ H', Keep o H H' → PlAt K CP C H' o ps → Q .non H'
def spPlA (K : PySem.W.Frag) (CP C : Addr) : Sp := fun vs H Q E => ∃ ws rest, vs = ws ++ rest ∧ ws.length = (["self"] : List Str).length ∧ rest.length ≤ sizeLine ∧ ∀ p, H p = none → spPl K CP C (ws ++ [V.ref p]) (L2.upd H p (.tup rest)) Q E
theorem ok_Pl {CP C f : Addr} {fd : FuncData} (F : Fun K "__init__" "Plan.__init__" (sPl 0) f fd) (GP : PlC K CP) (G : PhC K C) (IP : GIsi K C) (gC : mg "Phase" = some (.ref C)) (T : GlbT mg) (S : GlbS mg) (I : GlbE mg) (hm : ∃ t, mg "MOST_PHASES" = some (.int 4 t))
    (GT : Gfn P w K mg base 1 "tells_mute" ["phases", "at"] (spTel K C)) : FnR P w K mg base CX0 3 f (spPlA K CP C) := by
  obtain ⟨fT, fdT, GT, kT, bT, gT⟩ := GT
  obtain ⟨t4, hm⟩ := hm
  obtain ⟨oc, od, kV, doc, pm, an, cdv, ct, osl, rfl, lk, hcd⟩ := F.ex
  refine fn_star (ps := ["self"]) (sp := spPl K CP C) lk hcd scPl cxUp_none (bind_star1 (B := fun us => bindArgs (PySem.W.fnOf "__init__" "Plan.__init__" (defArgs (sPl 0)) (defBody (sPl 0)) (defScope (sPl 0)) .none kV doc pm an cdv ct) ⟨us, []⟩) (fun a => rfl) fun a r rs => rfl) (fun A outer s H vs Q E hr h => ?_)
  suffices z : ∃ t, PSs (cxOf CX0 P w K mg base nPl "Plan.__init__" (defScope (sPl 0)) f cdv A outer s H E).nox (defBody (sPl 0)) t ∧ t { nx := fun _ H' => Q .non H', rt := Q } (L2.start nPl vs) H from
    let ⟨t, a, b⟩ := z
    ⟨t, a.nox, b⟩
  obtain ⟨o, p, dx, xs, ps, rfl, hO, hP, row, ok, k⟩ := h
  obtain ⟨l1, l4, some_, no⟩ := ok
  have r1 := hr.mono (show 1 ≤ 2 by decide)
  refine ⟨_, (pss_cons (ps_for PassesOwn.never rfl (pi_enumT (by rfl) I.enum (pa_cons (pv 1) pa_nil)) (pg_tup rfl (pgs_cons (pg_name (i := 2) scPl.nd rfl (.inl rfl)) (pgs_cons (pg_name (i := 3) scPl.nd rfl (.inl rfl)) pgs_nil)))
      (pss_one (ps_if (pt_not (pt_val (pe_callB call_isi (by rfl) T.inst (by decide +kernel) (pa_cons (pv 3) (pa_cons (pe_glob (v := .ref C) (by rfl) gC (by rfl)) pa_nil))))) (pss_one ps_no) pss_nil)))
      (pss_cons (ps_if (pt_not (pt_chain op_le op_le pe_int (pe_callB call_len_seq (by rfl) S.len PySem.boot_len (pa_cons (pv 1) pa_nil)) (pe_glob (v := .int 4) (by rfl) hm ⟨t4, rfl⟩))) (pss_one ps_no) pss_nil)
      (pss_cons (ps_if (pt_val (pe_callB (cr_all rfl) (by rfl) I.all (by decide +kernel) (pa_cons (pe_lc (te := tFld K (tVar 3) "mute") (own := [("phase", 3)]) (g := gName 3) rfl scPl.nd (pi_tup (pv 1)) (blkOk_by (own := [("phase", 3)]) (N := nPl) (sc := defScope (sPl 0)) (by decide +kernel)) (fun _ _ _ _ _ => pg_name (i := 3) scPl.nd rfl (Or.inl rfl)) (fun _ _ _ _ _ => pts_nil)
      (fun _ _ _ _ _ => pe_fld (pv 3) rfl)) pa_nil))) (pss_one ps_no) pss_nil)
      (pss_cons (ps_for PassesOwn.never rfl (pi_range1 (by rfl) S.range (pa_cons (pe_callB call_len_seq (by rfl) S.len PySem.boot_len (pa_cons (pv 1) pa_nil)) pa_nil)) (pg_name (i := 2) scPl.nd rfl (.inl rfl))
      (pss_one (ps_if (pt_val (pe_call GT r1 (by rfl) gT kT bT .nil pass0 (pa_cons (pv 1) (pa_cons (pv 2) pa_nil)))) (pss_one ps_no) pss_nil)))
      (pss_one (ps_fld (pv 0) (pv 1) (by rfl))))))), ?_⟩
  have ln : ∀ {x y : Option V} {H1 : Hp}, Ex H H1 → Ev (tCB (rLen K) (tCons (tVar 1) tNil)) [some (.ref o), some (.ref p), x, y] H1 (.int (ps.length : Int)) := fun e => ev_is (ev_cb (ea_cons (ev_var rfl) ea_nil) (rc_lenQ (.inr (ex_t e hP)))) (by rw [row.1])
  refine q_forNT (K := K) (a := p) (xs := xs) (ea_cons (ev_var rfl) ea_nil) hP (fun _ σ' H' => (∃ x1 x2 : Option V, σ' = [some (.ref o), some (.ref p), x1, x2]) ∧ Ex H H') (fun H2 e2 => ⟨⟨none, none, rfl⟩, e2⟩) (fun _ _ H' _ q => ex_t q.2 hP) ?_ ?_
  · rintro i z σ' H2 T2 hz ⟨⟨x1, x2, rfl⟩, e2⟩ hT2
    have e3 := e2.trans (Ex.new (o := .tup [.int (i : Nat), z]) hT2)
    refine ⟨T2, [.int (i : Nat), z], rfl, st_of upd_same, rfl, _, _, rfl, _, _, rfl, rfl, ?_⟩
    obtain ⟨b, q, hq, rfl, hb⟩ := row.at hz
    obtain ⟨dx', fs, hi⟩ := (hb.mono e3).ins
    exact s_if (b := false) (et_is (et_not (et_B (ev_cb (ea_cons (ev_var rfl) (ea_cons ev_c ea_nil)) (rc_own G.cls IP hi)))) rfl) (fun z => absurd z (by decide)) fun _ H3 e4 => ⟨⟨_, _, rfl⟩, e3.trans e4⟩
  rintro σ' H2 ⟨⟨x1, x2, rfl⟩, e2⟩
  refine q_when (b := false) (et_is (et_not (et_test (ev_chain ev_c (ln e2) ev_c))) ?_) (fun z => absurd z (by decide)) (fun _ H3 e3 => ?_)
  · show (!(decide ((1 : Int) ≤ (ps.length : Int)) && decide ((ps.length : Int) ≤ 4))) = false
    rw [decide_eq_true (by omega), decide_eq_true (by omega)]
    rfl
  have E3 := e2.trans e3
  have row3 := row.mono E3
  have c := el_tup (K := K) (σ := [some (.ref o), some (.ref p), x1, x2]) (H := H3) (t := tYes) (te := tFld K (tVar 3) "mute") (xs := xs) (tl := tVar 1) (j := 3) (vs := [3]) (fun _ => true) (fun i => V.bl (cyc ps (i : Int)).1) (etu_var rfl (ex_t E3 hP)) (by rw [row.1]; omega) (fun _ => rfl) (fun i x H1 e hi => et_none) (fun i x H1 e hi _ => by
    obtain ⟨b, q, hq, rfl, hb⟩ := row3.at hi
    have := cyc_small (List.getElem?_eq_some_iff.mp hq).1
    rw [hq] at this
    rw [← Option.some.inj this]
    exact ev_mute G (ev_var rfl) (hb.mono e))
  rw [given_all] at c
  have c2 : (List.range xs.length).map (fun i : Nat => V.bl (cyc ps (i : Int)).1) = ((List.range xs.length).map fun i : Nat => (cyc ps (i : Int)).1).map V.bl := by rw [List.map_map]; rfl
  rw [c2] at c
  refine q_when (b := false) (et_is (et_B (ev_all c)) ?_) (fun z => absurd z (by decide)) (fun _ H4 e4 => ?_)
  · obtain ⟨q, hq, mq⟩ := some_
    obtain ⟨i, hi⟩ := List.mem_iff_getElem?.mp hq
    have li := (List.getElem?_eq_some_iff.mp hi).1
    have := cyc_small li
    rw [hi] at this
    rw [List.all_eq_false]
    refine ⟨false, List.mem_map.mpr ⟨i, List.mem_range.mpr (by rw [row.1]; exact li), ?_⟩, by decide⟩
    rw [← Option.some.inj this]
    exact mq
  have E4 := E3.trans e4
  refine q_forR1 (j := 2) (n := (ps.length : Int)) (ea_cons (ln E4) ea_nil) ⟨by omega, by omega⟩ (fun _ σ' H' => (∃ x1 x2 : Option V, σ' = [some (.ref o), some (.ref p), x1, x2]) ∧ Ex H H') (fun H5 e5 => ⟨⟨_, _, rfl⟩, E4.trans e5⟩) ?_ ?_
  · rintro i σ' H5 hi ⟨⟨y1, y2, rfl⟩, e5⟩
    exact s_if (b := false) (et_B (ev_call (z := .bl false) (ea_cons (ev_var rfl) (ea_cons (ev_var rfl) ea_nil)) fun H6 e6 Q6 q6 E6 => ⟨p, i, xs, ps, rfl, ex_t (e5.trans e6) hP, row.mono (e5.trans e6), by omega, no, q6⟩)) (fun z => absurd z (by decide)) fun _ H6 e6 => ⟨⟨_, _, rfl⟩, e5.trans e6⟩
  · rintro σ' H5 ⟨⟨y1, y2, rfl⟩, e5⟩
    have hO5 := e5 _ _ hO
    refine ⟨_, rfl, _, rfl, o, CP, dx, [], rfl, hO5, GP.cls, GP.phases, Nat.le_of_ble_eq_true rfl, ?_⟩
    exact k _ (fun c u hc hn => by rw [upd_ne hn]; exact e5 _ _ hc) ⟨dx, p, xs, upd_same, sqT_upd (ex_t e5 hP) hO5, prow_upd (row.mono e5) hO5, l1, l4⟩
end
/-- gives such a plan -/
def EvPl (K : PySem.W.Frag) (CP C : Addr) (te : TE) (σ : L2.St) (H : Hp) (R : List Ph → Prop) : Prop := ∀ H1, Ex H H1 → ∀ Q : VK, (∀ o ps H2, Ex H1 H2 → PlAt K CP C H2 o ps → R ps → Q (.ref o) H2) → te σ H1 Q
/-- gives phases -/
def EvAP (K : PySem.W.Frag) (C : Addr) (ta : TA) (σ : L2.St) (H : Hp) (R : List Ph → Prop) : Prop := ∀ H1, Ex H H1 → ∀ Q : List V → Hp → Prop, (∀ xs ps H2, Ex H1 H2 → PRow K C H2 xs ps → R ps → Q xs H2) → ta σ H1 Q
section
variable {K : PySem.W.Frag} {CP C : Addr} {σ : L2.St} {H : Hp} {t tr : TA} {te : TE} {E : XK} {ps : List Ph} {xs : List V} {R : List Ph → Prop}
theorem pl_told {Q : VK} {o dx : Addr} (ho : H o = none) (hd : H dx = none) (hn : dx ≠ o) (row : PRow K C H xs ps) (ok : PlOk ps) (q : ∀ o H2, Ex H H2 → PlAt K CP C H2 o ps → Q (.ref o) H2) :
    spPlA K CP C (V.ref o :: xs) (upd (upd H dx (.own o)) o (.ins CP dx [])) (fun v H3 => v = .non ∧ Q (.ref o) H3) E := by
  have e3 : Ex H (upd (upd H dx (.own o)) o (.ins CP dx [])) := (Ex.new hd).trans (Ex.new (by rw [upd_ne hn.symm]; exact ho))
  refine ⟨[.ref o], xs, rfl, rfl, sz_of (by rw [row.1]; have := ok.2.1; omega), fun p hp => ?_⟩
  have e4 := Ex.new (o := .tup xs) hp
  exact ⟨o, p, dx, xs, ps, rfl, e4 _ _ upd_same, st_of upd_same, row.mono (e3.trans e4), ok, fun H' kp h1 => ⟨rfl, q o H' (fun c u hc => kp c u (e4 _ _ (e3 _ _ hc)) (ne_of_none hc ho)) h1⟩⟩
theorem epl_make (h : EvAP K C t σ H R) (ok : ∀ ps, R ps → PlOk ps) : EvPl K CP C (tMakeR CP (spPlA K CP C) E t) σ H R := fun H1 e Q q =>
  h H1 e _ fun xs ps H2 e2 row r => fun o dx ho hd hn => pl_told ho hd hn row (ok ps r) fun o H3 e3 at_ => q o ps H3 (e2.trans e3) at_ r
theorem eap_nil : EvAP K C tNil σ H (fun ps => ps = []) := fun H1 e Q q => q [] [] H1 (Ex.refl H1) prow_nil rfl
theorem prow_cons {o : Addr} {p : Ph} (ho : PhAt K C H o p) (h : PRow K C H xs ps) : PRow K C H (.ref o :: xs) (p :: ps) := ⟨by rw [List.length_cons, List.length_cons, h.1], fun i y m hy hm => by
  cases i with
  | zero =>
    cases hy
    cases hm
    exact ⟨o, rfl, ho⟩
  | succ i => exact h.2 i y m hy hm⟩
theorem eap_cons {p : Ph} (h : EvPh K C te σ H p) (hr : EvAP K C tr σ H R) : EvAP K C (tCons te tr) σ H (fun qs => ∃ ss ps, qs = (p.1, ss) :: ps ∧ ss.Perm p.2 ∧ R ps) := fun H1 e Q q =>
  h H1 e _ fun o ss H2 e2 ho pm => hr H2 (e.trans e2) _ fun xs ps H3 e3 row r => q _ _ H3 (e2.trans e3) (prow_cons (ho.mono e3) row) ⟨ss, ps, rfl, pm, r⟩
end
end K17
namespace K17
open PySem L2 Evl Gr StX EnT MkS StK ClX ClK RdX Kn
def RetP (K : PySem.W.Frag) (CP C : Addr) (R : List Ph → Prop) (H : Hp) (Q : VK) : Prop := ∀ o ps H', Ex H H' → PlAt K CP C H' o ps → R ps → Q (.ref o) H'
theorem RetP.mono {K : PySem.W.Frag} {CP C : Addr} {R : List Ph → Prop} {H H' : Hp} {Q : VK} (e : Ex H H') (h : RetP K CP C R H Q) : RetP K CP C R H' Q := fun o ps H2 e2 => h o ps H2 (e.trans e2)
theorem age_ok {a : Nat} (h1 : 1 ≤ a) (h4 : a ≤ 4) : AgesOk [a] := ⟨by simp, by simp, fun b hb => by rw [List.mem_singleton.mp hb]; exact ⟨h1, h4⟩, List.pairwise_singleton _ _⟩
theorem one_ok {ss : List (List Nat)} : PlOk [(false, ss)] := by
  refine ⟨by simp, by simp, ⟨_, List.mem_singleton.mpr rfl, rfl⟩, fun i hi l hl a ha => ?_⟩
  have e : ∀ j : Int, cyc [(false, ss)] j = (false, ss) := fun j => by
    unfold cyc
    rw [show (([(false, ss)] : List Ph).length : Int) = 1 from rfl, Int.emod_one]
    rfl
  rw [e]
/-- what each class method gives -/
def okPlain (ps : List Ph) : Prop := ps = [(false, [])]
def okCopies (l : List Nat) (ps : List Ph) : Prop := ∃ ss : List (List Nat), ps = [(false, ss)] ∧ ss.Perm (l.map fun a => [a])
def okTwo (ps : List Ph) : Prop := ps = [(false, []), (false, []), (true, [[1, 2]])]
theorem two_ok : PlOk [(false, []), (false, []), (true, [[1, 2]])] := by
  refine ⟨by decide, by decide, ⟨_, List.mem_cons_self, rfl⟩, ?_⟩
  unfold NoTell
  decide +kernel
/-- the classes Plan and Phase -/
structure GPl (P : Program) (w : World) (K : PySem.W.Frag) (mg : Str → Option Value) (base : Heap) (CP C fP f : Addr) : Prop where
  gP : mg "Plan" = some (.ref CP)
  gC : mg "Phase" = some (.ref C)
  mP : Mk K CP fP
  mC : Mk K C f
  initP : FnR P w K mg base CX0 3 fP (spPlA K CP C)
  initK : FnRK P w K mg base CX0 4 f "mute" (starSp (spPh K C))
  initD : FnR P w K mg base CX0 4 f (fun vs H Q E => starSp (spPh K C) vs (.bl false) H Q E)
  clsP : PlC K CP
  cls : PhC K C
section
variable {K : PySem.W.Frag} {C : Addr} {σ : L2.St} {H : Hp} {te : TE} {E : XK}
theorem perm_nil' {α : Type} {l : List α} (h : l.Perm []) : l = [] := h.eq_nil
theorem ep_one (h : EvPh K C te σ H (false, [])) {Q : VK} {H1 : Hp} (e : Ex H H1) (k : ∀ o H2, Ex H1 H2 → PhAt K C H2 o (false, []) → Q (.ref o) H2) : te σ H1 Q := h H1 e _ fun o ss H2 e2 ho pm => by
  rw [perm_nil' pm] at ho
  exact k o H2 e2 ho
/-- Phase(*y) -/
theorem ep_S {X : Cx} {ss : List (List Nat)} (h : ∀ H1, Ex H H1 → ∀ Q : VK, (∀ p xs H2, Ex H1 H2 → H2 p = some (.lst xs) → TRow H2 xs ss → Q (.ref p) H2) → te σ H1 Q) (ok : PhOk ss) (nd : ss.Nodup) :
    EvPh X.K C (tMakeS X C (fun vs H Q E => starSp (spPh X.K C) vs (.bl false) H Q E) E te) σ H (false, ss) := fun H1 e Q q =>
  h H1 e _ fun p xs H2 e2 hp row => ⟨p, xs, rfl, .inr (sq_of hp), fun o dx ho hd hn => ph_told ho hd hn row ok nd fun o ss' H4 e4 => q o ss' H4 (e2.trans e4)⟩
end
section
variable {P : Program} {w : World} {K : PySem.W.Frag} {mg : Str → Option Value} {base : Heap}
def spPlain (K : PySem.W.Frag) (CP C : Addr) : Sp := fun vs H Q _ => vs = [.ref CP] ∧ RetP K CP C okPlain H Q
theorem scPlain : FnScope ["cls"] ["cls"] (defScope (sPl 1)) := ⟨rfl, rfl, rfl, by decide +kernel, rfl, by decide +kernel, by decide +kernel⟩
theorem ok_Plain {CP C fP fI f : Addr} {fd : FuncData} (F : Fun K "plain" "Plan.plain" (sPl 1) f fd) (G : GPl P w K mg base CP C fP fI) : FnOk P w K mg base CX0 6 f fd ["cls"] (spPlain K CP C) := by
  refine F.ok scPlain (fun vs H Q E h => ?_) (fun cdv A outer s H vs Q E hr h => ?_)
  · obtain ⟨rfl, _⟩ := h
    rfl
  · obtain ⟨rfl, k⟩ := h
    refine ⟨_, (pss_one (ps_ret (pe_makeL (i := 0) (E := E0) G.mP G.initP (hr.mono (by decide)) rfl (.inl rfl) pass0 (pa_cons (pe_makeR0 (E := E0) G.mC G.initD hr (by rfl) G.gC pass0) pa_nil)))), ?_⟩
    refine s_retR ⟨rfl, ?_⟩
    refine epl_make (eap_cons (ep_D ear_nil ⟨fun l hl => (by cases hl), by decide⟩ List.nodup_nil) eap_nil) (fun ps hps => ?_) H (Ex.refl H) _ fun o ps H1 e1 at_ hps => k o ps H1 e1 at_ ?_
    · obtain ⟨ss, qs, rfl, _, rfl⟩ := hps
      exact one_ok
    · obtain ⟨ss, qs, rfl, pm, rfl⟩ := hps
      rw [perm_nil' pm]
      rfl
/-! ### copies -/
abbrev nCop : List Str := ["cls", "ages", "sums", "age"]
theorem scCop : FnScope nCop ((["cls"] : List Str) ++ (["ages"] : List Str)) (defScope (sPl 2)) := ⟨rfl, rfl, rfl, by decide +kernel, rfl, by decide +kernel, by decide +kernel⟩
def spCop (K : PySem.W.Frag) (CP C : Addr) : Sp := fun vs H Q _ => ∃ (p : Addr) (l : List Nat), vs = [.ref CP, .ref p] ∧ SqT K H p (vN l) ∧ (∀ a ∈ l, 1 ≤ a ∧ a ≤ 4) ∧ l.Nodup ∧ l.length ≤ 4 ∧ RetP K CP C (okCopies l) H Q
def spCopA (K : PySem.W.Frag) (CP C : Addr) : Sp := fun vs H Q E => ∃ ws rest, vs = ws ++ rest ∧ ws.length = (["cls"] : List Str).length ∧ rest.length ≤ sizeLine ∧ ∀ p, H p = none → spCop K CP C (ws ++ [V.ref p]) (L2.upd H p (.tup rest)) Q E
theorem snoc_map {l : List Nat} {i a : Nat} (h : l[i]? = some a) : ((l.take (i + 1)).map fun a => [a]) = ((l.take i).map fun a => [a]) ++ [[a]] := by
  rw [List.take_add_one, h, List.map_append]
  rfl
theorem trow_snoc {H : Hp} {xs : List V} {ss : List (List Nat)} {a : Addr} {l : List Nat} (h : TRow H xs ss) (ha : H a = some (.tup (vN l))) : TRow H (xs ++ [.ref a]) (ss ++ [l]) := ⟨by rw [List.length_append, List.length_append, h.1]; rfl, fun i x q hx hq => by
  rcases Nat.lt_or_ge i xs.length with c | c
  · rw [List.getElem?_append_left c] at hx
    rw [List.getElem?_append_left (by rw [← h.1]; exact c)] at hq
    exact h.2 i x q hx hq
  · rw [List.getElem?_append_right c] at hx
    rw [List.getElem?_append_right (by rw [← h.1]; exact c), ← h.1] at hq
    generalize i - xs.length = j at hx hq
    cases j with
    | zero =>
      cases hx
      cases hq
      exact ⟨a, rfl, ha⟩
    | succ j => cases hx⟩
theorem ok_Cop {CP C fP fI f : Addr} {fd : FuncData} (F : Fun K "copies" "Plan.copies" (sPl 2) f fd) (G : GPl P w K mg base CP C fP fI) : FnR P w K mg base CX0 6 f (spCopA K CP C) := by
  obtain ⟨oc, od, kV, doc, pm, an, cdv, ct, osl, rfl, lk, hcd⟩ := F.ex
  refine fn_star (ps := ["cls"]) (sp := spCop K CP C) lk hcd scCop cxUp_none (bind_star1 (B := fun us => bindArgs (PySem.W.fnOf "copies" "Plan.copies" (defArgs (sPl 2)) (defBody (sPl 2)) (defScope (sPl 2)) .none kV doc pm an cdv ct) ⟨us, []⟩) (fun a => rfl) fun a r rs => rfl) (fun A outer s H vs Q E hr h => ?_)
  suffices z : ∃ t, PSs (cxOf CX0 P w K mg base nCop "Plan.copies" (defScope (sPl 2)) f cdv A outer s H E).nox (defBody (sPl 2)) t ∧ t { nx := fun _ H' => Q .non H', rt := Q } (L2.start nCop vs) H from
    let ⟨t, a, b⟩ := z
    ⟨t, a.nox, b⟩
  obtain ⟨p, l, rfl, hP, h14, nd, l4, k⟩ := h
  refine ⟨_, (pss_cons (ps_setLc (te := tTup (tCons (tVar 3) tNil)) (i := 2) (own := [("age", 3)]) (g := gName 3) rfl scCop.nd rfl rfl (by rfl) (pi_tup (pv 1)) (blkOk_by (own := [("age", 3)]) (N := nCop) (sc := defScope (sPl 2)) (by decide +kernel)) (fun _ _ _ _ _ => pg_name (i := 3) scCop.nd rfl (Or.inl rfl)) (fun _ _ _ _ _ => pts_nil)
        (fun _ _ _ _ _ => pe_tup (pa_cons (pv 3) pa_nil)))
      (pss_one (ps_ret (pe_makeL (i := 0) (E := E0) G.mP G.initP (hr.mono (by decide)) rfl (.inl rfl) pass0 (pa_cons (pe_makeS1 (E := E0) G.mC G.initD hr (by rfl) G.gC pass0 (pv 2)) pa_nil))))), ?_⟩
  refine q_asgR ⟨_, rfl, p, rfl, ⟨vN l, hP⟩, fun D hD => ?_⟩
  refine lc_it (n := (vN l).length) (walk_tup (K := K) (a := p) (xs := vN l)) (fun i H' => Ex H H' ∧ ∃ xs, H' D = some (.lst xs) ∧ TRow H' xs ((l.take i).map fun a => [a])) ⟨Ex.new hD, [], upd_same, trow_nil⟩ (fun _ H' _ h => ex_t h.1 hP) (fun i x H' H'' hi h y => ?_) (fun H' h => ?_)
  · obtain ⟨rfl, hxi⟩ := y
    obtain ⟨a, ha, rfl⟩ := vN_get hxi
    obtain ⟨h1, xs, h2, h3⟩ := h
    refine ⟨rfl, yes_i (A := fun H3 => _) ?_⟩
    refine ⟨_, rfl, by show 1 ≤ sizeLine; decide, fun q hq => ?_⟩
    have e3 := Ex.new (o := .tup [V.int (a : Int)]) hq
    have ln := h3.1
    rw [List.length_map, List.length_take] at ln
    have nD : q ≠ D := fun z => by rw [z, h2] at hq; cases hq
    refine ⟨xs, e3 _ _ h2, sz_lt (by omega), Ex.mut (h1.trans e3) hD, xs ++ [.ref q], upd_same, ?_⟩
    rw [snoc_map ha]
    have row := trow_snoc (h3.mono e3) (a := q) (l := [a]) (show _ = some (.tup (vN [a])) from upd_same)
    refine ⟨row.1, fun j y m hy hm => ?_⟩
    obtain ⟨b, b1, b2⟩ := row.2 j y m hy hm
    refine ⟨b, b1, ?_⟩
    have nb : b ≠ D := fun z => by rw [z, e3 _ _ h2] at b2; cases b2
    rw [upd_ne nb]
    exact b2
  · obtain ⟨h1, xs, h2, h3⟩ := h
    rw [vN_len, List.take_length] at h3
    refine s_retR ⟨rfl, ?_⟩
    have nd2 : (l.map fun a => [a]).Nodup := by
      unfold List.Nodup
      rw [List.pairwise_map]
      exact nd.imp fun h z => h (List.head_eq_of_cons_eq z)
    refine epl_make (C := C) (eap_cons (ep_S (X := cxOf CX0 P w K mg base nCop "Plan.copies" (defScope (sPl 2)) f cdv A outer s H E) (ss := l.map fun a => [a]) (fun H3 e3 Q3 q3 => ⟨_, rfl, q3 D xs H3 (Ex.refl H3) (e3 _ _ h2) (h3.mono e3)⟩) ⟨fun m hm => ?_, by rw [List.length_map]; exact l4⟩ nd2) eap_nil) (fun ps hps => ?_) H' (Ex.refl H') _ fun o ps H3 e3 at_ hps => k o ps H3 (h1.trans e3) at_ ?_
    · obtain ⟨a, ha, rfl⟩ := List.mem_map.mp hm
      have := h14 a ha
      exact age_ok this.1 this.2
    · obtain ⟨ss, qs, rfl, _, rfl⟩ := hps
      exact one_ok
    · obtain ⟨ss, qs, rfl, pm, rfl⟩ := hps
      exact ⟨ss, rfl, pm⟩
theorem prow_updL {H : Hp} {C D : Addr} {u : HO} {ys : List V} {xs : List V} {ps : List Ph} (h : PRow K C H xs ps) (hD : H D = some (.lst ys)) : PRow K C (upd H D u) xs ps := ⟨h.1, fun i x p hx hp => by
  obtain ⟨b, h1, dx', q, zs, h2, h3, h4, h5⟩ := h.2 i x p hx hp
  refine ⟨b, h1, dx', q, zs, ?_, sqt_updL h3 hD, ⟨h4.1, fun j y l hy hl => ?_⟩, h5⟩
  · rw [upd_ne (fun z => by rw [z, hD] at h2; cases h2)]
    exact h2
  · obtain ⟨c, c1, c2⟩ := h4.2 j y l hy hl
    exact ⟨c, c1, by rw [upd_ne (fun z => by rw [z, hD] at c2; cases c2)]; exact c2⟩⟩
theorem eu_rg {σ : L2.St} {H : Hp} {ta tb : TE} {a b : Int} (ha : Ev ta σ H (.int a)) (hb : Ev tb σ H (.int b)) (ok : RgOk a b) : EvU (tTupRg (tRg2 ta tb)) σ H (rgV a b) := fun H1 e Q q =>
  ha H1 e _ fun H2 e2 => hb H2 (e.trans e2) _ fun H3 e3 => ⟨a, b, rfl, rfl, ok, fun p hp => q p _ (fresh_back (e2.trans e3) hp) ((e2.trans e3).trans (Ex.new hp)) upd_same⟩
/-! ### groups of two -/
abbrev nGrp : List Str := ["cls", "size", "phases", "_"]
theorem scGrp : FnScope nGrp ["cls", "size"] (defScope (sPl 3)) := ⟨rfl, rfl, rfl, by decide +kernel, rfl, by decide +kernel, by decide +kernel⟩
def spGrp (K : PySem.W.Frag) (CP C : Addr) : Sp := fun vs H Q _ => vs = [.ref CP, .int 2] ∧ RetP K CP C okTwo H Q
theorem ok_Grp {CP C fP fI f : Addr} {fd : FuncData} (F : Fun K "groups" "Plan.groups" (sPl 3) f fd) (G : GPl P w K mg base CP C fP fI) (S : GlbS mg) (GW : Gfn P w K mg base 2 "is_within" ["value", "least", "most"] (spWithin K)) : FnOk P w K mg base CX0 6 f fd ["cls", "size"] (spGrp K CP C) := by
  obtain ⟨fW, fdW, GW, kW, bW, gW⟩ := GW
  refine F.ok scGrp (fun vs H Q E h => ?_) (fun cdv A outer s H vs Q E hr h => ?_)
  · obtain ⟨rfl, _⟩ := h
    rfl
  · obtain ⟨rfl, k⟩ := h
    refine ⟨_, (pss_cons (ps_if (pt_not (pt_val (pe_call GW (hr.mono (by decide)) (by rfl) gW kW bW .nil pass0 (pa_cons (pv 1) (pa_cons pe_int (pa_cons pe_int pa_nil)))))) (pss_one ps_no) pss_nil)
      (pss_cons (ps_setLc (te := tMakeR C (fun vs H Q E => starSp (spPh K C) vs (.bl false) H Q E) E0 tNil) (i := 2) (own := [("_", 3)]) (g := gName 3) rfl scGrp.nd rfl rfl (by rfl) (pi_range1 (by rfl) S.range (pa_cons (pv 1) pa_nil)) (blkOk_by (own := [("_", 3)]) (N := nGrp) (sc := defScope (sPl 3)) (by decide +kernel)) (fun _ _ _ _ _ => pg_name (i := 3) scGrp.nd rfl (Or.inl rfl)) (fun _ _ _ _ _ => pts_nil)
        (fun _ _ _ _ _ => pe_makeR0 (E := E0) G.mC G.initD hr (by rfl) G.gC pass0))
      (pss_cons (ps_expr (pe_bm PySem.F.plainAttrs_list PySem.F.slot_list_append PySem.F.type_list_append mt_append (pv 2) (pa_cons (pe_makeSK (E := E0) G.mC G.initK hr (by rfl) G.gC pass0 (pa_cons (pe_tupRg rfl (by rfl) S.tuple (prg_2 (by rfl) S.range pe_int (pe_op op_add (pv 1) pe_int))) pa_nil) (pk_cons pe_bl pk_nil)) pa_nil)))
      (pss_one (ps_ret (pe_makeLS (i := 0) (E := E0) G.mP G.initP (hr.mono (by decide)) rfl (.inl rfl) pass0 (pv 2))))))), ?_⟩
    refine q_when (b := false) (et_is (et_not (et_B (ev_call (z := .bl true) (ea_cons (ev_var rfl) (ea_cons ev_c (ea_cons ev_c ea_nil))) fun H1 e1 Q1 q1 E1 => .inl ⟨2, 1, 3, rfl, q1⟩))) rfl) (fun z => absurd z (by decide)) (fun _ H1 e1 => ?_)
    refine q_asgR ⟨_, rfl, 2, rfl, by decide, by decide, fun D hD => ?_⟩
    refine lc_range (lo := 0) (n := 2) (fun i H' => Ex H1 H' ∧ ∃ xs, H' D = some (.lst xs) ∧ xs.length = i ∧ PRow K C H' xs (List.replicate i (false, []))) ⟨Ex.new hD, [], upd_same, rfl, prow_nil⟩ (fun i H' hi h => ?_) (fun H' h => ?_)
    · obtain ⟨h1, xs, h2, h3, h4⟩ := h
      refine ⟨rfl, yes_i (A := fun H3 => _) ?_⟩
      refine ep_one (H := H') (ep_D ear_nil ⟨fun l hl => (by cases hl), by decide⟩ List.nodup_nil) (Ex.refl H') fun o H3 e3 ho => ⟨xs, e3 _ _ h2, sz_lt (by omega), Ex.mut (h1.trans e3) hD, xs ++ [.ref o], upd_same, by rw [List.length_append, h3]; rfl, ?_⟩
      rw [List.replicate_succ']
      exact prow_updL (prow_snoc (h4.mono e3) ho) (e3 _ _ h2)
    · obtain ⟨h1, xs, h2, h3, h4⟩ := h
      refine ⟨_, rfl, Or.inl ⟨rfl, xs, sq_of h2⟩, ?_⟩
      refine ep_K (K := K) (C := C) (m := true) (ss := [[1, 2]]) (ear_new (l := [1, 2]) (eu_rg (a := 1) (b := 3) ev_c (ev_op (x := .int 2) (y := .int 1) (ev_var rfl) ev_c rv_I0) (RgOk.of_le (by decide) (by decide) (by decide) (by decide))) ear_nil) (ea_cons ev_c ea_nil) ⟨fun l hl => ?_, by decide⟩ (by decide) H' (Ex.refl H') _ fun o ss H3 e3 ho pm => ⟨D, xs, .ref o, rfl, rfl, e3 _ _ h2, sz_lt (by omega), ?_⟩
      · rw [List.mem_singleton.mp hl]
        exact ⟨by decide, by decide, by decide, by decide⟩
      · have e1' : ss = [[1, 2]] := pm.eq_singleton
        subst e1'
        have row := prow_updL (u := .lst (xs ++ [.ref o])) (prow_snoc (h4.mono e3) ho) (e3 _ _ h2)
        have hD3 : (upd H3 D (.lst (xs ++ [.ref o]))) D = some (.lst (xs ++ [.ref o])) := upd_same
        have E3 : Ex H (upd H3 D (.lst (xs ++ [.ref o]))) := e1.trans (Ex.mut (h1.trans e3) hD)
        generalize upd H3 D (.lst (xs ++ [.ref o])) = H4 at row hD3 E3 ⊢
        dsimp only
        refine s_retR ?_
        refine ⟨rfl, _, rfl, D, xs ++ [.ref o], rfl, .inr (sq_of hD3), fun x dx hx hd hn => ?_⟩
        exact pl_told hx hd hn row two_ok fun o' H5 e5 at_ => k o' _ H5 (E3.trans e5) at_ rfl
end
end K17
namespace K17
open PySem L2 Evl Gr StX EnT Kn
/-! ### ascending, of any numbers -/
def ascB (l : List Nat) : Bool := (List.range (l.length - 1)).all fun i => decide (l.getD i 0 < l.getD (i + 1) 0)
section
variable {P : Program} {w : World} {K : PySem.W.Frag} {mg : Str → Option Value} {base : Heap}
def spAscG (K : PySem.W.Frag) : Sp := fun vs H Q _ => ∃ (a : Addr) (l : List Nat), vs = [.ref a] ∧ Sq K H a (vN l) ∧ 1 ≤ l.length ∧ l.length ≤ 100 ∧ RetV (.bl (ascB l)) H Q
theorem ok_AscG {f : Addr} {fd : FuncData} (F : Fun K "is_ascending" "is_ascending" sAsc f fd) (S : GlbS mg) (all : mg "all" = none) : FnOk P w K mg base CX0 1 f fd ["values"] (spAscG K) := by
  refine F.ok scAsc (fun vs H Q E h => ?_) (fun cdv A outer s H vs Q E hr h => ?_)
  · obtain ⟨a, l, rfl, _⟩ := h
    rfl
  · obtain ⟨a, l, rfl, hL, l1, l100, k⟩ := h
    refine ⟨_, (pss_one (ps_ret (pe_callB (cr_all rfl) (by rfl) all (by decide +kernel) (pa_cons (pe_lc (own := [("at", 1)]) (g := gName 1) rfl scAsc.nd (pi_range2 (by rfl) S.range (pa_cons pe_int (pa_cons (pe_callB call_len_seq (by rfl) S.len PySem.boot_len (pa_cons (pv 0) pa_nil)) pa_nil)))
        (blkOk_by (own := [("at", 1)]) (N := ["values", "at"]) (sc := defScope sAsc) (by decide +kernel)) (fun _ _ _ _ _ => pg_name (i := 1) scAsc.nd rfl (Or.inl rfl)) (fun _ _ _ _ _ => pts_nil)
        (fun _ _ _ _ _ => pe_cmpR op_lt (pe_ix (show IxR _ (rIx K) from ix_seq) (pv 0) (pe_op op_sub (pv 1) pe_int) (fun _ _ => rfl)) (pe_ix (show IxR _ (rIx K) from ix_seq) (pv 0) (pv 1) (fun _ _ => rfl)) (nomark _))) pa_nil)))), ?_⟩
    have at_ : ∀ {i : Nat}, i < l.length → atI (vN l) (i : Int) = some (V.int ((l.getD i 0 : Nat) : Int)) := fun {i} h => atI_nat (vN_at (by rw [List.getD_eq_getElem?_getD, List.getElem?_eq_getElem h]; rfl))
    have c1 := el_lcR2 (σ := [some (.ref a), none]) (H := H) (t := tYes) (j := 1) (vs := [1]) (lo := 1) (n := (l.length : Int))
      (te := tOp (rI0 fun i j => .bl (decide (i < j))) (tOp (rIx K) (tVar 0) (tOp (rI0 fun i j => .int (i - j)) (tVar 1) (tC (.int 1)))) (tOp (rIx K) (tVar 0) (tVar 1)))
      (fun _ => true) (fun i => V.bl (decide (l.getD i 0 < l.getD (i + 1) 0)))
      (ta := tCons (tC (.int 1)) (tCons (tCB (fun xs H Q => ∃ p ys, xs = [V.ref p] ∧ (SqL K H p ys ∨ SqT K H p ys) ∧ Q (.int ys.length) H) (tCons (tVar 0) tNil)) tNil))
      (ea_cons ev_c (ea_cons (ev_is (ev_cb (ea_cons (ev_var rfl) ea_nil) (rc_lenQ hL)) (by rw [vN_len])) ea_nil)) (by omega) (fun _ => rfl) (fun i H1 e1 hi => et_none) (fun i H1 e1 hi _ => by
        have hi' : i + 1 < l.length := by omega
        exact ev_is (ev_op (ev_op (y := .int (i : Int)) (ev_var rfl) (ev_is (ev_op (ev_var rfl) ev_c rv_I0) (by congr 1; omega)) (rv_ix (hL.mono e1) (at_ (by omega)))) (ev_op (y := .int ((i + 1 : Nat) : Int)) (ev_var rfl) (ev_is (ev_var rfl) (by congr 1; omega)) (rv_ix (hL.mono e1) (at_ hi'))) rv_I0) (congrArg V.bl (decide_eq_decide.mpr (by omega))))
    rw [given_all] at c1
    have c2 : (List.range ((l.length : Int) - 1).toNat).map (fun i : Nat => V.bl (decide (l.getD i 0 < l.getD (i + 1) 0))) = ((List.range (l.length - 1)).map fun i => decide (l.getD i 0 < l.getD (i + 1) 0)).map V.bl := by
      rw [List.map_map, show ((l.length : Int) - 1).toNat = l.length - 1 by omega]
      rfl
    rw [c2] at c1
    refine s_ret (ev_is (ev_all c1) (congrArg V.bl ?_)) k
    unfold ascB
    rw [List.all_map]
    rfl
end
/-! ### sums in words -/
def digs : List Str := ["1", "2", "3", "4"]
def dig (z : Str) : Nat := if z = "1" then 1 else if z = "2" then 2 else if z = "3" then 3 else 4
def sumW (z : Str) : Option (List Nat) := if ((Txt.split z "+").all fun p => decide (p ∈ digs)) = true then (if ascB ((Txt.split z "+").map dig) = true then some ((Txt.split z "+").map dig) else none) else none
theorem in_strs (z : Str) : ∀ zs : List Str, inV (.str z) (zs.map V.str) = decide (z ∈ zs)
  | [] => rfl
  | y :: ys => by
    have ih := in_strs z ys
    unfold inV at ih ⊢
    rw [List.map_cons, List.any_cons, ih, Bool.eq_iff_iff, Bool.or_eq_true, decide_eq_true_iff, decide_eq_true_iff, List.mem_cons]
    refine or_congr ?_ Iff.rfl
    show (y == z) = true ↔ z = y
    rw [beq_iff_eq]
    exact eq_comm
theorem el_split {σ : L2.St} {H : Hp} {ta : TE} {z y : Str} (h : Ev ta σ H (.str z)) (hy : (y.length == 0) = false) (hz : z.length ≤ 90000) :
    EvL (tM1 (fun x xs H Q => ∃ a b, x = .str a ∧ xs = [.str b] ∧ (b.length == 0) = false ∧ a.length + 2 ≤ sizeLine ∧ rNewStrs (Txt.split a b) H Q) ta (tC (.str y))) σ H ((Txt.split z y).map V.str) := fun H1 e Q q =>
  h H1 e _ fun H2 e2 => ⟨⟨_, rfl⟩, _, y, rfl, rfl, hy, sz_of (n := z.length + 2) (by omega), fun p hp => q p _ (fresh_back e2 hp) (e2.trans (Ex.new hp)) upd_same⟩
theorem dig_int {p : Str} (h : p ∈ digs) : PySem.intText? p = some ((dig p : Nat) : Int) ∧ p.length ≤ 640 ∧ 1 ≤ dig p ∧ dig p ≤ 4 := by
  unfold digs at h
  simp only [List.mem_cons, List.not_mem_nil, or_false] at h
  rcases h with rfl | rfl | rfl | rfl <;> refine ⟨by decide +kernel, by decide +kernel, by decide +kernel, by decide +kernel⟩
section
variable {P : Program} {w : World} {K : PySem.W.Frag} {mg : Str → Option Value} {base : Heap}
abbrev sSof : Stmt := top 16
abbrev nSof : List Str := ["word", "ages", "part"]
/-- a word that is not long, in few parts -/
def WOk (z : Str) : Prop := z.length ≤ 90000 ∧ 1 ≤ (Txt.split z "+").length ∧ (Txt.split z "+").length ≤ 100
def spSof : Sp := fun vs H Q _ => ∃ z : Str, vs = [.str z] ∧ WOk z ∧ (sumW z = none → RetV .non H Q) ∧ ∀ l, sumW z = some l → ∀ p H2, H p = none → Ex H H2 → H2 p = some (.tup (vN l)) → Q (.ref p) H2
theorem scSof : FnScope nSof ["word"] (defScope sSof) := ⟨rfl, rfl, rfl, by decide +kernel, rfl, by decide +kernel, by decide +kernel⟩
theorem ok_Sof {f : Addr} {fd : FuncData} (F : Fun K "sum_of" "sum_of" sSof f fd) (T : GlbT mg) (S : GlbS mg) (GA : Gfn P w K mg base 1 "is_ascending" ["values"] (spAscG K)) : FnOk P w K mg base CX0 2 f fd ["word"] spSof := by
  obtain ⟨fA, fdA, GA, kA, bA, gA⟩ := GA
  refine F.ok scSof (fun vs H Q E h => ?_) (fun cdv A outer s H vs Q E hr h => ?_)
  · obtain ⟨z, rfl, _⟩ := h
    rfl
  · obtain ⟨z, rfl, ok, kN, kS⟩ := h
    refine ⟨_, (pss_cons (ps_set (i := 1) scSof.nd rfl (.inl rfl) (pe_lst pa_nil))
      (pss_cons (ps_for PassesOwn.never rfl (pi_list (pe_split (pv 0) pe_str)) (pg_name (i := 2) scSof.nd rfl (.inl rfl))
        (pss_cons (ps_if (pt_cmpR op_notIn_seq (pv 2) (pe_tup (pa_cons pe_str (pa_cons pe_str (pa_cons pe_str (pa_cons pe_str pa_nil))))) (by with_unfolding_all rfl)) (pss_one (ps_ret pe_non)) pss_nil)
      (pss_one (ps_expr (pe_bm PySem.F.plainAttrs_list PySem.F.slot_list_append PySem.F.type_list_append mt_append (pv 1) (pa_cons (pe_callTy call_int_str (by rfl) T.int (by decide +kernel) (pa_cons (pv 2) pa_nil)) pa_nil))))))
      (pss_one (ps_ret (pe_ifExp (pt_val (pe_call GA hr (by rfl) gA kA bA .nil pass0 (pa_cons (pv 1) pa_nil))) (pe_tupleOf (by rfl) S.tuple (pv 1)) pe_non))))), ?_⟩
    obtain ⟨z90, p1, p100⟩ := ok
    generalize hps : Txt.split z "+" = ps at *
    have sW : sumW z = if (ps.all fun p => decide (p ∈ digs)) = true then (if ascB (ps.map dig) = true then some (ps.map dig) else none) else none := by unfold sumW; rw [hps]
    have sp : EvL (tM1 (fun x xs H Q => ∃ a b, x = .str a ∧ xs = [.str b] ∧ (b.length == 0) = false ∧ a.length + 2 ≤ sizeLine ∧ rNewStrs (Txt.split a b) H Q) (tVar 0) (tC (.str "+"))) [some (.str z), none, none] H (ps.map V.str) := by
      rw [← hps]
      exact el_split (ev_var rfl) (by decide +kernel) z90
    refine q_asgL (xs := []) el_nil fun A0 H1 hA e1 h1 => ?_
    have sp1 : EvL (tM1 (fun x xs H Q => ∃ a b, x = .str a ∧ xs = [.str b] ∧ (b.length == 0) = false ∧ a.length + 2 ≤ sizeLine ∧ rNewStrs (Txt.split a b) H Q) (tVar 0) (tC (.str "+"))) [some (.str z), some (.ref A0), none] H1 (ps.map V.str) := by
      rw [← hps]
      exact el_split (ev_var rfl) (by decide +kernel) z90
    refine q_forNL (K := K) sp1 (fun p i σ' H' => ∃ x2 : Option V, σ' = [some (.str z), some (.ref A0), x2] ∧ Ex H H' ∧ H' A0 = some (.lst (vN ((ps.take i).map dig))) ∧ (∀ q ∈ ps.take i, q ∈ digs) ∧ H' p = some (.lst (ps.map V.str)) ∧ p ≠ A0)
      (fun p H2 hp e2 h2 => ⟨none, rfl, e1.trans e2, e2 _ _ h1, by rw [List.take_zero]; exact fun q hq => (by cases hq), h2, fun y => (by rw [y, h1] at hp; cases hp)⟩) (fun p i σ' H' _ ⟨_, _, _, _, _, h, _⟩ => sq_of h) ?_ ?_
    · rintro p i x σ' H2 hx ⟨x2, rfl, e2, h2, all2, hp2, pA⟩
      obtain ⟨t, ht, rfl⟩ := nth_map hx
      have tk : ps.take (i + 1) = ps.take i ++ [t] := by rw [List.take_add_one, ht]; rfl
      have lt := (List.getElem?_eq_some_iff.mp ht).1
      refine q_when (b := !decide (t ∈ digs)) (et_is (et_test (ev_niU (K := K) (xs := digs.map V.str) (ev_var rfl) (eu_tup (ea_cons ev_c (ea_cons ev_c (ea_cons ev_c (ea_cons ev_c ea_nil)))) (by show 4 ≤ 100000; decide)) rfl (by decide +kernel))) (by rw [in_strs])) (fun hb H3 e3 => ?_) (fun hb H3 e3 => ?_)
      · have nin : t ∉ digs := by simpa using hb
        refine s_ret (v := .non) ev_c fun H4 e4 => kN ?_ H4 ((e2.trans e3).trans e4)
        rw [sW, if_neg]
        intro y
        exact nin (by simpa using List.all_eq_true.mp y t (List.mem_of_getElem? ht))
      · have tin : t ∈ digs := by simpa using hb
        obtain ⟨d1, d2, d3, d4⟩ := dig_int tin
        refine s_app (K := K) (xs := vN ((ps.take i).map dig)) (e3 _ _ h2) (ev_var rfl) (ev_cb (z := .int ((dig t : Nat) : Int)) (ea_cons (ev_var rfl) ea_nil) fun H4 _ Q4 q4 => ⟨t, _, rfl, d1, d2, q4 H4 (Ex.refl H4)⟩) (by rw [vN_len, List.length_map, List.length_take]; omega) fun H4 e4 => ?_
        have E4 := (e2.trans e3).trans e4
        refine ⟨_, rfl, Ex.mut E4 hA, by rw [upd_same, vN_app, tk, List.map_append]; rfl, fun q hq => ?_, by rw [upd_ne pA]; exact e4 _ _ (e3 _ _ hp2), pA⟩
        rw [tk] at hq
        rcases List.mem_append.mp hq with y | y
        · exact all2 q y
        · rw [List.mem_singleton.mp y]
          exact tin
    · rintro p σ' H2 ⟨x2, rfl, e2, h2, all2, hp2, pA⟩
      rw [List.length_map, List.take_length] at h2 all2
      have al : (ps.all fun p => decide (p ∈ digs)) = true := List.all_eq_true.mpr fun q hq => decide_eq_true (all2 q hq)
      rw [if_pos al] at sW
      refine s_retR ?_
      refine et_B (ev_call (z := .bl (ascB (ps.map dig))) (ea_cons (ev_var rfl) ea_nil) fun H3 e3 Q3 q3 E3 => ⟨A0, ps.map dig, rfl, .inl (sq_of (e3 _ _ h2)), by rw [List.length_map]; exact p1, by rw [List.length_map]; exact p100, q3⟩) H2 (Ex.refl H2) _ fun H3 e3 => ?_
      cases hb : ascB (ps.map dig) with
      | true =>
        rw [if_pos hb] at sW
        refine iteT ⟨_, rfl, .inl ⟨A0, _, rfl, sq_of (e3 _ _ h2), fun r hr' => kS _ sW r _ (fresh_back (e2.trans e3) hr') ((e2.trans e3).trans (Ex.new hr')) upd_same⟩⟩
      | false =>
        rw [if_neg (by rw [hb]; decide)] at sW
        exact iteF (kN sW H3 (e2.trans e3))
end
end K17
namespace K17
open PySem L2 Evl Gr StX EnT Kn
/-- whether a word can follow these sums -/
def canF (ss : List (List Nat)) (z : Str) : Bool := match sumW z with
  | none => false
  | some l => if ss.length = 4 then false else match ss.getLast? with
    | none => true
    | some m => HT.lexLt (zI m) (zI l)
theorem atI_end {xs : List V} {x : V} (h : xs[xs.length - 1]? = some x) : atI xs (-1) = some x := by
  have lt := (List.getElem?_eq_some_iff.mp h).1
  have e : ixN xs.length (-1) = some (xs.length - 1) := by
    unfold ixN
    rw [if_neg (by decide), if_pos (by omega)]
    congr 1
    omega
  unfold atI
  rw [e]
  exact h
section
variable {P : Program} {w : World} {K : PySem.W.Frag} {mg : Str → Option Value} {base : Heap}
abbrev sCan : Stmt := top 18
abbrev nCan : List Str := ["sums", "word", "told"]
def spCan : Sp := fun vs H Q _ => ∃ (s : Addr) (xs : List V) (ss : List (List Nat)) (z : Str), vs = [.ref s, .str z] ∧ H s = some (.lst xs) ∧ TRow H xs ss ∧ ss.length ≤ 4 ∧ WOk z ∧ RetV (.bl (canF ss z)) H Q
theorem scCan : FnScope nCan ["sums", "word"] (defScope sCan) := ⟨rfl, rfl, rfl, by decide +kernel, rfl, by decide +kernel, by decide +kernel⟩
theorem ok_Can {f : Addr} {fd : FuncData} (F : Fun K "can_follow" "can_follow" sCan f fd) (S : GlbS mg) (hm : ∃ t, mg "MOST_SUMS" = some (.int 4 t)) (GS : Gfn P w K mg base 2 "sum_of" ["word"] spSof) : FnOk P w K mg base CX0 3 f fd ["sums", "word"] spCan := by
  obtain ⟨fS, fdS, GS, kS, bS, gS⟩ := GS
  obtain ⟨t4, hm⟩ := hm
  refine F.ok scCan (fun vs H Q E h => ?_) (fun cdv A outer s H vs Q E hr h => ?_)
  · obtain ⟨s, xs, ss, z, rfl, _⟩ := h
    rfl
  · obtain ⟨a, xs, ss, z, rfl, ha, row, l4, ok, k⟩ := h
    have hu : (A.deeper (PyProof.Rows.envOfC "can_follow" (defScope sCan) s.heap.objs.size f cdv)).units < cLine := by have := hr.un; omega
    refine ⟨_, (pss_cons (ps_set (i := 2) scCan.nd rfl (.inl rfl) (pe_call GS hr (by rfl) gS kS bS .nil pass0 (pa_cons (pv 1) pa_nil)))
      (pss_cons (ps_if (PW.pt (pw_or (pt_cmpR op_isN1 (pv 2) pe_non (nomark _)) (pw_or1 (pt_cmpR op_eq (pe_callB call_len_seq (by rfl) S.len PySem.boot_len (pa_cons (pv 0) pa_nil)) (pe_glob (v := .int 4) (by rfl) hm ⟨t4, rfl⟩) (nomark _))))) (pss_one (ps_ret pe_bl)) pss_nil)
      (pss_one (ps_ret (pe_or (pe_notT (pv 0)) (pe_one (pe_cmpR (op_ltT hu) (pe_ix (show IxR _ (rIxL K) from ix_list) (pv 0) (pe_un un_neg pe_int) (fun _ _ => rfl)) (pv 2) (nomark _)))))))), ?_⟩
    have ln : ∀ {x : Option V} {H1 : Hp}, Ex H H1 → Ev (tCB (rLen K) (tCons (tVar 0) tNil)) [some (.ref a), some (.str z), x] H1 (.int (ss.length : Int)) := fun e => ev_is (ev_cb (ea_cons (ev_var rfl) ea_nil) (rc_lenQ (.inl (sq_of (e _ _ ha))))) (by rw [row.1])
    refine q_call (ea_cons (ev_var rfl) ea_nil) fun H1 e1 => ⟨z, rfl, ok, fun hn H2 e2 => ?_, fun l hl p H2 hp e2 h2 => ?_⟩
    · refine q_when (b := true) (et_is (et_or (a := true) (b := false) (et_is (et_test (ev_op (ev_var rfl) ev_c (fun H3 e3 Q3 q3 => ⟨rfl, q3 H3 (Ex.refl H3)⟩))) (decide_eq_true rfl)) fun y => absurd y (by decide)) rfl) (fun _ H3 e3 => ?_) (fun y => absurd y (by decide))
      refine s_ret (v := .bl false) ev_c fun H4 e4 => ?_
      have := k H4 (((e1.trans e2).trans e3).trans e4)
      unfold canF at this
      rw [hn] at this
      exact this
    · have E2 := e1.trans e2
      refine q_when (b := decide (ss.length = 4)) (et_is (et_or (a := false) (et_is (et_test (ev_op (ev_var rfl) ev_c (fun H3 e3 Q3 q3 => ⟨rfl, q3 H3 (Ex.refl H3)⟩))) (decide_eq_false fun y => by cases y)) fun _ => et_test (ev_op (ln E2) ev_c (rv_eq rfl))) (by rw [vint_inj, Bool.false_or]; exact decide_eq_decide.mpr (by omega))) (fun hb H3 e3 => ?_) (fun hb H3 e3 => ?_)
      · refine s_ret (v := .bl false) ev_c fun H4 e4 => ?_
        have := k H4 ((E2.trans e3).trans e4)
        unfold canF at this
        rw [hl] at this
        simp only [of_decide_eq_true hb, if_true] at this
        exact this
      · have n4 := of_decide_eq_false hb
        have E3 := E2.trans e3
        have kk : ∀ H4, Ex H3 H4 → ∀ b, b = canF ss z → Q (.bl b) H4 := fun H4 e4 b eb => by rw [eb]; exact k H4 (E3.trans e4)
        have cf : canF ss z = match ss.getLast? with
          | none => true
          | some m => HT.lexLt (zI m) (zI l) := by
          unfold canF
          rw [hl]
          simp only [n4, if_false]
        have ntr : ∀ {H4 : Hp}, Ex H3 H4 → Ev (tNotT K (tVar 0)) [some (.ref a), some (.str z), some (.ref p)] H4 (.bl xs.isEmpty) := fun e4 H5 e5 Q5 q5 => ⟨_, rfl, !xs.isEmpty, .inl ⟨xs, sq_of (e5 _ _ (e4 _ _ (E3 _ _ ha))), rfl⟩, by rw [Bool.not_not]; exact q5 H5 (Ex.refl H5)⟩
        cases hss : ss.getLast? with
        | none =>
          have nil : ss = [] := List.getLast?_eq_none_iff.mp hss
          have xnil : xs = [] := List.eq_nil_of_length_eq_zero (by rw [row.1, nil]; rfl)
          refine s_ret (v := .bl true) (ev_is (ev_orV (a := true) (b := false) (ev_is (ntr (Ex.refl H3)) (by rw [xnil]; rfl)) fun y => absurd y (by decide)) rfl) fun H4 e4 => kk H4 e4 true (by rw [cf, hss])
        | some m =>
          have hm' : ss[ss.length - 1]? = some m := by rw [← List.getLast?_eq_getElem?]; exact hss
          obtain ⟨x, hx⟩ : ∃ x, xs[xs.length - 1]? = some x := ⟨_, List.getElem?_eq_getElem (by have := (List.getElem?_eq_some_iff.mp hm').1; rw [row.1]; omega)⟩
          obtain ⟨q, m', hm2, rfl, hq⟩ := row.at hx
          rw [row.1, hm'] at hm2
          obtain rfl := Option.some.inj hm2
          have ne : xs.isEmpty = false := by
            have := (List.getElem?_eq_some_iff.mp hx).1
            cases xs with
            | nil => exact absurd this (by simp)
            | cons _ _ => rfl
          refine s_ret (v := .bl (HT.lexLt (zI m) (zI l))) (ev_is (ev_orV (a := false) (ev_is (ntr (Ex.refl H3)) (by rw [ne])) fun _ => ev_op (ev_op (ev_var rfl) (ev_un ev_c ru_neg) (rv_ixL (sq_of (E3 _ _ ha)) (atI_end hx))) (ev_var rfl) (fun H5 e5 Q5 q5 => ⟨q, p, zI m, zI l, rfl, rfl, st_of (e5 _ _ (E3 _ _ hq)), st_of (e5 _ _ (e3 _ _ h2)), q5 H5 (Ex.refl H5)⟩)) rfl) fun H4 e4 => kk H4 e4 _ (by rw [cf, hss])
end
end K17
/-! an error that was caught, kept in a name behind its suite: isinstance of it, its fields -/
namespace EXC
open PySem PySem.Spec PyProof.Rows L2
/-- a caught error at a: its class, its own dict -/
def ExC (cls : Value) (d : Option Addr) (a : Addr) : HO := .ext fun h => ∃ (oe : Obj) (vs : Array Value), h.get? a = some oe ∧ Zc cls d oe ∧ oe.data = .fields vs
theorem exC_ok {P : Program} {w : World} {H : Hp} {h : Heap} {a : Addr} {cls : Value} {d : Option Addr} {oe : Obj} {vs : Array Value} (e : h.get? a = some oe) (z : Zc cls d oe) (hd : oe.data = .fields vs) : ObjOk P w H h a (ExC cls d a) :=
  ⟨⟨oe, vs, e, z, hd⟩, ⟨oe, e⟩, fun _ _ ⟨o, v, q, r⟩ k => ⟨o, v, k o q, r⟩⟩
section
variable {X : Cx} {pins : List (Addr × Obj)} {σ : L2.St} {H : Hp} {s : Shared} {a : Addr} {o : HO}
/-- what stands there untracked, and did not stand at the entry, is tracked from now on -/
theorem Inv.track {oe : Obj} {vs : Array Value} (I : Inv X pins σ H s) (here : s.heap.get? a = some oe) (hd : oe.data = .fields vs) (n : H a = none) (n0 : X.s_0.heap.get? a = none) (nL : a ≠ X.env.locals) (nP : ∀ p ∈ X.pn ++ pins, p.1 ≠ a)
    (ok : ObjOk X.prog X.w (upd H a o) s.heap a o) : Inv X pins σ (upd H a o) s := by
  have off : ∀ b, b ≠ a → upd H a o b = H b := fun b hb => upd_ne hb
  have ne0 : ∀ b u, X.s_0.heap.get? b = some u → b ≠ a := fun b u e z => by rw [z, n0] at e; cases e
  have neS : ∀ b u, H b = some u → b ≠ a := fun b u e z => by rw [z, n] at e; cases e
  have base : Un X.fs X.ex X.H_0 (upd H a o) X.s_0.heap s.heap := {
    keep := I.base.keep
    slot := I.base.slot
    free := fun b u e m x => by rw [off b (ne0 b u e)]; exact I.base.free b u e m x
    there := I.base.there
    tups := fun b xs e => by
      have q := I.base.tups b xs e
      rw [off b (neS b _ q)]; exact q
    frzs := fun b u v e => by
      have q := I.base.frzs b u v e
      rw [off b (neS b _ q)]; exact q
    tbls := fun b ps e => by
      obtain ⟨m, q⟩ := I.base.tbls b ps e
      exact ⟨m, by rw [off b (neS b _ q)]; exact q⟩ }
  refine ⟨I.ok, I.os, I.bare, base, I.loc, I.cell, ?_, fun x c e => ?_, fun p hp => ?_, I.hok.laidN (fun _ _ e => e) n ok, I.len⟩
  · rw [off _ nL.symm]; exact I.free
  · have ne : c ≠ a := fun z => by
      obtain ⟨v, oc, hc, hv⟩ := I.cell x c e
      rw [z, here] at hc
      cases hc
      rw [hd] at hv
      cases hv
    rw [off _ ne]
    exact I.freeC x c e
  · obtain ⟨q1, q2, q3⟩ := I.pin p hp
    exact ⟨q1, by rw [off _ (nP p hp)]; exact q2, q3⟩
end
/-- what the clause 'except x as n' (n in slot i) wishes of each error of the body; behind it the error is kept -/
def wHeld (K : PySem.W.Frag) (c : Value) (i : Nat) (ts : Addr → Value → Option Addr → TS) (D : Ends) : WX := fun cls d σ H => PySem.W.exmOne K cls c = some true ∧
  ∀ a, H a = none → ts a cls d { nx := fun σ2 H2 => D.nx (σ2.set i none) (upd H2 a (ExC cls d a)), rt := fun _ _ => False, bk := fun _ _ => False, ct := fun _ _ => False } (σ.set i (some (.ref a))) H
section
variable {X : Cx} {x n : Str} {c : Value} {i : Nat} {body suite : List Stmt} {b₀ : Stmt} {np pos pos' : Pos} {tb : WX → TS} {ts : Addr → Value → Option Addr → TS}
theorem ps_try_held (hs : X.stack = X.env :: X.outer) (hf : X.env.frame = some X.env.locals) (hex : X.ex = []) (nd : X.N.Nodup) (at_i : X.N[i]? = some n) (loc : X.env.kindOf n = some .local) (hc : Names X x c)
    (hb : ∀ (W : WX) (pn : List (Addr × Obj)) (xe : Value → Shared → Prop), Takes (X.tr pn xe) W → PassesOwn (model X.prog X.w) X.A X.env xe → PSs (X.tr pn xe) body (tb W))
    (hsu : ∀ (a : Addr) (oe : Obj) (cls : Value) (d : Option Addr) (pn : List (Addr × Obj)), Zc cls d oe → (∃ vs, oe.data = .fields vs) → PSs (X.suite a ((a, oe) :: pn)) (b₀ :: suite) (ts a cls d)) :
    PS X (.Try body [.ExceptHandler (some (.Name x np)) (some n) (b₀ :: suite) pos'] [] [] pos) (fun D σ H => tb (wHeld X.K c i ts D) D σ H) := by
  refine ⟨fun pins s σ H D I h => ?_⟩
  have ok := I.ok
  have frames : X.A.frames = some (X.env :: X.outer) := ok.frames.trans (congrArg some hs)
  let catch' : Value → Shared → Prop := fun e s1 => wpAny (model X.prog X.w) X.A (noteFrame e X.env) (fun _ s2 => wpAny (model X.prog X.w) X.A (setFlight e none) (fun _ s3 =>
    wpAny (model X.prog X.w) X.A (handleBy e X.env [.ExceptHandler (some (.Name x np)) (some n) (b₀ :: suite) pos']) (SP X pins D) X.xe s3) X.xe s2) X.xe s1
  have takes : Takes (X.tr (X.pn ++ pins) catch') (wHeld X.K c i ts D) := by
    rintro u s' ⟨a, B, sI, ps, σ1, H1, cls, d, rfl, J0, nb, up, sky, na, os, ag, hit, next⟩
    have J : Inv X pins σ1 H1 sI := J0.ofTry ok
    rw [show (X.tr (X.pn ++ pins) catch').stack = X.env :: X.outer from hs] at sky
    show wpAny (model X.prog X.w) X.A (noteFrame (.ref a) X.env) _ _ _
    refine Sky.land Zc.steady frames hf sky fun h3 fl3 up3 => ?_
    have J3 : Inv X pins σ1 H1 { s' with heap := h3 } := J.landed nb (by exact fl3.1) (up.trans up3) os ag
    obtain ⟨o3, f3, g3, z3, d3⟩ := fl3.there
    have apart : a ∉ frs (X.env :: X.outer) := fun hm => by
      obtain ⟨_, o, e, hno⟩ := fl3.2.2.1.mem hm
      rw [g3] at e
      cases e
      exact hno _ d3
    have nL : a ≠ X.env.locals := fun z => apart (List.mem_filterMap.mpr ⟨X.env, List.mem_cons_self, by rw [hf, z]⟩)
    have nF : a ∉ X.fs := fun hm => by
      obtain ⟨e, he, q⟩ := List.mem_filterMap.mp hm
      exact apart (List.mem_filterMap.mpr ⟨e, List.mem_cons_of_mem _ he, q⟩)
    have new : sI.heap.get? a = none := by
      cases q : sI.heap.get? a with
      | none => rfl
      | some o =>
        have z := nb a o q (by rw [show (X.tr (X.pn ++ pins) catch').stack = X.env :: X.outer from hs]; exact apart)
        rw [fl3.2.1] at z
        cases z
    have new0 : X.s_0.heap.get? a = none := by
      cases q : X.s_0.heap.get? a with
      | none => rfl
      | some o =>
        obtain ⟨o2, z⟩ := J.base.there a o q (by rw [hex]; exact List.not_mem_nil)
        rw [new] at z
        cases z
    have unpinned : ∀ p ∈ X.pn ++ pins, p.1 ≠ a := fun p hp z => by
      have q := (J.pin p hp).1
      rw [z, new] at q
      cases q
    have S3 := J3.suite g3 d3 na nL nF
    refine wpAny_handleBy_cons (codeAny_handlers_test ?_) (by intro q; cases q)
    have looks : PySem.W.Looks (model X.prog X.w) h3 (typeOf (.ref a)) cls := fun _ _ _ _ k q => wpAny_typeOf_ref (k _ _ g3) (by rw [z3.1]; exact q)
    have hits := PySem.W.exm_one (M := model X.prog X.w) J3.kIn looks hit
    have named : ∀ {Q E : Value → Shared → Prop}, Q c { s' with heap := h3 } → wpAny (model X.prog X.w) (X.A.mark (some (.ref a))) (eval (.Name x np) X.env) Q E { s' with heap := h3 } := fun {Q E} q => by
      obtain ⟨g, nodbg, m | ⟨m, v, w⟩⟩ := hc
      · exact ld_glob (X := X.suite a ((a, o3) :: (X.pn ++ pins))) S3 g m q nodbg
      · exact ld_blt (X := X.suite a ((a, o3) :: (X.pn ++ pins))) S3 g m v q w nodbg
    refine named (hits.here (codeAny_handlers_suite_as (HandSPX.lands_againZ fl3 fun h4 fl4 up4 => ?_)))
    have J4 : Inv X pins σ1 H1 { s' with heap := h4 } := J.landed nb (by exact fl4.1) ((up.trans up3).trans up4) os ag
    obtain ⟨o4, f4, g4, z4, d4⟩ := fl4.there
    refine store_ok (X := X.suite a ((a, o4) :: (X.pn ++ pins))) (v := .ref a) (J4.suite g4 d4 na nL nF) nd at_i (.inl loc) rfl (fun s5 S5 => ?_) (.inr loc)
    refine wpAny_mono ((hsu a o4 cls d (X.pn ++ pins) z4 ⟨_, d4⟩).run [] s5 _ H1 _ S5 (next a na)) (fun fl s6 back => ?_) (fun _ _ z => z.elim)
    cases fl with
    | next =>
      obtain ⟨σ6, H6, S6, q6⟩ := back
      refine gone_ok (X := X.suite a ((a, o4) :: (X.pn ++ pins))) S6 nd at_i loc fun s7 S7 => ?_
      obtain ⟨p1, p2, _⟩ := S7.pin (a, o4) (List.mem_append_left _ List.mem_cons_self)
      exact ⟨_, _, Inv.track (S7.unsuite ok) p1 d4 p2 new0 nL unpinned (exC_ok p1 z4 d4), q6⟩
    | brk =>
      obtain ⟨_, _, _, z⟩ := back
      exact False.elim z
    | cont =>
      obtain ⟨_, _, _, z⟩ := back
      exact False.elim z
    | ret u =>
      obtain ⟨_, _, _, _, _, z⟩ := back
      exact False.elim z
  refine wpAny_Try_except (wpAny_mono ((hb _ _ catch' takes PassesOwn.looking).run [] s σ H D (I.toTry _) h) (fun fl s1 back => ?_) fun _ _ z => z)
  cases fl with
  | next =>
    obtain ⟨σ1, H1, J, q⟩ := back
    exact wpAny_execs_nil ⟨σ1, H1, J.ofTry ok, q⟩
  | brk =>
    obtain ⟨σ1, H1, J, q⟩ := back
    exact ⟨σ1, H1, J.ofTry ok, q⟩
  | cont =>
    obtain ⟨σ1, H1, J, q⟩ := back
    exact ⟨σ1, H1, J.ofTry ok, q⟩
  | ret u =>
    obtain ⟨v, σ1, H1, J, r, q⟩ := back
    exact ⟨v, σ1, H1, J.ofTry ok, r, q⟩
end
/-! ### isinstance of it, a field of it -/
def Dct (H : Hp) (d : Option Addr) : Prop := ∀ dd, d = some dd → ∃ fs, H dd = some (.xd fs)
theorem inst_of {X : Cx} {pins : List (Addr × Obj)} {σ : L2.St} {H : Hp} {s : Shared} {a C : Addr} {d : Option Addr} (I : Inv X pins σ H s) (ha : H a = some (ExC (.ref C) d a)) (hd : Dct H d) : ∃ ox od, PySem.W.InstAt s.heap a ox C od := by
  obtain ⟨⟨oe, vs, ho, hz, hf⟩, _, _⟩ := I.hok a _ ha
  have nc : PySem.W.notCls oe = true := by unfold PySem.W.notCls; rw [hf]
  cases d with
  | none => exact ⟨oe, none, ho, hz.1, nc, by rw [hz.2]; exact True.intro⟩
  | some dd =>
    obtain ⟨fs, e⟩ := hd dd rfl
    obtain ⟨mA, hns, _⟩ := (show ObjOk X.prog X.w H s.heap dd (.xd fs) from I.hok dd _ e)
    obtain ⟨od, hod, _⟩ := lookIn_ns hns
    exact ⟨oe, some od, ho, hz.1, nc, by rw [hz.2]; exact hod⟩
structure XcC (K : PySem.W.Frag) (C : Addr) : Prop where
  hcl : (PySem.W.clsIn K C).isSome = true
  hga : PySem.W.findIn K (.ref C) "__getattribute__" = some (some (.builtin "BaseException.__getattribute__"))
  hgt : PySem.W.findIn K (.ref C) "__getattr__" = some none
  hsub : PySem.W.subIn K (.ref C) (.type "BaseException") = some true
  hdct : PySem.W.hasDictIn K C = true
  ha : PySem.W.findIn K (.ref C) "__class__" = some (some (.builtin "object.__class__"))
  hn : PySem.W.specialIn K (.builtin "object.__class__") "__get__" = some (some (.builtin "getset_descriptor.__get__"))
  htk : PySem.W.takesIn K (.builtin "object.__class__") = some true
  hm : PySem.W.mroIn K C (.type "object") = some true
def rXc (K : PySem.W.Frag) : List V → Hp → VK → Prop := fun xs H Q => ∃ (a C : Addr) (d : Option Addr) (c : V) (u : Value) (b : Bool), xs = [.ref a, c] ∧ ClsV c u ∧ H a = some (ExC (.ref C) d a) ∧ Dct H d ∧ XcC K C ∧ PySem.W.kitOne K (.ref C) u = some b ∧ Q (.bl b) H
theorem call_xc {X : Cx} : CallR X (.builtin "isinstance") (rXc X.K) := by
  intro pins s σ H xs us Q I r h
  obtain ⟨a, C, d, c, u, b, rfl, k, xa, xd, T, e, q⟩ := h
  obtain ⟨u1, u2, rfl, r1, r2⟩ := vals2 r
  have e2 := k.eq r2
  subst e2
  obtain rfl : u1 = Value.ref a := r1
  obtain ⟨ox, od, J⟩ := inst_of I xa xd
  exact PySem.W.kia_one (PySem.W.kitx_exc T.hcl T.hga T.hgt T.hsub T.ha T.hn T.htk T.hm) I.kIn J e (fun z => nomatch z) fun tk => ⟨.bl b, H, I.tok tk, rfl, q⟩
/-- e.f, e a caught error -/
def tXcF (K : PySem.W.Frag) (f : Str) (te : TE) : TE := fun σ H Q => te σ H fun x H1 => ∃ (a C d : Addr) (fs : List (Str × V)) (v : V), x = .ref a ∧ H1 a = some (ExC (.ref C) (some d) a) ∧ H1 d = some (.xd fs) ∧ XcC K C ∧ PySem.W.findIn K (.ref C) f = some none ∧ fs.lookup f = some v ∧ Q v H1
theorem pe_xcF {X : Cx} {e : Expr} {te : TE} {pos : Pos} {n : Str} (he : PE X e te) (hb : attributeBase e n X.env (eval e X.env) = eval e X.env := by rfl) : PE X (.Attribute e n pos) (tXcF X.K n te) := by
  refine ⟨fun pins s σ H Q I h => attr_of hb (thn (he.run pins s σ H _ I h) fun u s1 ⟨x, H1, J, rx, a, C, d, fs, v, ex, ea, ed, T, own, l, q⟩ => ?_)⟩
  subst ex
  obtain rfl : u = Value.ref a := rx
  obtain ⟨⟨oe, vs, ho, hz, hf⟩, _, _⟩ := J.hok a _ ea
  obtain ⟨mA, hns, rel⟩ := (show ObjOk X.prog X.w H1 s1.heap d (.xd fs) from J.hok d _ ed)
  obtain ⟨od, hod, found⟩ := lookIn_ns hns
  obtain ⟨u2, hu, ru⟩ := RelO.some_of (v := v) (o := mA n) (l ▸ rel n)
  have at_ : PySem.W.InstAt s1.heap a oe C (some od) := ⟨ho, hz.1, by unfold PySem.W.notCls; rw [hf], by rw [hz.2]; exact hod⟩
  exact HandSPX.exc_get J.kIn at_ T.hga T.hgt T.hsub (PySem.W.findObj_own T.hdct own rfl (by rw [found, hu])) (handed_of ru) ⟨v, H1, J.tok _, ru, q⟩
end EXC
namespace K17
open PySem L2 Evl
abbrev sCls (i : Nat) : Stmt := inClass (top i) 0
/-- what the written part says of an error class x, PostError at B -/
structure CB (K : PySem.W.Frag) (x : Str) (C B : Addr) : Prop where
  aC : PySem.W.nsIn K mainGlobals x = some (some (.ref C))
  xL : ∃ nm q N bs sn sub ab col dd k0 k1 k2 k3 k5, K.lookup C = some (excClassObj nm q C N bs [.ref B, .type "ValueError", .type "Exception", .type "BaseException", .type "object"] true sn sub ab col dd k0 k1 k2 k3 k5 "ValueError.__new__")
  sa : PySem.W.findIn K (.ref C) "__setattr__" = some (some (.builtin "object.__setattr__"))
  ga : PySem.W.findIn K (.ref C) "__getattribute__" = some (some (.builtin "BaseException.__getattribute__"))
  gg : PySem.W.findIn K (.ref C) "__getattr__" = some none
  cc : PySem.W.findIn K (.ref C) "__class__" = some (some (.builtin "object.__class__"))
  tC : PySem.W.typeIn K (.ref C) = some (.type "type")
  kC : PySem.W.keepIn K (.ref C) = true
/-- .. and of its __init__, the def st -/
structure CF (K : PySem.W.Frag) (x qual : Str) (st : Stmt) (C f B : Addr) : Prop where
  b : CB K x C B
  a1 : PySem.W.findIn K (.ref C) "__init__" = some (some (.ref f))
  l1 : ∃ (oc : Value) (od : Option Addr) (kV doc pm : Value) (an : Option Addr) (cdv ct : Value) (osl : Array (Option Value)),
    K.lookup f = some ⟨oc, od, .func (PySem.W.fnOf "__init__" qual (defArgs st) (defBody st) (defScope st) .none kV doc pm an cdv ct), osl⟩ ∧ PySem.W.codeIn K cdv qual = true
  k1 : PySem.W.keepIn K (.ref f) = true
  t1 : PySem.W.typeIn K (.ref f) = some (.type "function")
structure CG (K : PySem.W.Frag) : Prop where
  sp : PySem.W.specialIn K (.builtin "object.__class__") "__get__" = some (some (.builtin "getset_descriptor.__get__"))
  tk : PySem.W.takesIn K (.builtin "object.__class__") = some true
section
variable {K : PySem.W.Frag} {x qual : Str} {st : Stmt} {C f B : Addr}
theorem CB.cls (T : CB K x C B) : ∃ cd, PySem.W.clsIn K C = some cd ∧ cd.mro = [.ref C, .ref B, .type "ValueError", .type "Exception", .type "BaseException", .type "object"] ∧ cd.hasDict = true := by
  obtain ⟨nm, q, N, bs, sn, sub, ab, col, dd, k0, k1, k2, k3, k5, h⟩ := T.xL
  refine ⟨{ name := nm, bases := bs, mro := .ref C :: [.ref B, .type "ValueError", .type "Exception", .type "BaseException", .type "object"], ns := N, qualname := q, hasDict := true, slotNames := sn, subclasses := sub, abstract := ab, collection := col, hasDel := false }, ?_, rfl, rfl⟩
  unfold PySem.W.clsIn
  rw [h] <;> rfl
theorem CB.mro (T : CB K x C B) (v : Value) : PySem.W.mroIn K C v = some ([Value.ref C, .ref B, .type "ValueError", .type "Exception", .type "BaseException", .type "object"].contains v) := by
  obtain ⟨cd, h1, h2, _⟩ := T.cls
  unfold PySem.W.mroIn
  rw [h1, Option.bind_some, h2]
  rfl
theorem CB.ox (T : CB K x C B) : OexC K C := by
  obtain ⟨nm, q, N, bs, sn, sub, ab, col, dd, k0, k1, k2, k3, k5, h⟩ := T.xL
  exact ⟨⟨nm, q, N, bs, _, sn, sub, ab, col, dd, k0, k1, k2, k3, k5, h, rfl⟩, T.sa, (T.mro _).trans (by rfl), T.tC, T.kC⟩
theorem CB.hd (T : CB K x C B) : PySem.W.hasDictIn K C = true := by
  obtain ⟨cd, h1, h2, h3⟩ := T.cls
  unfold PySem.W.hasDictIn
  rw [h1]
  first | exact h3 | (simp [h3])
theorem CB.xf (T : CB K x C B) : XfC K C := ⟨T.ga, T.gg, (T.mro _).trans (by rfl), T.hd⟩
theorem CB.xc (T : CB K x C B) (G : CG K) : EXC.XcC K C := by
  obtain ⟨cd, h1, _⟩ := T.cls
  exact ⟨by rw [h1]; rfl, T.ga, T.gg, (T.mro _).trans (by rfl), T.hd, T.cc, G.sp, G.tk, (T.mro _).trans (by rfl)⟩
theorem CB.caught (T : CB K x C B) (h1 : PySem.W.subIn K (.ref B) (.type "BaseException") = some true) (h2 : PySem.W.hasDictIn K B = true) (h3 : PySem.W.typeIn K (.ref B) = some (.type "type")) : PySem.W.exmOne K (.ref C) (.ref B) = some true :=
  PySem.W.exm_ref h1 h2 h3 ((T.mro _).trans (by simp))
theorem CF.fn (T : CF K x qual st C f B) : ∃ fd, Fun K "__init__" qual st f fd := by
  obtain ⟨oc, od, kV, doc, pm, an, cdv, ct, osl, h1, h2⟩ := T.l1
  exact ⟨_, fun_mk h1 h2 T.k1⟩
theorem eq_ref (a b : Addr) : (Value.ref a == Value.ref b) = decide (a = b) := by
  by_cases h : a = b
  · subst h
    simp
  · rw [decide_eq_false h]
    exact beq_eq_false_iff_ne.mpr fun z => h (Value.ref.inj z)
/-- isinstance of an instance of C, for another error class D -/
theorem CB.kit {x' : Str} {D : Addr} (T : CB K x C B) (U : CB K x' D B) (h : D ≠ B) : PySem.W.kitOne K (.ref C) (.ref D) = some (decide (D = C)) := by
  unfold PySem.W.kitOne PySem.W.kitCls
  by_cases e : C = D
  · subst e
    rw [if_pos (by simp), decide_eq_true rfl]
  · have e1 : (Value.ref C == Value.ref D) = false := by rw [eq_ref, decide_eq_false e]
    obtain ⟨cd, h1, _⟩ := U.cls
    rw [e1, if_neg Bool.false_ne_true]
    simp only [h1, U.tC, Option.isSome_some, beq_self_eq_true, Bool.and_self, if_true]
    refine (T.mro _).trans ?_
    rw [decide_eq_false (fun z => e z.symm)]
    simp [Ne.symm e, h, Ne.symm h]
theorem CB.kitB' (T : CB K x C B) (hB : ∃ cd, PySem.W.clsIn K B = some cd) (tB : PySem.W.typeIn K (.ref B) = some (.type "type")) : PySem.W.kitOne K (.ref C) (.ref B) = some true := by
  unfold PySem.W.kitOne PySem.W.kitCls
  by_cases e : C = B
  · subst e
    rw [if_pos (by simp)]
  · have e1 : (Value.ref C == Value.ref B) = false := by rw [eq_ref, decide_eq_false e]
    obtain ⟨cd, h1⟩ := hB
    rw [e1, if_neg Bool.false_ne_true]
    simp only [h1, tB, Option.isSome_some, beq_self_eq_true, Bool.and_self, if_true]
    refine (T.mro _).trans ?_
    simp
theorem CB.kitV (T : CB K x C B) : PySem.W.kitOne K (.ref C) (.type "ValueError") = some true := by
  unfold PySem.W.kitOne PySem.W.kitCls
  rw [if_neg (by simp)]
  show (if PySem.W.kitMeta "ValueError" = true then PySem.W.subIn K (.ref C) (.type "ValueError") else none) = some true
  rw [if_pos (by decide +kernel)]
  exact (T.mro _).trans (by rfl)
end
/-! ### __init__ of one field, of two -/
def spI1 (C : Addr) (n : Str) : Sp := fun vs H Q _ => ∃ (a : Addr) (v : V), vs = [.ref a, v] ∧ H a = some (exo a C none) ∧ ∀ d, H d = none → d ≠ a → Q .non (upd (upd H d (exd d [(n, v)])) a (exo a C (some d)))
def spI2 (C : Addr) (n m : Str) : Sp := fun vs H Q _ => ∃ (a : Addr) (v u : V), vs = [.ref a, v, u] ∧ H a = some (exo a C none) ∧ ∀ d, H d = none → d ≠ a → Q .non (upd (upd (upd H d (exd d [(n, v)])) a (exo a C (some d))) d (exd d [(m, u), (n, v)]))
section
variable {P : Program} {w : World} {K : PySem.W.Frag} {mg : Str → Option Value} {base : Heap}
theorem ok_I1 {x qual : Str} {st : Stmt} {C f B : Addr} {fd : FuncData} {n : Str} {p1 p2 p3 p4 : PySem.Pos} (T : CF K x qual st C f B) (F : Fun K "__init__" qual st f fd) (S : FnScope ["self", n] ["self", n] (defScope st)) (hb : defBody st = [Stmt.Assign [.Attribute (.Name "self" p1) n p2] (.Name n p3) p4])
    (l1 : (defScope st).names.lookup ("self" : Str) = some .local) (l2 : (defScope st).names.lookup n = some .local) (hd : (n == ("__debug__" : Str)) = false) (hcd : (n == ("__classdict__" : Str)) = false)
    (hno : PySem.W.findIn K (.ref C) n = some none) : FnOk P w K mg base CX0 1 f fd ["self", n] (spI1 C n) := by
  refine F.ok S (fun vs H Q E h => ?_) (fun cdv A outer s H vs Q E hr h => ?_)
  · obtain ⟨a, v, rfl, _⟩ := h
    rfl
  · obtain ⟨a, v, rfl, ha, k⟩ := h
    rw [hb]
    refine ⟨_, pss_one (ps_ost (pv 0 rfl (.inl l1)) (pv 1 rfl (.inl l2) hd hcd)), ?_⟩
    exact ⟨v, rfl, .ref a, rfl, a, C, rfl, T.b.ox, hno, .inl ⟨ha, fun d hd hda => k d hd hda⟩⟩
theorem ok_I2 {x qual : Str} {st : Stmt} {C f B : Addr} {fd : FuncData} {n m : Str} {p1 p2 p3 p4 q1 q2 q3 q4 : PySem.Pos} (T : CF K x qual st C f B) (F : Fun K "__init__" qual st f fd) (S : FnScope ["self", n, m] ["self", n, m] (defScope st))
    (hb : defBody st = [Stmt.Assign [.Attribute (.Name "self" p1) n p2] (.Name n p3) p4, Stmt.Assign [.Attribute (.Name "self" q1) m q2] (.Name m q3) q4])
    (l1 : (defScope st).names.lookup ("self" : Str) = some .local) (l2 : (defScope st).names.lookup n = some .local) (l3 : (defScope st).names.lookup m = some .local) (hd : (n == ("__debug__" : Str)) = false) (hcd : (n == ("__classdict__" : Str)) = false) (hd2 : (m == ("__debug__" : Str)) = false) (hcd2 : (m == ("__classdict__" : Str)) = false)
    (hno : PySem.W.findIn K (.ref C) n = some none) (hno2 : PySem.W.findIn K (.ref C) m = some none) : FnOk P w K mg base CX0 1 f fd ["self", n, m] (spI2 C n m) := by
  refine F.ok S (fun vs H Q E h => ?_) (fun cdv A outer s H vs Q E hr h => ?_)
  · obtain ⟨a, v, u, rfl, _⟩ := h
    rfl
  · obtain ⟨a, v, u, rfl, ha, k⟩ := h
    rw [hb]
    refine ⟨_, pss_cons (ps_ost (pv 0 rfl (.inl l1)) (pv 1 rfl (.inl l2) hd hcd)) (pss_one (ps_ost (pv 0 rfl (.inl l1)) (pv 2 rfl (.inl l3) hd2 hcd2))), ?_⟩
    refine ⟨v, rfl, .ref a, rfl, a, C, rfl, T.b.ox, hno, .inl ⟨ha, fun d hd hda => ?_⟩⟩
    exact ⟨u, rfl, .ref a, rfl, a, C, rfl, T.b.ox, hno2, .inr ⟨d, _, upd_same, by rw [upd_ne hda]; exact upd_same, by show 1 ≤ 900; decide, k d hd hda⟩⟩
end
end K17
namespace K17
open PySem L2 Evl Gr
/-! ### what is let out -/
/-- an error of the class at C with one field goes out -/
def Out1 (C : Addr) (n : Str) (v : V) (H : Hp) (E : XK) : Prop := ∀ d H', H d = none → Ex H H' → H' d = some (.xd [(n, v)]) → E (.ref C) (some d) H'
theorem Out1.mono {C : Addr} {n : Str} {v : V} {H H' : Hp} {E : XK} (e : Ex H H') (h : Out1 C n v H E) : Out1 C n v H' E := fun d H2 hd e2 h2 => h d H2 (fresh_back e hd) (e.trans e2) h2
theorem raise_one {C : Addr} {n : Str} {σ : L2.St} {H : Hp} {E : XK} {v : V} {ta : TA} (h : EvA ta σ H [v]) (b : Out1 C n v H E) : tMkO C (spI1 C n) [] ta σ H (fun cls d H' => E cls d H') :=
  h H (Ex.refl H) _ fun H1 e1 => ⟨by show 1 ≤ 1000; decide, fun a ha => ⟨a, v, rfl, upd_same, fun d hd hda => ⟨rfl, d, [(n, v)], by rw [upd_same], by rw [upd_ne hda]; exact upd_same, by rw [upd_ne hda] at hd; exact hd, by
    rw [upd_ne hda] at hd
    refine b d _ (fresh_back e1 hd) (fun c w hc => ?_) ?_
    · have hc1 := e1 _ _ hc
      have na : c ≠ a := ne_of_none hc1 ha
      have nd : c ≠ d := ne_of_none hc1 hd
      rw [upd_ne nd, del_ne na, upd_ne na, upd_ne nd, upd_ne na]
      exact hc1
    · exact upd_same⟩⟩⟩
/-- an error class of one field -/
structure GOne (P : Program) (w : World) (K : PySem.W.Frag) (mg : Str → Option Value) (base : Heap) (x n : Str) (CN fN : Addr) (fdN : FuncData) : Prop where
  ox : OexC K CN
  init : PySem.W.findIn K (.ref CN) "__init__" = some (some (.ref fN))
  ty : PySem.W.typeIn K (.ref fN) = some (.type "function")
  ok : FnOk P w K mg base CX0 1 fN fdN ["self", n] (spI1 CN n)
  b : Binds K fdN ["self", n] []
  g : mg x = some (.ref CN)
/-- an error of the class at C with two fields goes out -/
def Out2 (C : Addr) (n m : Str) (v u : V) (H : Hp) (E : XK) : Prop := ∀ d H', H d = none → Ex H H' → H' d = some (.xd [(m, u), (n, v)]) → E (.ref C) (some d) H'
theorem Out2.mono {C : Addr} {n m : Str} {v u : V} {H H' : Hp} {E : XK} (e : Ex H H') (h : Out2 C n m v u H E) : Out2 C n m v u H' E := fun d H2 hd e2 h2 => h d H2 (fresh_back e hd) (e.trans e2) h2
theorem raise_two {C : Addr} {n m : Str} {σ : L2.St} {H : Hp} {E : XK} {v u : V} {ta : TA} (h : EvA ta σ H [v, u]) (b : Out2 C n m v u H E) : tMkO C (spI2 C n m) [] ta σ H (fun cls d H' => E cls d H') :=
  h H (Ex.refl H) _ fun H1 e1 => ⟨by show 2 ≤ 1000; decide, fun a ha => ⟨a, v, u, rfl, upd_same, fun d hd hda => ⟨rfl, d, [(m, u), (n, v)], by rw [upd_ne hda.symm]; exact upd_same, upd_same, by rw [upd_ne hda] at hd; exact hd, by
    rw [upd_ne hda] at hd
    refine b d _ (fresh_back e1 hd) (fun c w hc => ?_) upd_same
    have hc1 := e1 _ _ hc
    have na : c ≠ a := ne_of_none hc1 ha
    have nd : c ≠ d := ne_of_none hc1 hd
    rw [upd_ne nd, del_ne na, upd_ne nd, upd_ne na, upd_ne nd, upd_ne na]
    exact hc1⟩⟩⟩
/-- an error class of two fields -/
structure GTwo (P : Program) (w : World) (K : PySem.W.Frag) (mg : Str → Option Value) (base : Heap) (x n m : Str) (CN fN : Addr) (fdN : FuncData) : Prop where
  ox : OexC K CN
  init : PySem.W.findIn K (.ref CN) "__init__" = some (some (.ref fN))
  ty : PySem.W.typeIn K (.ref fN) = some (.type "function")
  ok : FnOk P w K mg base CX0 1 fN fdN ["self", n, m] (spI2 CN n m)
  b : Binds K fdN ["self", n, m] []
  g : mg x = some (.ref CN)
end K17
namespace K17
open PySem L2 Evl Gr StX EnT MkS StK ClX ClK RdX Kn
/-! ### rows of sums in new lists -/
def EvLR (te : TE) (σ : L2.St) (H : Hp) (ss : List (List Nat)) : Prop := ∀ H1, Ex H H1 → ∀ Q : VK, (∀ p xs H2, H1 p = none → Ex H1 H2 → H2 p = some (.lst xs) → TRow H2 xs ss → Q (.ref p) H2) → te σ H1 Q
section
variable {σ : L2.St} {H : Hp} {t : TA} {ss : List (List Nat)} {te : TE}
theorem elr_lst (h : EvAR t σ H ss) (hz : ss.length ≤ 1000) : EvLR (tLst t) σ H ss := fun H1 e Q q =>
  h H1 e _ fun xs H2 e2 row => ⟨sz_of (by rw [row.1]; omega), fun p hp => q p xs _ (fresh_back e2 hp) (e2.trans (Ex.new hp)) upd_same (row.mono (Ex.new hp))⟩
theorem eu_1 {a : Nat} : EvU (tTup (tCons (tC (.int (a : Int))) tNil)) σ H (vN [a]) := eu_tup (ea_cons ev_c ea_nil) (by show 1 ≤ 100000; decide)
theorem eu_2 {a b : Nat} : EvU (tTup (tCons (tC (.int (a : Int))) (tCons (tC (.int (b : Int))) tNil))) σ H (vN [a, b]) := eu_tup (ea_cons ev_c (ea_cons ev_c ea_nil)) (by show 2 ≤ 100000; decide)
theorem eu_3 {a b c : Nat} : EvU (tTup (tCons (tC (.int (a : Int))) (tCons (tC (.int (b : Int))) (tCons (tC (.int (c : Int))) tNil)))) σ H (vN [a, b, c]) := eu_tup (ea_cons ev_c (ea_cons ev_c (ea_cons ev_c ea_nil))) (by show 3 ≤ 100000; decide)
end
def eight : List (List Nat) := [[1], [2], [1, 2], [3], [2, 3], [4], [1, 4], [1, 2, 3]]
theorem eight_ok : ∀ l ∈ eight, AgesOk l := by
  intro l hl
  unfold eight at hl
  simp only [List.mem_cons, List.not_mem_nil, or_false] at hl
  rcases hl with rfl | rfl | rfl | rfl | rfl | rfl | rfl | rfl <;> exact ⟨by decide, by decide, by decide, by decide⟩
theorem TRow.keep {p l : Addr} {cells : List Int} {m : Nat} {H H' : Hp} {xs : List V} {ss : List (List Nat)} (h : TRow H xs ss) (hP : PenAt H p l cells m) (kp : Keep p H H') : TRow H' xs ss := ⟨h.1, fun i x q hx hq => by
  obtain ⟨a, h1, h2⟩ := h.2 i x q hx hq
  exact ⟨a, h1, tup_keep hP kp h2⟩⟩
theorem trow_updL {H : Hp} {D : Addr} {u : HO} {ys : List V} {xs : List V} {ss : List (List Nat)} (h : TRow H xs ss) (hD : H D = some (.lst ys)) : TRow (upd H D u) xs ss := ⟨h.1, fun i x q hx hq => by
  obtain ⟨a, h1, h2⟩ := h.2 i x q hx hq
  exact ⟨a, h1, by rw [upd_ne (fun z => by rw [z, hD] at h2; cases h2)]; exact h2⟩⟩
theorem pen_ne {p l D : Addr} {cells : List Int} {m : Nat} {H : Hp} (hP : PenAt H p l cells m) (hD : H D = none) : D ≠ p ∧ D ≠ l := by
  obtain ⟨_, _, h1, h2, _⟩ := hP
  exact ⟨fun z => (by rw [z, h1] at hD; cases hD), fun z => (by rw [z, h2] at hD; cases hD)⟩
theorem keep_none {p D : Addr} {H H' : Hp} (k : Keep p H H') (hD : H' D = none) (hp : D ≠ p) : H D = none := by
  cases c : H D with
  | none => rfl
  | some u => rw [k _ _ c hp] at hD; cases hD
/-- for .. in range(what a draw leads to) -/
theorem q_forW2 {p l : Addr} {cells : List Int} {σ : L2.St} {H : Hp} {te : TE} {n m j : Nat} {tu tz : TS} {D : Ends} (hw : ∀ Q : VK, (∀ (d : Nat) H1, d < n → PenAt H1 p l cells m → Keep p H H1 → Q (.int (d : Int)) H1) → te σ H Q)
    (k : ∀ (d : Nat) H1, d < n → PenAt H1 p l cells m → Keep p H H1 → tSeq (tFor (iRng1 (tCons (tC (.int (d : Int))) tNil)) (gName j) tu) tz D σ H1) : tSeq (tFor (iRng1 (tCons te tNil)) (gName j) tu) tz D σ H := hw _ fun d H1 hd hP k1 => k d H1 hd hP k1
section
variable {P : Program} {w : World} {K : PySem.W.Frag} {mg : Str → Option Value} {base : Heap}
abbrev sSms : Stmt := top 27
abbrev nSms : List Str := ["_law_pen_here", "_law_found", "_law_some", "_law_turn", "_law_one"]
/-- drawn sums -/
def SmsOk (ss : List (List Nat)) : Prop := ss.Nodup ∧ ss.length ≤ 2 ∧ ∀ l ∈ ss, l ∈ eight
def spSms : Sp := fun vs H Q _ => ∃ (p l : Addr) (cells : List Int) (m : Nat), vs = [.ref p] ∧ PenAt H p l cells m ∧ m + 3 ≤ 50000 ∧ cells.length ≤ 63 ∧
  ∀ f xs ss H', H f = none → H' f = some (.lst xs) → TRow H' xs ss → SmsOk ss → PenAt H' p l cells (m + 3) → Keep p H H' → Q (.ref f) H'
theorem scSms : FnScope nSms ["_law_pen_here"] (defScope sSms) := ⟨rfl, rfl, rfl, by decide +kernel, rfl, by decide +kernel, by decide +kernel⟩
theorem ok_Sms {f fD : Addr} {fd fdD : FuncData} (F : Fun K "_law_sums" "_law_sums" sSms f fd) (S : GlbS mg) (GD : FnOk P w K mg base CX0 1 fD fdD ["_law_pen_here", "_law_top_so"] spDraw) (kD : PySem.W.keepIn K (.ref fD) = true) (bD : Binds K fdD ["_law_pen_here", "_law_top_so"] []) (gD : mg "_law_draw" = some (.ref fD))
    (GP : Gfn P w K mg base 2 "_law_pick" ["_law_pen_here", "_law_some"] spPick) : FnOk P w K mg base CX0 3 f fd ["_law_pen_here"] spSms := by
  obtain ⟨fP, fdP, GP, kP, bP, gP⟩ := GP
  refine F.ok scSms (fun vs H Q E h => ?_) (fun cdv A outer s H vs Q E hr h => ?_)
  · obtain ⟨p, l, cells, m, rfl, _⟩ := h
    rfl
  · obtain ⟨p, l, cells, m, rfl, hP, hm, h63, k⟩ := h
    have r1 := hr.mono (show 1 ≤ 2 by decide)
    have hu : (A.deeper (PyProof.Rows.envOfC "_law_sums" (defScope sSms) s.heap.objs.size f cdv)).units + 65 < cLine := by have := hr.un; omega
    refine ⟨_, (pss_cons (ps_par (i := 1) (j := 2) rfl scSms.nd rfl rfl (by decide) rfl rfl (pa_cons (pe_lst pa_nil) (pa_cons (pe_lst (pa_cons (pe_tup (pa_cons pe_int pa_nil)) (pa_cons (pe_tup (pa_cons pe_int pa_nil)) (pa_cons (pe_tup (pa_cons pe_int (pa_cons pe_int pa_nil))) (pa_cons (pe_tup (pa_cons pe_int pa_nil)) (pa_cons (pe_tup (pa_cons pe_int (pa_cons pe_int pa_nil))) (pa_cons (pe_tup (pa_cons pe_int pa_nil)) (pa_cons (pe_tup (pa_cons pe_int (pa_cons pe_int pa_nil))) (pa_cons (pe_tup (pa_cons pe_int (pa_cons pe_int (pa_cons pe_int pa_nil)))) pa_nil))))))))) pa_nil)) (by rfl))
      (pss_cons (ps_for PassesOwn.never rfl (pi_range1 (by rfl) S.range (pa_cons (pe_call GD r1 (by rfl) gD kD bD .nil pass0 (pa_cons (pv 0) (pa_cons pe_int pa_nil))) pa_nil)) (pg_name (i := 3) scSms.nd rfl (.inl rfl))
        (pss_cons (ps_set (i := 4) scSms.nd rfl (.inl rfl) (pe_call GP hr (by rfl) gP kP bP .nil pass0 (pa_cons (pv 0) (pa_cons (pv 2) pa_nil))))
      (pss_one (ps_if (pt_cmpR (op_notInD hu) (pv 4) (pv 1) (by with_unfolding_all rfl)) (pss_one (ps_expr (pe_bm PySem.F.plainAttrs_list PySem.F.slot_list_append PySem.F.type_list_append mt_append (pv 1) (pa_cons (pv 4) pa_nil)))) pss_nil))))
      (pss_one (ps_ret (pv 1))))), ?_⟩
    refine q_par (cons_i (el_nil (σ := [some (.ref p), none, none, none, none]) (H := H) H (Ex.refl H) _ fun f H1 hf e1 h1 => ?_))
    refine cons_i (elr_lst (σ := [some (.ref p), none, none, none, none]) (H := H1) (ss := eight) (ear_new (eu_1 (a := 1)) (ear_new (eu_1 (a := 2)) (ear_new (eu_2 (a := 1) (b := 2)) (ear_new (eu_1 (a := 3)) (ear_new (eu_2 (a := 2) (b := 3)) (ear_new (eu_1 (a := 4)) (ear_new (eu_2 (a := 1) (b := 4)) (ear_new (eu_3 (a := 1) (b := 2) (c := 3)) ear_nil)))))))) (by decide) H1 (Ex.refl H1) _ fun g ys H2 hg e2 h2 row2 => ?_)
    refine ⟨_, _, rfl, ?_⟩
    have E2 := e1.trans e2
    have hP2 := hP.mono E2 (Nat.le_refl m)
    have fp := pen_ne hP hf
    have gpn := pen_ne hP (fresh_back e1 hg)
    have fg : f ≠ g := fun z => by rw [← z, h1] at hg; cases hg
    refine q_forW2 (p := p) (l := l) (cells := cells) (m := m + 1) (n := 3) (fun Q q => (w_draw (H := H2) (i := 0) (σ := [some (.ref p), some (.ref f), some (.ref g), none, none]) (many := 3) rfl (fun _ _ => ev_c) (by decide) (by decide) h63) m H2 (Keep.of_ex (Ex.refl H2)) hP2 (by omega) _ fun v H3 hv hP3 k3 => by
      obtain ⟨d, rfl, hd⟩ := hv
      exact q d H3 (by omega) hP3 k3) fun d H3 hd hP3 k3 => ?_
    refine q_forR1 (ea_cons ev_c ea_nil) (by omega) (fun i σ' H' => ∃ (x3 x4 : Option V) (xs : List V) (ss : List (List Nat)), σ' = [some (.ref p), some (.ref f), some (.ref g), x3, x4] ∧ PenAt H' p l cells (m + 1 + i) ∧ Keep p H H' ∧ H' f = some (.lst xs) ∧ TRow H' xs ss ∧ ss.Nodup ∧ ss.length ≤ i ∧ (∀ l ∈ ss, l ∈ eight) ∧ H' g = some (.lst ys) ∧ TRow H' ys eight)
      (fun H4 e4 => ⟨none, none, [], [], rfl, hP3.mono e4 (by omega), ((Keep.of_ex E2).trans k3).trans (Keep.of_ex e4), e4 _ _ (k3 _ _ (e2 _ _ h1) fp.1), trow_nil, List.nodup_nil, by simp, fun l hl => (by cases hl), e4 _ _ (k3 _ _ h2 gpn.1), (row2.keep hP2 k3).mono e4⟩) ?_ ?_
    · rintro i σ' H4 hi ⟨x3, x4, xs, ss, rfl, hP4, k4, hf4, row4, nd, ls, sub, hg4, rowg⟩
      refine q_asgR ⟨_, rfl, _, rfl, p, l, g, cells, m + 1 + i, ys, rfl, hP4, by omega, h63, hg4, gpn.1, by rw [rowg.1]; decide, by rw [rowg.1]; decide, fun j x H5 hx hP5 k5 => ?_⟩
      have rowg5 := rowg.keep hP4 k5
      have row5 := row4.keep hP4 k5
      have hf5 := k5 _ _ hf4 fp.1
      have hg5 := k5 _ _ hg4 gpn.1
      have K5 := k4.trans k5
      obtain ⟨a, la, hla, rfl, ha⟩ := rowg5.at hx
      have lin := List.mem_of_getElem? hla
      refine s_when (b := !decide (la ∈ ss)) (et_test fun H6 e6 Q6 q6 => ⟨_, rfl, _, rfl, tD la, ss.map tD, dp_tD (e6 _ _ ha), .lst (sq_of (e6 _ _ hf5)) (trow_dp (row5.mono e6)), low_shaped (tD_low la) (by decide), low_shaped (low_list (n := 1) fun d hd => by
          obtain ⟨q, _, rfl⟩ := List.mem_map.mp hd
          exact tD_low q) (by decide), by rw [tD_any]; exact q6 H6 (Ex.refl H6)⟩) (fun hb H6 e6 => ?_) (fun hb H6 e6 => ?_)
      · have nin : la ∉ ss := by simpa using hb
        refine s_app (K := K) (xs := xs) (e6 _ _ hf5) (ev_var rfl) (ev_var (v := .ref a) rfl) (by rw [row4.1]; omega) fun H7 e7 => ?_
        have E7 := e6.trans e7
        have hf7 := E7 _ _ hf5
        have row7 := trow_updL (u := .lst (xs ++ [.ref a])) (trow_snoc (row5.mono E7) (E7 _ _ ha)) hf7
        refine ⟨_, _, _, ss ++ [la], rfl, ((hP5.mono E7 (Nat.le_refl _)).upd' fp.1 fp.2).le (by omega), (K5.trans (Keep.of_ex E7)).mut hf, upd_same, row7, ?_, by rw [List.length_append]; show ss.length + 1 ≤ _; omega, fun q hq => ?_, by rw [upd_ne fg.symm]; exact E7 _ _ hg5, trow_updL (rowg5.mono E7) hf7⟩
        · rw [List.nodup_append]
          exact ⟨nd, by simp, fun x hx y hy z => nin (by rw [← List.mem_singleton.mp hy, ← z]; exact hx)⟩
        · rcases List.mem_append.mp hq with z | z
          · exact sub q z
          · rw [List.mem_singleton.mp z]
            exact lin
      · exact ⟨_, _, xs, ss, rfl, hP5.mono e6 (by omega), K5.trans (Keep.of_ex e6), e6 _ _ hf5, row5.mono e6, nd, by omega, sub, e6 _ _ hg5, rowg5.mono e6⟩
    · rintro σ' H4 ⟨x3, x4, xs, ss, rfl, hP4, k4, hf4, row4, nd, ls, sub, hg4, rowg⟩
      rw [Int.toNat_natCast] at ls hP4
      exact s_ret (v := .ref f) (ev_var rfl) fun H5 e5 => k f xs ss H5 hf (e5 _ _ hf4) (row4.mono e5) ⟨nd, by omega, sub⟩ (hP4.mono e5 (by omega)) (k4.trans (Keep.of_ex e5))
end
end K17
namespace K17
open PySem L2 Evl Gr StX EnT Kn
/-! ### texts read, as rows of sums -/
/-- a word more: whether a phase must begin, and the rows so far (the last one last) -/
def rstep (st : Bool × List Ph) (z : Str) : Option (Bool × List Ph) :=
  if st.1 = true then (if z = "row" then some (false, st.2 ++ [(false, [])]) else if z = "mute" then some (false, st.2 ++ [(true, [])]) else none)
  else if z = "/" then (if st.2.length = 4 then none else some (true, st.2))
  else match st.2.getLast? with
    | none => none
    | some p => match sumW z with
      | none => none
      | some l => if canF p.2 z = true then some (false, st.2.dropLast ++ [(p.1, p.2 ++ [l])]) else none
def rgo : List Str → Nat → Bool × List Ph → Sum Nat (Bool × List Ph)
  | [], _, st => .inr st
  | z :: ws, n, st => match rstep st z with
    | none => .inl n
    | some st' => rgo ws (n + 1) st'
def rowsF (ws : List Str) : Sum Nat (List Ph) := match rgo ws 0 (true, []) with
  | .inl n => .inl n
  | .inr st => if st.1 = true then .inl ws.length else .inr st.2
/-- where it stands after the first n words: none where one of them cannot stand -/
def rat (ws : List Str) : Nat → Option (Bool × List Ph)
  | 0 => some (true, [])
  | n + 1 => (rat ws n).bind fun st => match ws[n]? with
    | none => none
    | some z => rstep st z
theorem rgo_at (ws : List Str) : ∀ (vs : List Str) (n : Nat) (st : Bool × List Ph), ws.drop n = vs → rat ws n = some st → (∀ i, rgo vs n st = .inl i → ∃ st z, rat ws i = some st ∧ ws[i]? = some z ∧ rstep st z = none) ∧ (∀ st', rgo vs n st = .inr st' → rat ws ws.length = some st')
  | [], n, st, hd, hr => by
    have hn : ws.length ≤ n := List.drop_eq_nil_iff.mp hd
    refine ⟨fun i h => (by cases h), fun st' h => ?_⟩
    have h : Sum.inr st = (Sum.inr st' : Sum Nat (Bool × List Ph)) := h
    cases h
    rcases Nat.eq_or_lt_of_le hn with e | lt
    · rw [e]; exact hr
    · exfalso
      obtain ⟨m, rfl⟩ : ∃ m, n = m + 1 := ⟨n - 1, by omega⟩
      have h2 : (rat ws m).bind (fun st => match ws[m]? with | none => none | some z => rstep st z) = some st := hr
      rw [List.getElem?_eq_none (by omega)] at h2
      cases hm : rat ws m <;> rw [hm] at h2 <;> cases h2
  | z :: vs, n, st, hd, hr => by
    have hz : ws[n]? = some z := by
      have := congrArg (fun l : List Str => l[0]?) hd
      simpa using this
    have hd' : ws.drop (n + 1) = vs := by rw [← List.drop_drop, hd]; rfl
    have eg : rgo (z :: vs) n st = match rstep st z with | none => .inl n | some st' => rgo vs (n + 1) st' := rfl
    rw [eg]
    cases hs : rstep st z with
    | none => exact ⟨fun i h => (by cases h; exact ⟨st, z, hr, hz, hs⟩), fun st' h => (by cases h)⟩
    | some st1 =>
      have hr' : rat ws (n + 1) = some st1 := by
        show (rat ws n).bind _ = _
        rw [hr, hz]
        exact hs
      exact rgo_at ws vs (n + 1) st1 hd' hr'
theorem rstep_b {st st' : Bool × List Ph} {z : Str} (h : rstep st z = some st') : st'.1 = decide (z = "/") ∧ (st.1 = false → z ≠ "/" → st.2 ≠ []) := by
  have e1 : decide (("row" : Str) = "/") = false := by decide +kernel
  have e2 : decide (("mute" : Str) = "/") = false := by decide +kernel
  unfold rstep at h
  split at h
  · rename_i hb
    refine ⟨?_, fun y => by rw [y] at hb; cases hb⟩
    split at h
    · rename_i hz
      cases h
      rw [hz, e1]
    · split at h
      · rename_i hz
        cases h
        rw [hz, e2]
      · cases h
  · split at h
    · rename_i hz
      refine ⟨?_, fun _ y => absurd hz y⟩
      split at h
      · cases h
      · cases h
        rw [hz]
        exact (decide_eq_true rfl).symm
    · rename_i hz
      split at h
      · cases h
      · rename_i p hp
        refine ⟨?_, fun _ _ y => by rw [y] at hp; cases hp⟩
        split at h
        · cases h
        · split at h
          · cases h
            exact (decide_eq_false hz).symm
          · cases h
theorem rat_b {ws : List Str} {n : Nat} {st : Bool × List Ph} (h : rat ws (n + 1) = some st) : ∃ st0 z, rat ws n = some st0 ∧ ws[n]? = some z ∧ rstep st0 z = some st ∧ st.1 = decide (z = "/") := by
  have h : (rat ws n).bind (fun st => match ws[n]? with | none => none | some z => rstep st z) = some st := h
  cases h0 : rat ws n with
  | none => rw [h0] at h; cases h
  | some st0 =>
    rw [h0] at h
    cases hz : ws[n]? with
    | none => rw [hz] at h; cases h
    | some z =>
      rw [hz] at h
      exact ⟨st0, z, rfl, rfl, h, (rstep_b h).1⟩
end K17
namespace L2
open PySem PySem.Spec PyProof.Rows
section
variable {X : Cx} {st : Stmt} {t : TS}
/-- a statement that lets nothing out, among such as do -/
theorem PS.calm_ (h : PS X.nox st t) : PS X st t := ⟨fun pins s σ H D I hw => wpAny_mono (h.run pins s σ H D (I.wish _) hw) (fun f s' q => SP.unwish q) fun _ _ z => absurd z id⟩
end
end L2
namespace K17
open PySem L2 Evl Gr StX EnT Kn
theorem rgo_of {ws : List Str} : ∀ {n : Nat} {st : Bool × List Ph}, rat ws n = some st → rgo ws 0 (true, []) = rgo (ws.drop n) n st
  | 0, st, h => by cases h; rfl
  | n + 1, st, h => by
    obtain ⟨st0, z, h0, hz, hs, _⟩ := rat_b h
    rw [rgo_of h0]
    have : ws.drop n = z :: ws.drop (n + 1) := by
      have lt := (List.getElem?_eq_some_iff.mp hz)
      rw [List.drop_eq_getElem_cons lt.1, lt.2]
    rw [this]
    show (match rstep st0 z with | none => Sum.inl n | some st' => rgo (ws.drop (n + 1)) (n + 1) st') = _
    rw [hs]
theorem rowsF_no {ws : List Str} {n : Nat} {st : Bool × List Ph} {z : Str} (h : rat ws n = some st) (hz : ws[n]? = some z) (hs : rstep st z = none) : rowsF ws = .inl n := by
  have lt := (List.getElem?_eq_some_iff.mp hz)
  unfold rowsF
  rw [rgo_of h, List.drop_eq_getElem_cons lt.1, lt.2]
  show (match (match rstep st z with | none => Sum.inl n | some st' => rgo (ws.drop (n + 1)) (n + 1) st') with | .inl n => _ | .inr st => _) = _
  rw [hs]
theorem rowsF_end {ws : List Str} {st : Bool × List Ph} (h : rat ws ws.length = some st) : rowsF ws = if st.1 = true then .inl ws.length else .inr st.2 := by
  unfold rowsF
  rw [rgo_of h, List.drop_length]
  rfl
def kindOf (p : Ph) : Str := if p.1 = true then "mute" else "row"
def SRow (av : List Addr) (H : Hp) (xs : List V) (ps : List Ph) : Prop := xs.length = ps.length ∧ ∀ (i : Nat) (x : V) (q : Ph), xs[i]? = some x → ps[i]? = some q → ∃ (s : Addr) (ys : List V), x = V.ref s ∧ H s = some (.lst ys) ∧ s ∉ av ∧ TRow H ys q.2
section
variable {av : List Addr} {H H' : Hp} {xs : List V} {ps : List Ph}
theorem SRow.mono (e : Ex H H') (h : SRow av H xs ps) : SRow av H' xs ps := ⟨h.1, fun i x q hx hq => by
  obtain ⟨s, ys, h1, h2, h3, h4⟩ := h.2 i x q hx hq
  exact ⟨s, ys, h1, e _ _ h2, h3, h4.mono e⟩⟩
theorem SRow.more {g : Addr} (h : SRow av H xs ps) (hg : H g = none) : SRow (g :: av) H xs ps := ⟨h.1, fun i x q hx hq => by
  obtain ⟨s, ys, h1, h2, h3, h4⟩ := h.2 i x q hx hq
  exact ⟨s, ys, h1, h2, fun z => (List.mem_cons.mp z).elim (fun z => by rw [← z, h2] at hg; cases hg) h3, h4⟩⟩
theorem SRow.less {g : Addr} (h : SRow (g :: av) H xs ps) : SRow av H xs ps := ⟨h.1, fun i x q hx hq => by
  obtain ⟨s, ys, h1, h2, h3, h4⟩ := h.2 i x q hx hq
  exact ⟨s, ys, h1, h2, fun z => h3 (List.mem_cons_of_mem _ z), h4⟩⟩
theorem SRow.upd {D : Addr} {u : HO} {zs : List V} (h : SRow av H xs ps) (hD : D ∈ av) (hl : H D = some (.lst zs)) : SRow av (L2.upd H D u) xs ps := ⟨h.1, fun i x q hx hq => by
  obtain ⟨s, ys, h1, h2, h3, h4⟩ := h.2 i x q hx hq
  exact ⟨s, ys, h1, by rw [upd_ne (fun z => h3 (by rw [z]; exact hD))]; exact h2, h3, trow_updL h4 hl⟩⟩
theorem SRow.snoc {s : Addr} {ys : List V} {q : Ph} (h : SRow av H xs ps) (h2 : H s = some (.lst ys)) (h3 : s ∉ av) (h4 : TRow H ys q.2) : SRow av H (xs ++ [.ref s]) (ps ++ [q]) := ⟨by rw [List.length_append, List.length_append, h.1]; rfl, fun i x r hx hr => by
  rcases Nat.lt_or_ge i xs.length with c | c
  · rw [List.getElem?_append_left c] at hx
    rw [List.getElem?_append_left (by rw [← h.1]; exact c)] at hr
    exact h.2 i x r hx hr
  · rw [List.getElem?_append_right c] at hx
    rw [List.getElem?_append_right (by rw [← h.1]; exact c), ← h.1] at hr
    generalize i - xs.length = j at hx hr
    cases j with
    | zero =>
      cases hx
      cases hr
      exact ⟨s, ys, rfl, h2, h3, h4⟩
    | succ j => cases hx⟩
theorem srow_nil : SRow av H [] [] := ⟨rfl, fun i x q hx => by cases hx⟩
end
theorem canF_len {ss : List (List Nat)} {z : Str} (h : canF ss z = true) : ss.length ≠ 4 := fun y => by
  unfold canF at h
  split at h
  · cases h
  · rw [if_pos y] at h
    cases h
theorem rstep_len {st st' : Bool × List Ph} {z : Str} (h : rstep st z = some st') (h1 : ∀ p ∈ st.2, p.2.length ≤ 4) : (∀ p ∈ st'.2, p.2.length ≤ 4) ∧ st'.2.length ≤ st.2.length + 1 := by
  unfold rstep at h
  split at h
  · split at h
    · cases h
      refine ⟨fun p hp => ?_, by rw [List.length_append]; exact Nat.le_refl _⟩
      rcases List.mem_append.mp hp with y | y
      · exact h1 p y
      · rw [List.mem_singleton.mp y]; exact Nat.zero_le _
    · split at h
      · cases h
        refine ⟨fun p hp => ?_, by rw [List.length_append]; exact Nat.le_refl _⟩
        rcases List.mem_append.mp hp with y | y
        · exact h1 p y
        · rw [List.mem_singleton.mp y]; exact Nat.zero_le _
      · cases h
  · split at h
    · split at h
      · cases h
      · cases h
        exact ⟨h1, Nat.le_succ _⟩
    · split at h
      · cases h
      · rename_i p hp
        split at h
        · cases h
        · split at h
          · rename_i hc
            cases h
            refine ⟨fun q hq => ?_, ?_⟩
            · rcases List.mem_append.mp hq with y | y
              · exact h1 q ((List.dropLast_sublist _).subset y)
              · rw [List.mem_singleton.mp y]
                have := h1 p (List.mem_of_getLast? hp)
                have := canF_len hc
                show (p.2 ++ [_]).length ≤ 4
                rw [List.length_append]
                show p.2.length + 1 ≤ 4
                omega
            · show (st.2.dropLast ++ [_]).length ≤ _
              rw [List.length_append, List.length_dropLast]
              show st.2.length - 1 + 1 ≤ _
              omega
          · cases h
theorem rat_len {ws : List Str} : ∀ {n : Nat} {st : Bool × List Ph}, rat ws n = some st → (∀ p ∈ st.2, p.2.length ≤ 4) ∧ st.2.length ≤ n
  | 0, st, h => by cases h; exact ⟨fun p hp => (by cases hp), Nat.le_refl _⟩
  | n + 1, st, h => by
    obtain ⟨st0, z, h0, _, hs, _⟩ := rat_b h
    have ih := rat_len h0
    have := rstep_len hs ih.1
    exact ⟨this.1, by omega⟩
theorem rstep_ne {st st' : Bool × List Ph} {z : Str} (h : rstep st z = some st') (hb : st'.1 = false) : st'.2 ≠ [] := by
  unfold rstep at h
  split at h
  · split at h
    · cases h; simp
    · split at h
      · cases h; simp
      · cases h
  · split at h
    · split at h
      · cases h
      · cases h; cases hb
    · split at h
      · cases h
      · split at h
        · cases h
        · split at h
          · cases h; simp
          · cases h
theorem rat_ne {ws : List Str} : ∀ {n : Nat} {st : Bool × List Ph}, rat ws n = some st → st.1 = false → st.2 ≠ []
  | 0, st, h, hb => by cases h; cases hb
  | n + 1, st, h, hb => by
    obtain ⟨st0, z, h0, _, hs, _⟩ := rat_b h
    exact rstep_ne hs hb
def SSt (Kd R : Addr) (H0 H : Hp) (xs : List V) (ps : List Ph) : Prop := (xs = [] ∧ ps = []) ∨ ∃ (xs0 : List V) (s : Addr) (ys : List V) (ps0 : List Ph) (p : Ph), xs = xs0 ++ [V.ref s] ∧ ps = ps0 ++ [p] ∧ SRow [s, Kd, R] H xs0 ps0 ∧ H s = some (.lst ys) ∧ s ∉ [Kd, R] ∧ H0 s = none ∧ TRow H ys p.2
section
variable {Kd R : Addr} {H0 H H' : Hp} {xs : List V} {ps : List Ph}
theorem SSt.mono (e : Ex H H') (h : SSt Kd R H0 H xs ps) : SSt Kd R H0 H' xs ps := h.imp id fun ⟨xs0, s, ys, ps0, p, h1, h2, h3, h4, h5, h6, h7⟩ => ⟨xs0, s, ys, ps0, p, h1, h2, h3.mono e, e _ _ h4, h5, h6, h7.mono e⟩
theorem SSt.upd {D : Addr} {u : HO} {zs : List V} (h : SSt Kd R H0 H xs ps) (hD : D ∈ [Kd, R]) (hl : H D = some (.lst zs)) : SSt Kd R H0 (L2.upd H D u) xs ps := h.imp id fun ⟨xs0, s, ys, ps0, p, h1, h2, h3, h4, h5, h6, h7⟩ =>
  ⟨xs0, s, ys, ps0, p, h1, h2, h3.upd (List.mem_cons_of_mem _ hD) hl, by rw [upd_ne (fun z => h5 (by rw [z]; exact hD))]; exact h4, h5, h6, trow_updL h7 hl⟩
theorem SSt.all (h : SSt Kd R H0 H xs ps) : SRow [Kd, R] H xs ps := by
  rcases h with ⟨rfl, rfl⟩ | ⟨xs0, s, ys, ps0, p, rfl, rfl, h3, h4, h5, h6, h7⟩
  · exact srow_nil
  · exact SRow.snoc h3.less h4 h5 h7
theorem q_forEL {K : PySem.W.Frag} {σ : L2.St} {a : Addr} {vs : List V} {ta : TA} {g : TG} {tu tz : TS} {D : Ends} (h : EvA ta σ H [.ref a]) (hx : SqL K H a vs) (Pv : Nat → L2.St → Hp → Prop) (h0 : ∀ H1, Ex H H1 → Pv 0 σ H1) (hl : ∀ i σ' H', i ≤ vs.length → Pv i σ' H' → SqL K H' a vs)
    (hs : ∀ i x σ' H' T, vs[i]? = some x → Pv i σ' H' → H' T = none → g (.ref T) σ' (L2.upd H' T (.tup [.int (i : Nat), x])) fun σ2 H2 => tu { D with nx := Pv (i + 1), ct := Pv (i + 1), bk := tz D } σ2 H2)
    (hd : ∀ σ' H', Pv vs.length σ' H' → tz D σ' H') : tSeq (tFor (iEnum K ta) g tu) tz D σ H :=
  h H (Ex.refl H) _ fun H1 e1 => ⟨a, vs, rfl, ex_l e1 hx, for_it (D := { D with nx := tz D }) walk_enum Pv (h0 H1 e1) hl (fun i v σ' H' H2 hi p y => by
    obtain ⟨T, x, z, rfl, hn, rfl, ex, ez⟩ := y
    obtain rfl := Option.some.inj ex
    exact hs i z σ' H' T ez p hn) hd⟩
end
section
variable {P : Program} {w : World} {K : PySem.W.Frag} {mg : Str → Option Value} {base : Heap}
abbrev sRof : Stmt := top 19
abbrev nRof : List Str := ["words", "kinds", "rows", "at", "word"]
def spRof (CT : Addr) : Sp := fun vs H Q E => ∃ (a : Addr) (ws : List Str), vs = [.ref a] ∧ H a = some (.lst (ws.map V.str)) ∧ ws ≠ [] ∧ ws.length ≤ 1000 ∧ (∀ z ∈ ws, WOk z) ∧
  (∀ i, rowsF ws = .inl i → Out2 CT "line" "word" (.int 0) (.int (i : Int)) H E) ∧
  (∀ ps, rowsF ws = .inr ps → ∀ t kd R xs H', Ex H H' → H' t = some (.tup [.ref kd, .ref R]) → H' kd = some (.lst (ps.map fun p => V.str (kindOf p))) → H' R = some (.lst xs) → SRow [] H' xs ps → Q (.ref t) H')
theorem scRof : FnScope nRof ["words"] (defScope sRof) := ⟨rfl, rfl, rfl, by decide +kernel, rfl, by decide +kernel, by decide +kernel⟩
theorem ok_Rof {CT fT f : Addr} {fd fdT : FuncData} (F : Fun K "rows_of" "rows_of" sRof f fd) (S : GlbS mg) (I : GlbE mg) (hm : ∃ t, mg "MOST_PHASES" = some (.int 4 t)) (B : GTwo P w K mg base "BadText" "line" "word" CT fT fdT)
    (GS : Gfn P w K mg base 2 "sum_of" ["word"] spSof) (GC : Gfn P w K mg base 3 "can_follow" ["sums", "word"] spCan) : FnOk P w K mg base (L2.CX P w) 4 f fd ["words"] (spRof CT) := by
  obtain ⟨fS, fdS, GS, kS, bS, gS⟩ := GS
  obtain ⟨fC, fdC, GC, kC, bC, gC⟩ := GC
  obtain ⟨t4, hm⟩ := hm
  refine F.okX scRof (fun vs H Q E h => ?_) (fun cdv A outer s H vs Q E hr h => ?_)
  · obtain ⟨a, ws, rfl, _⟩ := h
    rfl
  · obtain ⟨a, ws, rfl, ha, ne, l1000, wok, kE, kQ⟩ := h
    have r2 := hr.mono (show 2 ≤ 3 by decide)
    have r1 := hr.mono (show 1 ≤ 3 by decide)
    refine ⟨_, (pss_cons (PS.calm_ (ps_set (i := 1) scRof.nd rfl (.inl rfl) (pe_lst pa_nil)))
      (pss_cons (PS.calm_ (ps_set (i := 2) scRof.nd rfl (.inl rfl) (pe_lst pa_nil)))
      (pss_cons (ps_for (passes_of rfl) rfl (pi_enum (by rfl) I.enum (pa_cons (pv 0) pa_nil)) (pg_tup rfl (pgs_cons (pg_name (i := 3) scRof.nd rfl (.inl rfl)) (pgs_cons (pg_name (i := 4) scRof.nd rfl (.inl rfl)) pgs_nil)))
        (pss_one (ps_if (PW.pt (pw_or (pt_cmpR op_eq (pv 3) pe_int (nomark _)) (pw_or1 (pt_cmpR op_eq (pe_ix (show IxR _ (rIxL K) from ix_list) (pv 0) (pe_op op_sub (pv 3) pe_int) (fun _ _ => rfl)) pe_str (nomark _)))))
            (pss_cons (ps_if (pt_cmpR op_notIn_seq (pv 4) (pe_tup (pa_cons pe_str (pa_cons pe_str pa_nil))) (by with_unfolding_all rfl)) (pss_one (ps_raise rfl (takes_of rfl rfl rfl rfl) (pmk_oex B.ox B.init B.ty B.ok r2 B.b .nil pass0 (by rfl) B.g (pa_cons pe_int (pa_cons (pv 3) pa_nil))))) pss_nil)
      (pss_cons (ps_expr (pe_bm PySem.F.plainAttrs_list PySem.F.slot_list_append PySem.F.type_list_append mt_append (pv 1) (pa_cons (pv 4) pa_nil)))
      (pss_one (ps_expr (pe_bm PySem.F.plainAttrs_list PySem.F.slot_list_append PySem.F.type_list_append mt_append (pv 2) (pa_cons (pe_lst pa_nil) pa_nil))))))
            (pss_one (ps_if (pt_cmpR op_eq (pv 4) pe_str (nomark _))
                (pss_one (ps_if (pt_cmpR op_eq (pe_callB call_len_seq (by rfl) S.len PySem.boot_len (pa_cons (pv 2) pa_nil)) (pe_glob (v := .int 4) (by rfl) hm ⟨t4, rfl⟩) (nomark _)) (pss_one (ps_raise rfl (takes_of rfl rfl rfl rfl) (pmk_oex B.ox B.init B.ty B.ok r2 B.b .nil pass0 (by rfl) B.g (pa_cons pe_int (pa_cons (pv 3) pa_nil))))) pss_nil))
                (pss_one (ps_if (pt_val (pe_call GC hr (by rfl) gC kC bC .nil pass0 (pa_cons (pe_ix (show IxR _ (rIxL K) from ix_list) (pv 2) (pe_un un_neg pe_int) (fun _ _ => rfl)) (pa_cons (pv 4) pa_nil))))
                    (pss_one (ps_expr (pe_bm PySem.F.plainAttrs_list PySem.F.slot_list_append PySem.F.type_list_append mt_append (pe_ix (show IxR _ (rIxL K) from ix_list) (pv 2) (pe_un un_neg pe_int) (fun _ _ => rfl)) (pa_cons (pe_call GS r2 (by rfl) gS kS bS .nil pass0 (pa_cons (pv 4) pa_nil)) pa_nil))))
                    (pss_one (ps_raise rfl (takes_of rfl rfl rfl rfl) (pmk_oex B.ox B.init B.ty B.ok r2 B.b .nil pass0 (by rfl) B.g (pa_cons pe_int (pa_cons (pv 3) pa_nil))))))))))))
      (pss_cons (ps_if (pt_cmpR op_eq (pe_ix (show IxR _ (rIxL K) from ix_list) (pv 0) (pe_un un_neg pe_int) (fun _ _ => rfl)) pe_str (nomark _)) (pss_one (ps_raise rfl (takes_of rfl rfl rfl rfl) (pmk_oex B.ox B.init B.ty B.ok r2 B.b .nil pass0 (by rfl) B.g (pa_cons pe_int (pa_cons (pe_callB call_len_seq (by rfl) S.len PySem.boot_len (pa_cons (pv 0) pa_nil)) pa_nil))))) pss_nil)
      (pss_one (ps_ret (pe_tup (pa_cons (pv 1) (pa_cons (pv 2) pa_nil))))))))), ?_⟩
    refine q_asgL (xs := []) el_nil fun Kd H1 hK e1 h1 => ?_
    refine q_asgL (xs := []) el_nil fun R H2 hR e2 h2 => ?_
    have KR : Kd ≠ R := fun y => by rw [← y, h1] at hR; cases hR
    have RH := fresh_back e1 hR
    have E2 := e1.trans e2
    refine q_forEL (K := K) (a := a) (vs := ws.map V.str) (ea_cons (ev_var rfl) ea_nil) (sq_of (E2 _ _ ha)) (fun n σ' H' => ∃ (x3 x4 : Option V) (st : Bool × List Ph) (xs : List V), rat ws n = some st ∧ σ' = [some (.ref a), some (.ref Kd), some (.ref R), x3, x4] ∧ Ex H H' ∧ H' Kd = some (.lst (st.2.map fun p => V.str (kindOf p))) ∧ H' R = some (.lst xs) ∧ SSt Kd R H H' xs st.2)
      (fun H3 e3 => ⟨none, none, (true, []), [], rfl, rfl, E2.trans e3, e3 _ _ (e2 _ _ h1), e3 _ _ h2, .inl ⟨rfl, rfl⟩⟩) (fun _ _ H' _ ⟨_, _, _, _, _, _, e, _⟩ => sq_of (e _ _ ha)) ?_ ?_
    · rintro n x σ' H3 T3 hx ⟨x3, x4, st, xs, hst, rfl, e3, g1, g2, gs⟩ hT3
      obtain ⟨z, hz, rfl⟩ := nth_map hx
      refine ⟨T3, [.int (n : Nat), .str z], rfl, st_of upd_same, rfl, _, _, rfl, _, _, rfl, rfl, ?_⟩
      have eN := Ex.new (o := .tup [.int (n : Nat), V.str z]) hT3
      have E4 := e3.trans eN
      replace g1 := eN _ _ g1
      replace g2 := eN _ _ g2
      replace gs := gs.mono eN
      generalize upd H3 T3 (.tup [.int (n : Nat), V.str z]) = H4 at E4 g1 g2 gs ⊢
      have nl := (List.getElem?_eq_some_iff.mp hz).1
      obtain ⟨len4, lenN⟩ := rat_len hst
      have out : ∀ {H5 : Hp}, Ex H4 H5 → rstep st z = none → Out2 CT "line" "word" (.int 0) (.int (n : Int)) H5 E := fun e5 hs => (kE n (rowsF_no hst hz hs)).mono (E4.trans e5)
      have next : ∀ {st' : Bool × List Ph}, rstep st z = some st' → rat ws (n + 1) = some st' := fun {st'} hs => by
        show (rat ws n).bind _ = _
        rw [hst, hz]
        exact hs
      refine s_if (b := st.1) (et_is (et_or (b := decide (n ≠ 0 ∧ st.1 = true)) (et_test (ev_op (ev_var rfl) ev_c (rv_eq rfl))) fun hn => ?_) ?_) (fun hb H5 e5 => ?_) (fun hb H5 e5 => ?_)
      · obtain ⟨m, rfl⟩ : ∃ m, n = m + 1 := ⟨n - 1, by
          have := of_decide_eq_false hn
          have : n ≠ 0 := fun y => this (by rw [y]; rfl)
          omega⟩
        obtain ⟨st0, z0, _, hz0, _, hb0⟩ := rat_b hst
        refine et_is (et_test (ev_op (ev_op (y := .int (m : Int)) (ev_var rfl) (ev_is (ev_op (ev_var rfl) ev_c rv_I0) (by congr 1; omega)) (rv_ixL (v := .str z0) (sq_of (E4 _ _ ha)) (atI_nat (by rw [List.getElem?_map, hz0]; rfl)))) ev_c (rv_eq rfl))) ?_
        rw [hb0]
        by_cases c : z0 = "/"
        · rw [c, decide_eq_true rfl, decide_eq_true ⟨by omega, rfl⟩]
        · rw [decide_eq_false fun y => c (V.str.inj y), decide_eq_false fun y => by rw [decide_eq_false c] at y; cases y.2]
      · cases n with
        | zero =>
          cases hst
          rfl
        | succ m =>
          rw [show decide (V.int ((m + 1 : Nat) : Int) = V.int 0) = false from decide_eq_false fun y => by have := V.int.inj y; omega, Bool.false_or]
          cases st.1 with
          | true => exact decide_eq_true ⟨by omega, rfl⟩
          | false => exact decide_eq_false fun y => by cases y.2
      · have rs : rstep st z = if z = "row" then some (false, st.2 ++ [(false, [])]) else if z = "mute" then some (false, st.2 ++ [(true, [])]) else none := by unfold rstep; rw [if_pos hb]
        refine q_when (b := !decide (z ∈ (["row", "mute"] : List Str))) (et_is (et_test (ev_niU (K := K) (xs := (["row", "mute"] : List Str).map V.str) (ev_var rfl) (eu_tup (ea_cons ev_c (ea_cons ev_c ea_nil)) (by show 2 ≤ 100000; decide)) rfl (by decide +kernel))) (by rw [in_strs])) (fun hb2 H6 e6 => ?_) (fun hb2 H6 e6 => ?_)
        · have nin : z ∉ (["row", "mute"] : List Str) := by simpa using hb2
          refine raise_two (ea_cons ev_c (ea_cons (ev_var rfl) ea_nil)) (out (e5.trans e6) ?_)
          rw [rs, if_neg (fun y => nin (by rw [y]; simp)), if_neg (fun y => nin (by rw [y]; simp))]
        · have E6 := e5.trans e6
          have hin : z ∈ (["row", "mute"] : List Str) := by
            cases hd : decide (z ∈ (["row", "mute"] : List Str)) with
            | true => exact of_decide_eq_true hd
            | false => rw [hd] at hb2; cases hb2
          obtain ⟨p, hp, kp⟩ : ∃ p : Ph, rstep st z = some (false, st.2 ++ [p]) ∧ (kindOf p = z ∧ p.2 = []) := by
            rw [rs]
            by_cases c : z = "row"
            · exact ⟨(false, []), by rw [if_pos c], by rw [c]; rfl, rfl⟩
            · have c2 : z = "mute" := by
                simp only [List.mem_cons, List.not_mem_nil, or_false] at hin
                exact hin.resolve_left c
              exact ⟨(true, []), by rw [if_neg c, if_pos c2], by rw [c2]; rfl, rfl⟩
          refine q_app (K := K) (xs := st.2.map fun p => V.str (kindOf p)) (E6 _ _ g1) (ev_var rfl) (ev_var (v := .str z) rfl) (by rw [List.length_map]; omega) fun H7 e7 => ?_
          have E7 := E6.trans e7
          have G1 := E7 _ _ g1
          have gs7 := (gs.mono E7).upd (u := .lst ((st.2.map fun p => V.str (kindOf p)) ++ [.str z])) (by simp) G1
          have EH7 : Ex H (upd H7 Kd (.lst ((st.2.map fun p => V.str (kindOf p)) ++ [.str z]))) := Ex.mut (E4.trans E7) hK
          have g27 : (upd H7 Kd (.lst ((st.2.map fun p => V.str (kindOf p)) ++ [.str z]))) R = some (.lst xs) := by rw [upd_ne KR.symm]; exact E7 _ _ g2
          have g17 : (upd H7 Kd (.lst ((st.2.map fun p => V.str (kindOf p)) ++ [.str z]))) Kd = some (.lst ((st.2.map fun p => V.str (kindOf p)) ++ [.str z])) := upd_same
          generalize upd H7 Kd (.lst ((st.2.map fun p => V.str (kindOf p)) ++ [.str z])) = H8 at gs7 EH7 g27 g17 ⊢
          refine s_appL (K := K) (xs := xs) (ys := []) g27 (ev_var rfl) el_nil (by rw [gs7.all.1]; omega) fun g H9 hg e9 h9 => ?_
          have gK : g ≠ Kd := fun y => by rw [y, g17] at hg; cases hg
          have gR : g ≠ R := fun y => by rw [y, g27] at hg; cases hg
          refine ⟨_, _, _, xs ++ [.ref g], next hp, rfl, Ex.mut (EH7.trans e9) RH, ?_, upd_same, .inr ⟨xs, g, [], st.2, p, rfl, rfl, ?_, ?_, ?_, fresh_back EH7 hg, ?_⟩⟩
          · rw [upd_ne KR, e9 _ _ g17, List.map_append]
            show _ = some (HO.lst (_ ++ [V.str (kindOf p)]))
            rw [kp.1]
          · exact ((gs7.all.more hg).mono e9).upd (by simp) (e9 _ _ g27)
          · rw [upd_ne gR]
            exact h9
          · intro y
            rcases List.mem_cons.mp y with y | y
            · exact gK y
            · exact gR (List.mem_singleton.mp y)
          · rw [kp.2]
            exact trow_nil
      · have rs : rstep st z = if z = "/" then (if st.2.length = 4 then none else some (true, st.2)) else match st.2.getLast? with
          | none => none
          | some p => match sumW z with
            | none => none
            | some l => if canF p.2 z = true then some (false, st.2.dropLast ++ [(p.1, p.2 ++ [l])]) else none := by
          unfold rstep
          rw [if_neg (by rw [hb]; decide)]
          all_goals rfl
        have E5 := E4.trans e5
        refine s_if (b := decide (z = "/")) (et_is (et_test (ev_op (ev_var rfl) ev_c (rv_eq rfl))) (decide_eq_decide.mpr ⟨fun y => V.str.inj y, fun y => by rw [y]⟩)) (fun hb2 H6 e6 => ?_) (fun hb2 H6 e6 => ?_)
        · rw [if_pos (of_decide_eq_true hb2)] at rs
          have E6 := e5.trans e6
          have ln : Ev (tCB (rLen K) (tCons (tVar 2) tNil)) [some (.ref a), some (.ref Kd), some (.ref R), some (.int (n : Int)), some (.str z)] H6 (.int (st.2.length : Int)) := ev_is (ev_cb (ea_cons (ev_var rfl) ea_nil) (rc_lenQ (.inl (sq_of (E6 _ _ g2))))) (by rw [gs.all.1])
          refine s_when (b := decide (st.2.length = 4)) (et_is (et_test (ev_op ln ev_c (rv_eq rfl))) (by rw [vint_inj]; exact decide_eq_decide.mpr (by omega))) (fun hb3 H7 e7 => ?_) (fun hb3 H7 e7 => ?_)
          · exact raise_two (ea_cons ev_c (ea_cons (ev_var rfl) ea_nil)) (out (E6.trans e7) (by rw [rs, if_pos (of_decide_eq_true hb3)]))
          · have E7 := E6.trans e7
            exact ⟨_, _, (true, st.2), xs, next (by rw [rs, if_neg (of_decide_eq_false hb3)]), rfl, E4.trans E7, E7 _ _ g1, E7 _ _ g2, gs.mono E7⟩
        · rw [if_neg (of_decide_eq_false hb2)] at rs
          have E6 := e5.trans e6
          rcases gs.mono E6 with ⟨_, nil⟩ | ⟨xs0, r, ys, ps0, p, ex, ep, sr, hr', rn, rH, rrow⟩
          · exact absurd nil (rat_ne hst hb)
          have gl : st.2.getLast? = some p := by rw [ep]; simp
          rw [gl] at rs
          have pin : p ∈ st.2 := List.mem_of_getLast? gl
          have last : ∀ {H7 : Hp}, Ex H6 H7 → Ev (tOp (rIxL K) (tVar 2) (tUn (rU fun i => .int (-i)) (tC (.int 1)))) [some (.ref a), some (.ref Kd), some (.ref R), some (.int (n : Int)), some (.str z)] H7 (.ref r) := fun e7 => ev_op (ev_var rfl) (ev_un ev_c ru_neg) (rv_ixL (sq_of (e7 _ _ (E6 _ _ g2))) (atI_end (by rw [ex, List.length_append, List.getElem?_append_right (by simp)]; simp)))
          refine s_if (b := canF p.2 z) (et_B (ev_call (z := .bl (canF p.2 z)) (ea_cons (last (Ex.refl H6)) (ea_cons (ev_var rfl) ea_nil)) fun H7 e7 Q7 q7 E7 => ⟨r, ys, p.2, z, rfl, e7 _ _ hr', rrow.mono e7, len4 p pin, wok z (List.mem_of_getElem? hz), q7⟩)) (fun hb3 H7 e7 => ?_) (fun hb3 H7 e7 => ?_)
          · obtain ⟨l, hl⟩ : ∃ l, sumW z = some l := by
              cases hs : sumW z with
              | none => unfold canF at hb3; rw [hs] at hb3; cases hb3
              | some l => exact ⟨l, rfl⟩
            rw [hl] at rs
            have rs' : rstep st z = some (false, ps0 ++ [(p.1, p.2 ++ [l])]) := by
              rw [rs]
              show (if canF p.2 z = true then some (false, st.2.dropLast ++ [(p.1, p.2 ++ [l])]) else none) = _
              rw [if_pos hb3, ep, List.dropLast_concat]
            have E7 := E6.trans e7
            have rl := e7 _ _ hr'
            refine s_appU (K := K) (xs := ys) (ys := vN l) rl (last e7) (fun H8 e8 Q8 q8 => ⟨_, rfl, z, rfl, wok z (List.mem_of_getElem? hz), fun hn => absurd (hl.symm.trans hn) (by simp), fun l' hl' t H9 ht e9 h9 => q8 t H9 ht e9 (by rw [hl] at hl'; rw [Option.some.inj hl']; exact h9)⟩) (by rw [rrow.1]; have := len4 p pin; omega) fun t H8 ht e8 h8 => ?_
            have E8 := E7.trans e8
            have rK : r ≠ Kd := fun y => rn (by rw [y]; simp)
            have rR : r ≠ R := fun y => rn (by rw [y]; simp)
            have rl8 := e8 _ _ rl
            refine ⟨_, _, (false, ps0 ++ [(p.1, p.2 ++ [l])]), xs, next rs', rfl, Ex.mut (E4.trans E8) rH, ?_, ?_, .inr ⟨xs0, r, ys ++ [.ref t], ps0, (p.1, p.2 ++ [l]), ex, rfl, (sr.mono (e7.trans e8)).upd (by simp) rl8, upd_same, rn, rH, trow_updL (trow_snoc (rrow.mono (e7.trans e8)) h8) rl8⟩⟩
            · rw [upd_ne rK.symm, E8 _ _ g1, ep, List.map_append, List.map_append]
              rfl
            · rw [upd_ne rR.symm]
              exact E8 _ _ g2
          · refine raise_two (ea_cons ev_c (ea_cons (ev_var rfl) ea_nil)) (out (E6.trans e7) ?_)
            rw [rs]
            cases sumW z with
            | none => rfl
            | some l =>
              show (if canF p.2 z = true then _ else none) = none
              rw [if_neg (by rw [hb3]; decide)]
    · rintro σ' H3 ⟨x3, x4, st, xs, hst, rfl, e3, g1, g2, gs⟩
      rw [List.length_map] at hst
      have re := rowsF_end hst
      obtain ⟨m, hm'⟩ : ∃ m, ws.length = m + 1 := ⟨ws.length - 1, by have := List.length_pos_iff.mpr ne; omega⟩
      rw [hm'] at hst
      obtain ⟨st0, z, _, hz, _, hbz⟩ := rat_b hst
      have lastw : Ev (tOp (rIxL K) (tVar 0) (tUn (rU fun i => .int (-i)) (tC (.int 1)))) [some (.ref a), some (.ref Kd), some (.ref R), x3, x4] H3 (.str z) := ev_op (ev_var rfl) (ev_un ev_c ru_neg) (rv_ixL (sq_of (e3 _ _ ha)) (atI_end (by rw [List.length_map, hm', List.getElem?_map]; show Option.map V.str ws[m]? = _; rw [hz]; rfl)))
      refine q_when (b := st.1) (et_is (et_test (ev_op lastw ev_c (rv_eq rfl))) (by rw [hbz]; exact decide_eq_decide.mpr ⟨fun y => V.str.inj y, fun y => by rw [y]⟩)) (fun hb H4 e4 => ?_) (fun hb H4 e4 => ?_)
      · rw [if_pos hb] at re
        refine raise_two (ea_cons ev_c (ea_cons (ev_is (ev_cb (ea_cons (ev_var rfl) ea_nil) (rc_lenQ (.inl (sq_of ((e3.trans e4) _ _ ha))))) (by rw [List.length_map])) ea_nil)) ((kE _ re).mono (e3.trans e4))
      · rw [if_neg (by rw [hb]; decide)] at re
        refine s_retU (eu_tup (ea_cons (ev_var rfl) (ea_cons (ev_var rfl) ea_nil)) (by show 2 ≤ 100000; decide)) fun t H5 ht e5 h5 => ?_
        have E5 := e4.trans e5
        exact kQ _ re t Kd R xs H5 (e3.trans E5) h5 (E5 _ _ g1) (E5 _ _ g2) ((gs.mono E5).all.less.less)
end
end K17
namespace K17
open PySem L2 Evl Gr StX EnT MkS StK Kn
/-! ### tells_mute, of any phases -/
def gT (ps : List Ph) (i : Nat) (a : Nat) : Bool := (cyc ps ((i : Int) - (a : Int))).1
def preT (ps : List Ph) (i j : Nat) : List Bool := ((cyc ps (i : Int)).2.take j).flatMap fun l => l.map (gT ps i)
def telB (ps : List Ph) (i : Nat) : Bool := ((cyc ps (i : Int)).2.flatMap fun l => l.map (gT ps i)).any id
theorem flat_len {f : Nat → Bool} : ∀ {L : List (List Nat)}, (∀ l ∈ L, l.length ≤ 4) → (L.flatMap fun l => l.map f).length ≤ 4 * L.length
  | [], _ => Nat.le_refl _
  | l :: L, h => by
    have a := flat_len (f := f) (L := L) fun x hx => h x (List.mem_cons_of_mem _ hx)
    have b := h l (List.mem_cons_self ..)
    rw [List.flatMap_cons, List.length_append, List.length_map, List.length_cons]
    omega
theorem preT_len {ps : List Ph} {i j : Nat} (h : ∀ l ∈ (cyc ps (i : Int)).2, l.length ≤ 4) : (preT ps i j).length ≤ 4 * j := by
  have a := flat_len (f := gT ps i) (L := (cyc ps (i : Int)).2.take j) fun l hl => h l (List.mem_of_mem_take hl)
  rw [List.length_take] at a
  unfold preT
  omega
theorem preT_next {ps : List Ph} {i j : Nat} {l : List Nat} (h : (cyc ps (i : Int)).2[j]? = some l) : preT ps i (j + 1) = preT ps i j ++ l.map (gT ps i) := by
  unfold preT
  rw [List.take_add_one, h, List.flatMap_append]
  simp
section
variable {P : Program} {w : World} {K : PySem.W.Frag} {mg : Str → Option Value} {base : Heap}
def spTelE (K : PySem.W.Frag) (C : Addr) : Sp := fun vs H Q _ => ∃ (a : Addr) (i : Nat) (xs : List V) (ps : List Ph), vs = [.ref a, .int (i : Int)] ∧ SqT K H a xs ∧ PRow K C H xs ps ∧ i < ps.length ∧ RetV (.bl (telB ps i)) H Q
theorem ok_TelE {C f : Addr} {fd : FuncData} (F : Fun K "tells_mute" "tells_mute" sTel f fd) (G : PhC K C) (S : GlbS mg) (I : GlbE mg) : FnOk P w K mg base CX0 1 f fd ["phases", "at"] (spTelE K C) := by
  refine F.ok scTel (fun vs H Q E h => ?_) (fun cdv A outer s H vs Q E hr h => ?_)
  · obtain ⟨a, i, xs, ps, rfl, _⟩ := h
    rfl
  · obtain ⟨a, i, xs, ps, rfl, hx, row, hi, k⟩ := h
    refine ⟨_, (pss_one (ps_ret (pe_callB (cr_any rfl) (by rfl) I.any (by decide +kernel) (pa_cons (pe_lc2 (te := teTel K) (own := [("ages", 2), ("age", 3)]) (vs1 := [3]) (g := gName 2) (g1 := gName 3) (wi1 := iTup K (tVar 2)) rfl scTel.nd (pi_tup (pe_fld (pe_ix (show IxR _ (rIxT K) from ix_tup) (pv 0) (pv 1) (fun _ _ => rfl)) rfl)) (blkOk_by (own := [("ages", 2), ("age", 3)]) (N := nTel) (sc := defScope sTel) (by decide +kernel)) (by decide)
        (fun _ _ _ _ _ => pg_name (i := 2) scTel.nd rfl (Or.inl rfl)) (fun _ _ _ _ _ => pts_nil)
        (fun _ _ _ _ _ => pi_tup (pv 2)) (fun _ _ _ _ _ => pg_name (i := 3) scTel.nd rfl (Or.inl rfl)) (fun _ _ _ _ _ => pts_nil)
        (fun _ _ _ _ _ => pe_fld (pe_ix (show IxR _ (rIxT K) from ix_tup) (pv 0) (pe_op op_mod (pe_op op_sub (pv 1) (pv 3)) (pe_callB call_len_seq (by rfl) S.len PySem.boot_len (pa_cons (pv 0) pa_nil))) (fun _ _ => rfl)) rfl)) pa_nil)))), ?_⟩
    have pi := cyc_small hi
    obtain ⟨o, o1, o2⟩ := row.to pi
    obtain ⟨dx, q, ys, q1, q2, q3, q4⟩ := id o2
    refine s_ret (v := .bl (telB ps i)) (fun H3 e3 Q3 q3' => ?_) k
    refine ⟨_, rfl, _, rfl, a, xs, (i : Int), .ref o, rfl, rfl, ex_t e3 hx, atI_nat o1, ?_⟩
    refine ⟨o, C, dx, _, _, rfl, e3 _ _ q1, G.cls, G.sums, rfl, q, rfl, ⟨ys, ex_t e3 q2⟩, fun D hD => ?_⟩
    refine lc2_it (n := ys.length) (walk_tup (K := K) (a := q) (xs := ys)) (σ := [some (.ref a), some (.int (i : Int)), none, none]) (H1 := H3) (D := D) (fun j H' => Ex H3 H' ∧ H' D = some (.lst ((preT ps i j).map V.bl))) ⟨Ex.new hD, upd_same⟩ (fun _ H' _ h => ex_t (e3.trans h.1) q2) (fun j x H' H'' hj h y => ?_) (fun H' h => ?_)
    · obtain ⟨rfl, hxj⟩ := y
      obtain ⟨b, l, hl, rfl, hb⟩ := q3.at hxj
      have lm := List.mem_of_getElem? hl
      have al := q4.1 l lm
      refine ⟨rfl, ?_⟩
      refine ⟨_, rfl, b, rfl, ⟨vN l, st_of ((e3.trans h.1) _ _ hb)⟩, in2_it (n1 := (vN l).length) (walk_tup (K := K) (a := b) (xs := vN l)) (H4 := H'') (D := D) (fun m H' => Ex H3 H' ∧ H' D = some (.lst ((preT ps i j ++ (l.take m).map (gT ps i)).map V.bl))) (by rw [List.take_zero, List.map_nil, List.append_nil]; exact h) (fun _ H' _ h => st_of ((e3.trans h.1) _ _ hb)) (fun m y Ha Hb hm hq ym => ?_) (fun Ha ha => ?_)⟩
      · obtain ⟨rfl, hym⟩ := ym
        obtain ⟨g, hg, rfl⟩ := vN_get hym
        refine ⟨rfl, ?_⟩
        obtain ⟨hq1, n2⟩ := hq
        have E := e3.trans hq1
        have ln : Ev (tCB (rLen K) (tCons (tVar 0) tNil)) [some (.ref a), some (.int (i : Int)), some (.ref b), some (.int (g : Int))] Hb (.int (ps.length : Int)) := ev_is (ev_cb (ea_cons (ev_var rfl) ea_nil) (rc_lenQ (.inr (ex_t E hx)))) (by rw [row.1])
        obtain ⟨o', w1, w2⟩ := ev_cyc (K := K) (C := C) (ta := tVar 0) (σ := [some (.ref a), some (.int (i : Int)), some (.ref b), some (.int (g : Int))]) (tb := tOp (rI (fun _ j => 0 < j) fun i j => .int (i % j)) (tOp (rI0 fun i j => .int (i - j)) (tVar 1) (tVar 3)) (tCB (rLen K) (tCons (tVar 0) tNil))) (i := (i : Int) - (g : Int)) (ev_var rfl) (ev_op (ev_op (ev_var rfl) (ev_var rfl) rv_I0) ln (rv_I (by omega))) (ex_t E hx) (row.mono E) (by omega) (R := fun _ _ => True)
        have mu := ev_mute G w1 w2
        have l4 := al.2.1
        have vl := vN_len (l := l)
        have j4 : j < 4 := by have := q3.1; have := q4.2; omega
        have pl := preT_len (ps := ps) (i := i) (j := j) fun l hl => (q4.1 l hl).2.1
        refine mu Hb (Ex.refl Hb) _ fun Hc ec => ⟨_, ec _ _ n2, by rw [List.length_map, List.length_append, List.length_map, List.length_take]; exact sz_lt (by omega), Ex.mut (hq1.trans ec) hD, ?_⟩
        rw [upd_same, List.take_add_one, hg, List.map_append, List.map_append, List.map_append, List.map_append, List.append_assoc]
        rfl
      · obtain ⟨h1, n2⟩ := ha
        refine ⟨h1, ?_⟩
        rw [n2, vN_len, List.take_length, preT_next hl]
    · obtain ⟨h1, n2⟩ := h
      refine ⟨D, preT ps i ys.length, rfl, sq_of n2, ?_⟩
      rw [show (preT ps i ys.length).any id = telB ps i from by unfold telB preT; rw [q3.1, List.take_length]]
      exact q3' H' h1
end
end K17
namespace K17
open PySem L2 Evl Gr StX EnT MkS StK ClX ClK RdX Kn
/-! ### Plan.__init__, right and wrong -/
def allM (ps : List Ph) : Bool := (List.range ps.length).all fun i => (cyc ps (i : Int)).1
section
variable {P : Program} {w : World} {K : PySem.W.Frag} {mg : Str → Option Value} {base : Heap}
def spPlE (K : PySem.W.Frag) (CP C CB : Addr) : Sp := fun vs H Q E => ∃ (o p dx : Addr) (xs : List V) (ps : List Ph), vs = [.ref o, .ref p] ∧ H o = some (.ins CP dx []) ∧ SqT K H p xs ∧ PRow K C H xs ps ∧ 1 ≤ ps.length ∧ ps.length ≤ 4 ∧
  (allM ps = true → Out1 CB "part" (.str "mute") H E) ∧
  (∀ i, i < ps.length → allM ps = false → telB ps i = true → (∀ j < i, telB ps j = false) → Out1 CB "part" (.int (i : Int)) H E) ∧
  (allM ps = false → (∀ i, i < ps.length → telB ps i = false) → ∀ H', Keep o H H' → PlAt K CP C H' o ps → Q .non H')
def spPlAE (K : PySem.W.Frag) (CP C CB : Addr) : Sp := fun vs H Q E => ∃ ws rest, vs = ws ++ rest ∧ ws.length = (["self"] : List Str).length ∧ rest.length ≤ sizeLine ∧ ∀ p, H p = none → spPlE K CP C CB (ws ++ [V.ref p]) (L2.upd H p (.tup rest)) Q E
theorem ok_PlE {CP C CB fB f : Addr} {fd fdB : FuncData} (F : Fun K "__init__" "Plan.__init__" (sPl 0) f fd) (GP : PlC K CP) (G : PhC K C) (IP : GIsi K C) (gC : mg "Phase" = some (.ref C)) (T : GlbT mg) (S : GlbS mg) (I : GlbE mg) (hm : ∃ t, mg "MOST_PHASES" = some (.int 4 t))
    (GT : Gfn P w K mg base 1 "tells_mute" ["phases", "at"] (spTelE K C)) (B : GOne P w K mg base "BadPlan" "part" CB fB fdB) : FnR P w K mg base (L2.CX P w) 4 f (spPlAE K CP C CB) := by
  obtain ⟨fT, fdT, GT, kT, bT, gT⟩ := GT
  obtain ⟨t4, hm⟩ := hm
  obtain ⟨oc, od, kV, doc, pm, an, cdv, ct, osl, rfl, lk, hcd⟩ := F.ex
  refine fn_star (ps := ["self"]) (sp := spPlE K CP C CB) lk hcd scPl cxUp (bind_star1 (B := fun us => bindArgs (PySem.W.fnOf "__init__" "Plan.__init__" (defArgs (sPl 0)) (defBody (sPl 0)) (defScope (sPl 0)) .none kV doc pm an cdv ct) ⟨us, []⟩) (fun a => rfl) fun a r rs => rfl) (fun A outer s H vs Q E hr h => ?_)
  obtain ⟨o, p, dx, xs, ps, rfl, hO, hP, row, l1, l4, kM, kX, k⟩ := h
  have r1 := hr.mono (show 1 ≤ 3 by decide)
  have r2 := hr.mono (show 2 ≤ 3 by decide)
  refine ⟨_, (pss_cons (ps_for (passes_of rfl) rfl (pi_enumT (by rfl) I.enum (pa_cons (pv 1) pa_nil)) (pg_tup rfl (pgs_cons (pg_name (i := 2) scPl.nd rfl (.inl rfl)) (pgs_cons (pg_name (i := 3) scPl.nd rfl (.inl rfl)) pgs_nil)))
      (pss_one (ps_if (pt_not (pt_val (pe_callB call_isi (by rfl) T.inst (by decide +kernel) (pa_cons (pv 3) (pa_cons (pe_glob (v := .ref C) (by rfl) gC (by rfl)) pa_nil))))) (pss_one ps_no) pss_nil)))
      (pss_cons (ps_if (pt_not (pt_chain op_le op_le pe_int (pe_callB call_len_seq (by rfl) S.len PySem.boot_len (pa_cons (pv 1) pa_nil)) (pe_glob (v := .int 4) (by rfl) hm ⟨t4, rfl⟩))) (pss_one ps_no) pss_nil)
      (pss_cons (ps_if (pt_val (pe_callB (cr_all rfl) (by rfl) I.all (by decide +kernel) (pa_cons (pe_lc (te := tFld K (tVar 3) "mute") (own := [("phase", 3)]) (g := gName 3) rfl scPl.nd (pi_tup (pv 1)) (blkOk_by (own := [("phase", 3)]) (N := nPl) (sc := defScope (sPl 0)) (by decide +kernel)) (fun _ _ _ _ _ => pg_name (i := 3) scPl.nd rfl (Or.inl rfl)) (fun _ _ _ _ _ => pts_nil)
      (fun _ _ _ _ _ => pe_fld (pv 3) rfl)) pa_nil))) (pss_one (ps_raise rfl (takes_of rfl rfl rfl rfl) (pmk_oex B.ox B.init B.ty B.ok r2 B.b .nil pass0 (by rfl) B.g (pa_cons pe_str pa_nil)))) pss_nil)
      (pss_cons (ps_for (passes_of rfl) rfl (pi_range1 (by rfl) S.range (pa_cons (pe_callB call_len_seq (by rfl) S.len PySem.boot_len (pa_cons (pv 1) pa_nil)) pa_nil)) (pg_name (i := 2) scPl.nd rfl (.inl rfl))
      (pss_one (ps_if (pt_val (pe_call GT r1 (by rfl) gT kT bT .nil pass0 (pa_cons (pv 1) (pa_cons (pv 2) pa_nil)))) (pss_one (ps_raise rfl (takes_of rfl rfl rfl rfl) (pmk_oex B.ox B.init B.ty B.ok r2 B.b .nil pass0 (by rfl) B.g (pa_cons (pv 2) pa_nil)))) pss_nil)))
      (pss_one (PS.calm_ (ps_fld (pv 0) (pv 1) (by rfl)))))))), ?_⟩
  have ln : ∀ {x y : Option V} {H1 : Hp}, Ex H H1 → Ev (tCB (rLen K) (tCons (tVar 1) tNil)) [some (.ref o), some (.ref p), x, y] H1 (.int (ps.length : Int)) := fun e => ev_is (ev_cb (ea_cons (ev_var rfl) ea_nil) (rc_lenQ (.inr (ex_t e hP)))) (by rw [row.1])
  refine q_forNT (K := K) (a := p) (xs := xs) (ea_cons (ev_var rfl) ea_nil) hP (fun _ σ' H' => (∃ x1 x2 : Option V, σ' = [some (.ref o), some (.ref p), x1, x2]) ∧ Ex H H') (fun H2 e2 => ⟨⟨none, none, rfl⟩, e2⟩) (fun _ _ H' _ q => ex_t q.2 hP) ?_ ?_
  · rintro i z σ' H2 T2 hz ⟨⟨x1, x2, rfl⟩, e2⟩ hT2
    have e3 := e2.trans (Ex.new (o := .tup [.int (i : Nat), z]) hT2)
    refine ⟨T2, [.int (i : Nat), z], rfl, st_of upd_same, rfl, _, _, rfl, _, _, rfl, rfl, ?_⟩
    obtain ⟨b, q, hq, rfl, hb⟩ := row.at hz
    obtain ⟨dx', fs, hi⟩ := (hb.mono e3).ins
    exact s_if (b := false) (et_is (et_not (et_B (ev_cb (ea_cons (ev_var rfl) (ea_cons ev_c ea_nil)) (rc_own G.cls IP hi)))) rfl) (fun z => absurd z (by decide)) fun _ H3 e4 => ⟨⟨_, _, rfl⟩, e3.trans e4⟩
  rintro σ' H2 ⟨⟨x1, x2, rfl⟩, e2⟩
  refine q_when (b := false) (et_is (et_not (et_test (ev_chain ev_c (ln e2) ev_c))) ?_) (fun z => absurd z (by decide)) (fun _ H3 e3 => ?_)
  · show (!(decide ((1 : Int) ≤ (ps.length : Int)) && decide ((ps.length : Int) ≤ 4))) = false
    rw [decide_eq_true (by omega), decide_eq_true (by omega)]
    rfl
  have E3 := e2.trans e3
  have row3 := row.mono E3
  have c := el_tup (K := K) (σ := [some (.ref o), some (.ref p), x1, x2]) (H := H3) (t := tYes) (te := tFld K (tVar 3) "mute") (xs := xs) (tl := tVar 1) (j := 3) (vs := [3]) (fun _ => true) (fun i => V.bl (cyc ps (i : Int)).1) (etu_var rfl (ex_t E3 hP)) (by rw [row.1]; omega) (fun _ => rfl) (fun i x H1 e hi => et_none) (fun i x H1 e hi _ => by
    obtain ⟨b, q, hq, rfl, hb⟩ := row3.at hi
    have := cyc_small (List.getElem?_eq_some_iff.mp hq).1
    rw [hq] at this
    rw [← Option.some.inj this]
    exact ev_mute G (ev_var rfl) (hb.mono e))
  rw [given_all] at c
  have c2 : (List.range xs.length).map (fun i : Nat => V.bl (cyc ps (i : Int)).1) = ((List.range xs.length).map fun i : Nat => (cyc ps (i : Int)).1).map V.bl := by rw [List.map_map]; rfl
  rw [c2] at c
  refine q_when (b := allM ps) (et_is (et_B (ev_all c)) ?_) (fun hb H4 e4 => raise_one (ea_cons ev_c ea_nil) ((kM hb).mono (E3.trans e4))) (fun hb H4 e4 => ?_)
  · rw [List.all_map, row.1]
    rfl
  have E4 := E3.trans e4
  refine q_forR1 (j := 2) (n := (ps.length : Int)) (ea_cons (ln E4) ea_nil) ⟨by omega, by omega⟩ (fun n σ' H' => (∀ j < n, telB ps j = false) ∧ (∃ x1 x2 : Option V, σ' = [some (.ref o), some (.ref p), x1, x2]) ∧ Ex H H') (fun H5 e5 => ⟨fun j hj => absurd hj (by omega), ⟨_, _, rfl⟩, E4.trans e5⟩) ?_ ?_
  · rintro i σ' H5 hi ⟨before, ⟨y1, y2, rfl⟩, e5⟩
    refine s_if (b := telB ps i) (et_B (ev_call (z := .bl (telB ps i)) (ea_cons (ev_var rfl) (ea_cons (ev_var rfl) ea_nil)) fun H6 e6 Q6 q6 E6 => ⟨p, i, xs, ps, rfl, ex_t (e5.trans e6) hP, row.mono (e5.trans e6), by omega, q6⟩)) (fun hb6 H6 e6 => raise_one (ea_cons (ev_var rfl) ea_nil) ((kX i (by omega) hb hb6 before).mono (e5.trans e6))) fun hb6 H6 e6 => ⟨fun j hj => ?_, ⟨_, _, rfl⟩, e5.trans e6⟩
    rcases Nat.lt_or_ge j i with c | c
    · exact before j c
    · obtain rfl : j = i := by omega
      exact hb6
  · rintro σ' H5 ⟨none_, ⟨y1, y2, rfl⟩, e5⟩
    have hO5 := e5 _ _ hO
    refine ⟨_, rfl, _, rfl, o, CP, dx, [], rfl, hO5, GP.cls, GP.phases, Nat.le_of_ble_eq_true rfl, ?_⟩
    exact k hb (fun j hj => none_ j (by omega)) _ (fun c u hc hn => by rw [upd_ne hn]; exact e5 _ _ hc) ⟨dx, p, xs, upd_same, sqT_upd (ex_t e5 hP) hO5, prow_upd (row.mono e5) hO5, l1, l4⟩
end
end K17
namespace StK
open PySem PySem.Spec PyProof.Rows L2 StX ClX PySem.Calls
/-! ### C(*y, x = v): a star alone, and keywords behind it -/
section
variable {M : Model} {A : Around} {E : Value → Shared → Prop} {s : Shared} {f v : Value} {first : List Value} {x : Sem Value} {pos : Pos} {kws : List (Option Str × Sem Value)}
/-- the arguments: y is told, then the keywords, then y is read -/
theorem args_starK {Q : Args → Shared → Prop} (all_ : kws.all (·.1.isSome) = true)
    (h : wpAny M A x (fun y s1 => wpAny M A (evalAll (kws.map (·.2))) (fun ks s2 => PySem.W.StarOf M A E y (fun ys s3 => Q ⟨ys, (kws.filterMap (·.1)).zip ks⟩ s3) s2) E s1) E s) :
    wpAny M A (evalArgs f true [(true, (do let y ← x; standAt pos; pure y))] kws) Q E s := by
  unfold evalArgs
  refine wpAny_bind (wpAny_bind (wpAny_mono h (fun y s1 h1 => wpAny_bind (wpAny_standAt (wpAny_pure (wpAny_bind (wpAny_pure ?_))))) fun _ _ z => z))
  refine wpAny_holding ?_
  dsimp only
  rw [if_pos all_]
  refine wpAny_bind (wpAny_mono h1 (fun ks s2 h2 => ?_) fun _ _ z => z)
  unfold PySem.W.StarOf at h2
  refine wpAny_bind (wpAny_bind (wpAny_mono h2 (fun b s3 h3 => ?_) fun _ _ z => z))
  obtain ⟨rfl, h3⟩ := h3
  exact wpAny_holding (wpAny_mono h3 (fun ys s4 h4 => wpAny_pure h4) fun _ _ z => z)
/-- the call behind it -/
theorem call_starK {Q : Value → Shared → Prop} {P : Heap → Prop} {args : List (Bool × Sem Value)} (star_ : args.any (·.1) = true)
    (keeps : ∀ h, P h → ∃ k, (k = Keeper.frame ∨ k = Keeper.machine ∨ k = Keeper.boundFrame) ∧ PySem.W.Looks M h (keeperOf f) k)
    (h : wpAny M A (evalArgs f true args kws) (fun a s1 => P s1.heap ∧ wpAny M A (call f (first ++ a.pos) a.kw) Q E s1) E s) : wpAny M A (callWith pos f first args kws) Q E s := by
  unfold callWith
  refine wpAny_bind (wpAny_holding (wpAny_mono h (fun a s1 h1 => wpAny_bind (wpAny_standAt ?_)) fun _ _ z => z))
  obtain ⟨k, which, L⟩ := keeps _ h1.1
  simp only [star_, Bool.true_or]
  refine wpAny_bind (L.here ?_)
  have done : ∀ {m : Sem Value}, wpAny M A m Q E s1 → wpAny M A (m >>= fun r => holding [r] point >>= fun _ => pure r) Q E s1 :=
    fun hm => wpAny_bind (wpAny_mono hm (fun r s2 hr => wpAny_bind (wpAny_holding (wpAny_point (wpAny_pure hr)))) fun _ _ z => z)
  have mark (mk : Value) : wpAny M A (callMarked mk f (first ++ a.pos) a.kw) Q E s1 := by
    unfold callMarked
    exact Calls.wpAny_keep h1.2
  rcases which with rfl | rfl | rfl
  · exact done (mark _)
  · exact done (wpAny_operating h1.2)
  · exact done (wpAny_operating h1.2)
end
/-- C(*y, x = v) -/
def tMakeSKS (K : PySem.W.Frag) (C : Addr) (sp : SpK) (E : XK) (te : TE) (tk : TA) : TE := fun σ H Q => te σ H fun y H1 => ∃ a, y = V.ref a ∧ tk σ H1 fun zs H2 => ∃ z xs, zs = [z] ∧ (SqT K H2 a xs ∨ SqL K H2 a xs) ∧ ∀ o dx, H2 o = Option.none → H2 dx = Option.none → dx ≠ o →
  sp (V.ref o :: xs) z (upd (upd H2 dx (.own o)) o (.ins C dx [])) (fun v H3 => v = .non ∧ Q (.ref o) H3) E
section
variable {X : Cx} {CX : CXT} {E : XK} {k : Nat} {C f : Addr} {n x : Str} {sp : SpK} {te : TE} {tk : TA} {e : Expr} {kws : List Keyword} {p q pos : Pos}
theorem pe_makeSKS (M : Mk X.K C f) (F : FnRK X.prog X.w X.K X.mg X.base CX k f x sp) (hr : Room (k + 1) X.A) (hg : Gl X n) (hm : X.mg n = some (.ref C)) (hx : Passes CX X E) (he : PE X e te) (hkw : PK X kws tk)
    (hall : (backToKw pos (keywordEach kws X.env)).all (·.1.isSome) = true := by rfl) (hks : (backToKw pos (keywordEach kws X.env)).filterMap (·.1) = [x] := by rfl) (hdb : (n == ("__debug__" : Str)) = false := by decide)
    (hst : starEach [.Starred e q] X.env = [(true, eval e X.env)] := by rfl) : PE X (.Call (.Name n p) [.Starred e q] kws pos) (tMakeSKS X.K C sp E te tk) := by
  refine ⟨fun pins s σ H Q I h => ?_⟩
  refine wpAny_Call_Name_kw (ld_glob I hg hm ?_ hdb)
  rw [hst]
  refine call_starK rfl (PySem.W.keeps_K M.kp) (args_starK hall (thn (he.run pins s σ H _ I h) fun v s1 ⟨y, H1, I1, ry, a, ey, q1⟩ => ?_))
  subst ey
  obtain rfl : v = Value.ref a := ry
  refine thn (hkw.run pos pins s1 σ H1 _ I1 q1) fun ws s2 ⟨zs, H2, I2, rz, z, xs, ez, hxs, q2⟩ => ?_
  subst ez
  obtain ⟨u, eu, ru⟩ := vals1 rz
  subst eu
  rw [hks]
  exact star_any I2 hxs fun us s3 I3 rv => ⟨I3.kIn, run_makeSK M F hr hx I3 rv ru q2⟩
end
end StK
namespace K17
open PySem L2 Evl Gr StX EnT Kn
/-! ### a walk over two lists side by side; sums in order stand in one order alone; words_of -/
theorem q_forZL {K : PySem.W.Frag} {σ : L2.St} {H : Hp} {a b : Addr} {xs ys : List V} {ta : TA} {g : TG} {tu tz : TS} {D : Ends} (h : EvA ta σ H [.ref a, .ref b]) (hx : SqL K H a xs) (hy : SqL K H b ys) (len : ys.length = xs.length) (Pv : Nat → L2.St → Hp → Prop) (h0 : ∀ H1, Ex H H1 → Pv 0 σ H1)
    (hl : ∀ i σ' H', i ≤ xs.length → Pv i σ' H' → SqL K H' a xs ∧ SqL K H' b ys)
    (hs : ∀ i x y σ' H' T, xs[i]? = some x → ys[i]? = some y → Pv i σ' H' → H' T = none → g (.ref T) σ' (L2.upd H' T (.tup [x, y])) fun σ2 H2 => tu { D with nx := Pv (i + 1), ct := Pv (i + 1), bk := tz D } σ2 H2)
    (hd : ∀ σ' H', Pv xs.length σ' H' → tz D σ' H') : tSeq (tFor (iZip K ta) g tu) tz D σ H :=
  h H (Ex.refl H) _ fun H1 e1 => ⟨a, b, xs, ys, rfl, ex_l e1 hx, ex_l e1 hy, for_it (D := { D with nx := tz D }) (walk_zip (n := xs.length) (by omega)) Pv (h0 H1 e1) hl (fun i v σ' H' H2 hi p y => by
    obtain ⟨T, x, z, rfl, hn, rfl, ex, ez⟩ := y
    exact hs i x z σ' H' T ex ez p hn) hd⟩
theorem lex_anti : ∀ {a b : List Nat}, HT.lexLt (zI a) (zI b) = false → HT.lexLt (zI b) (zI a) = false → a = b
  | [], [], _, _ => rfl
  | [], _ :: _, h, _ => by cases h
  | _ :: _, [], _, h => by cases h
  | x :: a, y :: b, h, h' => by
    have e1 : HT.lexLt (zI (x :: a)) (zI (y :: b)) = if (x : Int) = (y : Int) then HT.lexLt (zI a) (zI b) else decide ((x : Int) < (y : Int)) := rfl
    have e2 : HT.lexLt (zI (y :: b)) (zI (x :: a)) = if (y : Int) = (x : Int) then HT.lexLt (zI b) (zI a) else decide ((y : Int) < (x : Int)) := rfl
    rw [e1] at h
    rw [e2] at h'
    by_cases c : (x : Int) = (y : Int)
    · rw [if_pos c] at h
      rw [if_pos c.symm] at h'
      rw [lex_anti h h', Int.ofNat_inj.mp c]
    · rw [if_neg c] at h
      rw [if_neg fun z => c z.symm] at h'
      have := of_decide_eq_false h
      have := of_decide_eq_false h'
      omega
theorem asc_one {ss ss' : List (List Nat)} (h : Asc ss) (h' : Asc ss') (p : ss'.Perm ss) : ss' = ss :=
  p.eq_of_pairwise (fun a b _ _ x y => lex_anti y x) h' h
section
variable {P : Program} {w : World} {K : PySem.W.Frag} {mg : Str → Option Value} {base : Heap}
def spWo : Sp := fun vs H Q _ => ∃ z : Str, vs = [.str z] ∧ z.length ≤ 10000 ∧ ∀ p H', H p = none → Ex H H' → H' p = some (.lst ((Txt.split z " ").map V.str)) → Q (.ref p) H'
theorem scWo : FnScope ["text"] ["text"] (defScope (top 9)) := ⟨rfl, rfl, rfl, by decide +kernel, rfl, by decide +kernel, by decide +kernel⟩
theorem ok_Wo {f : Addr} {fd : FuncData} (F : Fun K "words_of" "words_of" (top 9) f fd) (T : GlbT mg) : FnOk P w K mg base CX0 1 f fd ["text"] spWo := by
  refine F.ok scWo (fun vs H Q E h => ?_) (fun cdv A outer s H vs Q E hr h => ?_)
  · obtain ⟨z, rfl, _⟩ := h
    rfl
  · obtain ⟨z, rfl, hl, k⟩ := h
    refine ⟨_, pss_cons (ps_if (pt_not (pt_val (pe_callB call_isi (by rfl) T.inst (by decide +kernel) (pa_cons (pv 0) (pa_cons (pe_bltn (v := .ty "str") (by rfl) T.str (by decide +kernel) rfl) pa_nil))))) (pss_one ps_no) pss_nil)
      (pss_one (ps_ret (pe_split (pv 0) pe_str))), ?_⟩
    refine q_when (b := false) (et_is (et_not (et_B (ev_cb (ea_cons (ev_var rfl) (ea_cons ev_c ea_nil)) (rc_isi (.base (.str _)) (by decide +kernel : kitB "str" "str" = some true))))) rfl) (fun hb => absurd hb (by decide)) (fun _ H1 e1 => ?_)
    refine ⟨_, rfl, ⟨_, rfl⟩, _, " ", rfl, rfl, by decide +kernel, sz_of (n := z.length + 2) (by omega), ?_⟩
    exact fun p hp => k p _ (fresh_back e1 hp) (e1.trans (Ex.new hp)) (by rw [upd_same])
end
end K17
namespace K17
open PySem L2 Evl Gr StX EnT MkS StK ClX ClK RdX Kn
/-! ### Plan.read -/
theorem q_asgC {σ : L2.St} {H : Hp} {tb : TA} {vs : List V} {sp1 sp2 : Sp} {E1 E2 : XK} {g : TG} {tz : TS} {D : Ends} (h : EvA tb σ H vs) (k : ∀ H1, Ex H H1 → sp1 vs H1 (fun v H2 => sp2 [v] H2 (fun u H3 => g u σ H3 (tz D)) E2) E1) : tSeq (tAsg (tCall sp2 [] E2 (tCons (tCall sp1 [] E1 tb) tNil)) g) tz D σ H :=
  h H (Ex.refl H) _ fun H1 e => by
    have := k H1 e
    rw [List.append_nil]
    exact this
section
variable {K : PySem.W.Frag} {CP C CB : Addr} {σ : L2.St} {H : Hp} {te : TE} {tk : TA} {E : XK} {ps : List Ph} {xs : List V}
theorem pl_toldE {Q : VK} {o dx : Addr} (ho : H o = none) (hd : H dx = none) (hn : dx ≠ o) (row : PRow K C H xs ps) (l1 : 1 ≤ ps.length) (l4 : ps.length ≤ 4) (kM : allM ps = true → Out1 CB "part" (.str "mute") H E)
    (kX : ∀ i, i < ps.length → allM ps = false → telB ps i = true → (∀ j < i, telB ps j = false) → Out1 CB "part" (.int (i : Int)) H E)
    (k : allM ps = false → (∀ i, i < ps.length → telB ps i = false) → ∀ o H2, Ex H H2 → PlAt K CP C H2 o ps → Q (.ref o) H2) :
    spPlAE K CP C CB (V.ref o :: xs) (upd (upd H dx (.own o)) o (.ins CP dx [])) (fun v H3 => v = .non ∧ Q (.ref o) H3) E := by
  have e3 : Ex H (upd (upd H dx (.own o)) o (.ins CP dx [])) := (Ex.new hd).trans (Ex.new (by rw [upd_ne hn.symm]; exact ho))
  refine ⟨[.ref o], xs, rfl, rfl, sz_of (by rw [row.1]; omega), fun p hp => ?_⟩
  have e4 := Ex.new (o := .tup xs) hp
  exact ⟨o, p, dx, xs, ps, rfl, e4 _ _ upd_same, st_of upd_same, row.mono (e3.trans e4), l1, l4, fun h => (kM h).mono (e3.trans e4), fun i hi a b c => (kX i hi a b c).mono (e3.trans e4),
    fun a b H' kp h1 => ⟨rfl, k a b o H' (fun c u hc => kp c u (e4 _ _ (e3 _ _ hc)) (ne_of_none hc ho)) h1⟩⟩
theorem ep_SKS {s : Addr} {ys : List V} {m : Bool} {ss : List (List Nat)} (h : Ev te σ H (.ref s)) (hs : H s = some (.lst ys)) (row : TRow H ys ss) (hk : EvA tk σ H [.bl m]) (ok : PhOk ss) (nd : ss.Nodup) :
    EvPh K C (tMakeSKS K C (starSp (spPh K C)) E te tk) σ H (m, ss) := fun H1 e Q q =>
  h H1 e _ fun H2 e2 => ⟨s, rfl, hk H2 (e.trans e2) _ fun H3 e3 => ⟨.bl m, ys, rfl, .inr (sq_of (((e.trans e2).trans e3) _ _ hs)), fun o dx ho hd hn =>
    ph_told ho hd hn (row.mono ((e.trans e2).trans e3)) ok nd fun o ss' H4 e4 => q o ss' H4 ((e2.trans e3).trans e4)⟩⟩
theorem PhAt.asc {o : Addr} {p : Ph} (h : PhAt K C H o p) : Asc p.2 := by
  obtain ⟨_, _, _, _, _, _, h⟩ := h
  exact h.2.2
end
section
variable {P : Program} {w : World} {K : PySem.W.Frag} {mg : Str → Option Value} {base : Heap}
abbrev nRd : List Str := ["cls", "text", "kinds", "rows", "phases", "kind", "sums", "is_mute"]
def spRd (K : PySem.W.Frag) (CP C CT CB : Addr) : Sp := fun vs H Q E => ∃ z : Str, vs = [.ref CP, .str z] ∧ z.length ≤ 10000 ∧ Txt.split z " " ≠ [] ∧ (Txt.split z " ").length ≤ 1000 ∧ (∀ y ∈ Txt.split z " ", WOk y) ∧
  (∀ i, rowsF (Txt.split z " ") = .inl i → Out2 CT "line" "word" (.int 0) (.int (i : Int)) H E) ∧
  ∀ ps, rowsF (Txt.split z " ") = .inr ps → 1 ≤ ps.length ∧ ps.length ≤ 4 ∧ (∀ p ∈ ps, PhOk p.2 ∧ p.2.Nodup ∧ Asc p.2) ∧ (allM ps = true → Out1 CB "part" (.str "mute") H E) ∧
    (∀ i, i < ps.length → allM ps = false → telB ps i = true → (∀ j < i, telB ps j = false) → Out1 CB "part" (.int (i : Int)) H E) ∧
    (allM ps = false → (∀ i, i < ps.length → telB ps i = false) → ∀ o H', Ex H H' → PlAt K CP C H' o ps → Q (.ref o) H')
theorem scRd : FnScope nRd ["cls", "text"] (defScope (sPl 9)) := ⟨rfl, rfl, rfl, by decide +kernel, rfl, by decide +kernel, by decide +kernel⟩
theorem ok_Rd {CP C CT CB fP fI fR fW f : Addr} {fd fdR fdW : FuncData} (F : Fun K "read" "Plan.read" (sPl 9) f fd) (G : GPl P w K mg base CP C fP fI) (FP : FnR P w K mg base (L2.CX P w) 4 fP (spPlAE K CP C CB)) (hz : mg "zip" = none)
    (GW : FnOk P w K mg base CX0 1 fW fdW ["text"] spWo) (kW : PySem.W.keepIn K (.ref fW) = true) (bW : Binds K fdW ["text"] []) (gW : mg "words_of" = some (.ref fW))
    (GR : FnOk P w K mg base (L2.CX P w) 4 fR fdR ["words"] (spRof CT)) (kR : PySem.W.keepIn K (.ref fR) = true) (bR : Binds K fdR ["words"] []) (gR : mg "rows_of" = some (.ref fR)) : FnOk P w K mg base (L2.CX P w) 6 f fd ["cls", "text"] (spRd K CP C CT CB) := by
  refine F.okX scRd (fun vs H Q E h => ?_) (fun cdv A outer s H vs Q E hr h => ?_)
  · obtain ⟨z, rfl, _⟩ := h
    rfl
  · obtain ⟨z, rfl, hl, ne, l1000, wok, kB, kQ⟩ := h
    have r4 := hr.mono (show 4 ≤ 5 by decide)
    have r1 := hr.mono (show 1 ≤ 5 by decide)
    refine ⟨_, pss_cons (ps_asg (pe_call (E := E) GR r4 (by rfl) gR kR bR .nil (passes_call (takes_of rfl rfl rfl rfl) fun _ _ _ _ z => z) (pa_cons (pe_call GW r1 (by rfl) gW kW bW .nil pass0 (pa_cons (pv 1) pa_nil)) pa_nil))
        (pg_tup rfl (pgs_cons (pg_name (i := 2) scRd.nd rfl (.inl rfl)) (pgs_cons (pg_name (i := 3) scRd.nd rfl (.inl rfl)) pgs_nil))))
      (pss_cons (PS.calm_ (ps_set (i := 4) scRd.nd rfl (.inl rfl) (pe_lst pa_nil)))
      (pss_cons (ps_for (passes_of rfl) rfl (pi_zip (by rfl) hz (pa_cons (pv 2) (pa_cons (pv 3) pa_nil))) (pg_tup rfl (pgs_cons (pg_name (i := 5) scRd.nd rfl (.inl rfl)) (pgs_cons (pg_name (i := 6) scRd.nd rfl (.inl rfl)) pgs_nil)))
        (pss_cons (PS.calm_ (ps_set (i := 7) scRd.nd rfl (.inl rfl) (pe_cmpR op_eq (pv 5) pe_str (nomark _))))
        (pss_one (ps_expr (pe_bm PySem.F.plainAttrs_list PySem.F.slot_list_append PySem.F.type_list_append mt_append (pv 4) (pa_cons (pe_makeSKS (E := E0) G.mC G.initK hr (by rfl) G.gC pass0 (pv 6) (pk_cons (pv 7) pk_nil)) pa_nil))))))
      (pss_one (ps_ret (pe_makeLS (i := 0) (E := E) G.mP FP hr rfl (.inl rfl) (passes_call (takes_of rfl rfl rfl rfl) fun _ _ _ _ z => z) (pv 4)))))), ?_⟩
    refine q_asgC (ea_cons (ev_var rfl) ea_nil) fun H1 e1 => ⟨z, rfl, hl, fun p H2 hp e2 h2 => ?_⟩
    have E2 := e1.trans e2
    refine ⟨p, Txt.split z " ", rfl, h2, ne, l1000, wok, fun i hi => (kB i hi).mono E2, fun ps hps t kd R xs H3 e3 h3 hkd hR row => ?_⟩
    obtain ⟨l1, l4, good, kM, kX, k⟩ := kQ ps hps
    have E3 := E2.trans e3
    refine ⟨t, [.ref kd, .ref R], rfl, st_of h3, rfl, _, _, rfl, _, _, rfl, rfl, ?_⟩
    refine q_asgL (xs := []) el_nil fun Fr H4 hF e4 h4 => ?_
    have F3 := fresh_back (Ex.refl H3) hF
    refine q_forZL (K := K) (a := kd) (b := R) (xs := ps.map fun p => V.str (kindOf p)) (ys := xs) (ea_cons (ev_var rfl) (ea_cons (ev_var rfl) ea_nil)) (sq_of (e4 _ _ hkd)) (sq_of (e4 _ _ hR)) (by rw [row.1, List.length_map]) (fun n σ' H' => ∃ (x5 x6 x7 : Option V) (zs : List V), σ' = [some (.ref CP), some (.str z), some (.ref kd), some (.ref R), some (.ref Fr), x5, x6, x7] ∧ Ex H3 H' ∧ H' Fr = some (.lst zs) ∧ PRow K C H' zs (ps.take n))
      (fun H5 e5 => ⟨none, none, none, [], rfl, e4.trans e5, e5 _ _ h4, prow_nil⟩) (fun _ _ H' _ ⟨_, _, _, _, _, e, _⟩ => ⟨sq_of (e _ _ hkd), sq_of (e _ _ hR)⟩) ?_ ?_
    · rintro n x y σ' H5 T hx hy ⟨x5, x6, x7, zs, rfl, e5, g1, g2⟩ hT
      obtain ⟨q, hq, rfl⟩ := nth_map hx
      have eT := Ex.new (o := .tup [V.str (kindOf q), y]) hT
      refine ⟨T, [V.str (kindOf q), y], rfl, st_of upd_same, rfl, _, _, rfl, _, _, rfl, rfl, ?_⟩
      obtain ⟨s, ys, rfl, hs, _, rows⟩ := row.2 n y q hy hq
      obtain ⟨ok, nd, asc⟩ := good q (List.mem_of_getElem? hq)
      refine q_asg (v := .bl q.1) (ev_is (ev_op (ev_var rfl) ev_c (rv_eq rfl)) ?_) fun H6 e6 => ?_
      · unfold kindOf
        cases q.1 <;> decide +kernel
      have E6 := (e5.trans eT).trans e6
      have g16 := e6 _ _ (eT _ _ g1)
      have ln := g2.1
      rw [List.length_take] at ln
      refine ⟨_, rfl, Or.inl ⟨rfl, zs, sq_of g16⟩, ?_⟩
      refine ep_SKS (K := K) (C := C) (m := q.1) (ss := q.2) (ev_var rfl) (E6 _ _ hs) (rows.mono E6) (ea_cons (ev_var rfl) ea_nil) ok nd H6 (Ex.refl H6) _ fun o ss H7 e7 ho pm => ⟨Fr, zs, .ref o, rfl, rfl, e7 _ _ g16, sz_lt (by omega), ?_⟩
      obtain rfl := asc_one asc ho.asc pm
      have g27 := g2.mono ((eT.trans e6).trans e7)
      refine ⟨_, _, _, _, rfl, Ex.mut (E6.trans e7) F3, upd_same, ?_⟩
      rw [List.take_add_one, hq]
      exact prow_updL (prow_snoc g27 ho) (e7 _ _ g16)
    · rintro σ' H5 ⟨x5, x6, x7, zs, rfl, e5, g1, g2⟩
      rw [List.length_map, List.take_length] at g2
      have E5 := E3.trans e5
      refine s_retR ⟨rfl, _, rfl, Fr, zs, rfl, .inr (sq_of g1), fun x dx hx hd hn => ?_⟩
      exact pl_toldE hx hd hn g2 l1 l4 (fun h => (kM h).mono E5) (fun i hi a b c => (kX i hi a b c).mono E5) fun a b o' H6 e6 at_ => k a b o' H6 (E5.trans e6) at_
end
end K17
namespace K17
open PySem L2 Evl Gr StX EnT Kn
/-! ### the rows that a text tells are in order -/
theorem asc_by {l : List Nat} (h : ascB l = true) : ∀ d i, i + d + 1 < l.length → l.getD i 0 < l.getD (i + d + 1) 0 := by
  unfold ascB at h
  rw [List.all_eq_true] at h
  have one : ∀ i, i + 1 < l.length → l.getD i 0 < l.getD (i + 1) 0 := fun i hi => of_decide_eq_true (h i (List.mem_range.mpr (by omega)))
  intro d
  induction d with
  | zero => exact fun i hi => one i hi
  | succ d ih => exact fun i hi => Nat.lt_trans (ih i (by omega)) (one (i + d + 1) (by omega))
theorem asc_pw {l : List Nat} (h : ascB l = true) : l.Pairwise (· < ·) := by
  rw [List.pairwise_iff_getElem]
  intro i j hi hj c
  have := asc_by h (j - i - 1) i (by omega)
  rw [show i + (j - i - 1) + 1 = j by omega, List.getD_eq_getElem?_getD, List.getD_eq_getElem?_getD, List.getElem?_eq_getElem hi, List.getElem?_eq_getElem hj] at this
  exact this
theorem asc_big {l : List Nat} (h : ascB l = true) (h1 : ∀ a ∈ l, 1 ≤ a) : ∀ i, i < l.length → i + 1 ≤ l.getD i 0
  | 0, hi => by
    rw [List.getD_eq_getElem?_getD, List.getElem?_eq_getElem hi]
    exact h1 _ (List.getElem_mem hi)
  | i + 1, hi => by
    have := asc_big h h1 i (by omega)
    have := asc_by h 0 i hi
    have : l.getD i 0 < l.getD (i + 1) 0 := this
    omega
theorem sumW_ok {z : Str} {l : List Nat} (h : sumW z = some l) (hz : WOk z) : AgesOk l := by
  unfold sumW at h
  split at h
  · rename_i c
    split at h
    · rename_i d
      cases h
      rw [List.all_eq_true] at c
      have dg : ∀ a ∈ (Txt.split z "+").map dig, 1 ≤ a ∧ a ≤ 4 := fun a ha => by
        obtain ⟨p, hp, rfl⟩ := List.mem_map.mp ha
        exact (dig_int (of_decide_eq_true (c p hp))).2.2
      refine ⟨fun y => ?_, ?_, dg, asc_pw d⟩
      · have := congrArg List.length y
        rw [List.length_map] at this
        have h1 := hz.2.1
        rw [this] at h1
        exact absurd h1 (by decide)
      · rcases Nat.lt_or_ge 4 ((Txt.split z "+").map dig).length with x | x
        · have := asc_big d (fun a ha => (dg a ha).1) 4 x
          have b : ((Txt.split z "+").map dig).getD 4 0 ≤ 4 := by
            rw [List.getD_eq_getElem?_getD, List.getElem?_eq_getElem x]
            exact (dg _ (List.getElem_mem x)).2
          omega
        · exact x
    · cases h
  · cases h
/-- a row of sums, each above the one before -/
def RowG (ss : List (List Nat)) : Prop := (∀ l ∈ ss, AgesOk l) ∧ ss.length ≤ 4 ∧ ss.Pairwise fun a b => HT.lexLt (zI a) (zI b) = true
theorem RowG.all {ss : List (List Nat)} (h : RowG ss) : PhOk ss ∧ ss.Nodup ∧ Asc ss := by
  refine ⟨⟨h.1, h.2.1⟩, ?_, ?_⟩
  · refine h.2.2.imp fun {a b} x y => ?_
    subst y
    rw [NtL.lex_asym _ _ x] at x
    cases x
  · exact h.2.2.imp fun {a b} x => NtL.lex_asym _ _ x
theorem rowG_nil : RowG [] := ⟨fun l hl => (by cases hl), by decide, List.Pairwise.nil⟩
theorem rowG_snoc {ss : List (List Nat)} {z : Str} {l : List Nat} (h : RowG ss) (hz : WOk z) (hl : sumW z = some l) (hc : canF ss z = true) : RowG (ss ++ [l]) := by
  have n4 := canF_len hc
  refine ⟨fun m hm => ?_, ?_, ?_⟩
  · rcases List.mem_append.mp hm with c | c
    · exact h.1 m c
    · rw [List.mem_singleton.mp c]
      exact sumW_ok hl hz
  · have := h.2.1
    rw [List.length_append, List.length_singleton]
    omega
  · refine List.pairwise_append.mpr ⟨h.2.2, List.pairwise_singleton _ _, fun a ha b hb => ?_⟩
    obtain rfl := List.mem_singleton.mp hb
    unfold canF at hc
    rw [hl] at hc
    have hc : (if ss.length = 4 then false else match ss.getLast? with
      | none => true
      | some m => HT.lexLt (zI m) (zI b)) = true := hc
    rw [if_neg n4] at hc
    rcases List.eq_nil_or_concat ss with y | ⟨ss0, m, y⟩
    · rw [y] at ha
      cases ha
    rw [List.concat_eq_append] at y
    have gl : ss.getLast? = some m := by rw [y]; simp
    rw [gl] at hc
    have hc : HT.lexLt (zI m) (zI b) = true := hc
    rw [y] at ha
    rcases List.mem_append.mp ha with c | c
    · have am : HT.lexLt (zI a) (zI m) = true := by
        have pw := h.2.2
        rw [y] at pw
        exact (List.pairwise_append.mp pw).2.2 a c m (List.mem_singleton.mpr rfl)
      cases w : HT.lexLt (zI a) (zI b) with
      | true => rfl
      | false =>
        rw [NtL.lex_tr _ _ _ w (NtL.lex_asym _ _ am)] at hc
        cases hc
    · rw [List.mem_singleton.mp c]
      exact hc
theorem rat_good {ws : List Str} (wok : ∀ z ∈ ws, WOk z) : ∀ {n : Nat} {st : Bool × List Ph}, rat ws n = some st → (∀ p ∈ st.2, RowG p.2) ∧ st.2.length ≤ 4 ∧ (st.1 = true → st.2.length ≤ 3)
  | 0, st, h => by cases h; exact ⟨fun p hp => (by cases hp), by decide, fun _ => by decide⟩
  | n + 1, st, h => by
    obtain ⟨st0, z, h0, hz, hs, _⟩ := rat_b h
    obtain ⟨g, l4, l3⟩ := rat_good wok h0
    have more : ∀ b, ∀ p ∈ st0.2 ++ [(b, [])], RowG p.2 := fun b p hp => by
      rcases List.mem_append.mp hp with c | c
      · exact g p c
      · rw [List.mem_singleton.mp c]
        exact rowG_nil
    unfold rstep at hs
    by_cases c : st0.1 = true
    · have := l3 c
      rw [if_pos c] at hs
      split at hs
      · cases hs
        exact ⟨more false, by rw [List.length_append, List.length_singleton]; omega, fun y => by cases y⟩
      · split at hs
        · cases hs
          exact ⟨more true, by rw [List.length_append, List.length_singleton]; omega, fun y => by cases y⟩
        · cases hs
    · rw [if_neg c] at hs
      split at hs
      · split at hs
        · cases hs
        · cases hs
          exact ⟨g, l4, fun _ => by show st0.2.length ≤ 3; omega⟩
      · split at hs
        · cases hs
        · rename_i p gl
          have pin : p ∈ st0.2 := List.mem_of_getLast? gl
          split at hs
          · cases hs
          · rename_i l hl
            split at hs
            · rename_i cf
              cases hs
              refine ⟨fun q hq => ?_, ?_, fun y => by cases y⟩
              · rcases List.mem_append.mp hq with c | c
                · exact g q (List.dropLast_subset _ c)
                · rw [List.mem_singleton.mp c]
                  exact rowG_snoc (g p pin) (wok z (List.mem_of_getElem? hz)) hl cf
              · show (st0.2.dropLast ++ [_]).length ≤ 4
                rw [List.length_append, List.length_dropLast, List.length_singleton]
                have := List.length_pos_iff.mpr (List.ne_nil_of_mem pin)
                omega
            · cases hs
theorem rows_good {ws : List Str} {ps : List Ph} (wok : ∀ z ∈ ws, WOk z) (h : rowsF ws = .inr ps) : 1 ≤ ps.length ∧ ps.length ≤ 4 ∧ ∀ p ∈ ps, PhOk p.2 ∧ p.2.Nodup ∧ Asc p.2 := by
  have g := (rgo_at ws ws 0 (true, []) rfl rfl).2
  unfold rowsF at h
  split at h
  · cases h
  · rename_i st e
    have h2 := g st e
    split at h
    · cases h
    · rename_i c
      cases h
      obtain ⟨a, b, _⟩ := rat_good wok h2
      exact ⟨List.length_pos_iff.mpr (rat_ne h2 (by simpa using c)), b, fun p hp => (a p hp).all⟩
end K17
namespace K17
open PySem L2 Evl Gr StX EnT MkS StK ClX ClK RdX Kn
/-! ### the words of a plan -/
def sd (a : Nat) : Str := toString (a : Int)
def sumT (l : List Nat) : Str := Txt.join "+" (l.map sd)
def rowW (p : Ph) : List Str := kindOf p :: p.2.map sumT
def wordsP (ps : List Ph) : Nat → List Str
  | 0 => []
  | n + 1 => wordsP ps n ++ (if n = 0 then ([] : List Str) else ["/"]) ++ rowW (cyc ps (n : Int))
theorem sd_len {a : Nat} (h : a ≤ 4) : (sd a).length ≤ 60 := by
  have e : (10 : Int) ^ 60 = 1000000000000000000000000000000000000000000000000000000000000 := by decide
  exact PyProof.Rows.toString_length_le (by omega) (by decide) (show (a : Int) < 10 ^ 60 by rw [e]; omega)
theorem sumW_le {ys : List Str} (h : ∀ y ∈ ys, y.length ≤ 60) : (ys.map (·.length)).sum ≤ 60 * ys.length := by
  induction ys with
  | nil => exact Nat.le_refl _
  | cons y ys ih =>
    rw [List.map_cons, List.sum_cons, List.length_cons]
    have a := h y (List.mem_cons_self ..)
    have b := ih fun z hz => h z (List.mem_cons_of_mem _ hz)
    omega
abbrev rStrV : List V → Hp → VK → Prop := fun xs H Q => (∃ i, xs = [V.int i] ∧ i.natAbs.log2 < 1920 ∧ Q (.str (toString i)) H) ∨ ∃ a, xs = [V.str a] ∧ Q (.str a) H
abbrev rJoin (K : PySem.W.Frag) : V → List V → Hp → VK → Prop := fun x xs H Q => ∃ a p, ∃ ys : List Str, x = .str a ∧ xs = [.ref p] ∧ (SqL K H p (ys.map V.str) ∨ SqT K H p (ys.map V.str)) ∧ (ys.map (·.length)).sum + ys.length * a.length ≤ 16777216 ∧ Q (.str (Txt.join a ys)) H
section
variable {K : PySem.W.Frag} {σ : L2.St} {H : Hp} {ta tb te tl : TE}
theorem ev_joinL {a : Str} {ys : List Str} (h : Ev ta σ H (.str a)) (he : EvL te σ H (ys.map V.str)) (hz : (ys.map (·.length)).sum + ys.length * a.length ≤ 16777216) : Ev (tM1 (rJoin K) ta te) σ H (.str (Txt.join a ys)) := fun H1 e Q q =>
  h H1 e _ fun H2 e2 => ⟨⟨a, rfl⟩, he H2 (e.trans e2) _ fun p H3 hp e3 h3 => ⟨a, p, ys, rfl, rfl, .inl (sq_of h3), hz, q H3 (e2.trans e3)⟩⟩
theorem ev_sd {a : Nat} (h : Ev te σ H (.int (a : Int))) (ha : a ≤ 4) : Ev (tCB rStrV (tCons te tNil)) σ H (.str (sd a)) :=
  ev_cb (ea_cons h ea_nil) fun H1 e Q q => .inl ⟨(a : Int), rfl, Nat.lt_trans (PySem.Flt.log2_lt_of (k := 3) (by decide) (show (a : Int).natAbs < 2 ^ 3 by omega)) (by decide), q H1 (Ex.refl H1)⟩
/-- "+".join([str(age) for age in ages]) -/
theorem ev_sumT {j : Nat} {vs : List Nat} {l : List Nat} (h : EvTu K tl σ H (vN l)) (ok : AgesOk l) (hw : ∀ x, wipe ((wipe σ vs).set j (some x)) vs = wipe σ vs) (hj : ∀ x, ((wipe σ vs).set j (some x))[j]? = some (some x)) :
    Ev (tM1 (rJoin K) (tC (.str "+")) (tLc (iTup K tl) (gName j) tYes (tCB rStrV (tCons (tVar j) tNil)) vs)) σ H (.str (sumT l)) := by
  have l4 := ok.2.1
  have c := el_mapT (K := K) (σ := σ) (H := H) (tl := tl) (t := tYes) (te := tCB rStrV (tCons (tVar j) tNil)) (fun a : Nat => V.int (a : Int)) (l := l) (j := j) (vs := vs) (fun _ => true) (fun a => V.str (sd a)) (by rw [← vN_map]; exact h) (by omega) hw
    (fun _ _ _ _ => et_none) (fun a ha H1 e _ => ev_sd (ev_var (hj _)) (ok.2.2.1 a ha).2)
  rw [List.filter_eq_self.mpr (fun _ _ => rfl), show (l.map fun a => V.str (sd a)) = (l.map sd).map V.str from by rw [List.map_map]; rfl] at c
  refine ev_joinL ev_c c ?_
  have := sumW_le (ys := l.map sd) fun y hy => by
    obtain ⟨a, ha, rfl⟩ := List.mem_map.mp hy
    exact sd_len (ok.2.2.1 a ha).2
  rw [List.length_map] at this ⊢
  have e : ("+" : Str).length = 1 := by decide +kernel
  rw [e]
  omega
end
end K17
namespace K17
open PySem L2 Evl Gr StX EnT MkS StK ClX ClK RdX Kn
abbrev rShl1 : R2 := fun x y H Q => ∃ k : Nat, x = .int 1 ∧ y = .int (k : Int) ∧ k ≤ 134217727 ∧ Q (.int (2 ^ k)) H
theorem pow_cast (k : Nat) : (2 : Int) ^ k = ((2 ^ k : Nat) : Int) := by rw [Int.natCast_pow]; rfl
theorem sum_cast : ∀ l : List Nat, (l.map fun n : Nat => (n : Int)).sum = ((l.sum : Nat) : Int)
  | [] => rfl
  | n :: l => by rw [List.map_cons, List.sum_cons, List.sum_cons, sum_cast l]; omega
section
variable {K : PySem.W.Frag} {σ : L2.St} {H : Hp} {ta tb te tl : TE} {t : TT}
theorem ev_shl1 {k : Nat} (hb : Ev tb σ H (.int (k : Int))) (h : k ≤ 1000) : Ev (tOp rShl1 (tC (.int 1)) tb) σ H (.int ((2 ^ k : Nat) : Int)) := ev_op ev_c hb fun H1 _ Q q => ⟨k, rfl, rfl, by omega, by rw [pow_cast]; exact q H1 (Ex.refl H1)⟩
theorem ev_sumN {l : List Nat} (h : EvL te σ H (vN l)) : Ev (tCB (rSum K) (tCons te tNil)) σ H (.int ((l.sum : Nat) : Int)) := fun H1 e Q q =>
  h H1 e _ fun p H2 _ e2 hp => ⟨p, zI l, rfl, sq_of hp, by
    have e3 : (zI l).sum = ((l.sum : Nat) : Int) := sum_cast l
    rw [e3]
    exact q H2 e2⟩
theorem row_got {α : Type} (l : List α) (g : α → V) : (List.range l.length).map (got l g) = l.map g := by
  have e : (List.range l.length).map (got l g) = ((List.range l.length).map fun i => l[i]?).map fun o => o.elim V.non g := by rw [List.map_map]; rfl
  rw [e, all_got, List.map_map]
  rfl
/-- [e for j in rows of sums] -/
theorem el_trow {xs : List V} {ss : List (List Nat)} {j : Nat} {vs : List Nat} (g : List Nat → V) (h : EvTu K tl σ H xs) (row : TRow H xs ss) (hz : ss.length ≤ 40000) (hw : ∀ x, wipe ((wipe σ vs).set j (some x)) vs = wipe σ vs)
    (he : ∀ a l H1, l ∈ ss → Ex H H1 → H1 a = some (.tup (vN l)) → Ev te ((wipe σ vs).set j (some (.ref a))) H1 (g l)) : EvL (tLc (iTup K tl) (gName j) tYes te vs) σ H (ss.map g) := by
  have c := el_tup (K := K) (σ := σ) (H := H) (t := tYes) (te := te) (xs := xs) (tl := tl) (j := j) (vs := vs) (fun _ => true) (got ss g) h (by rw [row.1]; exact hz) hw (fun _ _ _ _ _ => et_none) (fun i x H1 e hi _ => by
    obtain ⟨a, l, hl, rfl, ha⟩ := row.at hi
    rw [got_of hl]
    exact he a l H1 (List.mem_of_getElem? hl) e (e _ _ ha))
  rw [given_all, row.1, row_got] at c
  exact c
end
end K17
/-! str of an own instance; str of an int or a text; C.m() of a static method; o.m(k = v) -/
namespace OwX
open PySem PySem.Spec PyProof.Rows L2 ClX StX
/-- a class's own __str__ -/
structure StrIn (K : PySem.W.Frag) (C g : Addr) : Prop where
  there : PySem.W.findIn K (.ref C) "__str__" = some (some (.ref g))
  isDef : PySem.W.isFn K (.ref g) = true
section
variable {X : Cx} {CX : CXT} {n : Nat} {C g : Addr} {sp : Sp} {E : XK}
theorem call_strI (c : StrIn X.K C g) (F : FnR X.prog X.w X.K X.mg X.base CX n g sp) (hr : Room (n + 2) X.A) (hx : Passes CX X E) :
    CallR X (.type "str") (fun xs H Q => ∃ a, xs = [.ref a] ∧ InsC X H a C ∧ sp [.ref a] H (fun v H' => ∃ y, v = .str y ∧ Q v H') E) := by
  intro pins s σ H xs us Q I r h
  obtain ⟨a, rfl, ha, q⟩ := h
  obtain ⟨u, rfl, ru⟩ := vals1 r
  cases (show u = Value.ref a from ru)
  obtain ⟨ox, od, J, _⟩ := insC_at I ha
  refine PySem.W.kso_call hr.in1.in1.units0 I.kIn J c.there c.isDef ?_
  refine wpAny_mono (wpAny_call (SlX.run_at (us := [.ref a]) (ws := [.ref a]) F hr.in1.in1 I.env0.in1.in1 hx I (.cons rfl .nil) q)) (fun v s' back => ?_) fun _ _ z => z
  obtain ⟨v', H', I', rv, y, ey, qy⟩ := back
  subst ey
  obtain ⟨t, et⟩ := (show ∃ t, v = Value.str y t from rv)
  subst et
  exact ⟨.str y, H', I', ⟨t, rfl⟩, qy⟩
/-- of an int that is not too long, and of a text -/
theorem call_strV : CallR X (.type "str") (fun xs H Q => (∃ i, xs = [.int i] ∧ i.natAbs.log2 < 1920 ∧ Q (.str (toString i)) H) ∨ ∃ a, xs = [.str a] ∧ Q (.str a) H) := fun pins s σ H xs us Q I r h =>
  h.elim (fun hi => call_str_int pins s σ H xs us Q I r hi) fun ha => SkE.call_str_str pins s σ H xs us Q I r ha
end
section
variable {X : Cx} {k : Nat} {C p f : Addr} {mc : Value} {fd : FuncData} {ps ks : List Str} {sp : Sp} {o : Expr} {m : Str} {pos apos : Pos} {ta : TE} {tk : TA} {pl : Sem Bool} {kws : List Keyword} {g : List Value → List Value → List Value} {gV : List V → List V → List V}
/-- o.m(k = v, ..), keywords alone -/
theorem pe_methKw (he : PE X o ta) (c : Cls X.K C) (hm : Meth X.K C m f) (F : FnOk X.prog X.w X.K X.mg X.base CX0 k f fd ps sp) (hr : Room k X.A) (hb : KBn X.K fd ps 1 ks g gV) (hkw : PK X kws tk)
    (some_ : (backToKw pos (keywordEach kws X.env)).all (·.1.isSome) = true := by rfl) (names : (backToKw pos (keywordEach kws X.env)).filterMap (·.1) = ks := by rfl)
    (none_ : ((backTo pos (starEach [] X.env)).any (·.1) || (backToKw pos (keywordEach kws X.env)).any (·.1.isNone)) = false := by rfl)
    (form : eval (.Call (.Attribute o m apos) [] kws pos) X.env = (do let ov ← eval o X.env; standAt apos.atName; let (f, first) ← holding [ov] (getMethod ov m pl); callWith pos f first (backTo pos (starEach [] X.env)) (backToKw pos (keywordEach kws X.env))) := by rfl) :
    PE X (.Call (.Attribute o m apos) [] kws pos) (fun σ H Q => ta σ H fun x H1 => ∃ a dx fs, x = .ref a ∧ H1 a = some (.ins C dx fs) ∧ fs.lookup m = none ∧ tk σ H1 fun zs H2 => zs.length = ks.length ∧ sp (gV [.ref a] zs) H2 Q E0) := by
  refine ⟨fun pins s σ H Q I h => PySem.W.methodCall_KW (pl := pl) (thn (he.run pins s σ H _ I h) fun u s1 ⟨x, H1, J, rx, a, dx, fs, ex, ea, l, q⟩ => ?_) form⟩
  subst ex
  cases (show u = Value.ref a from rx)
  refine getmeth_ok J ea c hm l (PySem.W.callWith_KW0 (first := [.ref a]) (h₀ := X.base) J.ok.mod.kin hm.kp some_ ?_ none_)
  refine thn (hkw.run pos pins s1 σ H1 _ J q) fun ws s2 ⟨zs, H2, J2, rz, l2, q2⟩ => ⟨J2.kIn, ?_⟩
  rw [names]
  exact run_fnN (us := [.ref a]) (vs := [.ref a]) F hr hb pass0 J2 (.cons rfl .nil) rz rfl l2 q2
end
end OwX
namespace K17
open PySem L2 Evl Gr StX EnT MkS StK ClX ClK RdX OwX Kn
section
variable {P : Program} {w : World} {K : PySem.W.Frag} {mg : Str → Option Value} {base : Heap}
abbrev sPw : Stmt := top 17
abbrev nPw : List Str := ["phases", "words", "at", "phase", "ages", "age"]
def spPw (K : PySem.W.Frag) (C : Addr) : Sp := fun vs H Q _ => ∃ (a : Addr) (xs : List V) (ps : List Ph), vs = [.ref a] ∧ SqT K H a xs ∧ PRow K C H xs ps ∧ ps.length ≤ 4 ∧ ∀ p H', H p = none → Ex H H' → H' p = some (.lst ((wordsP ps ps.length).map V.str)) → Q (.ref p) H'
theorem scPw : FnScope nPw ["phases"] (defScope sPw) := ⟨rfl, rfl, rfl, by decide +kernel, rfl, by decide +kernel, by decide +kernel⟩
theorem rowW_len {p : Ph} (h : p.2.length ≤ 4) : (rowW p).length ≤ 5 := by
  unfold rowW
  rw [List.length_cons, List.length_map]
  omega
theorem wordsP_len {ps : List Ph} (h : ∀ i, (cyc ps i).2.length ≤ 4) : ∀ n, (wordsP ps n).length ≤ 6 * n
  | 0 => Nat.le_refl _
  | n + 1 => by
    have a := wordsP_len h n
    have b := rowW_len (h (n : Int))
    have c : (if n = 0 then ([] : List Str) else ["/"]).length ≤ 1 := by split <;> decide
    unfold wordsP
    rw [List.length_append, List.length_append]
    omega
abbrev teSum (K : PySem.W.Frag) : TE := tM1 (rJoin K) (tC (.str "+")) (tLc (iTup K (tVar 4)) (gName 5) tYes (tCB rStrV (tCons (tVar 5) tNil)) [5])
theorem ok_Pw {C f : Addr} {fd : FuncData} (F : Fun K "phase_words" "phase_words" sPw f fd) (G : PhC K C) (T : GlbT mg) (I : GlbE mg) : FnOk P w K mg base CX0 1 f fd ["phases"] (spPw K C) := by
  refine F.ok scPw (fun vs H Q E h => ?_) (fun cdv A outer s H vs Q E hr h => ?_)
  · obtain ⟨a, xs, ps, rfl, _⟩ := h
    rfl
  · obtain ⟨a, xs, ps, rfl, hx, row, l4, k⟩ := h
    refine ⟨_, (pss_cons (ps_set (i := 1) scPw.nd rfl (.inl rfl) (pe_lst pa_nil))
      (pss_cons (ps_for PassesOwn.never rfl (pi_enumT (by rfl) I.enum (pa_cons (pv 0) pa_nil)) (pg_tup rfl (pgs_cons (pg_name (i := 2) scPw.nd rfl (.inl rfl)) (pgs_cons (pg_name (i := 3) scPw.nd rfl (.inl rfl)) pgs_nil)))
        (pss_cut (ps_if (pt_cmpR op_gt (pv 2) pe_int (nomark _)) (pss_one (ps_expr (pe_bm PySem.F.plainAttrs_list PySem.F.slot_list_append PySem.F.type_list_append mt_append (pv 1) (pa_cons pe_str pa_nil)))) pss_nil)
        (pss_cons (ps_expr (pe_bm PySem.F.plainAttrs_list PySem.F.slot_list_append PySem.F.type_list_append mt_append (pv 1) (pa_cons (pe_ifExp (pt_val (pe_fld (pv 3) rfl)) pe_str pe_str) pa_nil)))
        (pss_one (ps_expr (pe_bm PySem.F.plainAttrs_list PySem.F.slot_list_extend PySem.F.type_list_extend mt_extend (pv 1) (pa_cons (pe_lc (te := teSum K) (own := [("ages", 4)]) (g := gName 4) rfl scPw.nd (pi_tup (pe_fld (pv 3) rfl)) (blkOk_by (own := [("ages", 4)]) (N := nPw) (sc := defScope sPw) (by decide +kernel)) (fun _ _ _ _ _ => pg_name (i := 4) scPw.nd rfl (Or.inl rfl)) (fun _ _ _ _ _ => pts_nil)
          (fun _ _ _ _ _ => pe_join pe_str (pe_lc (own := [("age", 5)]) (g := gName 5) rfl scPw.nd (pi_tup (pv 4)) (blkOk_by (own := [("age", 5)]) (by rfl)) (fun _ _ _ _ _ => pg_name (i := 5) scPw.nd rfl (Or.inl rfl)) (fun _ _ _ _ _ => pts_nil) (fun _ _ _ _ _ => pe_callTy call_strV (by rfl) T.str (by decide +kernel) (pa_cons (pv 5) pa_nil))))) pa_nil)))))))
      (pss_one (ps_ret (pv 1))))), ?_⟩
    refine q_asgL (xs := []) el_nil fun W H1 hW e1 h1 => ?_
    have good : ∀ i, (cyc ps i).2.length ≤ 4 := fun i => by
      rcases Nat.eq_zero_or_pos ps.length with c | c
      · unfold cyc
        rw [List.length_eq_zero_iff.mp c]
        show (([] : List Ph).getD _ (false, [])).2.length ≤ 4
        rw [List.getD_nil]
        decide
      · obtain ⟨m, _, _, hm⟩ := cyc_at c i
        obtain ⟨o, _, ho⟩ := row.to hm
        obtain ⟨_, _, _, _, _, _, h4⟩ := ho
        exact h4.2.1
    refine q_forNT (K := K) (a := a) (xs := xs) (ea_cons (ev_var rfl) ea_nil) (ex_t e1 hx) (fun n σ' H' => (∃ x2 x3 : Option V, σ' = [some (.ref a), some (.ref W), x2, x3, none, none]) ∧ Ex H H' ∧ H' W = some (.lst ((wordsP ps n).map V.str))) (fun H2 e2 => ⟨⟨none, none, rfl⟩, e1.trans e2, e2 _ _ h1⟩) (fun _ _ H' _ q => ex_t q.2.1 hx) ?_ ?_
    · rintro n y σ' H2 T2 hy ⟨⟨x2, x3, rfl⟩, e2, g1⟩ hT2
      have eT := Ex.new (o := .tup [.int (n : Nat), y]) hT2
      refine ⟨T2, [.int (n : Nat), y], rfl, st_of upd_same, rfl, _, _, rfl, _, _, rfl, rfl, ?_⟩
      obtain ⟨o, q, hq, rfl, ho⟩ := row.at hy
      have nl : n < ps.length := (List.getElem?_eq_some_iff.mp hq).1
      have cy := cyc_small nl
      rw [hq] at cy
      have cy := Option.some.inj cy
      have wl := wordsP_len good n
      have g1 := eT _ _ g1
      have E := e2.trans eT
      refine q_cut (M := fun σ2 H3 => σ2 = [some (.ref a), some (.ref W), some (.int (n : Nat)), some (.ref o), none, none] ∧ Ex H H3 ∧ H3 W = some (.lst ((wordsP ps n ++ (if n = 0 then ([] : List Str) else ["/"])).map V.str))) ?_ ?_
      · refine s_when (b := decide (0 < n)) (et_is (et_test (ev_op (ev_var rfl) ev_c rv_I0)) (decide_eq_decide.mpr (by omega))) (fun hb H3 e3 => ?_) (fun hb H3 e3 => ?_)
        · have n0 : n ≠ 0 := by have := of_decide_eq_true hb; omega
          refine s_app (xs := (wordsP ps n).map V.str) (v := .str "/") (e3 _ _ g1) (ev_var rfl) ev_c (by rw [List.length_map]; omega) fun H4 e4 => ⟨rfl, Ex.mut ((E.trans e3).trans e4) hW, ?_⟩
          rw [upd_same, if_neg n0, List.map_append]
          rfl
        · have n0 : n = 0 := by have := of_decide_eq_false hb; omega
          refine ⟨rfl, E.trans e3, ?_⟩
          rw [if_pos n0, List.append_nil]
          exact e3 _ _ g1
      · rintro σ2 H3 ⟨rfl, e3, g3⟩
        have mu := ev_mute (K := K) (σ := [some (.ref a), some (.ref W), some (.int (n : Nat)), some (.ref o), none, none]) (ta := tVar 3) G (ev_var rfl) (ho.mono e3)
        obtain ⟨dx, qa, ys, q1, q2, q3, q4⟩ := id ho
        have ql := q4.2.1
        have al : (wordsP ps n ++ (if n = 0 then ([] : List Str) else ["/"])).length ≤ 30 := by
          have c : (if n = 0 then ([] : List Str) else ["/"]).length ≤ 1 := by split <;> decide
          rw [List.length_append]
          omega
        refine q_app (v := .str (kindOf q)) g3 (ev_var rfl) (ev_if (b := q.1) (et_B mu) (fun hb => ev_is ev_c (by unfold kindOf; rw [if_pos hb])) (fun hb => ev_is ev_c (by unfold kindOf; rw [if_neg (by rw [hb]; decide)]))) (by rw [List.length_map]; omega) fun H4 e4 => ?_
        have E5 : Ex H (upd H4 W (.lst ((wordsP ps n ++ (if n = 0 then ([] : List Str) else ["/"])).map V.str ++ [.str (kindOf q)]))) := Ex.mut (e3.trans e4) hW
        have g5 : (upd H4 W (.lst ((wordsP ps n ++ (if n = 0 then ([] : List Str) else ["/"])).map V.str ++ [.str (kindOf q)]))) W = some (.lst ((wordsP ps n ++ (if n = 0 then ([] : List Str) else ["/"])).map V.str ++ [.str (kindOf q)])) := upd_same
        generalize upd H4 W (.lst ((wordsP ps n ++ (if n = 0 then ([] : List Str) else ["/"])).map V.str ++ [.str (kindOf q)])) = H5 at E5 g5 ⊢
        have c := el_trow (K := K) (σ := [some (.ref a), some (.ref W), some (.int (n : Nat)), some (.ref o), none, none]) (H := H5) (xs := ys) (ss := q.2) (j := 4) (vs := [4]) (tl := tFld K (tVar 3) "sums") (te := teSum K) (fun l => V.str (sumT l)) (etu_fld (ev_var rfl) (E5 _ _ q1) G.cls G.sums rfl (ex_t E5 q2)) (q3.mono E5) (by omega) (fun _ => rfl)
          (fun b l H1 hl e hb => ev_sumT (etu_var rfl (st_of hb)) (q4.1 l hl) (fun _ => rfl) (fun _ => rfl))
        refine ⟨_, rfl, Or.inl ⟨rfl, _, sq_of g5⟩, ?_⟩
        refine c H5 (Ex.refl H5) _ fun p H6 hp e6 h6 => ⟨W, p, _, _, rfl, rfl, e6 _ _ g5, h6, ?_, ⟨_, _, rfl⟩, Ex.mut (E5.trans e6) hW, ?_⟩
        · rw [List.length_append, List.length_map, List.length_map, List.length_singleton]
          exact sz_of (n := (wordsP ps n ++ (if n = 0 then ([] : List Str) else ["/"])).length + 1 + q.2.length) (by omega)
        · rw [upd_same]
          have e : wordsP ps (n + 1) = (wordsP ps n ++ (if n = 0 then ([] : List Str) else ["/"])) ++ rowW q := by rw [cy]; rfl
          rw [e, List.map_append (l₂ := rowW q)]
          unfold rowW
          rw [List.map_cons, List.map_map, List.append_assoc]
          rfl
    · rintro σ' H3 ⟨⟨x2, x3, rfl⟩, e3, g3⟩
      rw [row.1] at g3
      exact s_ret (v := .ref W) (ev_var rfl) fun H4 e4 => k W H4 hW (e3.trans e4) (e4 _ _ g3)
end
end K17
namespace K17
open PySem L2 Evl Gr StX EnT MkS StK ClX ClK RdX OwX Kn
theorem glue_len (S : List Nat) : ∀ l : List (List Nat), (TL.joinL S l).length ≤ (l.map (·.length)).sum + S.length * l.length
  | [] => by simp [TL.joinL]
  | [p] => by simp [TL.joinL]
  | p :: q :: r => by
    have ih := glue_len S (q :: r)
    show (p ++ (S ++ TL.joinL S (q :: r))).length ≤ _
    rw [List.length_append, List.length_append, List.map_cons, List.sum_cons, List.length_cons (a := p), Nat.mul_add]
    omega
theorem join_len (s : Str) (ws : List Str) : (Txt.join s ws).length ≤ (ws.map (·.length)).sum + s.length * ws.length := by
  rw [TL.len_tl, TL.join_eq, TL.tl_join]
  have := glue_len (TL.tl s) (ws.map TL.tl)
  rw [List.map_map, List.length_map, ← TL.len_tl] at this
  have e : ((List.length (α := Nat)) ∘ TL.tl) = fun w : Str => w.length := funext fun w => (TL.len_tl w).symm
  rw [show (fun x : List Nat => x.length) ∘ TL.tl = fun w : Str => w.length from e] at this
  exact this
theorem sumT_len {l : List Nat} (h : AgesOk l) : (sumT l).length ≤ 244 := by
  have a := join_len "+" (l.map sd)
  have b := sumW_le (ys := l.map sd) fun y hy => by
    obtain ⟨x, hx, rfl⟩ := List.mem_map.mp hy
    exact sd_len (h.2.2.1 x hx).2
  have e : ("+" : Str).length = 1 := by decide +kernel
  have := h.2.1
  rw [List.length_map] at a b
  rw [e] at a
  unfold sumT
  omega
theorem wordsP_short {ps : List Ph} (h : ∀ i, ∀ l ∈ (cyc ps i).2, AgesOk l) : ∀ n, ∀ y ∈ wordsP ps n, y.length ≤ 244
  | 0, y, hy => by cases hy
  | n + 1, y, hy => by
    unfold wordsP at hy
    rcases List.mem_append.mp hy with c | c
    · rcases List.mem_append.mp c with c | c
      · exact wordsP_short h n y c
      · split at c
        · cases c
        · rw [List.mem_singleton.mp c]
          decide +kernel
    · unfold rowW at c
      rcases List.mem_cons.mp c with c | c
      · rw [c]
        unfold kindOf
        split <;> decide +kernel
      · obtain ⟨l, hl, rfl⟩ := List.mem_map.mp c
        exact sumT_len (h _ l hl)
theorem sum_by {B : Nat} {ys : List Str} (h : ∀ y ∈ ys, y.length ≤ B) : (ys.map (·.length)).sum ≤ B * ys.length := by
  induction ys with
  | nil => exact Nat.zero_le _
  | cons y ys ih =>
    rw [List.map_cons, List.sum_cons, List.length_cons, Nat.mul_add]
    have a := h y (List.mem_cons_self ..)
    have b := ih fun z hz => h z (List.mem_cons_of_mem _ hz)
    omega
theorem prow_good {K : PySem.W.Frag} {C : Addr} {H : Hp} {xs : List V} {ps : List Ph} (row : PRow K C H xs ps) : (∀ i, ∀ l ∈ (cyc ps i).2, AgesOk l) ∧ ∀ i, (cyc ps i).2.length ≤ 4 := by
  have z : ∀ i, PhA (cyc ps i).2 ∨ cyc ps i = (false, []) := fun i => by
    rcases Nat.eq_zero_or_pos ps.length with c | c
    · right
      unfold cyc
      rw [List.length_eq_zero_iff.mp c]
      exact List.getD_nil
    · obtain ⟨m, _, _, hm⟩ := cyc_at c i
      obtain ⟨o, _, ho⟩ := row.to hm
      obtain ⟨_, _, _, _, _, _, h4⟩ := ho
      exact .inl h4
  refine ⟨fun i l hl => ?_, fun i => ?_⟩
  · rcases z i with h | h
    · exact h.1 l hl
    · rw [h] at hl
      cases hl
  · rcases z i with h | h
    · exact h.2.1
    · rw [h]
      decide
def txP (ps : List Ph) : Str := Txt.join " " (wordsP ps ps.length)
section
variable {P : Program} {w : World} {K : PySem.W.Frag} {mg : Str → Option Value} {base : Heap}
def spStr (K : PySem.W.Frag) (CP C : Addr) : Sp := fun vs H Q _ => ∃ (o : Addr) (ps : List Ph), vs = [.ref o] ∧ PlAt K CP C H o ps ∧ RetV (.str (txP ps)) H Q
theorem scStr : FnScope ["self"] ["self"] (defScope (sPl 8)) := ⟨rfl, rfl, rfl, by decide +kernel, rfl, by decide +kernel, by decide +kernel⟩
theorem ok_Str {CP C f : Addr} {fd : FuncData} (F : Fun K "__str__" "Plan.__str__" (sPl 8) f fd) (GP : PlC K CP) (GW : Gfn P w K mg base 1 "phase_words" ["phases"] (spPw K C)) : FnOk P w K mg base CX0 2 f fd ["self"] (spStr K CP C) := by
  obtain ⟨fW, fdW, GW, kW, bW, gW⟩ := GW
  refine F.ok scStr (fun vs H Q E h => ?_) (fun cdv A outer s H vs Q E hr h => ?_)
  · obtain ⟨o, ps, rfl, _⟩ := h
    rfl
  · obtain ⟨o, ps, rfl, hO, k⟩ := h
    obtain ⟨dx, q, xs, h1, h2, row, l1, l4⟩ := hO
    refine ⟨_, pss_one (ps_ret (pe_join pe_str (pe_call GW hr (by rfl) gW kW bW .nil pass0 (pa_cons (pe_fld (pv 0) rfl) pa_nil)))), ?_⟩
    refine s_ret (ev_joinL ev_c (el_call (ea_cons (ev_fld (ev_var rfl) h1 GP.cls GP.phases rfl) ea_nil) fun H1 e Q1 q1 E1 => ⟨q, xs, ps, rfl, ex_t e h2, row.mono e, l4, q1⟩) ?_) k
    have g := prow_good row
    have a := wordsP_len g.2 ps.length
    have b := sum_by (wordsP_short g.1 ps.length)
    have e : (" " : Str).length = 1 := by decide +kernel
    rw [e]
    omega
end
end K17
namespace K17
open PySem L2 Evl Gr StX EnT MkS StK ClX ClK RdX OwX OwC Kn
section
variable {P : Program} {w : World} {K : PySem.W.Frag} {mg : Str → Option Value} {base : Heap}
/-! ### len, iteration, [n] of a plan -/
def spLen (K : PySem.W.Frag) (CP C : Addr) : Sp := fun vs H Q _ => ∃ (o : Addr) (ps : List Ph), vs = [.ref o] ∧ PlAt K CP C H o ps ∧ RetV (.int (ps.length : Int)) H Q
theorem scLenP : FnScope ["self"] ["self"] (defScope (sPl 4)) := ⟨rfl, rfl, rfl, by decide +kernel, rfl, by decide +kernel, by decide +kernel⟩
theorem ok_LenP {CP C f : Addr} {fd : FuncData} (F : Fun K "__len__" "Plan.__len__" (sPl 4) f fd) (GP : PlC K CP) (S : GlbS mg) : FnOk P w K mg base CX0 1 f fd ["self"] (spLen K CP C) := by
  refine F.ok scLenP (fun vs H Q E h => ?_) (fun cdv A outer s H vs Q E hr h => ?_)
  · obtain ⟨o, ps, rfl, _⟩ := h
    rfl
  · obtain ⟨o, ps, rfl, hO, k⟩ := h
    obtain ⟨dx, q, xs, h1, h2, row, l1, l4⟩ := hO
    refine ⟨_, pss_one (ps_ret (pe_callB call_len_seq (by rfl) S.len PySem.boot_len (pa_cons (pe_fld (pv 0) rfl) pa_nil))), ?_⟩
    exact s_ret (ev_is (ev_cb (ea_cons (ev_fld (ev_var rfl) h1 GP.cls GP.phases rfl) ea_nil) (rc_lenQ (.inr h2))) (by rw [row.1])) k
def spIterP (K : PySem.W.Frag) (CP C : Addr) (m : Nat) : Sp := fun vs H Q _ => ∃ (o : Addr) (ps : List Ph), vs = [.ref o] ∧ PlAt K CP C H o ps ∧ Old m H ∧ ∀ it t xs H', H it = none → m ≤ it → Ex H H' → H' it = some (ItT t it) → SqT K H' t xs → PRow K C H' xs ps → Q (.ref it) H'
theorem scIterP : FnScope ["self"] ["self"] (defScope (sPl 5)) := ⟨rfl, rfl, rfl, by decide +kernel, rfl, by decide +kernel, by decide +kernel⟩
theorem ok_IterP {CP C f : Addr} {fd : FuncData} (F : Fun K "__iter__" "Plan.__iter__" (sPl 5) f fd) (GP : PlC K CP) (hi : mg "iter" = none) (m : Nat) : FnOk P w K mg base CX0 1 f fd ["self"] (spIterP K CP C m) := by
  refine F.ok scIterP (fun vs H Q E h => ?_) (fun cdv A outer s H vs Q E hr h => ?_)
  · obtain ⟨o, ps, rfl, _⟩ := h
    rfl
  · obtain ⟨o, ps, rfl, hO, old, k⟩ := h
    obtain ⟨dx, q, xs, h1, h2, row, l1, l4⟩ := hO
    refine ⟨_, pss_one (ps_ret (pe_callB call_iterT (by rfl) hi (by decide +kernel) (pa_cons (pe_fld (pv 0) rfl) pa_nil))), ?_⟩
    have sl := ev_fld (K := K) (σ := [some (.ref o)]) (ta := tVar 0) (ev_var rfl) h1 GP.cls GP.phases rfl
    refine s_retR (sl H (Ex.refl H) _ fun H1 e1 => ⟨q, xs, m, rfl, ex_t e1 h2, ?_, fun it hit age => k it q xs _ (fresh_back e1 hit) age (e1.trans (Ex.new hit)) upd_same (ex_t (e1.trans (Ex.new hit)) h2) (row.mono (e1.trans (Ex.new hit)))⟩)
    obtain ⟨b, u, hb, nb⟩ := old
    exact ⟨b, u, e1 _ _ hb, nb⟩
def spGetP (K : PySem.W.Frag) (CP C : Addr) : Sp := fun vs H Q _ => ∃ (o : Addr) (ps : List Ph) (i : Int), vs = [.ref o, .int i] ∧ 0 ≤ i ∧ PlAt K CP C H o ps ∧ ∀ b H', Ex H H' → PhAt K C H' b (cyc ps i) → Q (.ref b) H'
theorem scGetP : FnScope ["self", "at"] ["self", "at"] (defScope (sPl 6)) := ⟨rfl, rfl, rfl, by decide +kernel, rfl, by decide +kernel, by decide +kernel⟩
theorem ok_GetP {CP C f : Addr} {fd : FuncData} (F : Fun K "__getitem__" "Plan.__getitem__" (sPl 6) f fd) (GP : PlC K CP) (S : GlbS mg) (GI : Gfn P w K mg base 1 "is_integer" ["value"] (spIsInt K)) : FnOk P w K mg base CX0 2 f fd ["self", "at"] (spGetP K CP C) := by
  obtain ⟨fI, fdI, GI, kI, bI, gI⟩ := GI
  refine F.ok scGetP (fun vs H Q E h => ?_) (fun cdv A outer s H vs Q E hr h => ?_)
  · obtain ⟨o, ps, i, rfl, _⟩ := h
    rfl
  · obtain ⟨o, ps, i, rfl, i0, hO, k⟩ := h
    obtain ⟨dx, q, xs, h1, h2, row, l1, l4⟩ := hO
    refine ⟨_, (pss_cons (ps_if (PW.pt (pw_or (pt_not (pt_val (pe_call GI hr (by rfl) gI kI bI .nil pass0 (pa_cons (pv 1) pa_nil)))) (pw_or1 (pt_cmpR op_lt (pv 1) pe_int (nomark _))))) (pss_one ps_no) pss_nil)
      (pss_one (ps_ret (pe_ix (show IxR _ (rIxT K) from ix_tup) (pe_fld (pv 0) rfl) (pe_op op_mod (pv 1) (pe_callB call_len_seq (by rfl) S.len PySem.boot_len (pa_cons (pe_fld (pv 0) rfl) pa_nil))) (fun _ _ => rfl))))), ?_⟩
    refine q_when (b := false) (et_is (et_or (a := false) (et_is (et_not (et_B (ev_call (z := .bl true) (ea_cons (ev_var rfl) ea_nil) (spv_isInt (.base (.int _)) (a := true) (b := false) (by decide +kernel) (by decide +kernel))))) rfl) fun _ => et_test (ev_op (ev_var rfl) ev_c rv_I0)) ?_) (fun z => absurd z (by decide)) (fun _ H1 e1 => ?_)
    · rw [Bool.false_or, decide_eq_false_iff_not]
      omega
    have fl : Ev (tFld K (tVar 0) "phases") [some (.ref o), some (.int i)] H1 (.ref q) := ev_fld (ev_var rfl) (e1 _ _ h1) GP.cls GP.phases rfl
    obtain ⟨b, w1, w2⟩ := ev_cyc (K := K) (C := C) (ta := tFld K (tVar 0) "phases") (σ := [some (.ref o), some (.int i)]) (tb := tOp (rI (fun _ j => 0 < j) fun i j => .int (i % j)) (tVar 1) (tCB (rLen K) (tCons (tFld K (tVar 0) "phases") tNil))) (i := i) fl (ev_op (ev_var rfl) (ev_is (ev_cb (ea_cons fl ea_nil) (rc_lenQ (.inr (ex_t e1 h2)))) (by rw [row.1])) (rv_I (by omega))) (ex_t e1 h2) (row.mono e1) (by omega) (R := fun _ _ => True)
    exact s_ret (v := .ref b) w1 fun H2 e2 => k b H2 (e1.trans e2) (w2.mono e2)
end
end K17
namespace K17
open PySem L2 Evl Gr StX EnT MkS StK ClX ClK RdX OwX OwC Kn
section
variable {P : Program} {w : World} {K : PySem.W.Frag} {mg : Str → Option Value} {base : Heap}
/-! ### Phase.__eq__ -/
theorem ed_sums {C o : Addr} {p : Ph} {σ : L2.St} {H : Hp} {ta : TE} (G : PhC K C) (h : Ev ta σ H (.ref o)) (ho : PhAt K C H o p) : EvD K (tFld K ta "sums") σ H (.tuple (p.2.map tD)) := by
  obtain ⟨dx, q, xs, h1, h2, h3, h4⟩ := ho
  exact ed_T (etu_fld h h1 G.cls G.sums rfl h2) fun H1 e => trow_dp (h3.mono e)
theorem tDs_eqv (a b : List (List Nat)) : PyData.eqv (.tuple (a.map tD)) (.tuple (b.map tD)) = decide (a = b) := by
  show PyData.eqvAll (a.map tD) (b.map tD) = _
  exact eqvAll_map tD tD_eqv a b
def spEqP (K : PySem.W.Frag) (C : Addr) : Sp := fun vs H Q _ => ∃ (o u : Addr) (p q : Ph), vs = [.ref o, .ref u] ∧ PhAt K C H o p ∧ PhAt K C H u q ∧ RetV (.bl (decide (p = q))) H Q
theorem scEqP : FnScope ["self", "other"] ["self", "other"] (defScope (sPh 1)) := ⟨rfl, rfl, rfl, by decide +kernel, rfl, by decide +kernel, by decide +kernel⟩
theorem ok_EqP {C f : Addr} {fd : FuncData} (F : Fun K "__eq__" "Phase.__eq__" (sPh 1) f fd) (G : PhC K C) (IP : GIsi K C) (gC : mg "Phase" = some (.ref C)) (T : GlbT mg) : FnOk P w K mg base CX0 1 f fd ["self", "other"] (spEqP K C) := by
  refine F.ok scEqP (fun vs H Q E h => ?_) (fun cdv A outer s H vs Q E hr h => ?_)
  · obtain ⟨o, u, p, q, rfl, _⟩ := h
    rfl
  · obtain ⟨o, u, p, q, rfl, hO, hU, k⟩ := h
    refine ⟨_, pss_one (ps_ret (pe_and (pe_callB call_isi (by rfl) T.inst (by decide +kernel) (pa_cons (pv 1) (pa_cons (pe_glob (v := .ref C) (by rfl) gC (by rfl)) pa_nil)))
      (pe_and (pe_cmpR (op_eqD hr.units) (pe_fld (pv 0) rfl) (pe_fld (pv 1) rfl) (nomark _)) (pe_one (pe_cmpR op_eq (pe_fld (pv 0) rfl) (pe_fld (pv 1) rfl) (nomark _)))))), ?_⟩
    obtain ⟨dx', fs, hi⟩ := hU.ins
    refine s_ret (ev_is (ev_andV (ev_cb (ea_cons (ev_var rfl) (ea_cons ev_c ea_nil)) (rc_own G.cls IP hi)) fun _ => ev_andV (ev_eqD (ed_sums G (ev_var rfl) hO) (ed_sums G (ev_var rfl) hU) (low_shaped (tDs_low _) (by decide)) (low_shaped (tDs_low _) (by decide))) fun _ => ev_op (ev_mute G (ev_var rfl) hO) (ev_mute G (ev_var rfl) hU) (rv_eq rfl)) ?_) k
    rw [tDs_eqv]
    obtain ⟨a, b⟩ := p
    obtain ⟨c, d⟩ := q
    simp only [Bool.true_and]
    congr 1
    rw [Bool.eq_iff_iff, Bool.and_eq_true, decide_eq_true_iff, decide_eq_true_iff, decide_eq_true_iff, Prod.mk.injEq]
    constructor
    · rintro ⟨rfl, h⟩
      exact ⟨V.bl.inj h, rfl⟩
    · rintro ⟨rfl, rfl⟩
      exact ⟨rfl, rfl⟩
end
end K17
/-! rows of own objects that may be unlike: == and != of tuples, != of lists; an own object beside any thing -/
namespace TwU
open PySem PySem.SeqAt
open AutoSeq1 (wpAny_loadPart')
open MeetsSeq MeetsSeq2 MeetsSeq3 SeqRoads2
section
variable {prog : Program} {w : World} {A : Around} {R : Result → Shared → Prop}
/-- the object of a tuple -/
abbrev TObj (dd : Option Addr) (xs : Array Value) (n : Nat) (sl : Array (Option Value)) : Obj := { cls := .type "tuple", dict := dd, data := .seq xs n, slots := sl }
abbrev LObj (xs : Array Value) (n : Nat) : Obj := { cls := .type "list", data := .seq xs n }
/-- how many pairs there are -/
abbrev few (xs ys : Array Value) : Nat := min xs.size ys.size
def allOf (e : Nat → Bool) (m : Nat) : Bool := (List.range m).all e
theorem all_cut {e : Nat → Bool} {m i : Nat} (h : i < m) : ((List.range m).drop i).all e = (e i && ((List.range m).drop (i + 1)).all e) := by
  have lt : i < (List.range m).length := by rw [List.length_range]; exact h
  rw [List.drop_eq_getElem_cons lt, List.all_cons, List.getElem_range]
/-- J holds all along, the i-th pair gives e i -/
def Pairs (prog : Program) (w : World) (A : Around) (R : Result → Shared → Prop) (xs ys : Array Value) (e : Nat → Bool) (J : Shared → Prop) : Prop :=
  ∀ i (h1 : i < xs.size) (h2 : i < ys.size) s, J s → wpAny (model prog w) A.in1 (eqBool xs[i] ys[i]) (fun r s' => r = e i ∧ J s') (fun er s' => R (.error er) s') s
theorem pair_at {xs ys : Array Value} {y x : Value} {rest : List (Value × Value)} {i : Nat} (h : (y, x) :: rest = (xs.toList.zip ys.toList).drop i) : ∃ (h1 : i < xs.size) (h2 : i < ys.size), y = xs[i] ∧ x = ys[i] ∧ rest = (xs.toList.zip ys.toList).drop (i + 1) := by
  have len : (xs.toList.zip ys.toList).length = min xs.size ys.size := by simp
  have here : (xs.toList.zip ys.toList)[i]? = some (y, x) := by rw [← List.head?_drop, ← h]; rfl
  obtain ⟨lt, at_⟩ := List.getElem?_eq_some_iff.mp here
  have tail := congrArg List.tail h
  rw [List.tail_cons, List.tail_drop] at tail
  rw [List.getElem_zip] at at_
  obtain ⟨p1, p2⟩ := Prod.mk.inj at_
  exact ⟨by omega, by omega, by simpa using p1.symm, by simpa using p2.symm, tail⟩
theorem none_left {xs ys : Array Value} {i : Nat} (h : ([] : List (Value × Value)) = (xs.toList.zip ys.toList).drop i) : few xs ys ≤ i := by
  have := congrArg List.length h
  rw [List.length_nil, List.length_drop, List.length_zip, Array.length_toList, Array.length_toList] at this
  show min xs.size ys.size ≤ i
  omega
/-- what holds when i pairs are done -/
def Left (xs ys : Array Value) (e : Nat → Bool) (J : Shared → Prop) (rest : List (Value × Value)) (s : Shared) : Prop := J s ∧ ∃ i, rest = (xs.toList.zip ys.toList).drop i ∧ allOf e (few xs ys) = ((List.range (few xs ys)).drop i).all e
theorem left_0 {xs ys : Array Value} {e : Nat → Bool} {J : Shared → Prop} {s : Shared} (h : J s) : Left xs ys e J (xs.toList.zip ys.toList) s := ⟨h, 0, rfl, rfl⟩
theorem left_on {xs ys : Array Value} {e : Nat → Bool} {J : Shared → Prop} {y x : Value} {rest : List (Value × Value)} {s : Shared} {Q : Bool → Shared → Prop} (p : Pairs prog w A R xs ys e J) (h : Left xs ys e J ((y, x) :: rest) s)
    (go : ∀ s', Left xs ys e J rest s' → Q true s') (no : ∀ s', J s' → allOf e (few xs ys) = false → Q false s') : wpAny (model prog w) A.in1 (eqBool y x) Q (fun er s' => R (.error er) s') s := by
  obtain ⟨hJ, i, hz, he⟩ := h
  obtain ⟨h1, h2, rfl, rfl, hr⟩ := pair_at hz
  rw [all_cut (show i < few xs ys by show i < min xs.size ys.size; omega)] at he
  refine wpAny_mono (p i h1 h2 s hJ) (fun r s' ⟨er, hJ'⟩ => ?_) fun _ _ z => z
  subst er
  cases c : e i with
  | true =>
    rw [c, Bool.true_and] at he
    exact go s' ⟨hJ', i + 1, hr, he⟩
  | false =>
    rw [c, Bool.false_and] at he
    exact no s' hJ' he
theorem left_end {xs ys : Array Value} {e : Nat → Bool} {J : Shared → Prop} {s : Shared} (h : Left xs ys e J [] s) : J s ∧ allOf e (few xs ys) = true := by
  obtain ⟨hJ, i, hz, he⟩ := h
  have := none_left hz
  rw [List.drop_of_length_le (by rw [List.length_range]; exact this)] at he
  exact ⟨hJ, he⟩
variable {l b : Addr} {xs ys : Array Value} {n n2 : Nat} {dd dd2 : Option Addr} {sl sl2 : Array (Option Value)} {e : Nat → Bool} {J : Shared → Prop} {s : Shared}
theorem tup_eqU (p : Pairs prog w A R xs ys e J) (last : ∀ s, J s → R (.ok (.ret (.bool (allOf e (few xs ys) && xs.size == ys.size)))) s) (hl : s.heap.get? l = some (TObj dd xs n sl)) (hb : s.heap.get? b = some (TObj dd2 ys n2 sl2)) (h : J s) :
    wpAny (model prog w) A.in1 (Builtin.«tuple.__eq__» ⟨[.ref l, .ref b], []⟩) (GQ.FinOf prog w A R) (fun er s' => R (.error er) s') s := by
  have kin := AutoSeq1.sub_tuple_tuple
  have h0 := left_0 (xs := xs) (ys := ys) (e := e) h
  obtain ⟨hp, g, d, tk, os⟩ := s
  wp_walk using wpAny_loadPart' hl, wpAny_loadPart' hb, wpAny_forIn_list _ (fun rest v s' => v.1 = none ∧ Left xs ys e J rest s') _
  case turn =>
    rintro ⟨y, x⟩ rest v s' ⟨hv, hL⟩
    refine wpAny_bind (left_on p hL (fun s2 h2 => ?_) fun s2 h2 c => ?_)
    · wp_walk
      exact ⟨rfl, h2⟩
    · have z := last s2 h2
      rw [c, Bool.false_and] at z
      wp_walk
      exact z
  case fin =>
    rintro ⟨v1, v2⟩ s' ⟨hv, hL⟩
    obtain ⟨hJ, c⟩ := left_end hL
    have z := last s' hJ
    rw [c, Bool.true_and] at z
    simp only at hv
    subst hv
    wp_walk
    exact z
  case h => exact ⟨rfl, h0⟩
theorem tup_neU (p : Pairs prog w A R xs ys e J) (last : ∀ s, J s → R (.ok (.ret (.bool (!(allOf e (few xs ys) && xs.size == ys.size))))) s) (hl : s.heap.get? l = some (TObj dd xs n sl)) (hb : s.heap.get? b = some (TObj dd2 ys n2 sl2)) (h : J s) :
    wpAny (model prog w) A.in1 (Builtin.«tuple.__ne__» ⟨[.ref l, .ref b], []⟩) (GQ.FinOf prog w A R) (fun er s' => R (.error er) s') s := by
  have kin := AutoSeq1.sub_tuple_tuple
  have h0 := left_0 (xs := xs) (ys := ys) (e := e) h
  obtain ⟨hp, g, d, tk, os⟩ := s
  wp_walk using wpAny_loadPart' hl, wpAny_loadPart' hb, wpAny_forIn_list _ (fun rest v s' => v.1 = none ∧ Left xs ys e J rest s') _
  case turn =>
    rintro ⟨y, x⟩ rest v s' ⟨hv, hL⟩
    refine wpAny_bind (left_on p hL (fun s2 h2 => ?_) fun s2 h2 c => ?_)
    · wp_walk
      exact ⟨rfl, h2⟩
    · have z := last s2 h2
      rw [c, Bool.false_and] at z
      wp_walk
      exact z
  case fin =>
    rintro ⟨v1, v2⟩ s' ⟨hv, hL⟩
    obtain ⟨hJ, c⟩ := left_end hL
    have z := last s' hJ
    rw [c, Bool.true_and] at z
    simp only at hv
    subst hv
    wp_walk
    exact z
  case h => exact ⟨rfl, h0⟩
/-- the two lists stand, N items each; each pair is alike; J holds all along -/
def Alike (prog : Program) (w : World) (A : Around) (R : Result → Shared → Prop) (l b : Addr) (N : Nat) (J : Shared → Prop) : Prop := ∀ s, J s → ∃ (xs ys : Array Value) (n n2 : Nat), s.heap.get? l = some (LObj xs n) ∧ s.heap.get? b = some (LObj ys n2) ∧ xs.size = N ∧ ys.size = N ∧
  Pairs prog w A R xs ys (fun _ => true) J
theorem ne_stepsU {N : Nat} (al : Alike prog w A R l b N J) (last : ∀ s, J s → R (.ok (.ret (.bool false))) s) (k : Nat) : ∀ i s, i + k = N → J s →
    wpAny (model prog w) A.in1 (Builtin.«list.__eq__.loop» ⟨[.ref l, .ref b, rawInt i, rawInt 3], []⟩) (GQ.FinOf prog w A R) (fun er s' => R (.error er) s') s := by
  induction k with
  | zero =>
    intro i s hk h
    obtain ⟨xs, ys, n, n2, hl, hb, sx, sy, _⟩ := al s h
    have z := last s h
    obtain ⟨hp, g, d, tk, os⟩ := s
    wp_walk using wpAny_loadPart' hl, wpAny_loadPart' hb
    have out1 : xs[((i : Nat) : Int).toNat]? = none := Array.getElem?_eq_none (by rw [Int.toNat_natCast]; omega)
    have out2 : ys[((i : Nat) : Int).toNat]? = none := Array.getElem?_eq_none (by rw [Int.toNat_natCast]; omega)
    rw [out1, out2]
    wp_walk using wpAny_loadPart' hl, wpAny_loadPart' hb
    show R (.ok (.ret (.bool (xs.size != ys.size)))) _
    rw [sx, sy, bne_self_eq_false]
    exact z
  | succ k ih =>
    intro i s hk h
    obtain ⟨xs, ys, n, n2, hl, hb, sx, sy, pr⟩ := al s h
    have one := pr i (by omega) (by omega) s h
    obtain ⟨hp, g, d, tk, os⟩ := s
    wp_walk using wpAny_loadPart' hl, wpAny_loadPart' hb
    have in1 : xs[((i : Nat) : Int).toNat]? = some (xs[i]'(by omega)) := by rw [Int.toNat_natCast]; exact Array.getElem?_eq_getElem (by omega)
    have in2 : ys[((i : Nat) : Int).toNat]? = some (ys[i]'(by omega)) := by rw [Int.toNat_natCast]; exact Array.getElem?_eq_getElem (by omega)
    have up : ((i : Int) + 1) = ((i + 1 : Nat) : Int) := (Int.natCast_succ i).symm
    rw [in1, in2]
    refine wpAny_bind (wpAny_mono one (fun r s2 ⟨er, h2⟩ => ?_) fun _ _ z => z)
    subst er
    have rest := ih (i + 1) s2 (by omega) h2
    obtain ⟨hp2, g2, d2, tk2, os2⟩ := s2
    wp_walk
    rw [up]
    exact ⟨plainId_quiet plain_eq_loop _, codeAny_builtin entry_eq_loop (by rw [Around.under_plainId plain_eq_loop _]; exact rest)⟩
theorem list_neU {N : Nat} (al : Alike prog w A R l b N J) (last : ∀ s, J s → R (.ok (.ret (.bool false))) s) (h : J s) :
    wpAny (model prog w) A.in1 (Builtin.«list.__ne__» ⟨[.ref l, .ref b], []⟩) (GQ.FinOf prog w A R) (fun er s' => R (.error er) s') s := by
  have rest := ne_stepsU al last N 0 s (Nat.zero_add N) h
  obtain ⟨xs, ys, n, n2, hl, hb, sx, sy, _⟩ := al s h
  have kin := AutoSeq1.sub_list_list
  have same : ¬ (xs.size != ys.size) = true := by rw [sx, sy, bne_self_eq_false]; exact Bool.false_ne_true
  obtain ⟨hp, g, d, tk, os⟩ := s
  wp_walk using wpAny_loadPart' hl, wpAny_loadPart' hb
  exact ⟨plainId_quiet plain_eq_loop _, codeAny_builtin entry_eq_loop (by rw [Around.under_plainId plain_eq_loop _]; exact rest)⟩
end
end TwU
namespace OwU
open PySem PySem.Spec PyProof.Rows L2 StX OpX
/-- how an own object stands to another: what == inside a builtin tells of the two -/
abbrev DU := V → V → Hp → Bool → Prop
def MonU (D : DU) : Prop := ∀ x y b H H', Ext H H' → D x y H b → D x y H' b
/-- == inside a builtin, with this much room, tells it, and only makes objects -/
def EqU (X : Cx) (n : Nat) (D : DU) : Prop :=
  ∀ (B : Around) (pins : List (Addr × Obj)) (σ : L2.St) (s : Shared) (H : Hp) (x y : V) (u v : Value) (b : Bool), Sub X n B → Inv X pins σ H s → RelV x u → RelV y v → D x y H b → wpAny (model X.prog X.w) B (eqBool u v) (fun r s' => r = b ∧ ∃ H', Inv X pins σ H' s' ∧ Ext H H') X.xe s
def RowU (D : DU) (xs ys : List V) (H : Hp) (e : Nat → Bool) : Prop := ∀ (i : Nat) (x y : V), xs[i]? = some x → ys[i]? = some y → D x y H (e i)
section
variable {X : Cx} {n : Nat} {D : DU}
/-- objects were made since -/
def Since (X : Cx) (pins : List (Addr × Obj)) (σ : L2.St) (H : Hp) (s : Shared) : Prop := ∃ H', Inv X pins σ H' s ∧ Ext H H'
theorem pairsU (mon : MonU D) (h : EqU X n D) (hr : Room (n + 1) X.A) {pins : List (Addr × Obj)} {σ : L2.St} {H : Hp} {xs ys : List V} {us vs : List Value} {e : Nat → Bool} (row : RowU D xs ys H e) (r1 : Vals xs us) (r2 : Vals ys vs) {Q : Value → Shared → Prop} :
    TwU.Pairs X.prog X.w X.A (wants Q X.xe) us.toArray vs.toArray e (Since X pins σ H) := by
  intro i h1 h2 s ⟨H1, I1, e1⟩
  have sb : Sub X n X.A.in1 := Sub.in1 ⟨hr, rfl⟩
  have k1 : i < xs.length := by rw [r1.length]; simpa using h1
  have k2 : i < ys.length := by rw [r2.length]; simpa using h2
  obtain ⟨u, hu, ru⟩ := r1.get (List.getElem?_eq_getElem k1)
  obtain ⟨v, hv, rv⟩ := r2.get (List.getElem?_eq_getElem k2)
  obtain ⟨_, eu⟩ := List.getElem?_eq_some_iff.mp hu
  obtain ⟨_, ev⟩ := List.getElem?_eq_some_iff.mp hv
  have a1 : us.toArray[i] = u := by simpa using eu
  have a2 : vs.toArray[i] = v := by simpa using ev
  rw [a1, a2]
  exact wpAny_mono (h _ pins σ s H1 _ _ u v (e i) sb I1 ru rv (mon _ _ _ _ _ e1 (row i _ _ (List.getElem?_eq_getElem k1) (List.getElem?_eq_getElem k2)))) (fun r s2 ⟨er, H2, I2, e2⟩ => ⟨er, H2, I2, e1.trans e2⟩) fun _ _ z => z
theorem allOf_take {e : Nat → Bool} {xs ys : List V} {us vs : List Value} (r1 : Vals xs us) (r2 : Vals ys vs) : (TwU.allOf e (TwU.few us.toArray vs.toArray) && us.toArray.size == vs.toArray.size) = (TwU.allOf e (min xs.length ys.length) && xs.length == ys.length) := by
  unfold TwU.few
  rw [List.size_toArray, List.size_toArray, ← r1.length, ← r2.length]
/-- a tuple == a tuple -/
def rEqU (X : Cx) (D : DU) : R2 := fun x y H Q => ∃ a b xs ys e, x = .ref a ∧ y = .ref b ∧ SqT X.K H a xs ∧ SqT X.K H b ys ∧ RowU D xs ys H e ∧ ∀ H', Ext H H' → Q (.bl (TwU.allOf e (min xs.length ys.length) && xs.length == ys.length)) H'
def rNeU (X : Cx) (D : DU) : R2 := fun x y H Q => ∃ a b xs ys e, x = .ref a ∧ y = .ref b ∧ SqT X.K H a xs ∧ SqT X.K H b ys ∧ RowU D xs ys H e ∧ ∀ H', Ext H H' → Q (.bl (!(TwU.allOf e (min xs.length ys.length) && xs.length == ys.length))) H'
theorem op_eqU (mon : MonU D) (h : EqU X n D) (hr : Room (n + 1) X.A) : OpR X (compareOp .Eq) (rEqU X D) := by
  intro pins s σ H x y v u Q I rx ry ⟨a, b, xs, ys, e, ex, ey, ha, hb, row, q⟩
  subst ex ey
  cases (show v = Value.ref a from rx)
  cases (show u = Value.ref b from ry)
  obtain ⟨us, r1, ⟨⟨cl, dd, da, sl⟩, o1, hc, m1, hd⟩, _⟩ := I.tuple ha
  obtain ⟨vs, r2, ⟨⟨cl2, dd2, da2, sl2⟩, o2, hc2, m2, hd2⟩, _⟩ := I.tuple hb
  simp only at hc hd hc2 hd2
  subst hc hd hc2 hd2
  show wpAny (model X.prog X.w) X.A (richCompare .Eq (.ref a) (.ref b)) (EP X pins σ Q) X.xe s
  refine wpAny_richCompare_same_room (op := .Eq) ⟨_, o1, rfl⟩ ⟨_, o2, rfl⟩ PySem.F.slot_tuple_eq (GQ.call_here PySem.F.slot_tuple_eq ⟨_, o1, rfl⟩ PySem.F.entry_tuple_eq (PySem.F.args_tuple_eq_2 _ _) ?_) hr.units0
  exact TwU.tup_eqU (pairsU mon h hr row r1 r2) (fun s' ⟨H', I', e'⟩ => ⟨(fun z => nomatch z), .bl _, H', I', rfl, by rw [allOf_take r1 r2]; exact q H' e'⟩) o1 o2 ⟨H, I, Ext.rfl'⟩
theorem op_neU (mon : MonU D) (h : EqU X n D) (hr : Room (n + 1) X.A) : OpR X (compareOp .NotEq) (rNeU X D) := by
  intro pins s σ H x y v u Q I rx ry ⟨a, b, xs, ys, e, ex, ey, ha, hb, row, q⟩
  subst ex ey
  cases (show v = Value.ref a from rx)
  cases (show u = Value.ref b from ry)
  obtain ⟨us, r1, ⟨⟨cl, dd, da, sl⟩, o1, hc, m1, hd⟩, _⟩ := I.tuple ha
  obtain ⟨vs, r2, ⟨⟨cl2, dd2, da2, sl2⟩, o2, hc2, m2, hd2⟩, _⟩ := I.tuple hb
  simp only at hc hd hc2 hd2
  subst hc hd hc2 hd2
  show wpAny (model X.prog X.w) X.A (richCompare .NotEq (.ref a) (.ref b)) (EP X pins σ Q) X.xe s
  refine wpAny_richCompare_same_room (op := .NotEq) ⟨_, o1, rfl⟩ ⟨_, o2, rfl⟩ PySem.F.slot_tuple_ne (GQ.call_here PySem.F.slot_tuple_ne ⟨_, o1, rfl⟩ PySem.F.entry_tuple_ne (PySem.F.args_tuple_ne_2 _ _) ?_) hr.units0
  exact TwU.tup_neU (pairsU mon h hr row r1 r2) (fun s' ⟨H', I', e'⟩ => ⟨(fun z => nomatch z), .bl _, H', I', rfl, by rw [allOf_take r1 r2]; exact q H' e'⟩) o1 o2 ⟨H, I, Ext.rfl'⟩
/-- a list != a list, all alike -/
def rNeUL (D : DU) : R2 := fun x y H Q => ∃ a b xs ys, x = .ref a ∧ y = .ref b ∧ H a = some (.lst xs) ∧ H b = some (.lst ys) ∧ xs.length = ys.length ∧ RowU D xs ys H (fun _ => true) ∧ ∀ H', Ext H H' → Q (.bl false) H'
theorem op_neUL (mon : MonU D) (h : EqU X n D) (hr : Room (n + 1) X.A) : OpR X (compareOp .NotEq) (rNeUL D) := by
  intro pins s σ H x y v u Q I rx ry ⟨a, b, xs, ys, ex, ey, ha, hb, len, row, q⟩
  subst ex ey
  cases (show v = Value.ref a from rx)
  cases (show u = Value.ref b from ry)
  obtain ⟨_, us, m1, r1, o1⟩ := I.hok a _ ha
  obtain ⟨_, vs, m2, r2, o2⟩ := I.hok b _ hb
  show wpAny (model X.prog X.w) X.A (richCompare .NotEq (.ref a) (.ref b)) (EP X pins σ Q) X.xe s
  refine wpAny_richCompare_same_room (op := .NotEq) ⟨_, o1, rfl⟩ ⟨_, o2, rfl⟩ PySem.F.slot_list_ne (GQ.call_here PySem.F.slot_list_ne ⟨_, o1, rfl⟩ PySem.F.entry_list_ne (PySem.F.args_list_ne_2 _ _) ?_) hr.units0
  refine TwU.list_neU (N := xs.length) (J := Since X pins σ H) (fun s' ⟨H1, I1, e1⟩ => ?_) (fun s' ⟨H', I', e'⟩ => ⟨(fun z => nomatch z), .bl false, H', I', rfl, q H' e'⟩) ⟨H, I, Ext.rfl'⟩
  obtain ⟨_, us1, m3, r3, o3⟩ := I1.hok a _ (e1 _ _ ha)
  obtain ⟨_, vs1, m4, r4, o4⟩ := I1.hok b _ (e1 _ _ hb)
  exact ⟨us1.toArray, vs1.toArray, m3, m4, o3, o4, by rw [List.size_toArray, r3.length], by rw [List.size_toArray, ← r4.length, len], pairsU mon h hr row r3 r4⟩
/-- by the class's own == -/
theorem eqU_own {CX : CXT} {C f : Addr} {fd : FuncData} {ps : List Str} {sp : Sp} {E : XK} (F : FnOk X.prog X.w X.K X.mg X.base CX n f fd ps sp) (c : Has X.K C f "__eq__") (hb : Binds X.K fd ps []) (hx : Passes CX X E)
    (ins : ∀ x y H b, D x y H b → ∃ a c, x = .ref a ∧ y = .ref c ∧ InsC X H a C ∧ InsC X H c C ∧ sp [.ref a, .ref c] H (fun v H' => v = .bl b ∧ Ext H H') E)
    (same : ∀ a H b pins σ s, Inv X pins σ H s → D (.ref a) (.ref a) H b → b = true) : EqU X n D := by
  intro B pins σ s H x y u v b sb I rx ry d
  obtain ⟨a, c', ex, ey, ia, ic, hsp⟩ := ins _ _ _ _ d
  subst ex ey
  cases (show u = Value.ref a from rx)
  cases (show v = Value.ref c' from ry)
  by_cases ac : a = c'
  · subst ac
    obtain rfl := same a H b pins σ s I d
    exact SeqAt.EqAt.same (A := B) (s := s) (.ref a) X.prog X.w X.xe _ ⟨rfl, H, I, Ext.rfl'⟩
  · refine GQ.eqBool_refG ac ?_
    obtain ⟨oa, da, Ja, _⟩ := insC_at I ia
    obtain ⟨oc, dc, Jc, _⟩ := insC_at I ic
    obtain ⟨m, hF⟩ := I.fr
    have env : Env0 X.prog X.w X.K X.mg X.base B X.stack s H := by
      obtain ⟨f1, f2, f3, f4, f5, f6, f7, f8⟩ := I.env0
      exact ⟨sb.fr.trans f1, f2, f3, f4, f5, f6, f7, f8⟩
    have two : Vals [V.ref a, V.ref c'] [Value.ref a, Value.ref c'] := Paired.cons rfl (Paired.cons rfl Paired.nil)
    have n2 := F.len _ _ _ _ hsp
    have bind : BindsTo s fd ⟨[.ref a, .ref c'], []⟩ (ps.zip [.ref a, .ref c']) := by simpa using hb s [.ref a, .ref c'] I.kIn (by simpa using n2)
    refine PySem.W.cmp_K (op := .Eq) (tb := .ref C) sb.room.units0 hF I.ok.mod.kin Ja Jc.type (by simp [PySem.W.notFirst]) c.at_ c.fn (wpAny_call (codeAny_mono (F.run B X.stack s H ⟨[.ref a, .ref c'], []⟩ [.ref a, .ref c'] [.ref a, .ref c'] _ E sb.room env bind two hsp) fun r s' back => ?_))
    match r, back with
    | .error er, z => exact hx pins σ H s er s' I z
    | .ok (.ret w), z =>
      obtain ⟨z', H', I', rz, ez, ex⟩ := I.after z
      subst ez
      cases (show w = Value.bool b from rz)
      exact ⟨b, rfl, rfl, H', I', ex⟩
    | .ok .next, z => exact z.elim
    | .ok .brk, z => exact z.elim
    | .ok .cont, z => exact z.elim
end
end OwU
/-! an own object beside a list or a text: ==, != -/
namespace OwU
open PySem PySem.Spec PyProof.Rows L2 StX OpX
section
variable {prog : Program} {w : World} {A : Around} {E : Value → Shared → Prop} {s : Shared} {K : PySem.W.Frag} {x C f : Addr} {ox : Obj} {od : Option Obj} {y tb : Value}
theorem ne_what {Q : Value → Shared → Prop} (hu : A.units < cLine) (hu1 : A.in1.units < cLine) (X : K.In s.heap) (I : PySem.W.InstAt s.heap x ox C od) (ty : PySem.W.Looks (model prog w) s.heap (typeOf y) tb) (off : (Value.ref C != tb) = true) (hn : PySem.W.subIn K tb (.ref C) = some false)
    (hne : PySem.W.findIn K (.ref C) "__ne__" = some (some (.builtin "object.__ne__"))) (hm : PySem.W.mroIn K C (.type "object") = some true) (hs : PySem.W.findIn K (.ref C) "__eq__" = some (some (.ref f))) (hf : PySem.W.isFn K (.ref f) = true)
    (h : wpAny (model prog w) A.in1 (call (.ref f) [.ref x, y]) (fun r s' => ∃ c, r = .bool c ∧ Q (.bool (!c)) s') E s) : wpAny (model prog w) A (richCompare .NotEq (.ref x) y) Q E s := by
  have word := turned (b := y) (Q := fun v s' => Q v s' ∧ ∃ c, v = .bool c) hu1 X I hm hs hf (wpAny_mono h (fun r s' ⟨c, e, q⟩ => ⟨c, e, q, _, rfl⟩) fun _ _ z => z)
  have bnd : PySem.W.Looks (model prog w) s.heap (bindSpecial (.builtin "object.__ne__") (.ref x)) (.builtin "object.__ne__", [.ref x]) := PySem.W.Looks.of_pure (PySem.F.slot_object_ne.bind _)
  have asked : wpAny (model prog w) A (call (.builtin "object.__ne__") ([.ref x] ++ [y]) >>= fun v => pure (some v)) (OpX.Told fun v s' => Q v s' ∧ ∃ c, v = .bool c) E s := wpAny_bind (wpAny_mono word (fun v s' q => wpAny_pure ⟨v, rfl, q⟩) fun _ _ z => z)
  have tried : wpAny (model prog w) A (tryCompare (.ref x) (cmpInfo .NotEq).2.1 y) (OpX.Told Q) E s := by
    unfold tryCompare callSpecialIfBound? bindSpecialIfBound?
    refine wpAny_bind (wpAny_holding (wpAny_bind (wpAny_bind (wpAny_bind (I.type.here ((PySem.W.looks_findIn X hne).here (wpAny_bind (wpAny_askSetting (wpAny_ite ?_)))))))))
    split
    · refine wpAny_bind (bnd.here (wpAny_pure ?_))
      exact wpAny_mono asked (fun r s' ⟨v, e, q, c, ec⟩ => by
        subst e ec
        exact wpAny_pure ⟨_, rfl, q⟩) fun _ _ z => z
    · refine wpAny_tryCatch (wpAny_bind (bnd.here (wpAny_pure ?_)))
      exact wpAny_mono asked (fun r s' ⟨v, e, q, c, ec⟩ => by
        subst e ec
        exact wpAny_pure ⟨_, rfl, q⟩) fun _ _ z => z
  unfold richCompare
  rw [oneThing_ref]
  refine wpAny_holding (wpAny_bind (wpAny_cRoomFor hu (wpAny_bind (I.type.here (wpAny_bind (ty.here ?_))))))
  rw [if_pos off]
  refine wpAny_bind ((PySem.W.looks_subIn X hn).here ?_)
  exact told_pure tried fun _ => rfl
end
section
variable {X : Cx} {CX : CXT} {n : Nat} {C g : Addr} {sp : Sp} {E : XK}
/-- x != y: x of the class at C, y a list -/
def rNeL (X : Cx) (C : Addr) (sp : Sp) (E : XK) : R2 := fun x y H Q => ∃ a b ys, x = .ref a ∧ y = .ref b ∧ InsC X H a C ∧ SqL X.K H b ys ∧ sp [.ref a, .ref b] H (fun v H' => ∃ c, v = .bl c ∧ Q (.bl (!c)) H') E
theorem op_neL (h : Has X.K C g "__eq__") (hn : PySem.W.subIn X.K (.type "list") (.ref C) = some false) (hne : PySem.W.findIn X.K (.ref C) "__ne__" = some (some (.builtin "object.__ne__"))) (hm : PySem.W.mroIn X.K C (.type "object") = some true) (F : FnR X.prog X.w X.K X.mg X.base CX n g sp)
    (hr : Room (n + 1) X.A) (hx : Passes CX X E) : OpR X (compareOp .NotEq) (rNeL X C sp E) := fun pins s σ H x y v u Q I rx ry ⟨a, b, ys, ex, ey, ha, hb, q⟩ => by
  subst ex ey
  cases (show v = Value.ref a from rx)
  cases (show u = Value.ref b from ry)
  obtain ⟨ox, od, J, _⟩ := insC_at I ha
  obtain ⟨its, rv, pl, _⟩ := I.list hb
  obtain ⟨o, ho, hc, _⟩ := pl.isList
  have ty : PySem.W.Looks (model X.prog X.w) s.heap (typeOf (.ref b)) (.type "list") := fun _ _ _ _ k z => wpAny_typeOf_ref (k _ _ ho) (by rw [hc]; exact z)
  refine ne_what hr.units0 hr.in1.units0 I.kIn J ty rfl hn hne hm h.at_ h.fn (wpAny_mono (wpAny_call (SlX.run_at (us := [.ref a, .ref b]) (ws := [.ref a, .ref b]) F hr.in1 I.env0.in1 hx I (.cons rfl (.cons rfl .nil)) q)) (fun r s' back => ?_) fun _ _ z => z)
  obtain ⟨_, H', I', rr, c, ec, qc⟩ := back
  subst ec
  cases (show r = Value.bool c from rr)
  exact ⟨c, rfl, .bl (!c), H', I', rfl, qc⟩
/-- x == y: x of the class at C, y a text -/
def rEqS (X : Cx) (C : Addr) (sp : Sp) (E : XK) : R2 := fun x y H Q => ∃ a z, x = .ref a ∧ y = .str z ∧ InsC X H a C ∧ PySem.W.notFirst X.K C (.type "str") = true ∧ sp [.ref a, .str z] H Q E
theorem op_eqS {op : CmpOp} (hop : ∀ a b, compareOp op a b = richCompare op a b) (h : Has X.K C g (cmpInfo op).2.1) (F : FnR X.prog X.w X.K X.mg X.base CX n g sp) (hr : Room n X.A) (hx : Passes CX X E) : OpR X (compareOp op) (rEqS X C sp E) := fun pins s σ H x y v u Q I rx ry ⟨a, z, ex, ey, ha, hn, q⟩ => by
  subst ex ey
  cases (show v = Value.ref a from rx)
  obtain ⟨t, et⟩ := (show ∃ t, u = Value.str z t from ry)
  subst et
  obtain ⟨ox, od, J, _⟩ := insC_at I ha
  obtain ⟨m, hF⟩ := I.fr
  rw [hop]
  exact PySem.W.cmp_K (op := op) (tb := .type "str") hr.units0 hF I.ok.mod.kin J (PySem.W.Looks.of_pure rfl) hn h.at_ h.fn (run_own (us := [.ref a, .str z t]) (vs := [.ref a, .str z]) F hr hx I (.cons rfl (.cons ⟨t, rfl⟩ .nil)) q)
end
end OwU
namespace K17
open PySem L2 Evl Gr StX EnT MkS StK ClX ClK RdX OwX OwC OpX OwU Kn
/-! ### Plan.__eq__ -/
theorem relV_one {x y : V} {u : Value} (r : RelV x u) (r' : RelV y u) : x = y := by
  have e : ∀ {z : V}, RelV z u → absV u = some z := fun {z} h => by
    cases z with
    | non => cases (show u = Value.none from h); rfl
    | bl b => cases (show u = Value.bool b from h); rfl
    | int i => obtain ⟨t, rfl⟩ := (show ∃ t, u = Value.int i t from h); rfl
    | str i => obtain ⟨t, rfl⟩ := (show ∃ t, u = Value.str i t from h); rfl
    | byt i => obtain ⟨t, rfl⟩ := (show ∃ t, u = Value.bytes i t from h); rfl
    | flt i => obtain ⟨t, rfl⟩ := (show ∃ t, u = Value.float i t from h); rfl
    | ref a => cases (show u = Value.ref a from h); rfl
    | ty n => cases (show u = Value.type n from h); rfl
  exact Option.some.inj ((e r).symm.trans (e r'))
theorem vals_one : ∀ {xs ys : List V} {us : List Value}, Vals xs us → Vals ys us → xs = ys
  | _, _, _, .nil, .nil => rfl
  | _, _, _, .cons r t, .cons r' t' => by rw [relV_one r r', vals_one t t']
theorem sqT_one {X : Cx} {pins : List (Addr × Obj)} {σ : L2.St} {H : Hp} {s : Shared} {a : Addr} {xs ys : List V} (I : Inv X pins σ H s) (h : SqT X.K H a xs) (h' : SqT X.K H a ys) : xs = ys := by
  obtain ⟨us, r1, ⟨o1, g1, c1, n1, d1⟩, _⟩ := I.tuple h
  obtain ⟨vs, r2, ⟨o2, g2, c2, n2, d2⟩, _⟩ := I.tuple h'
  rw [g1] at g2
  obtain rfl := Option.some.inj g2
  rw [d1] at d2
  injection d2 with e1 e2
  have e1 : us = vs := by simpa using e1
  subst e1
  exact vals_one r1 r2
/-- two phases, and whether they are one -/
def DPh (K : PySem.W.Frag) (C : Addr) : DU := fun x y H b => ∃ (o u : Addr) (p q : Ph), x = .ref o ∧ y = .ref u ∧ PhAt K C H o p ∧ PhAt K C H u q ∧ b = decide (p = q)
theorem mon_Ph {K : PySem.W.Frag} {C : Addr} : MonU (DPh K C) := fun x y b H H' e ⟨o, u, p, q, h1, h2, h3, h4, h5⟩ => ⟨o, u, p, q, h1, h2, h3.mono e, h4.mono e, h5⟩
theorem ph_one {X : Cx} {C : Addr} {pins : List (Addr × Obj)} {σ : L2.St} {H : Hp} {s : Shared} {o : Addr} {p q : Ph} (I : Inv X pins σ H s) (h : PhAt X.K C H o p) (h' : PhAt X.K C H o q) : p = q := by
  obtain ⟨dx, a, xs, h1, h2, h3, _⟩ := h
  obtain ⟨dx', a', ys, h1', h2', h3', _⟩ := h'
  rw [h1] at h1'
  have z := Option.some.inj h1'
  simp only [HO.ins.injEq, List.cons.injEq, Prod.mk.injEq, V.ref.injEq, V.bl.injEq, and_true, true_and] at z
  obtain ⟨_, rfl, zm⟩ := z
  obtain rfl := sqT_one I h2 h2'
  exact Prod.ext zm (h3.is.trans h3'.is.symm)
theorem eqU_Ph {X : Cx} {CX : CXT} {C f : Addr} {fd : FuncData} (F : FnOk X.prog X.w X.K X.mg X.base CX0 1 f fd ["self", "other"] (spEqP X.K C)) (c : Has X.K C f "__eq__") (hb : Binds X.K fd ["self", "other"] []) : EqU X 1 (DPh X.K C) :=
  eqU_own (E := E0) F c hb pass0 (fun x y H b ⟨o, u, p, q, h1, h2, h3, h4, h5⟩ => by
    obtain ⟨d1, f1, i1⟩ := h3.ins
    obtain ⟨d2, f2, i2⟩ := h4.ins
    exact ⟨o, u, h1, h2, .inr ⟨d1, f1, i1⟩, .inr ⟨d2, f2, i2⟩, o, u, p, q, rfl, h3, h4, fun H2 e => ⟨by rw [h5], e⟩⟩)
    fun a H b pins σ s I ⟨o, u, p, q, h1, h2, h3, h4, h5⟩ => by
      cases h1
      cases h2
      rw [h5]
      exact decide_eq_true (ph_one I h3 h4)
theorem all_rows {ps qs : List Ph} : (TwU.allOf (fun i => decide (ps.getD i (false, []) = qs.getD i (false, []))) (min ps.length qs.length) && (ps.length == qs.length)) = decide (ps = qs) := by
  rw [Bool.eq_iff_iff, Bool.and_eq_true, decide_eq_true_iff, beq_iff_eq]
  constructor
  · rintro ⟨h1, h2⟩
    unfold TwU.allOf at h1
    rw [List.all_eq_true] at h1
    refine List.ext_getElem h2 fun i a b => ?_
    have := of_decide_eq_true (h1 i (List.mem_range.mpr (by omega)))
    rw [List.getD_eq_getElem?_getD, List.getD_eq_getElem?_getD, List.getElem?_eq_getElem a, List.getElem?_eq_getElem b] at this
    exact this
  · rintro rfl
    refine ⟨?_, rfl⟩
    unfold TwU.allOf
    rw [List.all_eq_true]
    exact fun i _ => decide_eq_true rfl
theorem prow_DPh {K : PySem.W.Frag} {C : Addr} {H : Hp} {xs ys : List V} {ps qs : List Ph} (h : PRow K C H xs ps) (h' : PRow K C H ys qs) : RowU (DPh K C) xs ys H (fun i => decide (ps.getD i (false, []) = qs.getD i (false, []))) := fun i x y hx hy => by
  obtain ⟨o, p, hp, rfl, ho⟩ := h.at hx
  obtain ⟨u, q, hq, rfl, hu⟩ := h'.at hy
  exact ⟨o, u, p, q, rfl, rfl, ho, hu, by show decide (ps.getD i (false, []) = qs.getD i (false, [])) = _; rw [List.getD_eq_getElem?_getD, List.getD_eq_getElem?_getD, hp, hq]; rfl⟩
theorem prow_same {K : PySem.W.Frag} {C : Addr} {H : Hp} {xs ys : List V} {ps : List Ph} (h : PRow K C H xs ps) (h' : PRow K C H ys ps) : RowU (DPh K C) xs ys H (fun _ => true) := fun i x y hx hy => by
  obtain ⟨o, p, hp, rfl, ho⟩ := h.at hx
  obtain ⟨u, q, hq, rfl, hu⟩ := h'.at hy
  rw [hp] at hq
  obtain rfl := Option.some.inj hq
  exact ⟨o, u, p, p, rfl, rfl, ho, hu, (decide_eq_true rfl).symm⟩
theorem PlAt.ins {K : PySem.W.Frag} {CP C : Addr} {H : Hp} {o : Addr} {ps : List Ph} (h : PlAt K CP C H o ps) : ∃ dx fs, H o = some (.ins CP dx fs) := by
  obtain ⟨dx, q, xs, h1, _⟩ := h
  exact ⟨dx, _, h1⟩
section
variable {P : Program} {w : World} {K : PySem.W.Frag} {mg : Str → Option Value} {base : Heap}
/-- beside a plan, or a thing of a built-in type -/
def spEqL (K : PySem.W.Frag) (CP C : Addr) : Sp := fun vs H Q _ => ∃ (o : Addr) (y : V) (ps : List Ph), vs = [.ref o, y] ∧ PlAt K CP C H o ps ∧
  ((∃ (u : Addr) (qs : List Ph), y = .ref u ∧ PlAt K CP C H u qs ∧ RetV (.bl (decide (ps = qs))) H Q) ∨ ∃ T : String, TyX K H y (.type T) ∧ PySem.W.kitOne K (.type T) (.ref CP) = some false ∧ RetV (.bl false) H Q)
theorem scEqL : FnScope ["self", "other"] ["self", "other"] (defScope (sPl 7)) := ⟨rfl, rfl, rfl, by decide +kernel, rfl, by decide +kernel, by decide +kernel⟩
theorem rc_out {CP : Addr} {T : String} {H : Hp} {y : V} (h : TyX K H y (.type T)) (k : PySem.W.kitOne K (.type T) (.ref CP) = some false) : RC (rIsi K) [y, .ref CP] H (.bl false) := fun H1 e _ q => ⟨y, .ref CP, .type T, .ref CP, false, rfl, .own CP, tyx_mono e h, k, q H1 (Ex.refl H1)⟩
theorem ok_EqL {CP C fE f : Addr} {fd fdE : FuncData} (F : Fun K "__eq__" "Plan.__eq__" (sPl 7) f fd) (G : PlC K CP) (IP : GIsi K CP) (gP : mg "Plan" = some (.ref CP)) (T : GlbT mg) (FE : FnOk P w K mg base CX0 1 fE fdE ["self", "other"] (spEqP K C)) (hE : Has K C fE "__eq__") (bE : Binds K fdE ["self", "other"] []) :
    FnOk P w K mg base CX0 3 f fd ["self", "other"] (spEqL K CP C) := by
  refine F.ok scEqL (fun vs H Q E h => ?_) (fun cdv A outer s H vs Q E hr h => ?_)
  · obtain ⟨o, y, ps, rfl, _⟩ := h
    rfl
  · obtain ⟨o, y, ps, rfl, hO, k⟩ := h
    refine ⟨_, pss_one (ps_ret (pe_and (pe_callB call_isi (by rfl) T.inst (by decide +kernel) (pa_cons (pv 1) (pa_cons (pe_glob (v := .ref CP) (by rfl) gP (by rfl)) pa_nil)))
      (pe_one (pe_cmpR (op_eqU (n := 1) (D := DPh K C) mon_Ph (eqU_Ph (CX := CX0) FE hE bE) hr) (pe_fld (pv 0) rfl) (pe_fld (pv 1) rfl) (nomark _))))), ?_⟩
    rcases k with ⟨u, qs, rfl, hU, k⟩ | ⟨T', ht, hk, k⟩
    · obtain ⟨dx', fs, hi⟩ := hU.ins
      obtain ⟨d1, q1, xs, a1, a2, a3, _⟩ := hO
      obtain ⟨d2, q2, ys, b1, b2, b3, _⟩ := hU
      refine s_ret (ev_is (ev_andV (ev_cb (ea_cons (ev_var rfl) (ea_cons ev_c ea_nil)) (rc_own G.cls IP hi)) fun _ => ev_op (z := .bl (decide (ps = qs))) (ev_fld (ev_var rfl) a1 G.cls G.phases rfl) (ev_fld (ev_var rfl) b1 G.cls G.phases rfl) fun H1 e Q1 q => ?_) (by rw [Bool.true_and])) k
      refine ⟨q1, q2, xs, ys, _, rfl, rfl, ex_t e a2, ex_t e b2, prow_DPh (a3.mono e) (b3.mono e), fun H2 e2 => ?_⟩
      rw [a3.1, b3.1, all_rows]
      exact q H2 e2
    · exact s_ret (ev_is (ev_andV (b := false) (ev_cb (ea_cons (ev_var rfl) (ea_cons ev_c ea_nil)) (rc_out ht hk)) fun y => absurd y (by decide)) (by rw [Bool.and_false])) k
end
end K17
namespace K17
open PySem L2 Evl Gr StX EnT MkS StK ClX ClK RdX OwX OwC Kn
section
variable {P : Program} {w : World} {K : PySem.W.Frag} {mg : Str → Option Value} {base : Heap}
/-! ### _law_word -/
def spLw : Sp := fun vs H Q _ => ∃ (a : Addr) (l : List Nat), vs = [.ref a] ∧ H a = some (.tup (vN l)) ∧ AgesOk l ∧ RetV (.str (sumT l)) H Q
abbrev nLw : List Str := ["_law_ages", "_law_age"]
theorem scLw : FnScope nLw ["_law_ages"] (defScope (top 31)) := ⟨rfl, rfl, rfl, by decide +kernel, rfl, by decide +kernel, by decide +kernel⟩
theorem ok_Lw {f : Addr} {fd : FuncData} (F : Fun K "_law_word" "_law_word" (top 31) f fd) (T : GlbT mg) : FnOk P w K mg base CX0 1 f fd ["_law_ages"] spLw := by
  refine F.ok scLw (fun vs H Q E h => ?_) (fun cdv A outer s H vs Q E hr h => ?_)
  · obtain ⟨a, l, rfl, _⟩ := h
    rfl
  · obtain ⟨a, l, rfl, ha, ok, k⟩ := h
    refine ⟨_, pss_one (ps_ret (pe_join pe_str (pe_lc (own := [("_law_age", 1)]) (g := gName 1) rfl scLw.nd (pi_tup (pv 0)) (blkOk_by (own := [("_law_age", 1)]) (N := nLw) (sc := defScope (top 31)) (by decide +kernel)) (fun _ _ _ _ _ => pg_name (i := 1) scLw.nd rfl (Or.inl rfl)) (fun _ _ _ _ _ => pts_nil)
      (fun _ _ _ _ _ => pe_callTy call_strV (by rfl) T.str (by decide +kernel) (pa_cons (pv 1) pa_nil))))), ?_⟩
    exact s_ret (ev_sumT (K := K) (j := 1) (vs := [1]) (etu_var rfl (st_of ha)) ok (fun _ => rfl) (fun _ => rfl)) k
end
end K17
namespace K17
open PySem L2 Evl Gr StX EnT Kn
/-! ### the fifteen sums, as texts -/
def fift : List (List Nat) := [[1], [2], [3], [4], [1, 2], [1, 3], [1, 4], [2, 3], [2, 4], [3, 4], [1, 2, 3], [1, 2, 4], [1, 3, 4], [2, 3, 4], [1, 2, 3, 4]]
theorem ages_fift {l : List Nat} (h : AgesOk l) : l ∈ fift := by
  obtain ⟨h0, h4, h1, hp⟩ := h
  have one : ∀ a < 5, 1 ≤ a → [a] ∈ fift := by decide
  have two : ∀ a b : Fin 5, 1 ≤ a.val → a.val < b.val → [a.val, b.val] ∈ fift := by decide
  have three : ∀ a b c : Fin 5, 1 ≤ a.val → a.val < b.val → b.val < c.val → [a.val, b.val, c.val] ∈ fift := by decide +kernel
  have four : ∀ a b c d : Fin 5, 1 ≤ a.val → a.val < b.val → b.val < c.val → c.val < d.val → [a.val, b.val, c.val, d.val] ∈ fift := by decide +kernel
  match l, h0, h4, h1, hp with
  | [], h, _, _, _ => exact absurd rfl h
  | [a], _, _, h1, _ =>
    have x := h1 a (by simp)
    exact one a (by omega) x.1
  | [a, b], _, _, h1, hp =>
    have x := h1 a (by simp)
    have y := h1 b (by simp)
    simp only [List.pairwise_cons, List.mem_cons, List.not_mem_nil, or_false, forall_eq_or_imp, forall_eq] at hp
    exact two ⟨a, by omega⟩ ⟨b, by omega⟩ x.1 hp.1
  | [a, b, c], _, _, h1, hp =>
    have x := h1 a (by simp)
    have y := h1 b (by simp)
    have z := h1 c (by simp)
    simp only [List.pairwise_cons, List.mem_cons, List.not_mem_nil, or_false, forall_eq_or_imp, forall_eq] at hp
    exact three ⟨a, by omega⟩ ⟨b, by omega⟩ ⟨c, by omega⟩ x.1 hp.1.1 hp.2.1
  | [a, b, c, d], _, _, h1, hp =>
    have x := h1 a (by simp)
    have y := h1 b (by simp)
    have z := h1 c (by simp)
    have u := h1 d (by simp)
    simp only [List.pairwise_cons, List.mem_cons, List.not_mem_nil, or_false, forall_eq_or_imp, forall_eq] at hp
    exact four ⟨a, by omega⟩ ⟨b, by omega⟩ ⟨c, by omega⟩ ⟨d, by omega⟩ x.1 hp.1.1 hp.2.1.1 hp.2.2.1
  | _ :: _ :: _ :: _ :: _ :: _, _, h, _, _ => simp only [List.length_cons] at h; omega
/-- the sum with blanks -/
def spW (l : List Nat) : Str := Txt.join " " (l.map sd)
theorem sum_back {l : List Nat} (h : l ∈ fift) : sumW (sumT l) = some l := (by decide +kernel : ∀ l ∈ fift, sumW (sumT l) = some l) l h
theorem spW_lt {a b : List Nat} (ha : a ∈ fift) (hb : b ∈ fift) : decide ((spW a).cps.toList < (spW b).cps.toList) = HT.lexLt (zI a) (zI b) := (by decide +kernel : ∀ a ∈ fift, ∀ b ∈ fift, decide ((spW a).cps.toList < (spW b).cps.toList) = HT.lexLt (zI a) (zI b)) a ha b hb
theorem spW_pos {l : List Nat} (h : l ∈ fift) : decide (("" : Str).cps.toList < (spW l).cps.toList) = true := (by decide +kernel : ∀ l ∈ fift, decide (("" : Str).cps.toList < (spW l).cps.toList) = true) l h
theorem spW_to {l : List Nat} (h : l ∈ fift) : Txt.replace (sumT l) "+" " " = spW l := (by decide +kernel : ∀ l ∈ fift, Txt.replace (sumT l) "+" " " = spW l) l h
theorem spW_from {l : List Nat} (h : l ∈ fift) : Txt.replace (spW l) " " "+" = sumT l := (by decide +kernel : ∀ l ∈ fift, Txt.replace (spW l) " " "+" = sumT l) l h
theorem spW_inj {a b : List Nat} (ha : a ∈ fift) (hb : b ∈ fift) (h : spW a = spW b) : a = b := (by decide +kernel : ∀ a ∈ fift, ∀ b ∈ fift, spW a = spW b → a = b) a ha b hb h
theorem spW_len {l : List Nat} (h : l ∈ fift) : (spW l).length ≤ 7 := (by decide +kernel : ∀ l ∈ fift, (spW l).length ≤ 7) l h
theorem sumT_no {l : List Nat} (h : l ∈ fift) : sumT l ≠ "/" ∧ sumT l ≠ "row" ∧ sumT l ≠ "mute" := (by decide +kernel : ∀ l ∈ fift, sumT l ≠ "/" ∧ sumT l ≠ "row" ∧ sumT l ≠ "mute") l h
/-- a short word -/
def Wrd (z : Str) : Prop := z.length ≤ 10 ∧ 32 ∉ TL.tl z ∧ PyData.strOk z = true
theorem sumT_wrd {l : List Nat} (h : l ∈ fift) : Wrd (sumT l) := by
  have : ∀ l ∈ fift, (sumT l).length ≤ 10 ∧ 32 ∉ TL.tl (sumT l) ∧ PyData.strOk (sumT l) = true := by decide +kernel
  exact this l h
theorem kind_wrd (p : Ph) : Wrd (kindOf p) := by
  have a : ("mute" : Str).length ≤ 10 ∧ 32 ∉ TL.tl ("mute" : Str) ∧ PyData.strOk ("mute" : Str) = true := by decide +kernel
  have b : ("row" : Str).length ≤ 10 ∧ 32 ∉ TL.tl ("row" : Str) ∧ PyData.strOk ("row" : Str) = true := by decide +kernel
  unfold kindOf
  split
  · exact a
  · exact b
theorem bar_wrd : Wrd "/" := by
  have a : ("/" : Str).length ≤ 10 ∧ 32 ∉ TL.tl ("/" : Str) ∧ PyData.strOk ("/" : Str) = true := by decide +kernel
  exact a
theorem mt_wrd : Wrd "" := by
  have a : ("" : Str).length ≤ 10 ∧ 32 ∉ TL.tl ("" : Str) ∧ PyData.strOk ("" : Str) = true := by decide +kernel
  exact a
/-! ### what is read has its own words -/
theorem dig_back {p : Str} (h : p ∈ digs) : sd (dig p) = p := (by decide +kernel : ∀ p ∈ digs, sd (dig p) = p) p h
theorem sumW_text {z : Str} {l : List Nat} (h : sumW z = some l) : sumT l = z := by
  unfold sumW at h
  split at h
  · rename_i c
    split at h
    · obtain rfl := Option.some.inj h
      rw [List.all_eq_true] at c
      unfold sumT
      rw [List.map_map, show (Txt.split z "+").map (sd ∘ dig) = Txt.split z "+" from ?_, TL.join_eq]
      · exact StrLaws.join_split z "+"
      · conv => rhs; rw [← List.map_id (Txt.split z "+")]
        exact List.map_congr_left fun p hp => dig_back (of_decide_eq_true (c p hp))
    · cases h
  · cases h
abbrev W (ps : List Ph) : List Str := wordsP ps ps.length
theorem wordsP_app {ps : List Ph} {p : Ph} : ∀ {n : Nat}, n ≤ ps.length → wordsP (ps ++ [p]) n = wordsP ps n
  | 0, _ => rfl
  | n + 1, h => by
    have a : (ps ++ [p])[n]? = some (cyc (ps ++ [p]) (n : Int)) := cyc_small (by rw [List.length_append]; omega)
    have b : ps[n]? = some (cyc ps (n : Int)) := cyc_small (by omega)
    rw [List.getElem?_append_left (by omega), b] at a
    unfold wordsP
    rw [wordsP_app (by omega), Option.some.inj a]
theorem W_snoc (ps : List Ph) (p : Ph) : W (ps ++ [p]) = W ps ++ (if ps.length = 0 then ([] : List Str) else ["/"]) ++ rowW p := by
  have a : (ps ++ [p])[ps.length]? = some (cyc (ps ++ [p]) (ps.length : Int)) := cyc_small (by rw [List.length_append]; show ps.length < ps.length + 1; omega)
  rw [List.getElem?_append_right (Nat.le_refl _), Nat.sub_self] at a
  show wordsP (ps ++ [p]) (ps ++ [p]).length = _
  rw [List.length_append]
  show wordsP (ps ++ [p]) (ps.length + 1) = _
  have e : wordsP (ps ++ [p]) (ps.length + 1) = wordsP (ps ++ [p]) ps.length ++ (if ps.length = 0 then ([] : List Str) else ["/"]) ++ rowW (cyc (ps ++ [p]) (ps.length : Int)) := rfl
  rw [e, wordsP_app (Nat.le_refl _), ← Option.some.inj a]
def barL (st : Bool × List Ph) : List Str := if st.1 = true ∧ st.2 ≠ [] then ["/"] else []
theorem rat_words {ws : List Str} : ∀ {n : Nat} {st : Bool × List Ph}, rat ws n = some st → ws.take n = W st.2 ++ barL st
  | 0, st, h => by cases h; rfl
  | n + 1, st, h => by
    obtain ⟨st0, z, h0, hz, hs, _⟩ := rat_b h
    have ih := rat_words h0
    rw [List.take_add_one, hz, ih]
    show W st0.2 ++ barL st0 ++ [z] = _
    have sep : (if st0.2.length = 0 then ([] : List Str) else ["/"]) = if st0.2 ≠ [] then (["/"] : List Str) else [] := by
      cases st0.2 with
      | nil => rfl
      | cons x l => rfl
    have new : ∀ k, st0.1 = true → W (st0.2 ++ [(k, [])]) = W st0.2 ++ barL st0 ++ [kindOf (k, [])] := fun k hb => by
      rw [W_snoc, sep]
      unfold barL
      rw [hb]
      simp only [true_and]
      rfl
    unfold rstep at hs
    by_cases c : st0.1 = true
    · rw [if_pos c] at hs
      split at hs
      · rename_i hz'
        cases hs
        rw [new false c, hz']
        simp [barL, kindOf]
      · split at hs
        · rename_i hz'
          cases hs
          rw [new true c, hz']
          simp [barL, kindOf]
        · cases hs
    · rw [if_neg c] at hs
      have b0 : barL st0 = [] := by unfold barL; rw [if_neg (fun y => c y.1)]
      have cf : st0.1 = false := by cases q : st0.1 with | true => exact absurd q c | false => rfl
      rw [b0, List.append_nil]
      split at hs
      · rename_i hz'
        split at hs
        · cases hs
        · cases hs
          unfold barL
          rw [if_pos ⟨rfl, show st0.2 ≠ [] from rat_ne h0 cf⟩, hz']
      · split at hs
        · cases hs
        · rename_i p gl
          split at hs
          · cases hs
          · rename_i l hl
            split at hs
            · cases hs
              obtain ⟨dl, hdl⟩ : ∃ dl, st0.2 = dl ++ [p] := by
                rcases List.eq_nil_or_concat st0.2 with y | ⟨dl, q, y⟩
                · rw [y] at gl; cases gl
                · rw [List.concat_eq_append] at y
                  rw [y] at gl
                  simp at gl
                  exact ⟨dl, by rw [y, gl]⟩
              rw [hdl, List.dropLast_concat]
              show _ = W (dl ++ [(p.1, p.2 ++ [l])]) ++ barL (false, _)
              rw [W_snoc, W_snoc]
              have r : rowW (p.1, p.2 ++ [l]) = rowW p ++ [z] := by
                unfold rowW
                rw [List.map_append]
                show kindOf (p.1, _) :: (p.2.map sumT ++ [sumT l]) = _
                rw [sumW_text hl]
                rfl
              rw [r]
              simp [barL, List.append_assoc]
            · cases hs
theorem rows_words {ws : List Str} {ps : List Ph} (h : rowsF ws = .inr ps) : ws = W ps := by
  have g := (rgo_at ws ws 0 (true, []) rfl rfl).2
  unfold rowsF at h
  split at h
  · cases h
  · rename_i st e
    have h2 := g st e
    split at h
    · cases h
    · rename_i c
      cases h
      have := rat_words h2
      rw [List.take_length] at this
      rw [this]
      unfold barL
      rw [if_neg (fun y => c y.1), List.append_nil]
/-! ### what is written is read -/
theorem rgo_app : ∀ (xs ys : List Str) (n : Nat) (st : Bool × List Ph), rgo (xs ++ ys) n st = (match rgo xs n st with
    | .inl i => .inl i
    | .inr st' => rgo ys (n + xs.length) st')
  | [], ys, n, st => rfl
  | x :: xs, ys, n, st => by
    show (match rstep st x with | none => Sum.inl n | some st' => rgo (xs ++ ys) (n + 1) st') = match (match rstep st x with | none => Sum.inl n | some st' => rgo xs (n + 1) st') with | .inl i => .inl i | .inr st' => rgo ys (n + (xs.length + 1)) st'
    cases rstep st x with
    | none => rfl
    | some st' =>
      show rgo (xs ++ ys) (n + 1) st' = match rgo xs (n + 1) st' with | .inl i => .inl i | .inr st' => rgo ys (n + (xs.length + 1)) st'
      rw [rgo_app xs ys (n + 1) st', show n + 1 + xs.length = n + (xs.length + 1) by omega]
theorem rgo_to {xs ys : List Str} {n : Nat} {st st' : Bool × List Ph} (h : rgo xs n st = .inr st') : rgo (xs ++ ys) n st = rgo ys (n + xs.length) st' := by rw [rgo_app, h]
theorem canF_next {k m : List (List Nat)} {l : List Nat} (h : RowG (k ++ l :: m)) : canF k (sumT l) = true := by
  have hl : l ∈ fift := ages_fift (h.1 l (by simp))
  have len := h.2.1
  rw [List.length_append, List.length_cons] at len
  unfold canF
  rw [sum_back hl]
  show (if k.length = 4 then false else match k.getLast? with
    | none => true
    | some m => HT.lexLt (zI m) (zI l)) = true
  rw [if_neg (by omega)]
  cases g : k.getLast? with
  | none => rfl
  | some q =>
    show HT.lexLt (zI q) (zI l) = true
    exact (List.pairwise_append.mp h.2.2).2.2 q (List.mem_of_getLast? g) l (by simp)
theorem rgo_sums {ps : List Ph} {b : Bool} : ∀ (m k : List (List Nat)) (n : Nat), RowG (k ++ m) → rgo (m.map sumT) n (false, ps ++ [(b, k)]) = .inr (false, ps ++ [(b, k ++ m)])
  | [], k, n, _ => by rw [List.append_nil]; rfl
  | l :: m, k, n, h => by
    have hl : l ∈ fift := ages_fift (h.1 l (by simp))
    have st : rstep (false, ps ++ [(b, k)]) (sumT l) = some (false, ps ++ [(b, k ++ [l])]) := by
      unfold rstep
      rw [if_neg (show ¬ (false = true) from Bool.false_ne_true), if_neg (sumT_no hl).1]
      have gl : (ps ++ [(b, k)]).getLast? = some (b, k) := by simp
      show (match (ps ++ [(b, k)]).getLast? with
        | none => none
        | some p => match sumW (sumT l) with
          | none => none
          | some l' => if canF p.2 (sumT l) = true then some (false, (ps ++ [(b, k)]).dropLast ++ [(p.1, p.2 ++ [l'])]) else none) = _
      rw [gl, sum_back hl]
      show (if canF k (sumT l) = true then some (false, (ps ++ [(b, k)]).dropLast ++ [(b, k ++ [l])]) else none) = _
      rw [if_pos (canF_next h), List.dropLast_concat]
    show (match rstep (false, ps ++ [(b, k)]) (sumT l) with | none => Sum.inl n | some st' => rgo (m.map sumT) (n + 1) st') = _
    rw [st]
    show rgo (m.map sumT) (n + 1) (false, ps ++ [(b, k ++ [l])]) = _
    rw [rgo_sums m (k ++ [l]) (n + 1) (by rw [List.append_assoc]; exact h), List.append_assoc]
    rfl
theorem rgo_row {ps : List Ph} {p : Ph} (n : Nat) (h : RowG p.2) : rgo (rowW p) n (true, ps) = .inr (false, ps ++ [p]) := by
  have st : rstep (true, ps) (kindOf p) = some (false, ps ++ [(p.1, [])]) := by
    unfold rstep
    rw [if_pos rfl]
    obtain ⟨b, ss⟩ := p
    cases b with
    | false =>
      show (if ("row" : Str) = "row" then _ else _) = _
      rw [if_pos rfl]
    | true =>
      show (if ("mute" : Str) = "row" then _ else if ("mute" : Str) = "mute" then _ else _) = _
      rw [if_neg (by decide +kernel), if_pos rfl]
  show (match rstep (true, ps) (kindOf p) with | none => Sum.inl n | some st' => rgo (p.2.map sumT) (n + 1) st') = _
  rw [st]
  exact rgo_sums p.2 [] (n + 1) h
theorem rgo_W : ∀ (ps : List Ph), (∀ p ∈ ps, RowG p.2) → ps ≠ [] → ps.length ≤ 4 → rgo (W ps) 0 (true, []) = .inr (false, ps) := by
  have main : ∀ (k : Nat) (ps : List Ph), ps.length = k + 1 → (∀ p ∈ ps, RowG p.2) → ps.length ≤ 4 → rgo (W ps) 0 (true, []) = .inr (false, ps) := by
    intro k
    induction k with
    | zero =>
      intro ps hl hg _
      match ps, hl with
      | [p], _ =>
        have := W_snoc [] p
        rw [List.nil_append] at this
        rw [this]
        exact rgo_row 0 (hg p (by simp))
    | succ k ih =>
      intro ps hl hg h4
      obtain ⟨qs, p, rfl⟩ : ∃ qs p, ps = qs ++ [p] := by
        rcases List.eq_nil_or_concat ps with y | ⟨dl, q, y⟩
        · rw [y] at hl; cases hl
        · rw [List.concat_eq_append] at y
          exact ⟨dl, q, y⟩
      rw [List.length_append] at hl h4
      have hl' : qs.length = k + 1 := by simpa using hl
      have h4 : qs.length + 1 ≤ 4 := h4
      rw [W_snoc, if_neg (by omega), List.append_assoc, rgo_to (ih qs hl' (fun q hq => hg q (by simp [hq])) (by omega)), Nat.zero_add]
      have bar : rgo ["/"] (W qs).length (false, qs) = .inr (true, qs) := by
        have : rstep (false, qs) "/" = some (true, qs) := by
          unfold rstep
          rw [if_neg (show ¬ (false = true) from Bool.false_ne_true), if_pos rfl]
          show (if qs.length = 4 then none else some (true, qs)) = _
          rw [if_neg (by omega)]
        show (match rstep (false, qs) "/" with | none => Sum.inl _ | some st' => rgo [] _ st') = _
        rw [this]
        rfl
      rw [rgo_to bar]
      exact rgo_row _ (hg p (by simp))
  intro ps hg hne h4
  obtain ⟨k, hk⟩ : ∃ k, ps.length = k + 1 := ⟨ps.length - 1, by have := List.length_pos_iff.mpr hne; omega⟩
  exact main k ps hk hg h4
theorem rows_W {ps : List Ph} (hg : ∀ p ∈ ps, RowG p.2) (h1 : 1 ≤ ps.length) (h4 : ps.length ≤ 4) : rowsF (W ps) = .inr ps := by
  unfold rowsF
  rw [rgo_W ps hg (fun y => by rw [y] at h1; exact absurd h1 (by decide)) h4]
  rfl
/-! ### lines -/
/-- a line of at most n short words -/
def LnOk (n : Nat) (z : Str) : Prop := (Txt.split z " ").length ≤ n ∧ Txt.split z " " ≠ [] ∧ (∀ w ∈ Txt.split z " ", Wrd w) ∧ Txt.join " " (Txt.split z " ") = z
theorem ln_join {n : Nat} {ws : List Str} (h : ∀ w ∈ ws, Wrd w) (hn : ws.length ≤ n) (h1 : 1 ≤ n) : LnOk n (Txt.join " " ws) ∧ (ws ≠ [] → Txt.split (Txt.join " " ws) " " = ws) := by
  have go : ∀ vs : List Str, vs ≠ [] → (∀ w ∈ vs, Wrd w) → Txt.split (Txt.join " " vs) " " = vs := fun vs hv hw => TL.split_join (y := " ") (s := 32) (S := []) (by decide +kernel) (by decide +kernel) hv fun p hp => (hw p hp).2.1
  refine ⟨?_, fun hne => go ws hne h⟩
  by_cases c : ws = []
  · subst c
    have e : Txt.join " " ([] : List Str) = Txt.join " " [""] := by decide +kernel
    have g := go [""] (by simp) (fun w hw => by rw [List.mem_singleton.mp hw]; exact mt_wrd)
    unfold LnOk
    rw [e, g]
    exact ⟨h1, by simp, fun w hw => by rw [List.mem_singleton.mp hw]; exact mt_wrd, rfl⟩
  · have g := go ws c h
    unfold LnOk
    rw [g]
    exact ⟨hn, c, h, rfl⟩
theorem wrd_sum {ws : List Str} (h : ∀ w ∈ ws, Wrd w) : (ws.map (·.length)).sum ≤ 10 * ws.length := by
  induction ws with
  | nil => exact Nat.le_refl _
  | cons w ws ih =>
    rw [List.map_cons, List.sum_cons, List.length_cons]
    have a := (h w (by simp)).1
    have b := ih fun x hx => h x (by simp [hx])
    omega
theorem ln_len {n : Nat} {z : Str} (h : LnOk n z) : z.length ≤ 11 * n := by
  obtain ⟨h1, _, h3, h4⟩ := h
  have a := join_len " " (Txt.split z " ")
  have b := wrd_sum h3
  have e : (" " : Str).length = 1 := by decide +kernel
  rw [h4, e] at a
  omega
theorem split_few (z : Str) : (Txt.split z "+").length ≤ z.length + 1 := by
  have a := StrLaws.join_split z "+"
  rw [← TL.join_eq] at a
  have gen : ∀ (S : List Nat) (l : List (List Nat)), l.length ≤ (TL.joinL S l).length + 1 ∨ S = [] := fun S l => by
    by_cases c : S = []
    · exact .inr c
    · left
      induction l with
      | nil => exact Nat.zero_le _
      | cons p l ih =>
        cases l with
        | nil => simp
        | cons q r =>
          show (p :: q :: r).length ≤ (p ++ (S ++ TL.joinL S (q :: r))).length + 1
          rw [List.length_append, List.length_append, List.length_cons]
          have := List.length_pos_iff.mpr c
          omega
  have g := (gen (TL.tl "+") ((Txt.split z "+").map TL.tl)).resolve_right (by decide +kernel)
  rw [← TL.tl_join, ← TL.join_eq, a, List.length_map, ← TL.len_tl] at g
  exact g
theorem split_some (z : Str) : 1 ≤ (Txt.split z "+").length := by
  rcases Nat.eq_zero_or_pos (Txt.split z "+").length with c | c
  · have n := List.eq_nil_of_length_eq_zero c
    have a := StrLaws.join_split z "+"
    rw [n] at a
    have e : z = "" := a.symm
    rw [e] at n
    exact absurd n (by decide +kernel)
  · exact c
theorem wrd_ok {z : Str} (h : Wrd z) : WOk z := ⟨by have := h.1; omega, split_some z, by have := split_few z; have := h.1; omega⟩
end K17
namespace K17
open PySem L2 Evl Gr StX EnT MkS StK ClX ClK RdX Kn
/-! ### rows of the law's phases -/
def LRow (av : List Addr) (H : Hp) (xs : List V) (ps : List Ph) : Prop := xs.length = ps.length ∧ ∀ (i : Nat) (x : V) (q : Ph), xs[i]? = some x → ps[i]? = some q → ∃ (t s : Addr) (ys : List V), x = V.ref t ∧ H t = some (.tup [.bl q.1, .ref s]) ∧ H s = some (.lst ys) ∧ s ∉ av ∧ TRow H ys q.2
section
variable {av : List Addr} {H H' : Hp} {xs : List V} {ps : List Ph}
theorem LRow.mono (e : Ex H H') (h : LRow av H xs ps) : LRow av H' xs ps := ⟨h.1, fun i x q hx hq => by
  obtain ⟨t, s, ys, h1, h2, h3, h4, h5⟩ := h.2 i x q hx hq
  exact ⟨t, s, ys, h1, e _ _ h2, e _ _ h3, h4, h5.mono e⟩⟩
theorem LRow.keep {p l : Addr} {cells : List Int} {m : Nat} (h : LRow av H xs ps) (ha : p ∈ av) (hP : PenAt H p l cells m) (kp : Keep p H H') : LRow av H' xs ps := ⟨h.1, fun i x q hx hq => by
  obtain ⟨t, s, ys, h1, h2, h3, h4, h5⟩ := h.2 i x q hx hq
  exact ⟨t, s, ys, h1, tup_keep hP kp h2, kp _ _ h3 fun z => h4 (by rw [z]; exact ha), h4, h5.keep hP kp⟩⟩
theorem LRow.more {g : Addr} (h : LRow av H xs ps) (hg : H g = none) : LRow (g :: av) H xs ps := ⟨h.1, fun i x q hx hq => by
  obtain ⟨t, s, ys, h1, h2, h3, h4, h5⟩ := h.2 i x q hx hq
  exact ⟨t, s, ys, h1, h2, h3, fun z => (List.mem_cons.mp z).elim (fun z => by rw [← z, h3] at hg; cases hg) h4, h5⟩⟩
theorem LRow.less {g : Addr} (h : LRow (g :: av) H xs ps) : LRow av H xs ps := ⟨h.1, fun i x q hx hq => by
  obtain ⟨t, s, ys, h1, h2, h3, h4, h5⟩ := h.2 i x q hx hq
  exact ⟨t, s, ys, h1, h2, h3, fun z => h4 (List.mem_cons_of_mem _ z), h5⟩⟩
theorem LRow.upd {D : Addr} {u : HO} {zs : List V} (h : LRow av H xs ps) (hD : D ∈ av) (hl : H D = some (.lst zs)) : LRow av (L2.upd H D u) xs ps := ⟨h.1, fun i x q hx hq => by
  obtain ⟨t, s, ys, h1, h2, h3, h4, h5⟩ := h.2 i x q hx hq
  exact ⟨t, s, ys, h1, by rw [upd_ne (fun z => by rw [z, hl] at h2; cases h2)]; exact h2, by rw [upd_ne (fun z => h4 (by rw [z]; exact hD))]; exact h3, h4, trow_updL h5 hl⟩⟩
theorem LRow.snoc {t s : Addr} {ys : List V} {q : Ph} (h : LRow av H xs ps) (h2 : H t = some (.tup [.bl q.1, .ref s])) (h3 : H s = some (.lst ys)) (h4 : s ∉ av) (h5 : TRow H ys q.2) : LRow av H (xs ++ [.ref t]) (ps ++ [q]) := ⟨by rw [List.length_append, List.length_append, h.1]; rfl, fun i x r hx hr => by
  rcases Nat.lt_or_ge i xs.length with c | c
  · rw [List.getElem?_append_left c] at hx
    rw [List.getElem?_append_left (by rw [← h.1]; exact c)] at hr
    exact h.2 i x r hx hr
  · rw [List.getElem?_append_right c] at hx
    rw [List.getElem?_append_right (by rw [← h.1]; exact c), ← h.1] at hr
    generalize i - xs.length = j at hx hr
    cases j with
    | zero =>
      cases hx
      cases hr
      exact ⟨t, s, ys, rfl, h2, h3, h4, h5⟩
    | succ j => cases hx⟩
theorem lrow_nil : LRow av H [] [] := ⟨rfl, fun i x q hx => by cases hx⟩
theorem LRow.at (h : LRow av H xs ps) {i : Nat} {q : Ph} (hq : ps[i]? = some q) : ∃ (t s : Addr) (ys : List V), xs[i]? = some (.ref t) ∧ H t = some (.tup [.bl q.1, .ref s]) ∧ H s = some (.lst ys) ∧ TRow H ys q.2 := by
  have lt : i < xs.length := by rw [h.1]; exact (List.getElem?_eq_some_iff.mp hq).1
  obtain ⟨t, s, ys, h1, h2, h3, _, h5⟩ := h.2 i _ q (List.getElem?_eq_getElem lt) hq
  exact ⟨t, s, ys, by rw [List.getElem?_eq_getElem lt, h1], h2, h3, h5⟩
end
def cycM (ms : List Bool) (i : Int) : Bool := ms.getD (i % (ms.length : Int)).toNat false
theorem cycM_at {ms : List Bool} (h : 0 < ms.length) (i : Int) : ∃ k : Nat, k < ms.length ∧ i % (ms.length : Int) = (k : Int) ∧ ms[k]? = some (cycM ms i) := by
  have h1 := Int.emod_nonneg i (show (ms.length : Int) ≠ 0 by omega)
  have h2 := Int.emod_lt_of_pos i (show 0 < (ms.length : Int) by omega)
  obtain ⟨k, hk⟩ := Int.eq_ofNat_of_zero_le h1
  refine ⟨k, by omega, hk, ?_⟩
  unfold cycM
  rw [hk, Int.toNat_natCast, List.getD_eq_getElem?_getD, List.getElem?_eq_getElem (by omega)]
  rfl
def goodS (ms : List Bool) (i : Nat) (l : List Nat) : Bool := decide (l.filter (fun a : Nat => cycM ms ((i : Int) - (a : Int))) = [])
theorem goodS_iff {ms : List Bool} {i : Nat} {l : List Nat} : goodS ms i l = true ↔ ∀ a ∈ l, cycM ms ((i : Int) - (a : Int)) = false := by
  unfold goodS
  rw [decide_eq_true_iff, List.filter_eq_nil_iff]
  exact ⟨fun h a ha => by simpa using h a ha, fun h a ha => by simpa using h a ha⟩
/-- a drawn plan -/
def PlnOk (ps : List Ph) : Prop := 1 ≤ ps.length ∧ ps.length ≤ 3 ∧ (∃ p ∈ ps, p.1 = false) ∧ NoTell ps ∧ ∀ p ∈ ps, SmsOk p.2
theorem pln_ok {ms : List Bool} {ps : List Ph} (l1 : 1 ≤ ms.length) (l3 : ms.length ≤ 3) (m0 : ms[0]? = some false) (hl : ps.length = ms.length) (hr : ∀ (j : Nat) (q : Ph), ps[j]? = some q → ms[j]? = some q.1 ∧ (∀ l ∈ q.2, goodS ms j l = true) ∧ SmsOk q.2) : PlnOk ps := by
  have same : ∀ i : Int, (cyc ps i).1 = cycM ms i := fun i => by
    obtain ⟨k, k1, k2, k3⟩ := cyc_at (ps := ps) (by omega) i
    obtain ⟨k', k1', k2', k3'⟩ := cycM_at (ms := ms) (by omega) i
    rw [hl, k2'] at k2
    have : k' = k := by omega
    subst this
    have := (hr _ _ k3).1
    rw [k3'] at this
    exact (Option.some.inj this).symm
  refine ⟨by omega, by omega, ?_, fun i hi l hl' a ha => ?_, fun q hq => ?_⟩
  · have h0 : ps[0]? = some ps[0] := List.getElem?_eq_getElem (by omega)
    refine ⟨ps[0], List.mem_of_getElem? h0, ?_⟩
    have := (hr _ _ h0).1
    rw [m0] at this
    exact (Option.some.inj this).symm
  · rw [same]
    exact goodS_iff.mp ((hr i _ (cyc_small hi)).2.1 l hl') a ha
  · obtain ⟨i, hi⟩ := List.mem_iff_getElem?.mp hq
    exact (hr i q hi).2.2
section
variable {σ : L2.St} {H : Hp} {ta tb : TE} {Q : VK}
theorem w_andV {b : Bool} (ha : Ev ta σ H (.bl b)) (ht : b = true → ∀ H1, Ex H H1 → tb σ H1 Q) (hf : b = false → ∀ H1, Ex H H1 → Q (.bl false) H1) : tAndV ta tb σ H Q := ha H (Ex.refl H) _ fun H2 e2 => ⟨b, rfl, by
  cases b with
  | true =>
    show tb σ H2 Q
    exact ht rfl H2 e2
  | false =>
    show Q (.bl false) H2
    exact hf rfl H2 e2⟩
end
section
variable {P : Program} {w : World} {K : PySem.W.Frag} {mg : Str → Option Value} {base : Heap}
abbrev sPln : Stmt := top 28
abbrev nPln : List Str := ["_law_pen_here", "_law_many", "_law_mutes", "_law_found", "_law_at", "_law_sums_so", "_law_ages", "_law_age"]
def spPln : Sp := fun vs H Q _ => ∃ (p l : Addr) (cells : List Int) (m : Nat), vs = [.ref p] ∧ PenAt H p l cells m ∧ m + 20 ≤ 50000 ∧ cells.length ≤ 63 ∧
  ∀ f xs ps H', H f = none → H' f = some (.lst xs) → LRow [p] H' xs ps → PlnOk ps → PenAt H' p l cells (m + 20) → Keep p H H' → Q (.ref f) H'
theorem scPln : FnScope nPln ["_law_pen_here"] (defScope sPln) := ⟨rfl, rfl, rfl, by decide +kernel, rfl, by decide +kernel, by decide +kernel⟩
theorem ok_Pln {f fD : Addr} {fd fdD : FuncData} (F : Fun K "_law_plain" "_law_plain" sPln f fd) (T : Glb mg) (S : GlbS mg) (GD : FnOk P w K mg base CX0 1 fD fdD ["_law_pen_here", "_law_top_so"] spDraw) (kD : PySem.W.keepIn K (.ref fD) = true) (bD : Binds K fdD ["_law_pen_here", "_law_top_so"] []) (gD : mg "_law_draw" = some (.ref fD))
    (GS : Gfn P w K mg base 3 "_law_sums" ["_law_pen_here"] spSms) : FnOk P w K mg base CX0 4 f fd ["_law_pen_here"] spPln := by
  obtain ⟨fS, fdS, GS, kS, bS, gS⟩ := GS
  refine F.ok scPln (fun vs H Q E h => ?_) (fun cdv A outer s H vs Q E hr h => ?_)
  · obtain ⟨p, l, cells, m, rfl, _⟩ := h
    rfl
  · obtain ⟨p, l, cells, m, rfl, hP, hm, h63, k⟩ := h
    have r1 := hr.mono (show 1 ≤ 3 by decide)
    refine ⟨_, (pss_cons (ps_set (i := 1) scPln.nd rfl (.inr rfl) (pe_op op_add pe_int (pe_call GD r1 (by rfl) gD kD bD .nil pass0 (pa_cons (pv 0) (pa_cons pe_int pa_nil)))))
      (pss_cons (ps_set (i := 2) scPln.nd rfl (.inr rfl) (pe_lc (te := tAndV (tOp (rI0 fun i j => .bl (decide (i > j))) (tVar 4) (tC (.int 0))) (tOp rEq (tCall spDraw [] E0 (tCons (tVar 0) (tCons (tC (.int 3)) tNil))) (tC (.int 0)))) (own := [("_law_at", 4)]) (g := gName 4) rfl scPln.nd (pi_range1 (by rfl) S.range (pa_cons (pv 1) pa_nil)) (blkOk_by (own := [("_law_at", 4)]) (N := nPln) (sc := defScope sPln) (by decide +kernel)) (fun _ _ _ _ _ => pg_name (i := 4) scPln.nd rfl (Or.inl rfl)) (fun _ _ _ _ _ => pts_nil)
        (fun _ _ _ _ _ => pe_and (pe_cmpR op_gt (pv 4) pe_int (nomark _)) (pe_one (pe_cmpR op_eq (pe_call GD r1 (by rfl) gD kD bD .nil pass0 (pa_cons (pv 0) (pa_cons pe_int pa_nil))) pe_int (nomark _))))))
      (pss_cons (ps_set (i := 3) scPln.nd rfl (.inl rfl) (pe_lst pa_nil))
      (pss_cons (ps_for PassesOwn.never rfl (pi_range1 (by rfl) S.range (pa_cons (pv 1) pa_nil)) (pg_name (i := 4) scPln.nd rfl (.inr rfl))
        (pss_cons (ps_set (i := 5) scPln.nd rfl (.inl rfl) (pe_lst pa_nil))
      (pss_cons (ps_for PassesOwn.never rfl (pi_list (pe_call GS hr (by rfl) gS kS bS .nil pass0 (pa_cons (pv 0) pa_nil))) (pg_name (i := 6) scPln.nd rfl (.inl rfl))
            (pss_one (ps_if (pt_cmpR (op_eqD hr.units) (pe_lc (te := tVar 7) (own := [("_law_age", 7)]) (g := gName 7) rfl scPln.nd (pi_tup (pv 6)) (blkOk_by (own := [("_law_age", 7)]) (N := nPln) (sc := defScope sPln) (by decide +kernel)) (fun _ _ _ _ _ => pg_name (i := 7) scPln.nd rfl (Or.inl rfl))
                (fun _ _ _ _ _ => pts_one (pt_val (pe_ix (show IxR _ (rIxL K) from ix_list) (pv 2) (pe_op op_mod (pe_callTy call_int1 (by rfl) T.int (by decide +kernel) (pa_cons (pe_op op_sub (pv 4) (pv 7)) pa_nil)) (pv 1)) (fun _ _ => rfl)))) (fun _ _ _ _ _ => pv 7)) (pe_lst pa_nil) (by with_unfolding_all rfl))
              (pss_one (ps_expr (pe_bm PySem.F.plainAttrs_list PySem.F.slot_list_append PySem.F.type_list_append mt_append (pv 5) (pa_cons (pv 6) pa_nil)))) pss_nil)))
      (pss_one (ps_expr (pe_bm PySem.F.plainAttrs_list PySem.F.slot_list_append PySem.F.type_list_append mt_append (pv 3) (pa_cons (pe_tup (pa_cons (pe_ix (show IxR _ (rIxL K) from ix_list) (pv 2) (pv 4) (fun _ _ => rfl)) (pa_cons (pv 5) pa_nil))) pa_nil)))))))
      (pss_one (ps_ret (pv 3))))))), ?_⟩
    refine q_asgR (op_i (c_i ((w_draw (H := H) (i := 0) (σ := [some (.ref p), none, none, none, none, none, none, none]) (many := 3) rfl (fun _ _ => ev_c) (by decide) (by decide) h63) m H (Keep.of_ex (Ex.refl H)) hP (by omega) _ fun v H1 hv hP1 k1 => ?_)))
    obtain ⟨d, rfl, hd⟩ := hv
    refine ⟨1, (d : Int), rfl, rfl, ?_⟩
    obtain ⟨n, hn, n1, n3⟩ : ∃ n : Nat, (1 : Int) + (d : Int) = (n : Int) ∧ 1 ≤ n ∧ n ≤ 3 := ⟨1 + d, by omega, by omega, by omega⟩
    dsimp only
    rw [hn]
    have pp := hP1
    refine q_asgR ⟨_, rfl, (n : Int), rfl, by omega, by omega, fun D hD => ?_⟩
    have Dp := pen_ne hP1 hD
    have DH := keep_none k1 hD Dp.1
    refine lc_range (lo := 0) (n := (n : Int).toNat) (fun i H' => ∃ ms : List Bool, H' D = some (.lst (ms.map V.bl)) ∧ ms.length = i ∧ (0 < i → ms[0]? = some false) ∧ PenAt H' p l cells (m + 1 + i) ∧ Keep p H H') ⟨[], upd_same, rfl, fun z => absurd z (by decide), hP1.upd' Dp.1 Dp.2, k1.mut DH⟩ (fun i H' hi h => ?_) (fun H2 h => ?_)
    · obtain ⟨ms, h1, h2, h3, hP2, k2⟩ := h
      rw [Int.toNat_natCast] at hi
      refine ⟨rfl, yes_i (A := fun H3 => _) ?_⟩
      have done : ∀ (x : Bool) (H3 : Hp), (i = 0 → x = false) → H3 D = some (.lst (ms.map V.bl)) → PenAt H3 p l cells (m + 1 + (i + 1)) → Keep p H H3 → ∃ acc, H3 D = some (.lst acc) ∧ acc.length < sizeLine ∧ ∃ ms : List Bool, (upd H3 D (.lst (acc ++ [V.bl x]))) D = some (.lst (ms.map V.bl)) ∧ ms.length = i + 1 ∧ (0 < i + 1 → ms[0]? = some false) ∧ PenAt (upd H3 D (.lst (acc ++ [V.bl x]))) p l cells (m + 1 + (i + 1)) ∧ Keep p H (upd H3 D (.lst (acc ++ [V.bl x]))) := fun x H3 hx g1 g2 g3 =>
        ⟨ms.map V.bl, g1, sz_lt (by rw [List.length_map]; omega), ms ++ [x], by rw [upd_same, List.map_append]; rfl, by rw [List.length_append, h2]; rfl, fun _ => by
          by_cases c : i = 0
          · have : ms = [] := List.eq_nil_of_length_eq_zero (by omega)
            rw [this, hx c]
            rfl
          · rw [List.getElem?_append_left (by omega)]
            exact h3 (by omega), g2.upd' Dp.1 Dp.2, g3.mut DH⟩
      refine w_andV (b := decide ((0 : Int) + (i : Int) > 0)) (ev_op (ev_var rfl) ev_c rv_I0) (fun hb H3 e3 => ?_) (fun hb H3 e3 => ?_)
      · have i0 : i ≠ 0 := by have := of_decide_eq_true hb; omega
        refine op_i ((w_draw (H := H3) (i := 0) (σ := [some (.ref p), some (.int (n : Int)), none, none, some (.int (0 + (i : Int))), none, none, none]) (many := 3) rfl (fun _ _ => ev_c) (by decide) (by decide) h63) (m + 1 + i) H3 (Keep.of_ex (Ex.refl H3)) (hP2.mono e3 (Nat.le_refl _)) (by omega) _ fun v H4 hv hP4 k4 => c_i ?_)
        obtain ⟨d', rfl, hd'⟩ := hv
        exact ⟨rfl, done _ H4 (fun z => absurd z i0) (k4 _ _ (e3 _ _ h1) Dp.1) (hP4.le (by omega)) ((k2.trans (Keep.of_ex e3)).trans k4)⟩
      · exact done false H3 (fun _ => rfl) (e3 _ _ h1) (hP2.mono e3 (by omega)) (k2.trans (Keep.of_ex e3))
    · obtain ⟨ms, h1, h2, h3, hP2, k2⟩ := h
      rw [Int.toNat_natCast] at h2 h3 hP2
      have m0 := h3 (by omega)
      refine q_asgL (xs := []) (el_nil (σ := [some (.ref p), some (.int (n : Int)), some (.ref D), none, none, none, none, none]) (H := H2)) fun F0 H3 hF e3 h4 => ?_
      have Fp := pen_ne hP2 hF
      have FH := keep_none k2 hF Fp.1
      have FD : F0 ≠ D := fun z => by rw [z, h1] at hF; cases hF
      have msl : ms.length = n := h2
      refine q_forR1 (j := 4) (n := (n : Int)) (ea_cons (ev_var rfl) ea_nil) (by omega) (fun i σ' H' => ∃ (x4 x5 x6 : Option V) (xs : List V) (ps : List Ph), σ' = [some (.ref p), some (.int (n : Int)), some (.ref D), some (.ref F0), x4, x5, x6, none] ∧ PenAt H' p l cells (m + 1 + n + 3 * i) ∧ Keep p H H' ∧ H' F0 = some (.lst xs) ∧ LRow [F0, p] H' xs ps ∧ ps.length = i ∧
          (∀ (j : Nat) (q : Ph), ps[j]? = some q → ms[j]? = some q.1 ∧ (∀ l ∈ q.2, goodS ms j l = true) ∧ SmsOk q.2) ∧ H' D = some (.lst (ms.map V.bl)))
        (fun H4 e4 => ⟨none, none, none, [], [], rfl, hP2.mono (e3.trans e4) (by omega), (k2.trans (Keep.of_ex e3)).trans (Keep.of_ex e4), e4 _ _ h4, lrow_nil, rfl, fun j q z => (by cases z), e4 _ _ (e3 _ _ h1)⟩) ?_ ?_
      · rintro i σ' H4 hi ⟨x4, x5, x6, xs, ps, rfl, hP4, k4, hF4, row4, pl4, ok4, hD4⟩
        have iN : i < n := by omega
        refine q_asgL (xs := []) (el_nil (σ := [some (.ref p), some (.int (n : Int)), some (.ref D), some (.ref F0), some (.int (i : Int)), x5, x6, none]) (H := H4)) fun g H5 hg e5 h5 => ?_
        have gp := pen_ne hP4 hg
        have gH := keep_none k4 hg gp.1
        have gF : g ≠ F0 := fun z => by rw [z, hF4] at hg; cases hg
        have gD : g ≠ D := fun z => by rw [z, hD4] at hg; cases hg
        have row5 := (row4.more hg).mono e5
        refine ⟨_, rfl, p, l, cells, m + 1 + n + 3 * i, rfl, hP4.mono e5 (Nat.le_refl _), by omega, h63, fun q zs ss H6 hq h6 rowq okq hP6 k6 => ?_⟩
        have K6 := (k4.trans (Keep.of_ex e5)).trans k6
        have hP5 := hP4.mono e5 (Nat.le_refl _)
        have qp := pen_ne hP5 hq
        have qg : q ≠ g := fun z => by rw [z, h5] at hq; cases hq
        refine ⟨q, rfl, ⟨zs, sq_of h6⟩, ?_⟩
        refine for_list (a := q) (xs := zs) (fun j σ' H' => ∃ (x6 : Option V) (ys : List V), σ' = [some (.ref p), some (.int (n : Int)), some (.ref D), some (.ref F0), some (.int (i : Int)), some (.ref g), x6, none] ∧ PenAt H' p l cells (m + 1 + n + 3 * i + 3) ∧ Keep p H H' ∧ H' g = some (.lst ys) ∧ TRow H' ys ((ss.take j).filter (goodS ms i)) ∧ H' q = some (.lst zs) ∧ TRow H' zs ss ∧ H' F0 = some (.lst xs) ∧ LRow [g, F0, p] H' xs ps ∧ H' D = some (.lst (ms.map V.bl)))
          ⟨x6, [], rfl, hP6, K6, k6 _ _ h5 gp.1, by rw [List.take_zero]; exact trow_nil, h6, rowq, k6 _ _ (e5 _ _ hF4) Fp.1, row5.keep (by simp) hP5 k6, k6 _ _ (e5 _ _ hD4) Dp.1⟩ (fun _ _ _ _ ⟨_, _, _, _, _, _, _, h, _⟩ => sq_of h) ?_ ?_
        · rintro j x σ' H7 hx ⟨y6, ys, rfl, hP7, k7, hg7, rowk, hq7, rowz, hF7, rowF, hD7⟩
          obtain ⟨a, la, hla, rfl, ha⟩ := rowz.at hx
          have tk : ss.take (j + 1) = ss.take j ++ [la] := by rw [List.take_add_one, hla]; rfl
          have lin := List.mem_of_getElem? hla
          have l4 := (eight_ok la (okq.2.2 la lin)).2.1
          have c := el_mapT (K := K) (σ := [some (.ref p), some (.int (n : Int)), some (.ref D), some (.ref F0), some (.int (i : Int)), some (.ref g), some (.ref a), none]) (H := H7) (tl := tVar 6) (t := tB (tOp (rIxL K) (tVar 2) (tOp (rI (fun _ j => 0 < j) fun i j => .int (i % j)) (tCB (fun xs H Q => (∃ i, xs = [V.int i] ∧ Q (.int i) H) ∨ ∃ k, xs = [V.bl k] ∧ Q (.int (if k then 1 else 0)) H) (tCons (tOp (rI0 fun i j => .int (i - j)) (tVar 4) (tVar 7)) tNil)) (tVar 1)))) (te := tVar 7) (fun a : Nat => V.int (a : Int)) (l := la) (j := 7) (vs := [7]) (fun a => cycM ms ((i : Int) - (a : Int))) (fun a : Nat => V.int (a : Int)) (etu_var rfl (by rw [← vN_map]; exact st_of ha)) (by omega) (fun _ => rfl)
            (fun b hb H8 e8 => by
              obtain ⟨k', k1', k2', k3'⟩ := cycM_at (ms := ms) (by omega) ((i : Int) - (b : Int))
              refine et_B (ev_op (ev_var rfl) (y := .int (k' : Int)) (ev_is (ev_op (ev_cb (ea_cons (ev_op (ev_var rfl) (ev_var rfl) rv_I0) ea_nil) rc_int) (ev_var rfl) (rv_I (by omega))) (by rw [← msl, k2'])) (rv_ixL (sq_of (e8 _ _ hD7)) (atI_nat (by rw [List.getElem?_map, k3']; rfl))))) (fun b hb H8 e8 _ => ev_var rfl)
          rw [← vN_map] at c
          refine s_when (b := goodS ms i la) (et_is (et_test (ev_eqL (xs := zI (la.filter fun a => cycM ms ((i : Int) - (a : Int)))) (ys := []) c (el_nil (σ := [some (.ref p), some (.int (n : Int)), some (.ref D), some (.ref F0), some (.int (i : Int)), some (.ref g), some (.ref a), none]) (H := H7)))) (decide_eq_decide.mpr ⟨fun z => List.map_eq_nil_iff.mp z, fun z => by rw [z]; rfl⟩)) (fun hb H8 e8 => ?_) (fun hb H8 e8 => ?_)
          · refine s_app (K := K) (xs := ys) (e8 _ _ hg7) (ev_var rfl) (ev_var (v := .ref a) rfl) (by have := rowk.1; have := List.length_filter_le (goodS ms i) (ss.take j); have := List.length_take (i := j) (l := ss); have := okq.2.1; omega) fun H9 e9 => ?_
            have E9 := e8.trans e9
            have hg9 := E9 _ _ hg7
            refine ⟨_, _, rfl, ((hP7.mono E9 (Nat.le_refl _)).upd' gp.1 gp.2), (k7.trans (Keep.of_ex E9)).mut gH, upd_same, ?_, by rw [upd_ne qg]; exact E9 _ _ hq7, trow_updL (rowz.mono E9) hg9, by rw [upd_ne gF.symm]; exact E9 _ _ hF7, (rowF.mono E9).upd (by simp) hg9, by rw [upd_ne gD.symm]; exact E9 _ _ hD7⟩
            rw [tk, List.filter_append, List.filter_cons, if_pos hb]
            exact trow_updL (trow_snoc (rowk.mono E9) (E9 _ _ ha)) hg9
          · refine ⟨_, ys, rfl, hP7.mono e8 (Nat.le_refl _), k7.trans (Keep.of_ex e8), e8 _ _ hg7, ?_, e8 _ _ hq7, rowz.mono e8, e8 _ _ hF7, rowF.mono e8, e8 _ _ hD7⟩
            rw [tk, List.filter_append, List.filter_cons, if_neg (by rw [hb]; decide)]
            show TRow _ _ (_ ++ [])
            rw [List.append_nil]
            exact rowk.mono e8
        · rintro σ' H7 ⟨y6, ys, rfl, hP7, k7, hg7, rowk, hq7, rowz, hF7, rowF, hD7⟩
          rw [rowz.1, List.take_length] at rowk
          have mi : ms[i]? = some ms[i] := List.getElem?_eq_getElem (by omega)
          generalize ms[i] = mb at mi
          refine s_appU (K := K) (xs := xs) (ys := [.bl mb, .ref g]) hF7 (ev_var rfl) (eu_tup (ea_cons (ev_op (ev_var rfl) (ev_var rfl) (rv_ixL (sq_of hD7) (atI_nat (by rw [List.getElem?_map, mi]; rfl)))) (ea_cons (ev_var rfl) ea_nil)) (by show 2 ≤ 100000; decide)) (by rw [row4.1]; omega) fun t H8 ht e8 h8 => ?_
          have hF8 := e8 _ _ hF7
          have gin : g ∉ [F0, p] := fun z => by
            rcases List.mem_cons.mp z with z | z
            · exact gF z
            · exact gp.1 (List.mem_singleton.mp z)
          have row8 : LRow [F0, p] H8 (xs ++ [.ref t]) (ps ++ [(mb, ss.filter (goodS ms i))]) := LRow.snoc (rowF.less.mono e8) h8 (e8 _ _ hg7) gin (rowk.mono e8)
          refine ⟨_, _, _, _, _, rfl, (hP7.mono e8 (by omega)).upd' Fp.1 Fp.2, (k7.trans (Keep.of_ex e8)).mut FH, upd_same, row8.upd (by simp) hF8, by rw [List.length_append, pl4]; rfl, fun j q hq => ?_, by rw [upd_ne FD.symm]; exact e8 _ _ hD7⟩
          rcases Nat.lt_or_ge j ps.length with c | c
          · rw [List.getElem?_append_left c] at hq
            exact ok4 j q hq
          · rw [List.getElem?_append_right c] at hq
            have j0 : j - ps.length = 0 := by
              rcases Nat.eq_zero_or_pos (j - ps.length) with z | z
              · exact z
              · rw [List.getElem?_eq_none (by show 1 ≤ _; omega)] at hq
                cases hq
            rw [j0] at hq
            obtain rfl := Option.some.inj hq
            have ji : j = i := by omega
            subst ji
            exact ⟨mi, fun l hl => (List.mem_filter.mp hl).2, okq.1.filter _, Nat.le_trans (List.length_filter_le _ _) okq.2.1, fun l hl => okq.2.2 l (List.mem_filter.mp hl).1⟩
      · rintro σ' H4 ⟨x4, x5, x6, xs, ps, rfl, hP4, k4, hF4, row4, pl4, ok4, hD4⟩
        rw [Int.toNat_natCast] at hP4 pl4
        exact s_ret (v := .ref F0) (ev_var rfl) fun H5 e5 => k F0 xs ps H5 FH (e5 _ _ hF4) (row4.less.mono e5) (pln_ok (by omega) (by omega) m0 (by omega) ok4) (hP4.mono e5 (by omega)) (k4.trans (Keep.of_ex e5))
end
end K17
namespace K17
open PySem L2 Evl Gr StX EnT MkS StK ClX ClK RdX Kn
/-- the same phases, their sums in any order -/
def Sim (ps qs : List Ph) : Prop := qs.length = ps.length ∧ ∀ (i : Nat) (p q : Ph), ps[i]? = some p → qs[i]? = some q → q.1 = p.1 ∧ q.2.Perm p.2
theorem sim_nil : Sim [] [] := ⟨rfl, fun i p q h => by cases h⟩
theorem Sim.snoc {ps qs : List Ph} {p q : Ph} (h : Sim ps qs) (h1 : q.1 = p.1) (h2 : q.2.Perm p.2) : Sim (ps ++ [p]) (qs ++ [q]) := ⟨by rw [List.length_append, List.length_append, h.1]; rfl, fun i x y hx hy => by
  rcases Nat.lt_or_ge i ps.length with c | c
  · rw [List.getElem?_append_left c] at hx
    rw [List.getElem?_append_left (by rw [h.1]; exact c)] at hy
    exact h.2 i x y hx hy
  · rw [List.getElem?_append_right c] at hx
    rw [List.getElem?_append_right (by rw [h.1]; exact c), h.1] at hy
    generalize i - ps.length = j at hx hy
    cases j with
    | zero =>
      cases hx
      cases hy
      exact ⟨h1, h2⟩
    | succ j => cases hx⟩
theorem Sim.cyc {ps qs : List Ph} (h : Sim ps qs) (h0 : 0 < ps.length) (i : Int) : (cyc qs i).1 = (cyc ps i).1 ∧ (cyc qs i).2.Perm (cyc ps i).2 := by
  obtain ⟨k, k1, k2, k3⟩ := cyc_at (ps := ps) h0 i
  obtain ⟨k', k1', k2', k3'⟩ := cyc_at (ps := qs) (by rw [h.1]; exact h0) i
  rw [h.1, k2] at k2'
  have : k = k' := by omega
  subst this
  exact h.2 k _ _ k3 k3'
theorem sms_ok {ss : List (List Nat)} (h : SmsOk ss) : PhOk ss := ⟨fun l hl => eight_ok l (h.2.2 l hl), by have := h.2.1; omega⟩
theorem Sim.ok {ps qs : List Ph} (h : Sim ps qs) (ok : PlnOk ps) : PlOk qs := by
  obtain ⟨l1, l3, ⟨p, hp, mp⟩, no, _⟩ := ok
  refine ⟨by rw [h.1]; exact l1, by rw [h.1]; omega, ?_, fun i hi l hl a ha => ?_⟩
  · obtain ⟨i, hi⟩ := List.mem_iff_getElem?.mp hp
    have lt : i < qs.length := by rw [h.1]; exact (List.getElem?_eq_some_iff.mp hi).1
    exact ⟨qs[i], List.getElem_mem lt, ((h.2 i p _ hi (List.getElem?_eq_getElem lt)).1).trans mp⟩
  · rw [h.1] at hi
    rw [(h.cyc (by omega) _).1]
    exact no i hi l ((h.cyc (by omega) _).2.mem_iff.mp hl) a ha
section
variable {P : Program} {w : World} {K : PySem.W.Frag} {mg : Str → Option Value} {base : Heap}
/-! ### _law_phase -/
abbrev sPhs : Stmt := top 29
def RetPh (K : PySem.W.Frag) (C : Addr) (p : Ph) (H : Hp) (Q : VK) : Prop := ∀ o ss H', Ex H H' → PhAt K C H' o (p.1, ss) → ss.Perm p.2 → Q (.ref o) H'
def spPhs (K : PySem.W.Frag) (C : Addr) : Sp := fun vs H Q _ => ∃ (t s : Addr) (ys : List V) (p : Ph), vs = [.ref t] ∧ H t = some (.tup [.bl p.1, .ref s]) ∧ H s = some (.lst ys) ∧ TRow H ys p.2 ∧ SmsOk p.2 ∧ RetPh K C p H Q
theorem scPhs : FnScope ["_law_row"] ["_law_row"] (defScope sPhs) := ⟨rfl, rfl, rfl, by decide +kernel, rfl, by decide +kernel, by decide +kernel⟩
theorem ok_Phs {CP C fP fI f : Addr} {fd : FuncData} (F : Fun K "_law_phase" "_law_phase" sPhs f fd) (S : GlbS mg) (G : GPl P w K mg base CP C fP fI) : FnOk P w K mg base CX0 6 f fd ["_law_row"] (spPhs K C) := by
  refine F.ok scPhs (fun vs H Q E h => ?_) (fun cdv A outer s H vs Q E hr h => ?_)
  · obtain ⟨t, s, ys, p, rfl, _⟩ := h
    rfl
  · obtain ⟨t, r, ys, p, rfl, ht, hs, row, ok, k⟩ := h
    refine ⟨_, (pss_cons (ps_if (pt_cmpR op_eq (pe_callB call_len_seq (by rfl) S.len PySem.boot_len (pa_cons (pe_ix (show IxR _ (rIxT K) from ix_tup) (pv 0) pe_int (fun _ _ => rfl)) pa_nil)) pe_int (nomark _))
        (pss_one (ps_ret (pe_makeSK0 (E := E0) G.mC G.initK hr (by rfl) G.gC pass0 (pk_cons (pe_ix (show IxR _ (rIxT K) from ix_tup) (pv 0) pe_int (fun _ _ => rfl)) pk_nil)))) pss_nil)
      (pss_one (ps_ret (pe_ifExp (pt_cmpR op_eq (pe_callB call_len_seq (by rfl) S.len PySem.boot_len (pa_cons (pe_ix (show IxR _ (rIxT K) from ix_tup) (pv 0) pe_int (fun _ _ => rfl)) pa_nil)) pe_int (nomark _))
        (pe_makeSK (E := E0) G.mC G.initK hr (by rfl) G.gC pass0 (pa_cons (pe_ix (show IxR _ (rIxL K) from ix_list) (pe_ix (show IxR _ (rIxT K) from ix_tup) (pv 0) pe_int (fun _ _ => rfl)) pe_int (fun _ _ => rfl)) pa_nil) (pk_cons (pe_ix (show IxR _ (rIxT K) from ix_tup) (pv 0) pe_int (fun _ _ => rfl)) pk_nil))
        (pe_makeSK (E := E0) G.mC G.initK hr (by rfl) G.gC pass0 (pa_cons (pe_ix (show IxR _ (rIxL K) from ix_list) (pe_ix (show IxR _ (rIxT K) from ix_tup) (pv 0) pe_int (fun _ _ => rfl)) pe_int (fun _ _ => rfl)) (pa_cons (pe_ix (show IxR _ (rIxL K) from ix_list) (pe_ix (show IxR _ (rIxT K) from ix_tup) (pv 0) pe_int (fun _ _ => rfl)) pe_int (fun _ _ => rfl)) pa_nil)) (pk_cons (pe_ix (show IxR _ (rIxT K) from ix_tup) (pv 0) pe_int (fun _ _ => rfl)) pk_nil)))))), ?_⟩
    have r0 : ∀ {H1 : Hp}, Ex H H1 → Ev (tOp (rIxT K) (tVar 0) (tC (.int 0))) [some (.ref t)] H1 (.bl p.1) := fun e => ev_op (ev_var rfl) ev_c (rv_ixT (st_of (e _ _ ht)) (atI_nat (j := 0) rfl))
    have r1 : ∀ {H1 : Hp}, Ex H H1 → Ev (tOp (rIxT K) (tVar 0) (tC (.int 1))) [some (.ref t)] H1 (.ref r) := fun e => ev_op (ev_var rfl) ev_c (rv_ixT (st_of (e _ _ ht)) (atI_nat (j := 1) rfl))
    have ln : ∀ {H1 : Hp}, Ex H H1 → Ev (tCB (rLen K) (tCons (tOp (rIxT K) (tVar 0) (tC (.int 1))) tNil)) [some (.ref t)] H1 (.int (p.2.length : Int)) := fun e => ev_is (ev_cb (ea_cons (r1 e) ea_nil) (rc_lenQ (.inl (sq_of (e _ _ hs))))) (by rw [row.1])
    have l2 := ok.2.1
    have end_ : ∀ {te : TE} {H1 : Hp} {ss : List (List Nat)}, Ex H H1 → EvPh K C te [some (.ref t)] H1 (p.1, ss) → ss = p.2 → te [some (.ref t)] H1 Q := fun {te} {H1} {ss} e h es => h H1 (Ex.refl H1) _ fun o ss' H2 e2 at_ pm => k o ss' H2 (e.trans e2) at_ (by rw [← es]; exact pm)
    refine q_when (et_test (ev_op (ln (Ex.refl H)) ev_c (rv_eq rfl))) (fun hb H1 e1 => ?_) (fun hb H1 e1 => ?_)
    · have l0 : p.2.length = 0 := by have := of_decide_eq_true hb; have := V.int.inj this; omega
      have nil : p.2 = [] := List.eq_nil_of_length_eq_zero l0
      exact s_retR (end_ (ss := []) e1 (ep_K ear_nil (ea_cons (r0 e1) ea_nil) ⟨fun l hl => (by cases hl), by decide⟩ List.nodup_nil) nil.symm)
    · have l0 : p.2.length ≠ 0 := fun z => by rw [z] at hb; exact absurd hb (by decide)
      obtain ⟨x, hx⟩ : ∃ x, ys[0]? = some x := ⟨_, List.getElem?_eq_getElem (by rw [row.1]; omega)⟩
      obtain ⟨a, la, hla, rfl, ha⟩ := row.at hx
      have a0 : ∀ {H2 : Hp}, Ex H H2 → Ev (tOp (rIxL K) (tOp (rIxT K) (tVar 0) (tC (.int 1))) (tC (.int 0))) [some (.ref t)] H2 (.ref a) := fun e => ev_op (r1 e) ev_c (rv_ixL (sq_of (e _ _ hs)) (atI_nat (j := 0) hx))
      refine s_retR ?_
      refine et_test (ev_op (ln e1) ev_c (rv_eq rfl)) H1 (Ex.refl H1) _ fun H2 e2 => ?_
      have E2 := e1.trans e2
      by_cases c : p.2.length = 1
      · rw [show decide (V.int (p.2.length : Int) = V.int 1) = true from decide_eq_true (by rw [c]; rfl)]
        have one : p.2 = [la] := by
          match h : p.2, c with
          | [y], _ => rw [h] at hla; cases hla; rfl
        exact iteT (end_ (ss := [la]) E2 (ep_K (ear_var (i := 0) (a0 E2) (E2 _ _ ha) ear_nil) (ea_cons (r0 E2) ea_nil) ⟨fun l hl => (sms_ok ok).1 l (by rw [one]; exact hl), by show 1 ≤ 4; decide⟩ (by simp)) one.symm)
      · rw [show decide (V.int (p.2.length : Int) = V.int 1) = false from decide_eq_false fun z => c (by have := V.int.inj z; omega)]
        obtain ⟨y, hy⟩ : ∃ y, ys[1]? = some y := ⟨_, List.getElem?_eq_getElem (by rw [row.1]; omega)⟩
        obtain ⟨b, lb, hlb, rfl, hb'⟩ := row.at hy
        have b0 : Ev (tOp (rIxL K) (tOp (rIxT K) (tVar 0) (tC (.int 1))) (tC (.int 1))) [some (.ref t)] H2 (.ref b) := ev_op (r1 E2) ev_c (rv_ixL (sq_of (E2 _ _ hs)) (atI_nat (j := 1) hy))
        have two : p.2 = [la, lb] := by
          match h : p.2, l0, c, l2 with
          | [x, y], _, _, _ => rw [h] at hla hlb; cases hla; cases hlb; rfl
          | [], z, _, _ => exact absurd rfl z
          | [_], _, z, _ => exact absurd rfl z
          | _ :: _ :: _ :: _, _, _, z => exact absurd z (by simp only [List.length_cons]; omega)
        exact iteF (end_ (ss := [la, lb]) E2 (ep_K (ear_var (i := 0) (a0 E2) (E2 _ _ ha) (ear_var (i := 0) b0 (E2 _ _ hb') ear_nil)) (ea_cons (r0 E2) ea_nil) ⟨fun l hl => (sms_ok ok).1 l (by rw [two]; exact hl), by show 2 ≤ 4; decide⟩ (by rw [← two]; exact ok.1)) two.symm)
end
end K17
namespace K17
open PySem L2 Evl Gr StX EnT Kn
/-! ### sums sorted as texts stand as they are sorted as tuples -/
theorem strict_of {ss : List (List Nat)} (h : Asc ss) (nd : ss.Nodup) : ss.Pairwise fun a b => HT.lexLt (zI a) (zI b) = true := by
  have both := List.pairwise_and_iff.mpr ⟨h, nd⟩
  exact both.imp fun {a b} ⟨x, y⟩ => by
    cases c : HT.lexLt (zI a) (zI b) with
    | true => rfl
    | false => exact absurd (lex_anti c x) y
theorem sort_is {ss ss' : List (List Nat)} {ys : List Str} (ok : ∀ l ∈ ss, AgesOk l) (nd : ss.Nodup) (pm : ss'.Perm ss) (asc : Asc ss') (py : ys.Perm (ss.map spW)) (sy : PyProof.Rows.sortedS ys = true) : ys = ss'.map spW := by
  have f : ∀ l ∈ ss, l ∈ fift := fun l hl => ages_fift (ok l hl)
  have f' : ∀ l ∈ ss', l ∈ fift := fun l hl => f l (pm.mem_iff.mp hl)
  have nd' : ss'.Nodup := pm.nodup_iff.mpr nd
  have ndy : ys.Nodup := by
    refine py.nodup_iff.mpr ?_
    unfold List.Nodup
    rw [List.pairwise_map]
    exact List.Pairwise.imp_of_mem (fun {a b} ha hb h y => h (spW_inj (f a ha) (f b hb) y)) nd
  refine StO.one (StO.rows sy ndy) ?_ fun z => ?_
  · rw [List.pairwise_map]
    refine List.Pairwise.imp_of_mem (fun {a b} ha hb h => ?_) (strict_of asc nd')
    rw [StO.lt_iff]
    have := spW_lt (f' a ha) (f' b hb)
    rw [h] at this
    exact of_decide_eq_true this
  · rw [py.mem_iff]
    exact (pm.map spW).mem_iff.symm
/-! ### texts of plans -/
def rowT (p : Ph) : Str := Txt.join " " (rowW p)
theorem joinL_snoc (S p : List Nat) : ∀ {l : List (List Nat)}, l ≠ [] → TL.joinL S (l ++ [p]) = TL.joinL S l ++ (S ++ p)
  | [], h => absurd rfl h
  | [q], _ => rfl
  | q :: r :: l, _ => by
    show q ++ (S ++ TL.joinL S (r :: l ++ [p])) = q ++ (S ++ TL.joinL S (r :: l)) ++ (S ++ p)
    rw [joinL_snoc S p (l := r :: l) (by simp), List.append_assoc, List.append_assoc]
theorem joinL_app (S : List Nat) : ∀ {l m : List (List Nat)}, l ≠ [] → m ≠ [] → TL.joinL S (l ++ m) = TL.joinL S l ++ (S ++ TL.joinL S m)
  | [], _, h, _ => absurd rfl h
  | [q], [], _, h => absurd rfl h
  | [q], m :: ms, _, _ => rfl
  | q :: r :: l, m, _, h => by
    show q ++ (S ++ TL.joinL S (r :: l ++ m)) = q ++ (S ++ TL.joinL S (r :: l)) ++ (S ++ TL.joinL S m)
    rw [joinL_app S (l := r :: l) (by simp) h, List.append_assoc, List.append_assoc]
theorem tl_txt (s : Str) (ws : List Str) : TL.tl (Txt.join s ws) = TL.joinL (TL.tl s) (ws.map TL.tl) := by rw [TL.join_eq, TL.tl_join]
theorem W_ne {ps : List Ph} (h : ps ≠ []) : W ps ≠ [] := by
  rcases List.eq_nil_or_concat ps with y | ⟨dl, q, y⟩
  · exact absurd y h
  · rw [List.concat_eq_append] at y
    rw [y, W_snoc]
    unfold rowW
    simp
theorem text_is : ∀ (k : Nat) (ps : List Ph), ps.length = k + 1 → Txt.join " / " (ps.map rowT) = txP ps := by
  intro k
  induction k with
  | zero =>
    intro ps hl
    match ps, hl with
    | [p], _ =>
      have := W_snoc [] p
      rw [List.nil_append] at this
      refine TL.ext_tl ?_
      unfold txP
      rw [show wordsP [p] [p].length = W [p] from rfl, this, tl_txt]
      rfl
  | succ k ih =>
    intro ps hl
    obtain ⟨qs, p, rfl⟩ : ∃ qs p, ps = qs ++ [p] := by
      rcases List.eq_nil_or_concat ps with y | ⟨dl, q, y⟩
      · rw [y] at hl; cases hl
      · rw [List.concat_eq_append] at y
        exact ⟨dl, q, y⟩
    rw [List.length_append] at hl
    have hl' : qs.length = k + 1 := by simpa using hl
    have ne : qs ≠ [] := fun y => by rw [y] at hl'; cases hl'
    have IH := congrArg TL.tl (ih qs hl')
    rw [tl_txt] at IH
    refine TL.ext_tl ?_
    rw [tl_txt, List.map_append, List.map_append]
    show TL.joinL _ ((qs.map rowT).map TL.tl ++ [TL.tl (rowT p)]) = _
    rw [joinL_snoc _ _ (by simpa using ne), IH]
    unfold txP rowT
    show _ = TL.tl (Txt.join " " (W (qs ++ [p])))
    rw [W_snoc, if_neg (by omega), tl_txt, tl_txt, tl_txt, List.map_append, List.map_append, joinL_app _ (by simp) (by unfold rowW; simp), joinL_app _ (by simpa using W_ne ne) (by simp)]
    have s1 : TL.tl " / " = [32, 47, 32] := by decide +kernel
    have s2 : TL.tl " " = [32] := by decide +kernel
    have s3 : TL.tl "/" = [47] := by decide +kernel
    rw [s1, s2]
    show _ ++ ([32, 47, 32] ++ _) = _ ++ ([32] ++ TL.joinL [32] [TL.tl "/"]) ++ ([32] ++ _)
    rw [s3]
    show _ ++ ([32, 47, 32] ++ _) = _ ++ ([32] ++ [47]) ++ ([32] ++ _)
    simp only [List.append_assoc]
    rfl
theorem rowG_of {ss : List (List Nat)} (h : PhA ss) (nd : ss.Nodup) : RowG ss := ⟨h.1, h.2.1, strict_of h.2.2 nd⟩
/-- the text of a good plan is a good line, and tells it -/
theorem txP_ok {ps : List Ph} (hg : ∀ p ∈ ps, RowG p.2) (h1 : 1 ≤ ps.length) (h4 : ps.length ≤ 4) : LnOk 24 (txP ps) ∧ Txt.split (txP ps) " " = W ps ∧ rowsF (Txt.split (txP ps) " ") = .inr ps := by
  have ne : ps ≠ [] := fun y => by rw [y] at h1; exact absurd h1 (by decide)
  have good : ∀ i, ∀ l ∈ (cyc ps i).2, l ∈ fift := fun i l hl => by
    obtain ⟨k, _, _, hk⟩ := cyc_at (ps := ps) (by omega) i
    exact ages_fift ((hg _ (List.mem_of_getElem? hk)).1 l hl)
  have len : ∀ i, (cyc ps i).2.length ≤ 4 := fun i => by
    obtain ⟨k, _, _, hk⟩ := cyc_at (ps := ps) (by omega) i
    exact (hg _ (List.mem_of_getElem? hk)).2.1
  have wrd : ∀ n, ∀ w ∈ wordsP ps n, Wrd w := fun n => by
    induction n with
    | zero => exact fun w hw => by cases hw
    | succ n ih =>
      intro w hw
      unfold wordsP at hw
      rcases List.mem_append.mp hw with c | c
      · rcases List.mem_append.mp c with c | c
        · exact ih w c
        · split at c
          · cases c
          · rw [List.mem_singleton.mp c]
            exact bar_wrd
      · unfold rowW at c
        rcases List.mem_cons.mp c with c | c
        · rw [c]; exact kind_wrd _
        · obtain ⟨l, hl, rfl⟩ := List.mem_map.mp c
          exact sumT_wrd (good _ l hl)
  have few := wordsP_len len ps.length
  obtain ⟨a, b⟩ := ln_join (n := 24) (wrd ps.length) (by omega) (by decide)
  have b := b (W_ne ne)
  refine ⟨a, b, ?_⟩
  show rowsF (Txt.split (Txt.join " " (W ps)) " ") = _
  rw [b]
  exact rows_W hg h1 h4
end K17
/-! x.replace(y, z) of written texts where a token has come out: of a def's answer, behind a written text, in a comprehension -/
namespace TkL
open PySem PySem.Spec PyProof.Rows L2
/-- the promise of a def, and that its call gives a token out -/
structure FnT (P : Program) (w : World) (K : PySem.W.Frag) (mg : Str → Option Value) (base : Heap) (k : Nat) (f : Addr) (fd : FuncData) (ps : List Str) (sp : Sp) : Prop where
  len : ∀ vs H Q E, sp vs H Q E → vs.length = ps.length
  run : ∀ (A : Around) (outer : List Env) (s : Shared) (H : Hp) (args : Args) (us : List Value) (vs : List V) (Q : VK) (E : XK), Room k A → Env0 P w K mg base A outer s H → BindsTo s fd args (ps.zip us) → Vals vs us → sp vs H Q E →
    codeAny (model P w) A (.call (.ref f) args) (fun r s' => 1 ≤ s'.toks ∧ CR CX0 outer P w H s Q E r s') s
theorem fnT_of {P : Program} {w : World} {K : PySem.W.Frag} {mg : Str → Option Value} {base : Heap} {k : Nat} {f : Addr} {name qual : Str} {params : Arguments} {body : List Stmt} {scope : Scope} {dV kV doc pm cdv ct oc : Value} {an od : Option Addr}
    {osl : Array (Option Value)} {N ps : List Str} {sp : Sp} (lk : K.lookup f = some ⟨oc, od, .func (PySem.W.fnOf name qual params body scope dV kV doc pm an cdv ct), osl⟩) (hcd : PySem.W.codeIn K cdv qual = true) (S : FnScope N ps scope)
    (plain : ∀ y ∈ scope.names, y.2 ≠ .cell) (some_ : 1 ≤ ps.length) (len : ∀ vs H Q E, sp vs H Q E → vs.length = ps.length)
    (goes : ∀ (A : Around) (outer : List Env) (s : Shared) (H : Hp) (vs : List V) (Q : VK) (E : XK), Room k (A.deeper (envOfC qual scope s.heap.objs.size f cdv)) → sp vs H Q E →
      ∃ t, PSs (cxOf CX0 P w K mg base N qual scope f cdv A outer s H E) body t ∧ t { nx := fun _ H' => Q .non H', rt := Q } (start N vs) H) :
    FnT P w K mg base (k + 1) f (PySem.W.fnOf name qual params body scope dV kV doc pm an cdv ct) ps sp := ⟨len, fun A outer s H args us vs Q E room e0 bound rel want => by
  have nv : vs.length = ps.length := len _ _ _ _ want
  have nu : us.length = ps.length := rel.length.symm.trans nv
  have inK : K.In s.heap := e0.mod.kin.keeps fun b o e => (e0.bs b o e).1
  have free_ : s.heap.NoLimit := e0.mod.nolimit.keeps fun b o e => (e0.bs b o e).1
  have each : ∀ y ∈ ps.zip us, scope.names.lookup y.1 = some .local := fun y hy => (S.par y.1 (List.of_mem_zip hy).1).elim id fun q => absurd rfl (plain _ (PySem.mem_of_lookup q))
  have zl : (ps.zip us).length = ps.length := by rw [List.length_zip, nu, Nat.min_self]
  refine codeAny_call_function room.depth (inK _ _ lk) rfl S.co S.gen rfl (PySem.W.codeRec_of inK hcd) (bound _ _ _ _ (wpAny_newFunctionEnv plain each (fun hp names but => ?_) S.kind))
  have stays : ∀ b o, s.heap.get? b = some o → hp.get? b = some o := fun b o e => but.extBut b o (Nat.ne_of_lt (Heap.lt_size e)) (Heap.get?_push_of_some _ e)
  have noCells : cellsFrom (s.heap.objs.size + 1) scope.names [] = [] := cells_none _ _ _ plain
  have kinds : ∀ y ∈ ps.zip us, (envOfC qual scope s.heap.objs.size f cdv).kindOf y.1 = some .local := fun y hy => by
    have := each y hy
    simpa [Env.kindOf, envOfC, newEnv, S.kind] using this
  have bnd : (bindL (envOfC qual scope s.heap.objs.size f cdv).kindOf (ps.zip us) fun _ => none) = fun y => (ps.zip us).reverse.lookup y := funext fun y => by
    rw [bindL_loc _ _ kinds y]
    cases (ps.zip us).reverse.lookup y <;> rfl
  have envIs : newEnv scope s.heap.objs.size mainGlobals [] (qual ++ ".<locals>.") (some f) cdv none builtinsNs = envOfC qual scope s.heap.objs.size f cdv := by
    unfold envOfC
    rw [noCells] <;> rfl
  have inside : InCallC s s.heap.objs.size (bindL (envOfC qual scope s.heap.objs.size f cdv).kindOf (ps.zip us) fun _ => none) (cellsFrom (s.heap.objs.size + 1) scope.names [])
      (bindC (envOfC qual scope s.heap.objs.size f cdv).kindOf (ps.zip us) fun _ => none) ({ s with heap := hp, toks := s.toks + (ps.zip us).length } : Shared) := by
    rw [bnd, noCells]
    exact ⟨⟨⟨_, _, rfl⟩, names, stays, Nat.le_refl _⟩, fun n c hc => absurd hc (by simp), .nil, fun n c hc => absurd hc (by simp)⟩
  have out : 1 ≤ s.toks + (ps.zip us).length := by omega
  show ({ s with heap := hp, toks := s.toks + (ps.zip us).length } : Shared).heap.NoLimit ∧ codeAny (model P w) A (.func body (newEnv scope s.heap.objs.size mainGlobals [] (qual ++ ".<locals>.") (some f) cdv none builtinsNs)) _ ({ s with heap := hp, toks := s.toks + (ps.zip us).length } : Shared)
  rw [envIs]
  obtain ⟨t, runs, ready⟩ := goes A outer s H vs Q E (room.deeper _) want
  have I := inv_start (E := E) (CX := CX0) (w := w) (P := P) (K := K) (mg := mg) (base := base) (A := A) (outer := outer) S room.hd e0 nv rel inside
  refine ⟨free_.keeps stays, codeAny_func (wpAny_mono (PySem.wpAny_toks_of (n := 1) out (runs.run [] _ (start N vs) H _ I ready)) (fun fl s' ⟨one, back⟩ => ⟨one, ?_⟩) fun e s' ⟨one, back⟩ => PySem.wpAny_toks_of one back)⟩
  match fl, back with
  | .ret u, ⟨v, σ', H', J, rv, q⟩ => exact ⟨v, H', J.os, J.bare, J.base, J.hok, rv, q⟩
  | .next, ⟨σ', H', J, q⟩ => exact ⟨.non, H', J.os, J.bare, J.base, J.hok, rfl, q⟩
  | .brk, ⟨_, _, _, q⟩ => exact q.elim
  | .cont, ⟨_, _, _, q⟩ => exact q.elim⟩
section
variable {X : Cx} {e f : Expr} {te tf : TE}
/-- behind e a token is out -/
def PE1 (X : Cx) (e : Expr) (te : TE) : Prop := ∀ (pins : List (Addr × Obj)) (s : Shared) (σ : L2.St) (H : Hp) (Q : VK), Inv X pins σ H s → te σ H Q → wpAny (model X.prog X.w) X.A (eval e X.env) (fun v s' => 1 ≤ s'.toks ∧ EP X pins σ Q v s') X.xe s
theorem pe1_str {x : Str} {j : Nat} {pos : Pos} : PE1 X (.Constant (.str x) j pos) (tC (.str x)) := fun _ s _ H _ I h => Calls.Constant_str ⟨Nat.succ_le_succ (Nat.zero_le _), .str x, H, I.tok _, ⟨_, rfl⟩, h⟩
theorem pe1_if {c : Expr} {tc : TT} {pos : Pos} (hc : PT X c tc) (ha : PE1 X e te) (hb : PE1 X f tf) : PE1 X (.IfExp c e f pos) (tIf tc te tf) := fun pins s σ H Q I h => by
  refine wpAny_IfExp (thn (hc.run pins s σ H _ I h) fun d s1 ⟨H1, I1, q⟩ => ?_)
  cases d
  · exact hb pins s1 σ H1 Q I1 q
  · exact ha pins s1 σ H1 Q I1 q
theorem pe1_lst {pos : Pos} (h : PE1 X e te) (hs : starEach [e] X.env = [(false, eval e X.env)] := by rfl) : PE1 X (.List [e] pos) (tLst (tCons te tNil)) := fun pins s σ H Q I q => by
  refine wpAny_List_spliced ?_
  rw [hs]
  refine Calls.spliced_cons (wpAny_mono (h pins s σ H _ I q) (fun v s1 ⟨one, x, H1, I1, r, few, k⟩ => Calls.spliced_nil ⟨few, one, ?_⟩) fun _ _ z => z)
  have off : H1 s1.heap.objs.size = none := I1.hok.fresh (Nat.le_refl _)
  exact ⟨.ref s1.heap.objs.size, _, I1.laid (o := .lst [x]) (t' := s1.toks) (fun b u z => Heap.get?_push_of_some _ z) (Nat.le_refl _) ⟨few, [v], 0, .cons r .nil, Heap.get?_push_size _ rfl⟩, rfl, k _ off⟩
theorem pe_op1 {op : Operator} {r : R2} {pos : Pos} (ho : OpR X (binaryOp op) r) (ha : PE1 X e te) (hb : PET X f tf) : PE X (.BinOp e op f pos) (tOp r te tf) := ⟨fun pins s σ H Q I h =>
  wpAny_BinOp (thn (ha pins s σ H _ I h) fun v s1 ⟨one, x, H1, I1, r1, q1⟩ => thn (hb pins s1 σ H1 _ one I1 q1) fun u s2 ⟨y, H2, I2, r2, q2⟩ => ho pins s2 σ H2 x y v u Q I2 r1 r2 q2)⟩
/-- a call of such a def -/
theorem pe1_call {k : Nat} {g : Addr} {fd : FuncData} {ps : List Str} {sp : Sp} {x : Str} {a : Expr} {es : List Expr} {t : TA} {p pos : Pos} (F : FnT X.prog X.w X.K X.mg X.base k g fd ps sp) (hr : Room k X.A) (hg : Gl X x) (hm : X.mg x = some (.ref g)) (hk : PySem.W.keepIn X.K (.ref g) = true) (hb : Binds X.K fd ps [])
    (ha : PA X (a :: es) t) (hdb : (x == ("__debug__" : Str)) = false := by decide) (he : starEach (a :: es) X.env = (false, eval a X.env) :: starEach es X.env := by rfl) (hpl : (backTo pos (starEach es X.env)).any (·.1) = false := by rfl) :
    PE1 X (.Call (.Name x p) (a :: es) [] pos) (tCall sp [] E0 t) := fun pins s σ H Q I h => by
  refine wpAny_Call_Name_kw (ld_glob I hg hm (PySem.W.callWith_K (h₀ := X.base) I.ok.mod.kin hk (thn (ha.run pos pins s σ H _ I h) fun us s1 ⟨vs, H1, I1, r, q⟩ => ⟨I1.kIn, ?_⟩) he hpl) hdb)
  have rel : Vals (vs ++ []) (us ++ []) := r.append .nil
  have many : (us ++ []).length = ps.length := rel.length.symm.trans (F.len _ _ _ _ q)
  refine wpAny_call (codeAny_mono (F.run X.A X.stack s1 H1 ⟨us, []⟩ (us ++ []) (vs ++ []) Q E0 hr I1.env0 (hb s1 us I1.kIn many) rel q) fun r s' ⟨one, back⟩ => ?_)
  match r, back with
  | .error er, z => exact pass0 pins σ H1 s1 er s' I1 z
  | .ok (.ret u), z => exact ⟨one, I1.after z⟩
  | .ok .next, z => exact z.elim
  | .ok .brk, z => exact z.elim
  | .ok .cont, z => exact z.elim
variable {y z : Str} {j k : Nat} {c0 c1 apos pos : Pos}
theorem put_in {A : Around} {E : Value → Shared → Prop} {s : Shared} {env : Env} {x : Str} {t : Tok} {Q : Value → Shared → Prop} {prog : Program} {w : World} (one : 1 ≤ s.toks) (hyz : (y == z) = false) (fit : x.length + (x.length + 1) * z.length ≤ 16777216) (q : ∀ t' n, Q (.str (Txt.replace x y z) t') { s with toks := n }) :
    MethodOnS prog w A E "replace" (.str x t) pos [(false, eval (.Constant (.str y) j c0) env), (false, eval (.Constant (.str z) k c1) env)] Q s := by
  have a : s.toks ≠ 0 := by omega
  have b : s.toks + 1 ≠ 0 := Nat.succ_ne_zero _
  have c : s.toks ≠ s.toks + 1 := by omega
  refine ⟨"str", _, PySem.F.plainAttrs_str, PySem.F.slot_str_replace, PySem.F.type_str_replace, typeIs_str _ _ _, (fun _ u => nomatch u), Calls.callWith_builtin rfl (Calls.evalArgs_plain (Calls.spliced_cons (Calls.Constant_str (Calls.spliced_cons (Calls.Constant_str (Calls.spliced_nil ?_))))))⟩
  exact PySem.SC.replace a b c hyz fit fun t' n => q t' n
/-- e.replace(y, z) -/
theorem pe_repl1 (ho : PE1 X e te) (hyz : (y == z) = false := by decide) (hst : starEach [.Constant (.str y) j c0, .Constant (.str z) k c1] X.env = [(false, eval (.Constant (.str y) j c0) X.env), (false, eval (.Constant (.str z) k c1) X.env)] := by rfl)
    (hbase : attributeBase e "replace" X.env (eval e X.env) = eval e X.env := by rfl) (hline : (apos.endLine == pos.line) = true := by rfl) : PE X (.Call (.Attribute e "replace" apos) [.Constant (.str y) j c0, .Constant (.str z) k c1] [] pos) (CwR.tReplC te y z) := ⟨fun pins s σ H Q I h => by
  refine PySem.Call_method2 hbase hst hline (thn (ho pins s σ H _ I h) fun v s1 ⟨one, v', H1, I1, r, x, ex, fit, q⟩ => ?_)
  subst ex
  obtain ⟨t, et⟩ := (show ∃ t, v = Value.str x t from r)
  subst et
  exact put_in one hyz fit fun t' n => ⟨.str (Txt.replace x y z), H1, I1.tok n, ⟨t', rfl⟩, q⟩⟩
/-- [x.replace(y, z) for x in l], l a name that holds a list of texts -/
def tReplL (K : PySem.W.Frag) (i : Nat) (y z : Str) : TE := fun σ H Q => ∃ (a : Addr) (ws : List Str), σ[i]? = some (some (.ref a)) ∧ SqL K H a (ws.map V.str) ∧ (∀ x ∈ ws, x.length + (x.length + 1) * z.length ≤ 16777216) ∧ ∀ p, H p = none → Q (.ref p) (upd H p (.lst (ws.map fun x => V.str (Txt.replace x y z))))
theorem strs_put : ∀ {vs us : List Value}, Paired (fun v r => ∃ x t t', v = Value.str x t ∧ r = Value.str (Txt.replace x y z) t') vs us → ∀ {ws : List Str}, Vals (ws.map V.str) vs → Vals (ws.map fun x => V.str (Txt.replace x y z)) us
  | _, _, .nil, [], _ => .nil
  | _, _, .nil, x :: ws, r => by cases r
  | _, _, .cons h t, [], r => by cases r
  | _, _, .cons h t, x :: ws, .cons r rs => by
    obtain ⟨x', t1, t2, e1, e2⟩ := h
    obtain ⟨t3, e3⟩ := (show ∃ t, _ = Value.str x t from r)
    rw [e1] at e3
    cases e3
    subst e2
    exact .cons ⟨t2, rfl⟩ (strs_put t rs)
theorem stands {P : Program} {w : World} {H : Hp} {h : Heap} {a : Addr} {o : HO} (x : ObjOk P w H h a o) : ∃ u, h.get? a = some u := by
  cases o with
  | lst xs => exact ⟨_, x.2.choose_spec.choose_spec.2⟩
  | tup xs => exact ⟨_, x.2.choose_spec.2.choose_spec.1⟩
  | dK kvs => exact ⟨_, x.2.2.choose_spec.2.choose_spec.choose_spec.choose_spec.1⟩
  | dT kvs => obtain ⟨_, _, _, _, u, _, _, e, _⟩ := x; exact ⟨u, e⟩
  | set S n => obtain ⟨u, _, _, _, e, _⟩ := x; exact ⟨u, e⟩
  | ins C dx fs => exact ⟨_, x.2.2.2.1⟩
  | own y => exact x
  | xd fs => obtain ⟨_, ⟨u, _, _, e, _⟩, _⟩ := x; exact ⟨u, e⟩
  | rng lo hi => obtain ⟨_, _, _, e⟩ := x; exact ⟨_, e⟩
  | frz ob u => exact ⟨_, x.1⟩
  | tbl ps => exact ⟨_, x⟩
  | met f y => exact ⟨_, x⟩
  | ext φ => exact x.2.1
/-- a list has come where nothing stood -/
theorem list_new {pins : List (Addr × Obj)} {σ : L2.St} {H : Hp} {s : Shared} {D : Addr} {h' : Heap} {tk m : Nat} {ys : Array Value} {xs : List V} {Q : VK} (I : Inv X pins σ H s) (old : ∀ b o, s.heap.get? b = some o → h'.get? b = some o) (gone : s.heap.get? D = none) (hm : h'.get? D = some { cls := .type "list", data := .seq ys m })
    (r : Vals xs ys.toList) (few : xs.length ≤ sizeLine) (q : ∀ p, H p = none → Q (.ref p) (upd H p (.lst xs))) : EP X pins σ Q (.ref D) { s with heap := h', toks := tk } := by
  have ne : ∀ b o, s.heap.get? b = some o → b ≠ D := fun b o e z => by rw [z, gone] at e; cases e
  have hD : H D = none := by
    cases e : H D with
    | none => rfl
    | some o =>
      obtain ⟨u, hu⟩ := stands (I.hok D o e)
      rw [gone] at hu
      cases hu
  have off : ∀ b u, H b = some u → b ≠ D := fun b u e z => by rw [z, hD] at e; cases e
  have u : Un X.fs [] H (upd H D (.lst xs)) s.heap h' := {
    keep := fun b o e _ _ _ => old b o e
    slot := fun b o e _ _ _ => ⟨o.slots, old b o e⟩
    free := fun b o e n _ => by rw [upd_ne (ne b o e)]; exact n
    there := fun b o e _ => ⟨o, old b o e⟩
    tups := fun b zs e => by rw [upd_ne (off b _ e)]; exact e
    frzs := fun b o u e => by rw [upd_ne (off b _ e)]; exact e
    tbls := fun b ps e => ⟨#[], by rw [upd_ne (off b _ e), Array.append_empty]; exact e⟩ }
  have ok : HOk X.prog X.w (upd H D (.lst xs)) h' := I.hok.laidN old hD ⟨few, ys.toList, m, r, by rw [Array.toArray_toList]; exact hm⟩
  exact ⟨.ref D, _, I.un u ok, rfl, q D hD⟩
theorem pet_lcRepl {x l : Str} {i : Nat} {px tx lx cpos lpos : Pos} {scope : Scope} (hc : X.calm = true) (hN : X.N[i]? = some l) (hv : Vis X.env.scope l) (open_ : ∀ n ∈ scope.names, n.2 ≠ .free) (plain : ∀ n ∈ scope.names, n.2 ≠ .cell) (kind : scope.kind = .function) (locs : ∀ n ∈ scope.names, n.2 = .local → scope.names.lookup n.1 = some .local) (hx : scope.names.lookup x = some .local)
    (hyz : (y == z) = false := by decide) (d1 : (l == ("__debug__" : Str)) = false := by decide) (d2 : (l == ("__classdict__" : Str)) = false := by decide) (d3 : (x == ("__debug__" : Str)) = false := by decide)
    (hst : ∀ env, starEach [.Constant (.str y) j c0, .Constant (.str z) k c1] env = [(false, eval (.Constant (.str y) j c0) env), (false, eval (.Constant (.str z) k c1) env)] := by intro _; rfl)
    (hbase : ∀ env, attributeBase (.Name x px) "replace" env (eval (.Name x px) env) = eval (.Name x px) env := by intro _; rfl) (hline : (apos.endLine == cpos.line) = true := by rfl) (hs : ∀ v, foldedSetIterable (.Name l lx) X.env v = pure v := by intro _; rfl) :
    PET X (.ListComp (.Call (.Attribute (.Name x px) "replace" apos) [.Constant (.str y) j c0, .Constant (.str z) k c1] [] cpos) [⟨.Name x tx, .Name l lx, [], 0⟩] scope lpos) (tReplL X.K i y z) := by
  intro pins s σ H Q one I ⟨a, ws, hi, hl, fit, q⟩
  obtain ⟨its, rel, pl, hz⟩ := I.list hl
  have lenI : its.length = ws.length := by rw [← rel.length, List.length_map]
  rw [List.length_map] at hz
  have apart : a ≠ s.heap.objs.size := fun e => by
    obtain ⟨o, ho, _⟩ := pl.isList
    exact absurd (Heap.lt_size ho) (by rw [e]; exact Nat.lt_irrefl _)
  refine wpAny_ListComp_walk (fun _ => true) (fun v r => ∃ x t t', v = Value.str x t ∧ r = Value.str (Txt.replace x y z) t') open_ plain kind locs hx (raw_name hN hv I hi (fun u ru => ?_) d1 d2) hs
  cases (show u = Value.ref a from ru)
  refine wpAny_pyIter_list pl.isList ⟨s.heap.objs.size, [s.heap.objs.size, a], [s.heap.objs.size], its.toArray.size, _, _, rfl, Walks.list (I.ok.hd hc) s.heap.objs.size a apart its.toArray, by rw [List.size_toArray, lenI]; exact hz,
    ⟨⟨_, Heap.get?_push_size _ rfl, rfl, rfl⟩, pl.isList.at fun o e => Heap.get?_push_of_some _ e⟩, fun b hb => ?_, ⟨fun C n v s3 m E' hp hn hm ex tk => wpAny_pure ⟨rfl, s3.heap, s3.toks, rfl, fun _ _ e => e⟩, fun C n v s3 m E' hp _ hn hm ex tk => ?_⟩, fun D h' tk ys vs fresh isl pll nv items pairs ex => ?_⟩
  · show b < (s.heap.push _).objs.size
    rw [Heap.size_push]
    rcases List.mem_cons.mp hb with e | e
    · rw [e]; exact Nat.lt_succ_self _
    · rw [List.mem_singleton.mp e]
      obtain ⟨o, ho, _⟩ := pl.isList
      exact Nat.lt_succ_of_lt (Heap.lt_size ho)
  · have at_ : its[n]? = some v := by simpa using hp
    have ln : n < ws.length := by rw [← lenI]; exact (List.getElem?_eq_some_iff.mp at_).1
    obtain ⟨u, hu, ru⟩ := rel.get (i := n) (x := .str ws[n]) (by rw [List.getElem?_map, List.getElem?_eq_getElem ln]; rfl)
    rw [at_] at hu
    cases hu
    obtain ⟨t, et⟩ := (show ∃ t, v = Value.str ws[n] t from ru)
    subst et
    have more : 1 ≤ s3.toks := Nat.le_trans one tk
    refine PySem.Call_method2 (hbase _) (hst _) hline (wpAny_Name (wpAny_loadName_local kind (show (compEnv scope C X.env).kindOf x = some .local by simp [Env.kindOf, compEnv, kind, hx]) hn hm ?_) d3)
    exact put_in more hyz (fit _ (List.getElem_mem ln)) fun t' n' => ⟨⟨_, t, t', rfl, rfl⟩, s3.heap, n', rfl, fun _ _ e => e⟩
  · rw [List.filter_eq_self.mpr fun _ _ => rfl] at pairs
    have vis : vs = its := List.ext_getElem? fun n => by
      by_cases c : n < vs.length
      · have e := items n _ (List.getElem?_eq_getElem c)
        have e : its[n]? = some vs[n] := by simpa using e
        rw [e, List.getElem?_eq_getElem c]
      · rw [List.getElem?_eq_none (by omega), List.getElem?_eq_none (by rw [List.size_toArray] at nv; omega)]
    subst vis
    have old : ∀ b o, s.heap.get? b = some o → h'.get? b = some o := fun b o e => ex b o (fun hb => by rw [List.mem_singleton.mp hb] at e; exact absurd (Heap.lt_size e) (Nat.lt_irrefl _)) (Heap.get?_push_of_some _ e)
    have gone : s.heap.get? D = none := by
      cases e : s.heap.get? D with
      | none => rfl
      | some o => rw [Heap.get?_push_of_some _ e] at fresh; cases fresh
    obtain ⟨m, hm⟩ := pll
    have many := strs_put pairs rel
    show EP X pins σ Q (.ref D) { s with heap := h', toks := tk }
    exact list_new I old gone hm many (by rw [List.length_map]; exact hz) q
end
end TkL
namespace K17
open PySem L2 Evl Gr StX EnT MkS StK ClX ClK RdX OwX OwC TkL CwR Kn
section
variable {K : PySem.W.Frag} {σ : L2.St} {H : Hp} {ta tb te tl : TE} {t : TT}
theorem el_cat {xs ys : List V} (ha : EvL ta σ H xs) (hb : EvL tb σ H ys) (hz : xs.length + ys.length ≤ 100000) : EvL (tOp rCat ta tb) σ H (xs ++ ys) := fun H1 e Q q =>
  ha H1 e _ fun p H2 hp e2 h2 => hb H2 (e.trans e2) _ fun r H3 hr e3 h3 => ⟨p, r, xs, ys, rfl, rfl, e3 _ _ h2, h3, sz_of hz, fun d hd => q d _ (fresh_back (e2.trans e3) hd) ((e2.trans e3).trans (Ex.new hd)) upd_same⟩
theorem ev_replC {x y z : Str} (h : Ev ta σ H (.str x)) (fit : x.length + (x.length + 1) * z.length ≤ 16777216) : Ev (tReplC ta y z) σ H (.str (Txt.replace x y z)) := fun H1 e Q q => h H1 e _ fun H2 e2 => ⟨x, rfl, fit, q H2 e2⟩
theorem el_replL {i : Nat} {a : Addr} {ws : List Str} {y z : Str} (h : σ[i]? = some (some (.ref a))) (hl : SqL K H a (ws.map V.str)) (fit : ∀ x ∈ ws, x.length + (x.length + 1) * z.length ≤ 16777216) : EvL (tReplL K i y z) σ H (ws.map fun x => V.str (Txt.replace x y z)) := fun H1 e Q q =>
  ⟨a, ws, h, ex_l e hl, fit, fun p hp => q p _ hp (Ex.new hp) upd_same⟩
/-- [e for j in a list of sums] -/
theorem el_trowL {a : Addr} {xs : List V} {ss : List (List Nat)} {j : Nat} {vs : List Nat} (g : List Nat → V) (h : Ev tl σ H (.ref a)) (hx : SqL K H a xs) (row : TRow H xs ss) (hz : ss.length ≤ 40000) (hw : ∀ x, wipe ((wipe σ vs).set j (some x)) vs = wipe σ vs)
    (he : ∀ a l H1, l ∈ ss → Ex H H1 → H1 a = some (.tup (vN l)) → Ev te ((wipe σ vs).set j (some (.ref a))) H1 (g l)) : EvL (tLc (iList K tl) (gName j) tYes te vs) σ H (ss.map g) := by
  have c := el_lcL (K := K) (σ := σ) (H := H) (t := tYes) (te := te) (a := a) (xs := xs) (tl := tl) (j := j) (vs := vs) (fun _ => true) (got ss g) h hx (by rw [row.1]; exact hz) hw (fun _ _ _ _ _ => et_none) (fun i x H1 e hi _ => by
    obtain ⟨a, l, hl, rfl, ha⟩ := row.at hi
    rw [got_of hl]
    exact he a l H1 (List.mem_of_getElem? hl) e (e _ _ ha))
  rw [given_all, row.1, row_got] at c
  exact c
end
section
variable {P : Program} {w : World} {K : PySem.W.Frag} {mg : Str → Option Value} {base : Heap}
theorem okT_Lw {f : Addr} {fd : FuncData} (F : Fun K "_law_word" "_law_word" (top 31) f fd) (T : GlbT mg) : FnT P w K mg base 1 f fd ["_law_ages"] spLw := by
  obtain ⟨oc, od, kV, doc, pm, an, cdv, ct, osl, rfl, lk, hcd⟩ := F.ex
  refine fnT_of lk hcd scLw (by decide +kernel) (by decide) (fun vs H Q E h => ?_) (fun A outer s H vs Q E hr h => ?_)
  · obtain ⟨a, l, rfl, _⟩ := h
    rfl
  · suffices z : ∃ t, PSs (cxOf CX0 P w K mg base nLw "_law_word" (defScope (top 31)) f cdv A outer s H E).nox (defBody (top 31)) t ∧ t { nx := fun _ H' => Q .non H', rt := Q } (L2.start nLw vs) H from
      let ⟨t, a, b⟩ := z
      ⟨t, a.nox, b⟩
    obtain ⟨a, l, rfl, ha, ok, k⟩ := h
    refine ⟨_, pss_one (ps_ret (pe_join pe_str (pe_lc (own := [("_law_age", 1)]) (g := gName 1) rfl scLw.nd (pi_tup (pv 0)) (blkOk_by (own := [("_law_age", 1)]) (N := nLw) (sc := defScope (top 31)) (by decide +kernel)) (fun _ _ _ _ _ => pg_name (i := 1) scLw.nd rfl (Or.inl rfl)) (fun _ _ _ _ _ => pts_nil)
      (fun _ _ _ _ _ => pe_callTy call_strV (by rfl) T.str (by decide +kernel) (pa_cons (pv 1) pa_nil))))), ?_⟩
    exact s_ret (ev_sumT (K := K) (j := 1) (vs := [1]) (etu_var rfl (st_of ha)) ok (fun _ => rfl) (fun _ => rfl)) k
theorem rowT_len {q : Ph} (f : ∀ l ∈ q.2, l ∈ fift) (l4 : q.2.length ≤ 4) : (rowT q).length ≤ 60 := by
  have w : ∀ z ∈ rowW q, Wrd z := fun z hz => by
    rcases List.mem_cons.mp hz with rfl | hz
    · exact kind_wrd q
    · obtain ⟨l, hl, rfl⟩ := List.mem_map.mp hz
      exact sumT_wrd (f l hl)
  have n := wrd_sum w
  have m : (rowW q).length = 1 + q.2.length := by unfold rowW; rw [List.length_cons, List.length_map]; omega
  have a := join_len " " (rowW q)
  have b : (" " : Str).length = 1 := by decide +kernel
  rw [b] at a
  unfold rowT
  omega
/-! ### _law_text -/
abbrev sLt : Stmt := top 32
abbrev nLt : List Str := ["_law_plain_here", "_law_rows", "_law_mute_so", "_law_sums_so", "_law_words", "_law_ages", "_law_word_here"]
/-- rows of the law, told well -/
def RwOk (ps : List Ph) : Prop := 1 ≤ ps.length ∧ ps.length ≤ 4 ∧ ∀ p ∈ ps, PhOk p.2 ∧ p.2.Nodup
def spLt : Sp := fun vs H Q _ => ∃ (a : Addr) (av : List Addr) (xs : List V) (ps qs : List Ph), vs = [.ref a] ∧ H a = some (.lst xs) ∧ LRow av H xs ps ∧ RwOk ps ∧ Sim ps qs ∧ (∀ q ∈ qs, Asc q.2) ∧ RetV (.str (txP qs)) H Q
theorem scLt : FnScope nLt ["_law_plain_here"] (defScope sLt) := ⟨rfl, rfl, rfl, by decide +kernel, rfl, by decide +kernel, by decide +kernel⟩
theorem ok_Lt {fW f : Addr} {fd fdW : FuncData} (F : Fun K "_law_text" "_law_text" sLt f fd) (I : GlbE mg) (FW : FnT P w K mg base 1 fW fdW ["_law_ages"] spLw) (gW : mg "_law_word" = some (.ref fW)) (kW : PySem.W.keepIn K (.ref fW) = true) (bW : Binds K fdW ["_law_ages"] []) :
    FnOk P w K mg base CX0 2 f fd ["_law_plain_here"] spLt := by
  refine F.ok scLt (fun vs H Q E h => ?_) (fun cdv A outer s H vs Q E hr h => ?_)
  · obtain ⟨a, av, xs, ps, qs, rfl, _⟩ := h
    rfl
  · obtain ⟨a, av, xs, ps, qs, rfl, ha, row, ok, sim, asc, k⟩ := h
    refine ⟨_, (pss_cons (ps_set (i := 1) scLt.nd rfl (.inl rfl) (pe_lst pa_nil))
      (pss_cons (ps_for PassesOwn.never rfl (pi_list (pv 0)) (pg_tup rfl (pgs_cons (pg_name (i := 2) scLt.nd rfl (.inl rfl)) (pgs_cons (pg_name (i := 3) scLt.nd rfl (.inl rfl)) pgs_nil)))
        (pss_cons (ps_set (i := 4) scLt.nd rfl (.inl rfl) (pe_callB cr_sortedS (by rfl) I.sorted (by decide +kernel) (pa_cons (pe_lc (te := tReplC (tCall spLw [] E0 (tCons (tVar 5) tNil)) "+" " ") (own := [("_law_ages", 5)]) (g := gName 5) rfl scLt.nd (pi_list (pv 3)) (blkOk_by (own := [("_law_ages", 5)]) (N := nLt) (sc := defScope sLt) (by decide +kernel)) (fun _ _ _ _ _ => pg_name (i := 5) scLt.nd rfl (Or.inl rfl)) (fun _ _ _ _ _ => pts_nil)
              (fun _ _ _ _ _ => pe_repl1 (pe1_call FW hr (by rfl) gW kW bW (pa_cons (pv 5) pa_nil)))) pa_nil)))
      (pss_one (ps_expr (pe_bm PySem.F.plainAttrs_list PySem.F.slot_list_append PySem.F.type_list_append mt_append (pv 1) (pa_cons (pe_join pe_str (pe_op1 op_cat (pe1_lst (pe1_if (pt_val (pv 2)) pe1_str pe1_str)) (pet_lcRepl (i := 4) rfl rfl (.inl rfl) (by decide +kernel) (by decide +kernel) rfl (by decide +kernel) rfl))) pa_nil))))))
      (pss_one (ps_ret (pe_join pe_str (pv 1)))))), ?_⟩
    obtain ⟨l1, l4, good⟩ := ok
    have lx := row.1
    have lq := sim.1
    refine q_asgL (xs := []) el_nil fun R H1 hR e1 h1 => ?_
    refine q_forL (K := K) (a := a) (xs := xs) (ev_var rfl) (sq_of (e1 _ _ ha)) (fun i σ' H' => (∃ x2 x3 x4 : Option V, σ' = [some (.ref a), some (.ref R), x2, x3, x4, none, none]) ∧ Ex H H' ∧ H' R = some (.lst (((qs.take i).map rowT).map V.str))) (fun H2 e2 => ⟨⟨none, none, none, rfl⟩, e1.trans e2, e2 _ _ h1⟩) (fun _ _ H' _ q => sq_of (q.2.1 _ _ ha)) ?_ ?_
    · rintro i x σ' H2 hx ⟨⟨x2, x3, x4, rfl⟩, e2, h2⟩
      have li : i < ps.length := by rw [← lx]; exact (List.getElem?_eq_some_iff.mp hx).1
      have hp := List.getElem?_eq_getElem li
      generalize ps[i] = p at hp
      have hq := List.getElem?_eq_getElem (l := qs) (i := i) (by omega)
      generalize qs[i] = q at hq
      obtain ⟨t, r, ys, rfl, ht, hr', _, rr⟩ := row.2 i x p hx hp
      obtain ⟨s1, s2⟩ := sim.2 i p q hp hq
      obtain ⟨phok, nd⟩ := good p (List.mem_of_getElem? hp)
      have fq : ∀ l ∈ q.2, l ∈ fift := fun l hl => ages_fift (phok.1 l (s2.mem_iff.mp hl))
      refine ⟨t, _, rfl, st_of (e2 _ _ ht), rfl, _, _, rfl, _, _, rfl, rfl, ?_⟩
      have c := el_trowL (K := K) (σ := [some (.ref a), some (.ref R), some (.bl p.1), some (.ref r), x4, none, none]) (H := H2) (a := r) (xs := ys) (ss := p.2) (j := 5) (vs := [5]) (tl := tVar 3) (te := tReplC (tCall spLw [] E0 (tCons (tVar 5) tNil)) "+" " ") (fun l => V.str (spW l)) (ev_var rfl) (sq_of (e2 _ _ hr')) (rr.mono e2) (by have := phok.2; omega) (fun _ => rfl)
        (fun b l H3 hl e hb => by
          have fl := ages_fift (phok.1 l hl)
          refine ev_is (ev_replC (y := "+") (z := " ") (x := sumT l) (ev_call (z := .str (sumT l)) (ea_cons (ev_var rfl) ea_nil) fun H4 e4 Q4 q4 E4 => ⟨b, l, rfl, e4 _ _ hb, phok.1 l hl, q4⟩) ?_) (congrArg V.str (spW_to fl))
          have a := (sumT_wrd fl).1
          have b : (" " : Str).length = 1 := by decide +kernel
          rw [b]
          omega)
      refine q_asgR (cons_i (c H2 (Ex.refl H2) _ fun d H3 hd e3 h3 => ⟨d, p.2.map spW, rfl, by rw [List.map_map]; exact sq_of h3, by rw [List.length_map]; have := phok.2; omega, fun zs y py sy hy => ?_⟩))
      obtain rfl := sort_is phok.1 nd s2 (asc q (List.mem_of_getElem? hq)) py sy
      have e4 := Ex.new (o := .lst ((q.2.map spW).map V.str)) hy
      have h4 : (upd H3 y (.lst ((q.2.map spW).map V.str))) y = some (.lst ((q.2.map spW).map V.str)) := upd_same
      generalize upd H3 y (.lst ((q.2.map spW).map V.str)) = H4 at e4 h4 ⊢
      have E4 := e3.trans e4
      have lq2 : q.2.length ≤ 4 := by rw [s2.length_eq]; exact phok.2
      have w1 : EvL (tLst (tCons (tIf (tB (tVar 2)) (tC (.str "mute")) (tC (.str "row"))) tNil)) [some (.ref a), some (.ref R), some (.bl p.1), some (.ref r), some (.ref y), none, none] H4 [V.str (kindOf q)] := el_lst (ea_cons (ev_if (b := p.1) (et_B (ev_var rfl)) (fun hb => ev_is ev_c (by unfold kindOf; rw [s1, if_pos hb])) (fun hb => ev_is ev_c (by unfold kindOf; rw [s1, if_neg (by rw [hb]; decide)]))) ea_nil) (by show 1 ≤ 100000; decide)
      have w2 := el_replL (K := K) (σ := [some (.ref a), some (.ref R), some (.bl p.1), some (.ref r), some (.ref y), none, none]) (H := H4) (i := 4) (y := " ") (z := "+") rfl (sq_of h4) (fun x hx => by
        obtain ⟨l, hl, rfl⟩ := List.mem_map.mp hx
        have a := spW_len (fq l hl)
        have b : ("+" : Str).length = 1 := by decide +kernel
        rw [b]
        omega)
      have e5 : ((q.2.map spW).map fun x => V.str (Txt.replace x " " "+")) = (q.2.map sumT).map V.str := by
        rw [List.map_map, List.map_map]
        exact List.map_congr_left fun l hl => congrArg V.str (spW_from (fq l hl))
      rw [e5] at w2
      have w3 := el_cat w1 w2 (by rw [List.length_map, List.length_map]; show 1 + q.2.length ≤ _; omega)
      have e6 : [V.str (kindOf q)] ++ (q.2.map sumT).map V.str = (rowW q).map V.str := rfl
      rw [e6] at w3
      refine s_app (K := K) (xs := ((qs.take i).map rowT).map V.str) (E4 _ _ h2) (ev_var rfl) (ev_joinL (K := K) (a := " ") ev_c w3 ?_) (by rw [List.length_map, List.length_map, List.length_take]; omega) fun H5 e5 => ⟨⟨_, _, _, rfl⟩, Ex.mut ((e2.trans E4).trans e5) hR, ?_⟩
      · have b : (" " : Str).length = 1 := by decide +kernel
        have w : ∀ z ∈ rowW q, Wrd z := fun z hz => by
          rcases List.mem_cons.mp hz with rfl | hz
          · exact kind_wrd q
          · obtain ⟨l, hl, rfl⟩ := List.mem_map.mp hz
            exact sumT_wrd (fq l hl)
        have n := wrd_sum w
        have m : (rowW q).length = 1 + q.2.length := by unfold rowW; rw [List.length_cons, List.length_map]; omega
        rw [b]
        omega
      · rw [upd_same, List.take_add_one, hq, List.map_append, List.map_append]
        rfl
    · rintro σ' H2 ⟨⟨x2, x3, x4, rfl⟩, e2, h2⟩
      rw [lx, ← lq, List.take_length] at h2
      refine s_retR ⟨⟨_, rfl⟩, .ref R, rfl, " / ", R, qs.map rowT, rfl, rfl, .inl (sq_of h2), ?_, ?_⟩
      · have each : ∀ z ∈ qs.map rowT, z.length ≤ 60 := fun z hz => by
          obtain ⟨q, hq, rfl⟩ := List.mem_map.mp hz
          obtain ⟨i, hi⟩ := List.mem_iff_getElem?.mp hq
          have li : i < ps.length := by rw [← lq]; exact (List.getElem?_eq_some_iff.mp hi).1
          obtain ⟨_, s2⟩ := sim.2 i _ q (List.getElem?_eq_getElem li) hi
          obtain ⟨phok, _⟩ := good _ (List.getElem_mem li)
          exact rowT_len (fun l hl => ages_fift (phok.1 l (s2.mem_iff.mp hl))) (by rw [s2.length_eq]; exact phok.2)
        have n := sum_by each
        have b : (" / " : Str).length = 3 := by decide +kernel
        rw [b]
        rw [List.length_map] at n ⊢
        omega
      · obtain ⟨n, hn⟩ : ∃ n, qs.length = n + 1 := ⟨qs.length - 1, by omega⟩
        rw [text_is n qs hn]
        exact k H2 e2
end
end K17
namespace K17
open PySem L2 Evl Gr StX EnT MkS StK ClX ClK RdX Kn
section
variable {K : PySem.W.Frag} {CP C : Addr} {σ : L2.St} {H : Hp} {t : TA} {E : XK} {Q : VK} {xs : List V} {qs : List Ph}
theorem pl_make (h : EvA t σ H xs) (row : PRow K C H xs qs) (ok : PlOk qs) (q : ∀ o H2, Ex H H2 → PlAt K CP C H2 o qs → Q (.ref o) H2) : tMakeR CP (spPlA K CP C) E t σ H Q :=
  h H (Ex.refl H) _ fun H1 e1 o dx ho hd hn => pl_told ho hd hn (row.mono e1) ok fun o' H2 e2 at_ => q o' H2 (e1.trans e2) at_
end
section
variable {P : Program} {w : World} {K : PySem.W.Frag} {mg : Str → Option Value} {base : Heap}
abbrev sPla : Stmt := top 30
abbrev nPla : List Str := ["_law_plain_here", "_law_some", "_law_row"]
def spPla (K : PySem.W.Frag) (CP C : Addr) : Sp := fun vs H Q _ => ∃ (a : Addr) (av : List Addr) (xs : List V) (ps : List Ph), vs = [.ref a] ∧ H a = some (.lst xs) ∧ LRow av H xs ps ∧ PlnOk ps ∧ ∀ o qs H', Ex H H' → PlAt K CP C H' o qs → Sim ps qs → Q (.ref o) H'
theorem scPla : FnScope nPla ["_law_plain_here"] (defScope sPla) := ⟨rfl, rfl, rfl, by decide +kernel, rfl, by decide +kernel, by decide +kernel⟩
theorem ok_Pla {CP C fP fI f : Addr} {fd : FuncData} (F : Fun K "_law_plan" "_law_plan" sPla f fd) (S : GlbS mg) (G : GPl P w K mg base CP C fP fI) (GH : Gfn P w K mg base 6 "_law_phase" ["_law_row"] (spPhs K C)) : FnOk P w K mg base CX0 7 f fd ["_law_plain_here"] (spPla K CP C) := by
  obtain ⟨fH, fdH, GH, kH, bH, gH⟩ := GH
  refine F.ok scPla (fun vs H Q E h => ?_) (fun cdv A outer s H vs Q E hr h => ?_)
  · obtain ⟨a, av, xs, ps, rfl, _⟩ := h
    rfl
  · obtain ⟨a, av, xs, ps, rfl, ha, row, ok, k⟩ := h
    have r4 := hr.mono (show 4 ≤ 6 by decide)
    refine ⟨_, (pss_cons (ps_setLc (te := tCall (spPhs K C) [] E0 (tCons (tVar 2) tNil)) (i := 1) (own := [("_law_row", 2)]) (g := gName 2) rfl scPla.nd rfl rfl (by rfl) (pi_list (pv 0)) (blkOk_by (own := [("_law_row", 2)]) (N := nPla) (sc := defScope sPla) (by decide +kernel)) (fun _ _ _ _ _ => pg_name (i := 2) scPla.nd rfl (Or.inl rfl)) (fun _ _ _ _ _ => pts_nil)
        (fun _ _ _ _ _ => pe_call GH hr (by rfl) gH kH bH .nil pass0 (pa_cons (pv 2) pa_nil)))
      (pss_cons (ps_if (pt_cmpR op_eq (pe_callB call_len_seq (by rfl) S.len PySem.boot_len (pa_cons (pv 1) pa_nil)) pe_int (nomark _)) (pss_one (ps_ret (pe_makeR (E := E0) G.mP G.initP r4 (by rfl) G.gP pass0 (pa_cons (pe_ix (show IxR _ (rIxL K) from ix_list) (pv 1) pe_int (fun _ _ => rfl)) pa_nil)))) pss_nil)
      (pss_one (ps_ret (pe_ifExp (pt_cmpR op_eq (pe_callB call_len_seq (by rfl) S.len PySem.boot_len (pa_cons (pv 1) pa_nil)) pe_int (nomark _))
        (pe_makeR (E := E0) G.mP G.initP r4 (by rfl) G.gP pass0 (pa_cons (pe_ix (show IxR _ (rIxL K) from ix_list) (pv 1) pe_int (fun _ _ => rfl)) (pa_cons (pe_ix (show IxR _ (rIxL K) from ix_list) (pv 1) pe_int (fun _ _ => rfl)) pa_nil)))
        (pe_makeR (E := E0) G.mP G.initP r4 (by rfl) G.gP pass0 (pa_cons (pe_ix (show IxR _ (rIxL K) from ix_list) (pv 1) pe_int (fun _ _ => rfl)) (pa_cons (pe_ix (show IxR _ (rIxL K) from ix_list) (pv 1) pe_int (fun _ _ => rfl)) (pa_cons (pe_ix (show IxR _ (rIxL K) from ix_list) (pv 1) pe_int (fun _ _ => rfl)) pa_nil))))))))), ?_⟩
    refine q_asgR ⟨_, rfl, a, rfl, ⟨xs, sq_of ha⟩, fun D hD => ?_⟩
    refine lc_it (n := xs.length) (walk_list (K := K) (a := a) (xs := xs)) (fun i H' => Ex H H' ∧ ∃ ys qs, H' D = some (.lst ys) ∧ PRow K C H' ys qs ∧ Sim (ps.take i) qs) ⟨Ex.new hD, [], [], upd_same, prow_nil, by rw [List.take_zero]; exact sim_nil⟩ (fun _ H' _ h => sq_of (h.1 _ _ ha)) (fun i x H' H'' hi h y => ?_) (fun H' h => ?_)
    · obtain ⟨rfl, hxi⟩ := y
      obtain ⟨h1, ys, qs, h2, h3, h4⟩ := h
      refine ⟨rfl, yes_i (A := fun H3 => _) ?_⟩
      have li : i < ps.length := by rw [← row.1]; exact hi
      have hp := List.getElem?_eq_getElem li
      generalize ps[i] = p at hp
      obtain ⟨t, r, zs, t1, t2, t3, _, t5⟩ := row.2 i x p hxi hp
      subst t1
      refine ⟨_, rfl, t, r, zs, p, rfl, h1 _ _ t2, h1 _ _ t3, t5.mono h1, ok.2.2.2.2 p (List.mem_of_getElem? hp), fun o ss H3 e3 ho pm => ?_⟩
      have h2' := e3 _ _ h2
      have ln := h3.1
      have ln2 := h4.1
      rw [List.length_take] at ln2
      refine ⟨ys, h2', sz_lt (by have := ok.2.1; omega), Ex.mut (h1.trans e3) hD, ys ++ [.ref o], qs ++ [(p.1, ss)], upd_same, prow_updL (prow_snoc (h3.mono e3) ho) h2', ?_⟩
      rw [List.take_add_one, hp]
      exact h4.snoc rfl pm
    · obtain ⟨h1, ys, qs, h2, h3, h4⟩ := h
      rw [row.1, List.take_length] at h4
      have lq := h4.1
      have ly := h3.1
      have ok' := h4.ok ok
      have l1 := ok.1
      have l3 := ok.2.1
      have ln : ∀ {H1 : Hp}, Ex H' H1 → Ev (tCB (rLen K) (tCons (tVar 1) tNil)) [some (.ref a), some (.ref D), none] H1 (.int (ys.length : Int)) := fun e => ev_cb (ea_cons (ev_var rfl) ea_nil) (rc_lenQ (.inl (sq_of (e _ _ h2))))
      have ix : ∀ {H1 : Hp} {j : Nat} {x : V}, Ex H' H1 → ys[j]? = some x → Ev (tOp (rIxL K) (tVar 1) (tC (.int (j : Int)))) [some (.ref a), some (.ref D), none] H1 x := fun e hx => ev_op (ev_var rfl) ev_c (rv_ixL (sq_of (e _ _ h2)) (atI_nat hx))
      refine q_when (et_test (ev_op (ln (Ex.refl H')) ev_c (rv_eq rfl))) (fun hb H2 e2 => ?_) (fun hb H2 e2 => ?_)
      · have one : ys.length = 1 := by have := V.int.inj (of_decide_eq_true hb); omega
        match ys, one with
        | [x], _ => exact s_retR (pl_make (ea_cons (ix (j := 0) e2 rfl) ea_nil) (h3.mono e2) ok' fun o H3 e3 at_ => k o qs H3 ((h1.trans e2).trans e3) at_ h4)
      · have n1 : ys.length ≠ 1 := fun z => by rw [z] at hb; exact absurd hb (by decide)
        refine s_retR ?_
        refine et_test (ev_op (ln e2) ev_c (rv_eq rfl)) H2 (Ex.refl H2) _ fun H3 e3 => ?_
        have E3 := e2.trans e3
        by_cases c : ys.length = 2
        · rw [show decide (V.int (ys.length : Int) = V.int 2) = true from decide_eq_true (by rw [c]; rfl)]
          match ys, c with
          | [x, y], _ => exact iteT (pl_make (ea_cons (ix (j := 0) E3 rfl) (ea_cons (ix (j := 1) E3 rfl) ea_nil)) (h3.mono E3) ok' fun o H4 e4 at_ => k o qs H4 ((h1.trans E3).trans e4) at_ h4)
        · rw [show decide (V.int (ys.length : Int) = V.int 2) = false from decide_eq_false fun z => c (by have := V.int.inj z; omega)]
          have c3 : ys.length = 3 := by omega
          match ys, c3 with
          | [x, y, u], _ => exact iteF (pl_make (ea_cons (ix (j := 0) E3 rfl) (ea_cons (ix (j := 1) E3 rfl) (ea_cons (ix (j := 2) E3 rfl) ea_nil))) (h3.mono E3) ok' fun o H4 e4 at_ => k o qs H4 ((h1.trans E3).trans e4) at_ h4)
end
end K17
namespace K17
open PySem L2 Evl Gr StX EnT MkS StK ClX ClK RdX OwX OwC OpX OwU ItX Kn
/-! ### rows of phases, met again -/
theorem Old.mono {n : Nat} {H H' : Hp} (e : Ex H H') (h : Old n H) : Old n H' := by
  obtain ⟨b, u, h1, h2⟩ := h
  exact ⟨b, u, e _ _ h1, h2⟩
theorem asc_perm {ss ss' : List (List Nat)} (h : Asc ss) (h' : Asc ss') (p : ss'.Perm ss) : ss' = ss := asc_one h h' p
theorem sim_one {ps qs rs : List Ph} (h : Sim ps qs) (h' : Sim ps rs) (a : ∀ q ∈ qs, Asc q.2) (b : ∀ q ∈ rs, Asc q.2) : rs = qs := by
  refine List.ext_getElem (by rw [h'.1, h.1]) fun i l1 l2 => ?_
  have l0 : i < ps.length := by rw [← h.1]; exact l2
  obtain ⟨x1, x2⟩ := h.2 i _ _ (List.getElem?_eq_getElem l0) (List.getElem?_eq_getElem l2)
  obtain ⟨y1, y2⟩ := h'.2 i _ _ (List.getElem?_eq_getElem l0) (List.getElem?_eq_getElem l1)
  exact Prod.ext (y1.trans x1.symm) (asc_one (a _ (List.getElem_mem l2)) (b _ (List.getElem_mem l1)) (y2.trans x2.symm))
theorem Sim.one {p q : Ph} (h1 : q.1 = p.1) (h2 : q.2.Perm p.2) : Sim [p] [q] := ⟨rfl, fun i x y hx hy => by
  cases i with
  | zero => cases hx; cases hy; exact ⟨h1, h2⟩
  | succ n => cases hx⟩
theorem prow_asc {K : PySem.W.Frag} {C : Addr} {H : Hp} {xs : List V} {ps : List Ph} (h : PRow K C H xs ps) : ∀ q ∈ ps, Asc q.2 := fun q hq => by
  obtain ⟨i, hi⟩ := List.mem_iff_getElem?.mp hq
  obtain ⟨o, _, ho⟩ := h.to hi
  exact ho.asc
theorem pl_asc {K : PySem.W.Frag} {CP C : Addr} {H : Hp} {o : Addr} {ps : List Ph} (h : PlAt K CP C H o ps) : ∀ q ∈ ps, Asc q.2 := by
  obtain ⟨dx, q, xs, _, _, row, _⟩ := h
  exact prow_asc row
theorem prow_app {K : PySem.W.Frag} {C : Addr} {H : Hp} {xs ys : List V} {ps qs : List Ph} (h : PRow K C H xs ps) (h' : PRow K C H ys qs) : PRow K C H (xs ++ ys) (ps ++ qs) := ⟨by rw [List.length_append, List.length_append, h.1, h'.1], fun i x p hx hp => by
  rcases Nat.lt_or_ge i xs.length with c | c
  · rw [List.getElem?_append_left c] at hx
    rw [List.getElem?_append_left (by rw [← h.1]; exact c)] at hp
    exact h.2 i x p hx hp
  · rw [List.getElem?_append_right c] at hx
    rw [List.getElem?_append_right (by rw [← h.1]; exact c), ← h.1] at hp
    exact h'.2 _ x p hx hp⟩
def cycs (ps : List Ph) (m : Nat) : List Ph := (List.range m).map fun k => cyc ps ((k : Nat) : Int)
theorem cycs_two {ps : List Ph} (h : 0 < ps.length) : cycs ps (2 * ps.length) = ps ++ ps := by
  unfold cycs
  refine List.ext_getElem (by rw [List.length_map, List.length_range, List.length_append]; omega) fun i l1 l2 => ?_
  rw [List.getElem_map, List.getElem_range]
  have l3 : i < ps.length + ps.length := by rw [← List.length_append]; exact l2
  obtain ⟨k, hk, he, at_⟩ := cyc_at h (i : Int)
  have e : k = i % ps.length := by omega
  rw [List.getElem?_eq_getElem hk] at at_
  rw [← Option.some.inj at_]
  subst e
  rcases Nat.lt_or_ge i ps.length with c | c
  · rw [List.getElem_append_left c]
    congr 1
    exact Nat.mod_eq_of_lt c
  · rw [List.getElem_append_right c]
    congr 1
    rw [Nat.mod_eq_sub_mod c]
    exact Nat.mod_eq_of_lt (by omega)
theorem trow_rev {H : Hp} {xs : List V} {ss : List (List Nat)} (h : TRow H xs ss) : TRow H xs.reverse ss.reverse := ⟨by rw [List.length_reverse, List.length_reverse, h.1], fun i x l hx hl => by
  have lt : i < xs.length := by rw [← List.length_reverse]; exact (List.getElem?_eq_some_iff.mp hx).1
  rw [List.getElem?_reverse lt] at hx
  rw [List.getElem?_reverse (by rw [← h.1]; exact lt), ← h.1] at hl
  exact h.2 _ x l hx hl⟩
theorem sms_rev {ss : List (List Nat)} (h : SmsOk ss) : SmsOk ss.reverse := ⟨(List.reverse_perm ss).nodup_iff.mpr h.1, by rw [List.length_reverse]; exact h.2.1, fun l hl => h.2.2 l (List.mem_reverse.mp hl)⟩
theorem txP_one (q : Ph) : txP [q] = rowT q := by
  rw [← text_is 0 [q] rfl]
  exact TL.ext_tl (by rw [tl_txt]; rfl)
/-! ### dropping an iterator -/
theorem drop_at {H : Hp} {it t a : Addr} {u : HO} (h : H it = some (ItT t it)) (ha : H a = some u) (n : ∀ f, u ≠ .ext f) : dropH H it a = some u := by
  rw [dropH_ne fun z => ?_]
  · exact ha
  · rw [z, h] at ha
    exact n _ (Option.some.inj ha).symm
theorem drop_t {K : PySem.W.Frag} {H : Hp} {it t a : Addr} {xs : List V} (h : H it = some (ItT t it)) (ha : SqT K H a xs) : SqT K (dropH H it) a xs := by
  rcases ha with hr | hr
  · rcases hr with h1 | ⟨ob, h1⟩
    · exact .inl (.inl (drop_at h h1 fun f z => by cases z))
    · exact .inl (.inr ⟨ob, drop_at h h1 fun f z => by cases z⟩)
  · exact .inr hr
theorem drop_row {K : PySem.W.Frag} {C : Addr} {H : Hp} {it t : Addr} {xs : List V} {ps : List Ph} (h : H it = some (ItT t it)) (row : PRow K C H xs ps) : PRow K C (dropH H it) xs ps := ⟨row.1, fun i x p hx hp => by
  obtain ⟨o, e, dx, q, ys, h1, h2, h3, h4⟩ := row.2 i x p hx hp
  exact ⟨o, e, dx, q, ys, drop_at h h1 (fun f z => by cases z), drop_t h h2, ⟨h3.1, fun j y l hy hl => by
    obtain ⟨a, ea, ha⟩ := h3.2 j y l hy hl
    exact ⟨a, ea, drop_at h ha fun f z => by cases z⟩⟩, h4⟩⟩
/-! ### what the pieces give -/
def EvPR (K : PySem.W.Frag) (C : Addr) (te : TE) (σ : L2.St) (H : Hp) (ps : List Ph) : Prop := ∀ H1, Ex H H1 → ∀ Q : VK, (∀ p xs H2, Ex H1 H2 → H2 p = some (.lst xs) → PRow K C H2 xs ps → Q (.ref p) H2) → te σ H1 Q
section
variable {K : PySem.W.Frag} {CP C : Addr} {σ : L2.St} {H : Hp} {ta tb te tl : TE} {ps qs : List Ph} {o a : Addr} {xs : List V} {j i : Nat} {vs : List Nat}
theorem epr_var (h : σ[i]? = some (some (.ref a))) (ha : H a = some (.lst xs)) (row : PRow K C H xs ps) : EvPR K C (tVar i) σ H ps := fun H1 e Q q => ⟨_, h, q a xs H1 (Ex.refl H1) (e _ _ ha) (row.mono e)⟩
theorem epr_cat (ha : EvPR K C ta σ H ps) (hb : EvPR K C tb σ H qs) (hz : ps.length + qs.length ≤ 1000) : EvPR K C (tOp rCat ta tb) σ H (ps ++ qs) := fun H1 e Q q =>
  ha H1 e _ fun p xs H2 e2 h2 r2 => hb H2 (e.trans e2) _ fun r ys H3 e3 h3 r3 => ⟨p, r, xs, ys, rfl, rfl, e3 _ _ h2, h3, sz_of (by rw [r2.1, r3.1]; omega), fun d hd => q d _ _ ((e2.trans e3).trans (Ex.new hd)) upd_same (prow_app ((r2.mono e3).mono (Ex.new hd)) (r3.mono (Ex.new hd)))⟩
theorem et_neL (ha : EvPR K C ta σ H ps) (hb : EvPR K C tb σ H ps) : EvT (tTest (tOp (rNeUL (DPh K C)) ta tb)) σ H false := et_test fun H1 e Q q =>
  ha H1 e _ fun p xs H2 e2 h2 r2 => hb H2 (e.trans e2) _ fun r ys H3 e3 h3 r3 => ⟨p, r, xs, ys, rfl, rfl, e3 _ _ h2, h3, by rw [r2.1, r3.1], prow_same (r2.mono e3) r3, fun H4 e4 => q H4 ((e2.trans e3).trans e4)⟩
theorem et_neT {X : Cx} {n : Nat} (G : PlC X.K CP) (ha : Ev ta σ H (.ref o)) (ho : PlAt X.K CP C H o ps) (h : σ[i]? = some (some (.ref a))) (hx : H a = some (.lst xs)) (row : PRow X.K C H xs ps) (old : Old n H) : EvT (tTest (tOp (rNeU X (DPh X.K C)) (tFld X.K ta "phases") (tCB (rTupA X.K n) (tCons (tVar i) tNil)))) σ H false := et_test fun H1 e Q q => by
  obtain ⟨d1, q1, ys, b1, b2, b3, _⟩ := ho
  refine ev_fld ha b1 G.cls G.phases rfl H1 e _ fun H2 e2 => ⟨_, h, a, xs, rfl, sq_of ((e.trans e2) _ _ hx), fun p hp age => ?_⟩
  have e3 := Ex.new (o := .tup xs) hp
  have E := (e.trans e2).trans e3
  refine ⟨q1, p, ys, xs, fun _ => true, rfl, rfl, ex_t E b2, st_of upd_same, prow_same (b3.mono E) (row.mono E), fun H4 e4 => ?_⟩
  have all_ : (!(TwU.allOf (fun _ => true) (min ys.length xs.length) && ys.length == xs.length)) = false := by
    have h1 : TwU.allOf (fun _ => true) (min ys.length xs.length) = true := by
      unfold TwU.allOf
      rw [List.all_eq_true]
      exact fun _ _ => rfl
    rw [h1, b3.1, row.1, beq_self_eq_true]
    rfl
  rw [all_]
  exact q H4 ((e2.trans e3).trans e4)
theorem epr_iter {X : Cx} (ha : Ev tl σ H (.ref o)) (hO : PlAt X.K CP C H o ps) (old : Old X.s_0.heap.objs.size H) (hw : ∀ x, wipe ((wipe σ vs).set j (some x)) vs = wipe σ vs) (hj : ∀ x : V, ((wipe σ vs).set j (some x))[j]? = some (some x)) : EvPR X.K C (tLc (iOwn X CP (spIterP X.K CP C) E0 tl) (gName j) tYes (tVar j) vs) σ H ps := fun H0 e Q q => ha H0 e _ fun H1 e1 => by
  have hO1 := hO.mono (e.trans e1)
  refine ⟨o, rfl, .inr hO1.ins, o, ps, rfl, hO1, Old.mono (e.trans e1) old, fun it t xs H2 hit age e2 h2 ht row => ⟨it, t, rfl, h2, age, ?_⟩⟩
  have ht' := drop_t h2 ht
  have row' := drop_row h2 row
  have e3 : Ex H1 (dropH H2 it) := fun c u hc => by
    rw [dropH_ne (ne_of_none hc hit)]
    exact e2 c u hc
  have lx : xs.length ≤ 4 := by
    obtain ⟨_, _, _, _, _, _, _, l4⟩ := hO
    rw [row.1]
    exact l4
  generalize dropH H2 it = H3 at ht' row' e3
  intro Dl hD
  refine lc_it (n := xs.length) (walk_tup (xs := xs)) (fun i H' => Ex H3 H' ∧ H' Dl = some (.lst (xs.take i))) ⟨Ex.new hD, by rw [List.take_zero]; exact upd_same⟩ (fun _ H' _ p => ex_t p.1 ht') (fun k x H' H'' hk p y => ?_) (fun H' p => ?_)
  · obtain ⟨rfl, hx⟩ := y
    refine ⟨hw _, yes_i (A := fun H4 => _) ?_⟩
    refine ev_var (hj _) _ (Ex.refl _) _ fun H4 e4 => ⟨_, e4 _ _ p.2, sz_lt (by rw [List.length_take]; omega), Ex.mut (p.1.trans e4) hD, ?_⟩
    rw [upd_same, List.take_add_one, hx]
    rfl
  · have h := p.2
    rw [List.take_length] at h
    exact q Dl xs H' (e1.trans (e3.trans p.1)) h (row'.mono p.1)
/-- [made[n] for n in range(m)] -/
theorem epr_get {X : Cx} {m : Nat} {t : TA} (h : EvA t σ H [.int (m : Int)]) (hm : m ≤ 100) (hv : ∀ x : V, ((wipe σ vs).set j (some x))[i]? = some (some (.ref o))) (hj : ∀ x : V, ((wipe σ vs).set j (some x))[j]? = some (some x)) (hO : PlAt X.K CP C H o ps) (hw : ∀ x, wipe ((wipe σ vs).set j (some x)) vs = wipe σ vs) :
    EvPR X.K C (tLc (iRng1 t) (gName j) tYes (tOp (rIxO X CP (spGetP X.K CP C) E0) (tVar i) (tVar j)) vs) σ H (cycs ps m) := fun H0 e Q q => h H0 e _ fun H1 e1 => ⟨(m : Int), rfl, by omega, by omega, fun Dl hD => by
  rw [Int.toNat_natCast]
  refine lc_range (lo := 0) (n := m) (fun k H' => Ex H1 H' ∧ ∃ ys, H' Dl = some (.lst ys) ∧ PRow X.K C H' ys (cycs ps k)) ⟨Ex.new hD, [], upd_same, prow_nil⟩ (fun k H' hk p => ?_) (fun H' p => ?_)
  · have e0 : (0 : Int) + (k : Int) = (k : Int) := Int.zero_add _
    rw [e0]
    obtain ⟨p1, ys, p2, p3⟩ := p
    refine ⟨hw _, yes_i (A := fun H4 => _) ?_⟩
    refine ⟨_, hv _, _, hj _, ?_⟩
    have hO1 := hO.mono ((e.trans e1).trans p1)
    refine ⟨o, rfl, .inr hO1.ins, o, ps, (k : Int), rfl, by omega, hO1, fun b H4 e4 hb => ?_⟩
    have h4 := e4 _ _ p2
    have ln := p3.1
    unfold cycs at ln
    rw [List.length_map, List.length_range] at ln
    refine ⟨ys, h4, sz_lt (by omega), Ex.mut (p1.trans e4) hD, ys ++ [.ref b], upd_same, ?_⟩
    have s : cycs ps (k + 1) = cycs ps k ++ [cyc ps (k : Int)] := by
      unfold cycs
      rw [List.range_succ, List.map_append]
      rfl
    rw [s]
    exact prow_updL (prow_snoc (p3.mono e4) hb) h4
  · obtain ⟨p1, ys, p2, p3⟩ := p
    exact q Dl ys H' (e1.trans p1) p2 p3⟩
/-- [_law_phase(row) for row in plain] -/
theorem epr_phs {av : List Addr} {zs : List V} (h : Ev tl σ H (.ref a)) (ha : H a = some (.lst zs)) (row : LRow av H zs ps) (ok : PlnOk ps) (sim : Sim ps qs) (asc : ∀ q ∈ qs, Asc q.2) (hj : ∀ x : V, ((wipe σ vs).set j (some x))[j]? = some (some x)) (hw : ∀ x, wipe ((wipe σ vs).set j (some x)) vs = wipe σ vs) :
    EvPR K C (tLc (iList K tl) (gName j) tYes (tCall (spPhs K C) [] E0 (tCons (tVar j) tNil)) vs) σ H qs := fun H0 e Q q => h H0 e _ fun H1 e1 => by
  have E1 := e.trans e1
  refine ⟨a, rfl, ⟨zs, sq_of (E1 _ _ ha)⟩, fun D hD => ?_⟩
  refine lc_it (n := zs.length) (walk_list (K := K) (a := a) (xs := zs)) (fun i H' => Ex H1 H' ∧ ∃ ys rs, H' D = some (.lst ys) ∧ PRow K C H' ys rs ∧ Sim (ps.take i) rs) ⟨Ex.new hD, [], [], upd_same, prow_nil, by rw [List.take_zero]; exact sim_nil⟩ (fun _ H' _ h => sq_of (h.1 _ _ (E1 _ _ ha))) (fun k x H' H'' hi h y => ?_) (fun H' h => ?_)
  · obtain ⟨rfl, hxi⟩ := y
    obtain ⟨h1, ys, rs, h2, h3, h4⟩ := h
    refine ⟨hw _, yes_i (A := fun H3 => _) ?_⟩
    have li : k < ps.length := by rw [← row.1]; exact hi
    have hp := List.getElem?_eq_getElem li
    generalize ps[k] = p at hp
    obtain ⟨t, r, us, t1, t2, t3, _, t5⟩ := row.2 k x p hxi hp
    subst t1
    have E2 := E1.trans h1
    refine ⟨_, hj _, t, r, us, p, rfl, E2 _ _ t2, E2 _ _ t3, t5.mono E2, ok.2.2.2.2 p (List.mem_of_getElem? hp), fun o ss H3 e3 ho pm => ?_⟩
    have h2' := e3 _ _ h2
    have ln := h3.1
    have ln2 := h4.1
    rw [List.length_take] at ln2
    refine ⟨ys, h2', sz_lt (by have := ok.2.1; omega), Ex.mut (h1.trans e3) hD, ys ++ [.ref o], rs ++ [(p.1, ss)], upd_same, prow_updL (prow_snoc (h3.mono e3) ho) h2', ?_⟩
    rw [List.take_add_one, hp]
    exact h4.snoc rfl pm
  · obtain ⟨h1, ys, rs, h2, h3, h4⟩ := h
    rw [row.1, List.take_length] at h4
    obtain rfl := sim_one sim h4 asc (prow_asc h3)
    exact q D ys H' (e1.trans h1) h2 h3
end
end K17
/-! C.m(..) of a class method under a try: what goes out is told beside the names as they stand at the call -/
namespace ClW
open PySem PySem.Spec PyProof.Rows L2 ClX
section
variable {X : Cx} {k : Nat} {C p g : Addr} {mc : Value} {sp : Sp} {W : WX} {o e : Expr} {es : List Expr} {m : Str} {pos apos : Pos} {ta : TE} {t : TA} {pl : Sem Bool}
def tCMW (C : Addr) (sp : Sp) (W : WX) (ta : TE) (t : TA) : TE := fun σ H Q => ta σ H fun x H1 => x = .ref C ∧ t σ H1 fun vs H2 => ∃ E : XK, (∀ cls d G, E cls d G → W cls d σ G) ∧ sp (.ref C :: vs) H2 Q E
theorem pe_cmethW (tk : Takes X W) (he : PE X o ta) (r : CRead X.K C mc) (c : CMet X.K C mc m p g) (F : FnR X.prog X.w X.K X.mg X.base (L2.CX X.prog X.w) k g sp) (hr : Room k X.A) (ha : PA X (e :: es) t)
    (head : starEach (e :: es) X.env = (false, eval e X.env) :: starEach es X.env := by rfl) (plain : (backTo pos (starEach es X.env)).any (·.1) = false := by rfl)
    (form : eval (.Call (.Attribute o m apos) (e :: es) [] pos) X.env = (do let ov ← eval o X.env; standAt apos.atName; let (f, first) ← holding [ov] (getMethod ov m pl); callWith pos f first (backTo pos (starEach (e :: es) X.env)) (backToKw pos (keywordEach [] X.env))) := by rfl) :
    PE X (.Call (.Attribute o m apos) (e :: es) [] pos) (tCMW C sp W ta t) := by
  constructor
  intro pins s σ H Q I h
  refine PySem.W.methodCall_KW (pl := pl) (thn (he.run pins s σ H _ I h) fun u s1 ⟨x, H1, I1, rx, ex, q⟩ => ?_) form
  subst ex
  cases (show u = Value.ref C from rx)
  refine getmethcm_ok I1 r c fun s2 I2 => callwith_cm I2 (base_none I1 (Nat.le_refl _)) c.fi (thn (ha.run pos _ s2 σ H1 _ I2 q) fun us s3 ⟨vs, H2, I3, rv, E, up, q2⟩ => ⟨⟨pin_at I3, I3.kIn⟩, ?_⟩) head plain
  have went : wpAny (model X.prog X.w) X.A (call (.ref s1.heap.objs.size) us) (EP X ((s1.heap.objs.size, PySem.W.methodObj (.ref g) (.ref C)) :: pins) σ Q) X.xe s3 :=
    wpAny_call (PySem.W.method_call (pin_at I3) (codeAny_mono (F X.A X.stack s3 H2 (.ref C :: us) (.ref C :: vs) Q E hr I3.env0 (.cons rfl rv) q2) fun z s' back => match z, back with
      | .error er, w => tk er s' (XE.of_call I3 (fun cls d G w' => up cls d G w') w)
      | .ok (.ret u), w => I3.after w
      | .ok .next, w => w.elim
      | .ok .brk, w => w.elim
      | .ok .cont, w => w.elim))
  exact thn went fun _ _ y => unpinE y
end
end ClW
/-! set(a list of texts), sorted(it) -/
namespace StS
open PySem PySem.Spec PyProof.Rows L2
/-- the text of a row of a set, and what such a row is -/
def rowT (e : Int × Value) : Str := strOf e.2
def RowT (P : Program) (w : World) (e : Int × Value) : Prop := ∃ k t, e.2 = .str k t ∧ e.1 = (PySem.strKind P w).hash k
/-- at a stands a set of the texts ks, in the order of its rows; its table rises and may be walked -/
def TxS (P : Program) (w : World) (h : Heap) (a : Addr) (ks : List Str) : Prop := ∃ (o : Obj) (es : Array (Int × Value)) (ep : Nat) (t : SetTable), (h.get? a = some o ∧ o.ExactSet ∧ o.data = .set es ep t) ∧
  ((∀ e ∈ es.toList, RowT P w e) ∧ es.toList.map rowT = ks ∧ ks.Nodup) ∧ (es.size < scanBound ∧ t.fits es.size = true) ∧ Ris t.place.toList ∧ (w.params.followText "set-order" = true ∨ t.led = true)
section
variable {P : Program} {w : World} {h h' : Heap} {a : Addr} {ks : List Str}
theorem TxS.at (R : TxS P w h a ks) (k : ∀ o, h.get? a = some o → h'.get? a = some o) : TxS P w h' a ks := by
  obtain ⟨o, es, ep, t, ⟨ho, q⟩, r⟩ := R
  exact ⟨o, es, ep, t, ⟨k o ho, q⟩, r⟩
theorem row_is {e : Int × Value} (r : RowT P w e) (k : Str) : (PySem.strKind P w).is k e.2 = true ↔ rowT e = k := by
  obtain ⟨k0, t, h1, _⟩ := r
  have mine : (PySem.strKind P w).is k0 e.2 = true := by rw [h1]; exact strKind_is P w k0 t
  rw [KeyKind.is_eq_decide mine k, decide_eq_true_iff, show rowT e = k0 by unfold rowT; rw [h1]; rfl]
  exact eq_comm
theorem rows_elems {l : List (Int × Value)} (g : ∀ e ∈ l, RowT P w e) : ElemsOf (PySem.strKind P w) l := fun e he => by
  obtain ⟨k, t, h1, h2⟩ := g e he
  exact ⟨⟨k, by rw [h1]; exact strKind_is P w k t, h2⟩, by rw [h1]; rfl⟩
theorem TxS.len (R : TxS P w h a ks) : ∃ (o : Obj) (es : Array (Int × Value)) (ep : Nat) (t : SetTable), h.get? a = some o ∧ es.size = ks.length := by
  obtain ⟨o, es, ep, t, ⟨ho, _⟩, ⟨_, e, _⟩, _⟩ := R
  exact ⟨o, es, ep, t, ho, by rw [← e, List.length_map, Array.length_toList]⟩
end
section
variable {P : Program} {w : World} {A : Around} {E : Value → Shared → Prop} {s : Shared} {a : Addr} {ks : List Str}
/-- behind the new row: the table may be laid anew -/
theorem settle {g : Bool → Sem Unit} (quiet : ∀ (b : Bool) (s1 : Shared) (Q : Unit → Shared → Prop), Q () s1 → wpAny (model P w) A (g b) Q E s1) {o : Obj} {es es1 : Array (Int × Value)} {ep : Nat} {t t2 : SetTable}
    (ho : s.heap.get? a = some o) (hx : o.ExactSet) (hd : o.data = .set es ep t) (rows : ∀ e ∈ es1.toList, RowT P w e) (once : (es1.toList.map rowT).Nodup) (few : es1.size < scanBound) (fit : t2.fits es1.size = true) (ris : Ris t2.place.toList)
    (led : w.params.followText "set-order" = true ∨ t2.led = true) {old : Bool} {R : Option Bool → Shared → Prop} (out : ∀ h' ks', Heap.SameBut a s.heap h' → ks'.Perm (es1.toList.map rowT) → TxS P w h' a ks' → R (some true) { s with heap := h' }) :
    wpAny (model P w) A (do
        storeSet a es1 t2
        if (!old && t2.tooFull) = true then do
            g (relayAll t2 es1 (SetTable.grown es1.size)).2.2
            storeSet a (relayAll t2 es1 (SetTable.grown es1.size)).1 (relayAll t2 es1 (SetTable.grown es1.size)).2.1
            pure (some true)
          else pure (some true)) R E s := by
  have stored := store_at (es' := es1) (t' := t2) ho hd
  have but1 := Heap.SameBut.update s.heap a (Obj.putSet es1 t2)
  refine wpAny_bind (wpAny_storeSet_of ho hd ?_ (fits_of_scanBound few))
  split
  · have q1 := relayAll_perm t2 es1 (SetTable.grown es1.size)
    have q2 := relayAll_fits t2 es1 (SetTable.grown es1.size)
    have q3 := relayAll_ris t2 es1 (SetTable.grown es1.size)
    have q4 := relayAll_led t2 es1 (SetTable.grown es1.size)
    revert q1 q2 q3 q4
    generalize relayAll t2 es1 (SetTable.grown es1.size) = Z
    obtain ⟨es2, t3, gave⟩ := Z
    dsimp only
    intro q1 q2 q3 q4
    have size : es2.size = es1.size := by rw [← Array.length_toList, q1.length_eq, Array.length_toList]
    have few2 : es2.size < scanBound := size ▸ few
    refine wpAny_bind (quiet _ _ _ (wpAny_bind (wpAny_storeSet_of stored rfl ?_ (fits_of_scanBound few2))))
    exact wpAny_pure (out _ (es2.toList.map rowT) (but1.trans (Heap.SameBut.update _ a _)) (q1.map rowT) ⟨_, es2, _, t3, ⟨store_at stored rfl, hx, rfl⟩, ⟨fun e he => rows e (q1.mem_iff.mp he), rfl, (q1.map rowT).nodup_iff.mpr once⟩, ⟨few2, q2⟩, q3,
      led.imp id fun z => q4.trans z⟩)
  · exact wpAny_pure (out _ _ but1 (List.Perm.refl _) ⟨_, es1, _, t2, ⟨stored, hx, rfl⟩, ⟨rows, rfl, once⟩, ⟨few, fit⟩, ris, led⟩)
/-- a text is added -/
theorem add {k : Str} {tk : Tok} {Q : Bool → Shared → Prop} (R : TxS P w s.heap a ks) (room : ks.length + 1 < scanBound)
    (out : ∀ b h' ks', Heap.SameBut a s.heap h' → (k ∈ ks ∧ ks' = ks ∨ k ∉ ks ∧ ks'.Perm (k :: ks)) → TxS P w h' a ks' → Q b { s with heap := h' }) :
    wpAny (model P w) A (setAddHashed a (.str k tk) ((PySem.strKind P w).hash k)) Q E s := by
  obtain ⟨o, es, ep, t, ⟨ho, hx, hd⟩, ⟨rows, ek, once⟩, ⟨few, fit⟩, ris, led⟩ := id R
  have size : es.size = ks.length := by rw [← ek, List.length_map, Array.length_toList]
  have mine : (PySem.strKind P w).is k (.str k tk) = true := strKind_is P w k tk
  have scan : (Value.str k tk).scannable = true := rfl
  have elems := rows_elems rows
  have within : k ∈ ks ↔ ∃ e ∈ es.toList, (PySem.strKind P w).is k e.2 = true := by
    rw [← ek, List.mem_map]
    exact ⟨fun ⟨e, he, q⟩ => ⟨e, he, (row_is (rows e he) k).mpr q⟩, fun ⟨e, he, q⟩ => ⟨e, he, (row_is (rows e he) k).mp q⟩⟩
  have calm : ∀ (b : Bool) (s1 : Shared) (Q' : Unit → Shared → Prop), Q' () s1 → wpAny (model P w) A (match b with | true => rule "set.scan.the-table-gave-way" | false => pure ()) Q' E s1 := fun b s1 Q' q => by
    cases b
    · exact wpAny_pure q
    · exact wpAny_rule q
  unfold setAddHashed setAddHashedIn
  refine wpAny_holding (wpAny_bind (wpAny_setState_of ho hd fit ?_))
  dsimp only
  rw [byScan_of scan few elems, if_pos rfl]
  unfold setAddByScan
  refine wpAny_bind (wpAny_bind (wpAny_rule (wpAny_bind (wpAny_setScan_of mine ho hd fit elems ?_))))
  cases found : List.findIdx? (fun e => (PySem.strKind P w).is k e.2) es.toList with
  | some j =>
    dsimp only
    obtain ⟨lt, is, _⟩ := List.findIdx?_eq_some_iff_getElem.mp found
    exact wpAny_pure (wpAny_pure (out _ s.heap ks (Heap.SameBut.refl a s.heap) (.inl ⟨within.mpr ⟨_, List.getElem_mem lt, is⟩, rfl⟩) R))
  | none =>
    dsimp only
    have new : k ∉ ks := fun z => by
      obtain ⟨e, he, q⟩ := within.mp z
      have := List.findIdx?_eq_none_iff.mp found e he
      rw [q] at this
      cases this
    have q1 := layNew_perm t es ((PySem.strKind P w).hash k) (.str k tk)
    have q2 := layNew_fits t es ((PySem.strKind P w).hash k) (.str k tk)
    have q3 := layNew_ris t es ((PySem.strKind P w).hash k) (.str k tk) ris
    have q4 := layNew_led t es ((PySem.strKind P w).hash k) (.str k tk)
    revert q1 q2 q3 q4
    generalize layNew t es ((PySem.strKind P w).hash k) (.str k tk) = Z
    obtain ⟨es1, t1, old, gave⟩ := Z
    dsimp only
    intro q1 q2 q3 q4
    have pm : es1.toList.Perm (((PySem.strKind P w).hash k, Value.str k tk) :: es.toList) := by
      rw [Array.toList_push] at q1
      exact q1.trans (List.perm_append_singleton _ _)
    have pk : (es1.toList.map rowT).Perm (k :: ks) := by
      have := pm.map rowT
      rwa [List.map_cons, ek] at this
    have rows1 : ∀ e ∈ es1.toList, RowT P w e := fun e he => by
      rcases List.mem_cons.mp (pm.mem_iff.mp he) with z | z
      · exact z ▸ ⟨k, tk, rfl, rfl⟩
      · exact rows e z
    have few1 : es1.size < scanBound := by
      have := pm.length_eq
      rw [Array.length_toList, List.length_cons, Array.length_toList, size] at this
      omega
    have once1 : (es1.toList.map rowT).Nodup := pk.nodup_iff.mpr (List.nodup_cons.mpr ⟨new, once⟩)
    have led1 : w.params.followText "set-order" = true ∨ t1.led = true := led.imp id fun z => q4.trans z
    refine wpAny_bind (calm _ _ _ ?_)
    split
    · refine wpAny_bind ?_
      rw [hashByValue_scannable 8 scan]
      refine wpAny_pure (settle (fun b s1 Q' q => calm b s1 Q' q) ho hx hd rows1 once1 few1 ?_ ?_ ?_ fun h' ks' sb p r => ?_)
      · first | (split <;> first | exact q2 | exact SetTable.fits_plain_off q2) | exact q2
      · first | (split <;> exact q3) | exact q3
      · first | (split <;> exact led1) | exact led1
      · dsimp only
        exact wpAny_pure (out _ h' ks' sb (.inr ⟨new, p.trans pk⟩) r)
    · refine wpAny_bind (wpAny_pure ?_)
      rw [if_pos rfl]
      refine settle (fun b s1 Q' q => calm b s1 Q' q) ho hx hd rows1 once1 few1 q2 q3 led1 fun h' ks' sb p r => ?_
      dsimp only
      exact wpAny_pure (out _ h' ks' sb (.inr ⟨new, p.trans pk⟩) r)
end
end StS
namespace StS
open PySem PySem.Spec PyProof.Rows L2
section
variable {P : Program} {w : World} {A : Around} {E : Value → Shared → Prop} {s : Shared}
/-- the same texts, each once -/
def Same (ks xs : List Str) : Prop := ks.Nodup ∧ (∀ k, k ∈ ks ↔ k ∈ xs) ∧ ks.length ≤ xs.length
abbrev blank (w : World) : Obj := { cls := .type "set", dict := none, data := .set #[] 0 (.fresh 0 0 (!w.params.followText "set-order")) }
def Done (P : Program) (w : World) (s : Shared) (xs : List Str) (s2 : Shared) : Prop := ∃ hp tk ks, s2 = { s with heap := hp, toks := tk } ∧ TxS P w hp s.heap.objs.size ks ∧ Same ks xs ∧ ∀ b u, s.heap.get? b = some u → hp.get? b = some u
theorem blank_tx {h : Heap} {a : Addr} (e : h.get? a = some (blank w)) : TxS P w h a [] := by
  refine ⟨_, #[], 0, .fresh 0 0 (!w.params.followText "set-order"), ⟨e, ⟨rfl, rfl, rfl⟩, rfl⟩, ⟨fun e he => absurd he (by simp), rfl, List.nodup_nil⟩, ⟨by unfold scanBound; decide, ?_⟩, ?_, ?_⟩
  · rfl
  · exact List.Pairwise.nil
  · cases q : w.params.followText "set-order" with
    | true => exact .inl rfl
    | false => exact .inr rfl
/-- one text after the other -/
theorem goes {I : Addr} {fp wr : List Addr} {G : Array GenState → Array GenState → Prop} {n : Nat} {Pv : Nat → Value → Prop} {St : Nat → Shared → Prop} {R : Result → Shared → Prop} (W : WalksS P w A.in1 I fp wr G n Pv St) (S : Addr) (apart : S ∉ fp) (xs : List Str) (many : n = xs.length)
    (few : xs.length + 1 < scanBound) (tells : ∀ i v, Pv i v → ∃ t, v = .str (xs.getD i Str.empty) t) (left : Nat) : ∀ (i : Nat) (s : Shared) (ks : List Str), n = i + left → St i s → TxS P w s.heap S ks → Same ks (xs.take i) →
      (∀ s' ks', Moved (S :: wr) G s s' → TxS P w s'.heap S ks' → Same ks' xs → R (.ok (.ret .none)) s') → codeAny (model P w) A (.builtin "set.update.loop" ⟨[.ref S, .ref I], []⟩) R s := by
  have off : S ∉ wr := fun z => apart (W.sub _ z)
  have more : ∀ b ∈ wr, b ∈ S :: wr := fun b z => List.mem_cons_of_mem _ z
  induction left with
  | zero =>
    intro i s ks hn st set same out
    have all : xs.take i = xs := List.take_of_length_le (by omega)
    rw [all] at same
    have hin : n = i := hn
    subst hin
    refine codeAny_builtin F.entry_set_update_loop (by
      rw [Around.under_plainId F.plain_set_update_loop _]
      exact wpAny_bind (m := pyNext (.ref I)) (W.done s _ _ st fun s' hm => wpAny_pure (out s' ks (hm.mono more) (set.at fun o e => hm.heap S o off e) same)))
  | succ left ih =>
    intro i s ks hn st set same out
    have lt : i < n := by omega
    refine codeAny_builtin F.entry_set_update_loop (by
      rw [Around.under_plainId F.plain_set_update_loop _]
      refine wpAny_bind (m := pyNext (.ref I)) (W.item i s _ _ lt st fun v s' hP st' hm => ?_)
      obtain ⟨t, rfl⟩ := tells i v hP
      have set' : TxS P w s'.heap S ks := set.at fun o e => hm.heap S o off e
      show wpAny _ A.in1 (holding [Value.str (xs.getD i Str.empty) t] (setAdd S (.str (xs.getD i Str.empty) t)) >>= _) _ _ s'
      have room : ks.length + 1 < scanBound := by
        have := same.2.2
        rw [List.length_take] at this
        omega
      have at_i : xs[i]? = some (xs.getD i Str.empty) := by
        rw [List.getD_eq_getElem?_getD, List.getElem?_eq_getElem (by omega)]
        rfl
      unfold setAdd
      refine wpAny_bind (wpAny_holding (wpAny_holding (wpAny_bind ((PySem.strKind P w).pyHash (k := xs.getD i Str.empty) (strKind_is _ _ _ _) (add (s := { s' with toks := s'.toks + 1 }) set' room fun b h2 ks2 sb which set2 => ?_)))))
      have same2 : Same ks2 (xs.take (i + 1)) := by
        obtain ⟨s1, s2, s3⟩ := same
        rw [List.take_add_one, at_i]
        rcases which with ⟨hin, rfl⟩ | ⟨hout, pm⟩
        · refine ⟨s1, fun k => ?_, by rw [List.length_append]; omega⟩
          rw [List.mem_append]
          refine ⟨fun z => .inl ((s2 k).mp z), fun z => z.elim (s2 k).mpr fun z => ?_⟩
          have e : k = xs.getD i Str.empty := by simpa using z
          rw [e]
          exact hin
        · refine ⟨pm.nodup_iff.mpr (List.nodup_cons.mpr ⟨hout, s1⟩), fun k => ?_, ?_⟩
          · rw [pm.mem_iff, List.mem_cons, List.mem_append, s2 k]
            simp only [Option.toList_some, List.mem_singleton]
            exact Or.comm
          · rw [pm.length_eq, List.length_cons, List.length_append]
            simpa using s3
      refine wpAny_pure ⟨plainId_quiet F.plain_set_update_loop _, ih (i + 1) _ ks2 (by omega) (W.frame _ s' _ _ st' (Nat.le_succ _) fun b hb o e => ?_) set2 same2 fun s3 ks3 mv set3 same3 => ?_⟩
      · exact (sb.2 b fun z => apart (z ▸ hb)).trans e
      · exact out s3 ks3 (Moved.trans W.gtrans ((hm.mono more).then_heap (Nat.le_succ _) fun b o hb e => (sb.2 b fun z => hb (z ▸ List.mem_cons_self)).trans e) mv) set3 same3)
theorem tells_at : ∀ {vs : List Value} {xs : List Str}, StrsAre vs xs → ∀ (i : Nat) (v : Value), vs[i]? = some v → ∃ t, v = .str (xs.getD i Str.empty) t
  | _, _, .nil, i, v, e => by cases e
  | _, _, .cons y t r, 0, v, e => ⟨t, (Option.some.inj e).symm⟩
  | _, _, .cons y t r, i + 1, v, e => tells_at r i v e
theorem blank_at : (s.heap.push (blank w)).get? s.heap.objs.size = some (blank w) := Heap.get?_push_size _ rfl
theorem runs {l : Addr} {its : Array Value} {xs : List Str} (quiet : A.in1.handled = none) (here : s.heap.IsList l its) (are : StrsAre its.toList xs) (few : xs.length + 1 < scanBound) {R : Result → Shared → Prop} (out : ∀ s2, Done P w s xs s2 → R (.ok (.ret .none)) s2) :
    codeAny (model P w) A (.builtin "set.update.loop" ⟨[.ref s.heap.objs.size, .ref (s.heap.objs.size + 1)], []⟩) R { s with heap := (s.heap.push (blank w)).push { cls := .type "list_iterator", data := .fields #[.ref l, .int 0 0] } } := by
  have low : l < s.heap.objs.size := by
    obtain ⟨u, hu, _⟩ := here
    exact Heap.lt_size hu
  have wide : (s.heap.push (blank w)).objs.size = s.heap.objs.size + 1 := Heap.size_push ..
  have many : its.size = xs.length := (Array.length_toList ..).symm.trans are.len_eq
  have apart : s.heap.objs.size ∉ [s.heap.objs.size + 1, l] := fun z => by
    rcases List.mem_cons.mp z with z | z
    · exact absurd z (Nat.ne_of_lt (Nat.lt_succ_self _))
    · exact absurd (List.mem_singleton.mp z) (Nat.ne_of_gt low)
  have old : ∀ b u, s.heap.get? b = some u → ((s.heap.push (blank w)).push { cls := .type "list_iterator", data := .fields #[.ref l, .int 0 0] }).get? b = some u := fun b u e => Heap.get?_push_of_some _ (Heap.get?_push_of_some _ e)
  have iter : ((s.heap.push (blank w)).push { cls := .type "list_iterator", data := .fields #[.ref l, .int 0 0] }).get? (s.heap.objs.size + 1) = some { cls := .type "list_iterator", data := .fields #[.ref l, .int 0 0] } := by
    rw [← wide]
    exact Heap.get?_push_size _ rfl
  refine goes (Walks.list (prog := P) (w := w) quiet (s.heap.objs.size + 1) l (Nat.ne_of_lt (Nat.lt_succ_of_lt low)) its).toS s.heap.objs.size apart xs many few (fun i v hv => tells_at are i v (by rw [Array.getElem?_toList]; exact hv)) its.size 0 _ [] (by omega)
    ⟨⟨_, iter, rfl, rfl⟩, (here.push _).push _⟩ (blank_tx (Heap.get?_push_of_some _ blank_at)) ⟨List.nodup_nil, fun k => by simp, Nat.zero_le _⟩ fun s2 ks moved set same => ?_
  refine out s2 ⟨s2.heap, s2.toks, ks, ?_, set, same, fun b u e => moved.heap b u (fun z => ?_) (old b u e)⟩
  · have a1 := moved.gens
    have a2 := moved.drawn
    have a3 := moved.os
    cases s2
    cases s
    simp only at a1 a2 a3
    subst a1 a2 a3
    rfl
  · have lt := Heap.lt_size e
    rcases List.mem_cons.mp z with z | z
    · exact absurd z (Nat.ne_of_lt lt)
    · exact absurd (List.mem_singleton.mp z) (Nat.ne_of_lt (Nat.lt_succ_of_lt lt))
/-- a new set, told the list's texts -/
theorem fills {l : Addr} {its : Array Value} {xs : List Str} (quiet : A.handled = none) (here : s.heap.IsList l its) (are : StrsAre its.toList xs) (few : xs.length + 1 < scanBound) {B : Around} {R : Result → Shared → Prop} (out : ∀ s2, Done P w s xs s2 → R (.ok (.ret .none)) s2) :
    wpAny (model P w) A (Builtin.«set.__init__» ⟨[.ref s.heap.objs.size, .ref l], []⟩) (fun fin s2 => match fin with | .done f => R (.ok f) s2 | .again c => c.quiet = true ∧ codeAny (model P w) B c R s2) E { s with heap := s.heap.push (blank w) } := by
  have listed : (s.heap.push (blank w)).IsList l its := here.push _
  obtain ⟨⟨ucls, udict, udata, uslots⟩, hu, hc, k, hd⟩ := listed
  simp only at hc hd
  subst hc hd
  have b1 := F.sub_list_set
  have b2 := F.sub_list_frozenset
  have b3 : (Value.type "list" == Value.type "dict") = false := by decide
  have b4 := blank_at (w := w) (s := s)
  unfold Builtin.«set.__init__» noKeywords Builtin.Frozenset.updateFrom
  generalize name : pyIter = walk
  wp_walk
  subst name
  have wide : (s.heap.push (blank w)).objs.size = s.heap.objs.size + 1 := Heap.size_push ..
  refine wpAny_pyIter_list (here.push _) (wpAny_bind (wpAny_runValue ?_))
  rw [wide]
  exact runs (by simp [quiet]) here are few fun s2 z => wpAny_pure (wpAny_pure (out s2 z))
/-- set(xs) -/
theorem makes {l : Addr} {its : Array Value} {xs : List Str} {Q : Value → Shared → Prop} (quiet : A.handled = none) (here : s.heap.IsList l its) (are : StrsAre its.toList xs) (few : xs.length + 1 < scanBound)
    (out : ∀ s2, Done P w s xs s2 → Q (.ref s.heap.objs.size) s2) : wpAny (model P w) A (call (.type "set") [.ref l]) Q E s := by
  have all := F.called_set
  obtain ⟨c0, c1, c2⟩ := all.mro
  have d1 := all.made
  have d2 := all.sub
  have d3 := all.notType
  have d4 := all.canCreate
  have d5 := F.typeCall_set_1 (.ref l)
  refine wpAny_call (codeAny_of_tree ?_)
  show wpAny _ _ (callAny (.type "set") ⟨[.ref l], []⟩) _ _ _
  refine wpAny_pure ⟨Code.quiet_builtin _ (by decide +kernel), codeAny_builtin F.entry_type_call ?_⟩
  rw [Around.under_plain (weight_type_call_type "set" [.ref l] []) rfl]
  repeat (any_goals (first | assumption | wp_step))
  refine codeAny_mono (code_set_led1 (.ref l) (E := E) (Q₁ := fun v s1 => v = .ref s.heap.objs.size ∧ s1 = { s with heap := s.heap.push (blank w) }) ⟨rfl, rfl⟩) fun r s1 h1 => ?_
  cases r with
  | error e => exact h1
  | ok f =>
    cases f with
    | next => exact h1.elim
    | brk => exact h1.elim
    | cont => exact h1.elim
    | ret v =>
      obtain ⟨rfl, rfl⟩ := h1
      have e0 := blank_at (w := w) (s := s)
      have e1 : Shared.TypeIs { s with heap := s.heap.push (blank w) } (.ref s.heap.objs.size) "set" := ⟨_, e0, rfl⟩
      have e2 := all.init.lookup
      have e3 := all.init.bind (.ref s.heap.objs.size)
      repeat (any_goals (first | assumption | wp_step))
      refine codeAny_mono (codeAny_call_builtin (R := wants (fun v s2 => v = .none ∧ Done P w s xs s2) E) all.init.plain F.entry_set_init (check_set_init_1 e1 (fills (by simp [quiet]) here are few fun s2 z => ⟨rfl, z⟩))) fun r s2 h2 => ?_
      cases r with
      | error e => exact h2
      | ok f =>
        cases f with
        | next => exact h2.elim
        | brk => exact h2.elim
        | cont => exact h2.elim
        | ret v =>
          obtain ⟨rfl, z⟩ := h2
          repeat (any_goals (first | assumption | wp_step))
          exact out s2 z
/-- sorted(a set of texts) -/
theorem sorts {a : Addr} {ks : List Str} {Q : Value → Shared → Prop} (R : TxS P w s.heap a ks) (quiet : A.handled = none) (few64 : ks.length < 64)
    (out : ∀ s' p (row : Array Value) (c : Nat) (ys : List Str), (∀ b o, s.heap.get? b = some o → s'.heap.get? b = some o) → s'.gens = s.gens → s'.os = s.os → s.heap.objs.size ≤ p → s'.heap.get? p = some (seqObj "list" row c) → StrsAre row.toList ys → ys.Perm ks → sortedS ys = true → Q (.ref p) s') :
    wpAny (model P w) A (call (.builtin "sorted") [.ref a]) Q E s := by
  obtain ⟨o, es, ep, t, ⟨ho, hx, hd⟩, ⟨rows, ek, once⟩, ⟨few, fit⟩, ris, led⟩ := R
  have size : es.toList.length = ks.length := by rw [← ek, List.length_map]
  refine Calls.call_function_entry kind_sorted plain_sorted entry_sorted (args_sorted1 (.ref a)) (by
    unfold Builtin.«sorted»
    refine wpAny_bind (m := checkCount "sorted" 1 1 _) (wpAny_pure (wpAny_bind (collect_set (A := A.in1) quiet ⟨o, ho, hx.1, hd⟩ fit few ris led fun s1 vs keep lt gens os pm => ?_)))
    have many : vs.length < 64 := by
      rw [pm.length_eq, List.length_map, size]
      exact few64
    have are : StrsAre vs (vs.map strOf) := strsAre_map vs fun v hv => by
      obtain ⟨e, he, q⟩ := List.mem_map.mp (pm.mem_iff.mp hv)
      obtain ⟨k, tk, h1, _⟩ := rows e he
      exact ⟨k, tk, q ▸ h1⟩
    have perm : (vs.map strOf).Perm ks := by
      have := pm.map strOf
      rw [List.map_map] at this
      rw [← ek]
      exact this
    refine wpAny_bind (wpAny_newList ?_ (by rw [sizeLine_eq]; omega))
    have hoL : (s1.heap.push (seqObj "list" vs.toArray 0)).get? s1.heap.objs.size = some (seqObj "list" vs.toArray 0) := Heap.get?_push_size _ rfl
    refine wpAny_bind (wpAny_holding (wpAny_call_entry slot_list_sort ⟨_, hoL, rfl⟩ entry_list_sort (list_sort_treeK strKind_oneLt hoL are.keysOf (fun v₁ v₂ rest e => keyKind_strs (by rw [← e]; exact are)) many fun st' hp hs => ⟨_, rfl, ?_⟩) (args_list_sort _)))
    obtain ⟨ys, y1, y2, y3⟩ := sorted_out_str are hp hs
    obtain ⟨c, hc⟩ := sortedHeap_at (vs := vs) (out := (arrOf st').map (·.2)) hoL
    refine wpAny_pure ⟨_, rfl, out _ s1.heap.objs.size _ c ys (fun b u e => ?_) gens os lt hc y1 (y2.trans perm) y3⟩
    have q := keep b u e
    have small := Heap.lt_size q
    have same : (sortedHeap (s1.heap.push (seqObj "list" vs.toArray 0)) s1.heap.objs.size vs ((arrOf st').map (·.2))).get? b = (s1.heap.push (seqObj "list" vs.toArray 0)).get? b := sortedHeap_old (Nat.ne_of_lt small) (by rw [size_push']; exact Nat.lt_succ_of_lt small)
    exact same.trans (Heap.get?_push_of_some _ q))
end
/-- the set of texts at a, tracked -/
def SetT (P : Program) (w : World) (a : Addr) (ks : List Str) : HO := .ext fun h => TxS P w h a ks
section
variable {X : Cx}
theorem setT_ok {P : Program} {w : World} {H : Hp} {h : Heap} {a : Addr} {ks : List Str} (R : TxS P w h a ks) : ObjOk P w H h a (SetT P w a ks) := by
  obtain ⟨o, es, ep, t, ho, _⟩ := R.len
  exact ⟨R, ⟨o, ho⟩, fun _ _ q k => q.at k⟩
def rSetT (X : Cx) : List V → Hp → VK → Prop := fun vs H Q => ∃ l xs, vs = [.ref l] ∧ SqL X.K H l (xs.map V.str) ∧ xs.length < 1000 ∧ ∀ a ks, H a = none → Same ks xs → Q (.ref a) (upd H a (SetT X.prog X.w a ks))
theorem cr_setT (hc : X.calm = true) : CallR X (.type "set") (rSetT X) := by
  intro pins s σ H vs us Q I r hq
  obtain ⟨l, xs, rfl, hl, hz, q⟩ := hq
  rw [Vals.ref1 r]
  obtain ⟨its, rv, here, _⟩ := I.list hl
  refine makes (I.ok.hd hc) here.isList (xs := xs) (by simpa using rv.strs) (by unfold scanBound; omega) fun s2 z => ?_
  obtain ⟨hp, tk, ks, rfl, R, same, keep⟩ := z
  exact ⟨.ref s.heap.objs.size, _, I.laid (t' := tk) keep (Nat.le_refl _) (setT_ok R), rfl, q _ ks (I.hok.fresh (Nat.le_refl _)) same⟩
def rSortT (X : Cx) : List V → Hp → VK → Prop := fun vs H Q => ∃ a ks, vs = [.ref a] ∧ H a = some (SetT X.prog X.w a ks) ∧ ks.length < 64 ∧ ∀ ys p, ys.Perm ks → sortedS ys = true → H p = none → Q (.ref p) (upd H p (.lst (ys.map V.str)))
theorem cr_sortT (hc : X.calm = true) : CallR X (.builtin "sorted") (rSortT X) := by
  intro pins s σ H vs us Q I r hq
  obtain ⟨a, ks, rfl, ha, hz, q⟩ := hq
  rw [Vals.ref1 r]
  refine sorts ((I.hok a _ ha).1) (I.ok.hd hc) hz fun s' p row c ys keep gens os le at_ are perm srt => ?_
  have new : H p = none := I.hok.fresh le
  have short : (ys.map V.str).length ≤ sizeLine := by rw [List.length_map, perm.length_eq, sizeLine_eq]; omega
  have J : Inv X pins σ (upd H p (.lst (ys.map V.str))) { s with heap := s'.heap, gens := s'.gens, drawn := s'.drawn, toks := s'.toks } :=
    I.call (ch := []) (Un.laid keep le new) (I.hok.laid keep le ⟨short, row.toList, c, vals_of_strs are, at_⟩) (by rw [gens]; exact I.bare) (fun _ z => absurd z (by simp))
  have same : s' = { s with heap := s'.heap, gens := s'.gens, drawn := s'.drawn, toks := s'.toks } := by
    cases s'
    cases s
    cases os
    rfl
  rw [same]
  exact ⟨.ref p, _, J, rfl, q ys p perm srt new⟩
end
end StS
/-! x not in a tuple, as data; a list != []; q_par3 -/
namespace K17
open PySem L2 Evl Gr
section
variable {X : Cx}
def rNiDT (K : PySem.W.Frag) : R2 := fun x y H Q => ∃ d ds, Dp K H x d ∧ Dp K H y (.tuple ds) ∧ SeqAt.shaped d = true ∧ SeqAt.shaped (.tuple ds) = true ∧ Q (.bl (!ds.any fun z => PyData.eqv z d)) H
theorem op_niDT (hu : X.A.units + 65 < cLine) : OpR X (compareOp .NotIn) (rNiDT X.K) := fun pins s σ H x y v u Q I rx ry ⟨d, ds, hd, he, sd, se, q⟩ => by
  obtain ⟨as, r1⟩ := Dp.reads I d x v hd rx
  obtain ⟨bs, r2⟩ := Dp.reads I (.tuple ds) y u he ry
  exact SeqAt.notIn_tuple_reads r2 r1 (SeqAt.canLay_of_shaped se) (SeqAt.canLay_of_shaped sd) (PyProof.Rows.room_in_shaped sd hu) ⟨.bl _, H, I, rfl, q⟩
/-- a list != an empty one -/
def rNeMt : R2 := fun x y H Q => ∃ a b xs, x = .ref a ∧ y = .ref b ∧ H a = some (.lst xs) ∧ H b = some (.lst []) ∧ Q (.bl (!decide (xs = []))) H
theorem op_neMt (hu : X.A.units < cLine) : OpR X (compareOp .NotEq) rNeMt := fun pins s σ H x y v u Q I rx ry ⟨a, b, xs, ex, ey, ha, hb, q⟩ => by
  subst ex ey
  cases (show v = Value.ref a from rx)
  cases (show u = Value.ref b from ry)
  obtain ⟨_, us, m, r, o1⟩ := I.hok a _ ha
  obtain ⟨_, vs, n, r', o2⟩ := I.hok b _ hb
  cases r'
  have l1 : s.heap.IsList a us.toArray := ⟨_, o1, rfl, m, rfl⟩
  have l2 : s.heap.IsList b #[] := ⟨_, o2, rfl, n, rfl⟩
  have len := r.length
  by_cases c : xs = []
  · subst c
    obtain rfl : us = [] := List.eq_nil_of_length_eq_zero (by rw [← len]; rfl)
    exact SeqAt.RcNeAt.lists (e := fun _ => true) l1 l2 rfl hu (fun j h => absurd h (Nat.not_lt_zero j)) X.prog X.w X.xe _ ⟨.bl _, H, I, rfl, q⟩
  · have ne : (us.toArray.size != (#[] : Array Value).size) = true := by
      rw [List.size_toArray, ← len]
      simpa using c
    refine SeqAt.RcNeAt.lists_lengths l1 l2 ne hu X.prog X.w X.xe _ ⟨.bl true, H, I, rfl, ?_⟩
    rw [decide_eq_false c] at q
    exact q
end
section
variable {σ : L2.St} {H : Hp} {ta tb te : TE}
theorem ev_neMt {xs : List V} (ha : EvL ta σ H xs) : Ev (tOp rNeMt ta (tLst tNil)) σ H (.bl (!decide (xs = []))) := fun H1 e Q q =>
  ha H1 e _ fun p H2 hp e2 h2 => ⟨by decide, fun l hl => ⟨p, l, xs, rfl, rfl, (Ex.new hl) _ _ h2, upd_same, q _ (e2.trans (Ex.new hl))⟩⟩
theorem q_par3 {ta : TA} {i j l : Nat} {tz : TS} {D : Ends} (h : ta σ H fun vs H1 => ∃ u v w, vs = [u, v, w] ∧ tz D (((σ.set i (some u)).set j (some v)).set l (some w)) H1) : tSeq (tPar3 i j l ta) tz D σ H := h
theorem s_par3 {ta : TA} {i j l : Nat} {D : Ends} (h : ta σ H fun vs H1 => ∃ u v w, vs = [u, v, w] ∧ D.nx (((σ.set i (some u)).set j (some v)).set l (some w)) H1) : tPar3 i j l ta D σ H := h
theorem eu_tuple {K : PySem.W.Frag} {xs : List V} (h : EvL te σ H xs) : EvU (tThen te (kTup K)) σ H xs := fun H1 e Q q =>
  h H1 e _ fun p H2 hp e2 h2 => .inl ⟨p, xs, rfl, sq_of h2, fun r hr => q r _ (fresh_back e2 hr) (e2.trans (Ex.new hr)) upd_same⟩
end
end K17
/-! ### a word as the law looks at it -/
namespace K17
open PySem L2 Evl Gr StX EnT Kn
abbrev partsW (z : Str) : List Str := Txt.split z "+"
theorem join_parts (z : Str) : Txt.join "+" (partsW z) = z := by
  rw [TL.join_eq]
  exact StrLaws.join_split z "+"
theorem digs_lt {p q : Str} (hp : p ∈ digs) (hq : q ∈ digs) : StO.lt p q ↔ dig p < dig q := by
  rw [StO.lt_iff]
  have : ∀ p ∈ digs, ∀ q ∈ digs, decide (p.cps.toList < q.cps.toList) = decide (dig p < dig q) := by decide +kernel
  exact decide_eq_decide.mp (this p hp q hq)
theorem asc_of_pw {l : List Nat} (h : l.Pairwise (· < ·)) : ascB l = true := by
  unfold ascB
  rw [List.all_eq_true]
  intro i hi
  have hi := List.mem_range.mp hi
  refine decide_eq_true ?_
  rw [List.getD_eq_getElem?_getD, List.getD_eq_getElem?_getD, List.getElem?_eq_getElem (show i < l.length by omega), List.getElem?_eq_getElem (show i + 1 < l.length by omega)]
  exact List.pairwise_iff_getElem.mp h i (i + 1) (by omega) (by omega) (Nat.lt_succ_self i)
theorem lt_asc {ps : List Str} (hd : ∀ p ∈ ps, p ∈ digs) : ps.Pairwise StO.lt ↔ ascB (ps.map dig) = true := by
  constructor
  · intro h
    refine asc_of_pw ?_
    rw [List.pairwise_map]
    exact List.Pairwise.imp_of_mem (fun {a b} ha hb z => (digs_lt (hd a ha) (hd b hb)).mp z) h
  · intro h
    have := asc_pw h
    rw [List.pairwise_map] at this
    exact List.Pairwise.imp_of_mem (fun {a b} ha hb z => (digs_lt (hd a ha) (hd b hb)).mpr z) this
/-- sorted(set(signs)) is signs just where they ascend -/
theorem set_is {ps ks ys : List Str} (hd : ∀ p ∈ ps, p ∈ digs) (same : StS.Same ks ps) (pm : ys.Perm ks) (so : PyProof.Rows.sortedS ys = true) : decide (ys = ps) = ascB (ps.map dig) := by
  have nd : ys.Nodup := pm.nodup_iff.mpr same.1
  have rows := StO.rows so nd
  rw [Bool.eq_iff_iff, decide_eq_true_iff, ← lt_asc hd]
  constructor
  · rintro rfl
    exact rows
  · intro h
    exact StO.one rows h fun z => by rw [pm.mem_iff]; exact same.2.1 z
theorem sumW_digs {z : Str} (hd : ∀ p ∈ partsW z, p ∈ digs) : sumW z = if ascB ((partsW z).map dig) = true then some ((partsW z).map dig) else none := by
  unfold sumW
  rw [if_pos (List.all_eq_true.mpr fun p hp => decide_eq_true (hd p hp))]
theorem sumW_odd {z : Str} (h : ((partsW z).filter fun p => !decide (p ∈ digs)) ≠ []) : sumW z = none := by
  unfold sumW
  rw [if_neg]
  intro y
  rw [List.all_eq_true] at y
  refine h (List.filter_eq_nil_iff.mpr fun p hp => ?_)
  rw [y p hp]
  decide
theorem digs_of {z : Str} (h : ((partsW z).filter fun p => !decide (p ∈ digs)) = []) : ∀ p ∈ partsW z, p ∈ digs := fun p hp => by
  have := List.filter_eq_nil_iff.mp h p hp
  simpa using this
theorem spW_digs {ps : List Str} (hd : ∀ p ∈ ps, p ∈ digs) : spW (ps.map dig) = Txt.join " " ps := by
  unfold spW
  rw [List.map_map, show ps.map (sd ∘ dig) = ps from ?_]
  conv => rhs; rw [← List.map_id ps]
  exact List.map_congr_left fun p hp => dig_back (hd p hp)
/-- the last text -/
def lastT (ss : List (List Nat)) : Str := match ss.getLast? with
  | none => ""
  | some m => spW m
theorem lastT_snoc (ss : List (List Nat)) (l : List Nat) : lastT (ss ++ [l]) = spW l := by
  unfold lastT
  rw [show (ss ++ [l]).getLast? = some l by simp]
theorem canF_is {ss : List (List Nat)} {z : Str} {l : List Nat} (hs : sumW z = some l) (hl : l ∈ fift) (hm : ∀ m ∈ ss, m ∈ fift) : ((!decide ((lastT ss).cps.toList < (spW l).cps.toList)) || decide (ss.length = 4)) = !canF ss z := by
  unfold canF
  rw [hs]
  show _ = !(if ss.length = 4 then false else match ss.getLast? with
    | none => true
    | some m => HT.lexLt (zI m) (zI l))
  by_cases c : ss.length = 4
  · rw [if_pos c, decide_eq_true c, Bool.or_true]
    rfl
  · rw [if_neg c, decide_eq_false c, Bool.or_false]
    unfold lastT
    cases g : ss.getLast? with
    | none =>
      show (!decide (("" : Str).cps.toList < _)) = !true
      rw [spW_pos hl]
    | some m =>
      show (!decide ((spW m).cps.toList < _)) = !HT.lexLt _ _
      rw [spW_lt (hm m (List.mem_of_getLast? g)) hl]
/-- a step behind a phase that has begun -/
theorem rstep_sum {ps : List Ph} {b : Bool} {ss : List (List Nat)} {z : Str} (hz : z ≠ "/") : rstep (false, ps ++ [(b, ss)]) z = match sumW z with
    | none => none
    | some l => if canF ss z = true then some (false, ps ++ [(b, ss ++ [l])]) else none := by
  unfold rstep
  rw [if_neg (show ¬ (false = true) from Bool.false_ne_true), if_neg hz]
  have gl : (ps ++ [(b, ss)]).getLast? = some (b, ss) := by simp
  show (match (ps ++ [(b, ss)]).getLast? with
    | none => none
    | some p => match sumW z with
      | none => none
      | some l' => if canF p.2 z = true then some (false, (ps ++ [(b, ss)]).dropLast ++ [(p.1, p.2 ++ [l'])]) else none) = _
  rw [gl]
  show (match sumW z with
    | none => none
    | some l' => if canF ss z = true then some (false, (ps ++ [(b, ss)]).dropLast ++ [(b, ss ++ [l'])]) else none) = _
  rw [List.dropLast_concat]
theorem rat_next {ws : List Str} {n : Nat} {st st' : Bool × List Ph} {z : Str} (h : rat ws n = some st) (hz : ws[n]? = some z) (hs : rstep st z = some st') : rat ws (n + 1) = some st' := by
  show (rat ws n).bind _ = _
  rw [h, hz]
  exact hs
theorem rat_le {ws : List Str} : ∀ {n : Nat} {st : Bool × List Ph}, rat ws n = some st → n ≤ ws.length
  | 0, _, _ => Nat.zero_le _
  | n + 1, st, h => by
    obtain ⟨_, _, _, hz, _⟩ := rat_b h
    exact (List.getElem?_eq_some_iff.mp hz).1
end K17
namespace K17
open PySem L2 Evl Gr StX EnT MkS StK ClX ClK RdX OwX OwC StS Kn
/-! ### _law_row_end -/
section
variable {K : PySem.W.Frag} {σ : L2.St} {H : Hp} {ta tb te : TE}
theorem ed_two {d e : PyData} (ha : EvD K ta σ H d) (hb : EvD K tb σ H e) : EvD K (tTup (tCons ta (tCons tb tNil))) σ H (.tuple [d, e]) := fun H1 e1 Q q =>
  ha H1 e1 _ fun v H2 e2 hv => hb H2 (e1.trans e2) _ fun u H3 e3 hu => ⟨by show 2 ≤ sizeLine; decide, fun p hp => q (.ref p) _ ((e2.trans e3).trans (Ex.new hp)) (.tup (st_of upd_same) (.cons (dp_up (e3.trans (Ex.new hp)) d hv) (.cons (dp_up (Ex.new hp) e hu) .nil)))⟩
theorem dpAll_strs {H : Hp} : ∀ ws : List Str, DpAll K H (ws.map V.str) (ws.map PyData.str)
  | [] => .nil
  | z :: ws => .cons (.str z) (dpAll_strs ws)
theorem str_eqv (x y : Str) : PyData.eqv (.str x) (.str y) = decide (x = y) := by
  rw [show PyData.eqv (.str x) (.str y) = (x == y) by simp [PyData.eqv], Bool.eq_iff_iff, beq_iff_eq, decide_eq_true_iff]
theorem strs_eqv (l m : List Str) : PyData.eqv (.list (l.map PyData.str)) (.list (m.map PyData.str)) = decide (l = m) := by
  have := eqvAll_map PyData.str str_eqv l m
  simpa [PyData.eqv] using this
theorem strs_low {l : List Str} (h : ∀ z ∈ l, PyData.strOk z = true) : Low 1 (.list (l.map PyData.str)) := low_list (n := 0) fun d hd => by
  obtain ⟨z, hz, rfl⟩ := List.mem_map.mp hd
  exact low_str (h z hz)
theorem begins (l : List Str) : (([.list [.str "row"], .list [.str "mute"]] : List PyData).any fun y => PyData.eqv y (.list (l.map PyData.str))) = decide (l = (["row"] : List Str) ∨ l = (["mute"] : List Str)) := by
  have a := strs_eqv ["row"] l
  have b := strs_eqv ["mute"] l
  have a : PyData.eqv (.list [.str "row"]) (.list (l.map PyData.str)) = decide ((["row"] : List Str) = l) := a
  have b : PyData.eqv (.list [.str "mute"]) (.list (l.map PyData.str)) = decide ((["mute"] : List Str) = l) := b
  rw [List.any_cons, List.any_cons, List.any_nil, a, b, Bool.or_false, Bool.eq_iff_iff, Bool.or_eq_true, decide_eq_true_iff, decide_eq_true_iff, decide_eq_true_iff]
  exact or_congr eq_comm eq_comm
theorem cut_one {ws : List Str} {i : Nat} (h : i ≤ ws.length) : cutV (ws.map V.str) (some (i : Int)) (some (((i : Int)) + 1)) = ((ws.drop i).take 1).map V.str := by
  unfold cutV
  have e : ((i : Int)) + 1 = ((i + 1 : Nat) : Int) := by omega
  rw [e, HT.sIx_nat, HT.sIx_nat, List.length_map, ← List.map_drop, ← List.map_take]
  rcases Nat.lt_or_ge i ws.length with c | c
  · rw [Nat.min_eq_left (by omega), Nat.min_eq_left (by omega), show i + 1 - i = 1 by omega]
  · have e2 : i = ws.length := by omega
    rw [e2]
    simp
theorem one_at {ws : List Str} {i : Nat} {z : Str} (h : ws[i]? = some z) : (ws.drop i).take 1 = [z] := by
  obtain ⟨lt, e⟩ := List.getElem?_eq_some_iff.mp h
  rw [List.drop_eq_getElem_cons lt, e]
  rfl
end
theorem digs_ok {p : Str} (h : p ∈ digs) : PyData.strOk p = true := (by decide +kernel : ∀ p ∈ digs, PyData.strOk p = true) p h
theorem ev_setNe {X : Cx} {σ : L2.St} {H : Hp} {j : Nat} {a : Addr} {ps : List Str} (hj : σ[j]? = some (some (.ref a))) (ha : H a = some (.lst (ps.map V.str))) (hd : ∀ p ∈ ps, p ∈ digs) (few : ps.length < 60) : Ev (tOp (rNeD X.K) (tCB (StS.rSortT X) (tCons (tCB (StS.rSetT X) (tCons (tVar j) tNil)) tNil)) (tVar j)) σ H (.bl (!ascB (ps.map dig))) := fun H1 e Q q =>
  ⟨.ref a, hj, a, ps, rfl, sq_of (e _ _ ha), by omega, fun s ks hs same => by
    have e1 := Ex.new (o := StS.SetT X.prog X.w s ks) hs
    refine ⟨s, ks, rfl, upd_same, by have := same.2.2; omega, fun ys p pm so hp => ?_⟩
    have e2 := e1.trans (Ex.new (o := .lst (ys.map V.str)) hp)
    have yd : ∀ z ∈ ys, z ∈ digs := fun z hz => hd z ((same.2.1 z).mp (pm.mem_iff.mp hz))
    refine ⟨.ref a, hj, .list (ys.map .str), .list (ps.map .str), .lst (sq_of upd_same) (dpAll_strs ys), .lst (sq_of (e2 _ _ (e _ _ ha))) (dpAll_strs ps), low_shaped (strs_low fun z hz => digs_ok (yd z hz)) (by decide), low_shaped (strs_low fun z hz => digs_ok (hd z hz)) (by decide), ?_⟩
    rw [strs_eqv, set_is hd same pm so]
    exact q _ e2⟩
theorem ev_joinV {K : PySem.W.Frag} {σ : L2.St} {H : Hp} {j : Nat} {a : Addr} {ys : List Str} {z : Str} (hj : σ[j]? = some (some (.ref a))) (ha : SqL K H a (ys.map V.str)) (hz : (ys.map (·.length)).sum + ys.length * z.length ≤ 16777216) : Ev (tM1 (rJoin K) (tC (.str z)) (tVar j)) σ H (.str (Txt.join z ys)) := fun H1 e Q q =>
  ⟨⟨_, rfl⟩, .ref a, hj, z, a, ys, rfl, rfl, .inl (ex_l e ha), hz, q H1 (Ex.refl H1)⟩
section
variable {P : Program} {w : World} {K : PySem.W.Frag} {mg : Str → Option Value} {base : Heap}
abbrev sRe : Stmt := top 34
abbrev nRe : List Str := ["_law_words", "_law_at", "_law_found", "_law_last", "_law_begun", "_law_signs", "_law_sign"]
def spRe : Sp := fun vs H Q _ => ∃ (a : Addr) (n : Nat) (ws : List Str) (ps : List Ph), vs = [.ref a, .int (n : Int)] ∧ H a = some (.lst (ws.map V.str)) ∧ (∀ z ∈ ws, Wrd z) ∧ ws.length ≤ 1000 ∧ rat ws n = some (true, ps) ∧
  (∀ i t H', rowsF ws = .inl i → i ≤ ws.length → H t = none → Ex H H' → H' t = some (.tup [.int (i : Int), .non]) → Q (.ref t) H') ∧
  (∀ i p t u f ys H', n < i → rat ws i = some (false, ps ++ [p]) → (i ≠ ws.length → ws[i]? = some "/") → H t = none → H f = none → Ex H H' → H' t = some (.tup [.int (i : Int), .ref u]) → H' u = some (.tup [.bl p.1, .ref f]) → H' f = some (.lst ys) → TRow H' ys p.2 → Q (.ref t) H')
theorem scRe : FnScope nRe ["_law_words", "_law_at"] (defScope sRe) := ⟨rfl, rfl, rfl, by decide +kernel, rfl, by decide +kernel, by decide +kernel⟩
theorem ok_Re {f : Addr} {fd : FuncData} (F : Fun K "_law_row_end" "_law_row_end" sRe f fd) (T : GlbT mg) (S : GlbS mg) (I : GlbE mg) (set_ : mg "set" = none) : FnOk P w K mg base CX0 1 f fd ["_law_words", "_law_at"] spRe := by
  refine F.ok scRe (fun vs H Q E h => ?_) (fun cdv A outer s H vs Q E hr h => ?_)
  · obtain ⟨a, n, ws, ps, rfl, _⟩ := h
    rfl
  · obtain ⟨a, n, ws, ps, rfl, ha, wrd, l1000, hrat, kNo, kYes⟩ := h
    have hu : (A.deeper (PyProof.Rows.envOfC "_law_row_end" (defScope sRe) s.heap.objs.size f cdv)).units + 65 < cLine := by have := hr.un; omega
    refine ⟨_, (pss_cons (ps_if (pt_cmpR (op_niDT hu) (pe_slice sl_list (pv 0) (po_some (pv 1)) (po_some (pe_op op_add (pv 1) pe_int))) (pe_tup (pa_cons (pe_lst (pa_cons pe_str pa_nil)) (pa_cons (pe_lst (pa_cons pe_str pa_nil)) pa_nil))) (by with_unfolding_all rfl)) (pss_one (ps_ret (pe_tup (pa_cons (pv 1) (pa_cons pe_non pa_nil))))) pss_nil)
      (pss_cons (ps_par3 (i := 2) (j := 3) (l := 4) rfl scRe.nd rfl rfl rfl (by decide) (by decide) (by decide) rfl rfl rfl (pa_cons (pe_lst pa_nil) (pa_cons pe_str (pa_cons (pv 1) pa_nil))) (by rfl))
      (pss_cons (ps_set (i := 1) scRe.nd rfl (.inl rfl) (pe_op op_add (pv 1) pe_int))
      (pss_cons (ps_while PassesOwn.never (PW.pt (pw_and (pt_cmpR op_lt (pv 1) (pe_callB call_len_seq (by rfl) S.len PySem.boot_len (pa_cons (pv 0) pa_nil)) (nomark _)) (pw_and1 (pt_cmpR op_ne (pe_ix (show IxR _ (rIxL K) from ix_list) (pv 0) (pv 1) (fun _ _ => rfl)) pe_str (nomark _)))))
        (pss_cons (ps_set (i := 5) scRe.nd rfl (.inl rfl) (pe_split (pe_ix (show IxR _ (rIxL K) from ix_list) (pv 0) (pv 1) (fun _ _ => rfl)) pe_str))
      (pss_cons (ps_if (PW.pt (pw_or (pt_cmpR (op_neMt hr.units0) (pe_lc (te := tVar 6) (own := [("_law_sign", 6)]) (g := gName 6) rfl scRe.nd (pi_list (pv 5)) (blkOk_by (own := [("_law_sign", 6)]) (N := nRe) (sc := defScope sRe) (by decide +kernel)) (fun _ _ _ _ _ => pg_name (i := 6) scRe.nd rfl (Or.inl rfl))
                (fun _ _ _ _ _ => pts_one (pt_cmpR (show OpR _ _ (rIn K true) from op_notIn_seq) (pv 6) (pe_tup (pa_cons pe_str (pa_cons pe_str (pa_cons pe_str (pa_cons pe_str pa_nil))))) (by with_unfolding_all rfl))) (fun _ _ _ _ _ => pv 6)) (pe_lst pa_nil) (nomark _))
              (pw_or1 (pt_cmpR (op_neD hr.units) (pe_callB (StS.cr_sortT rfl) (by rfl) I.sorted (by decide +kernel) (pa_cons (pe_callTy (StS.cr_setT rfl) (by rfl) set_ (by decide +kernel) (pa_cons (pv 5) pa_nil)) pa_nil)) (pv 5) (nomark _))))) (pss_one (ps_ret (pe_tup (pa_cons (pv 1) (pa_cons pe_non pa_nil))))) pss_nil)
      (pss_cons (ps_if (PW.pt (pw_or (pt_cmpR op_le_str (pe_join pe_str (pv 5)) (pv 3) (nomark _)) (pw_or1 (pt_cmpR op_eq (pe_callB call_len_seq (by rfl) S.len PySem.boot_len (pa_cons (pv 2) pa_nil)) pe_int (nomark _))))) (pss_one (ps_ret (pe_tup (pa_cons (pv 1) (pa_cons pe_non pa_nil))))) pss_nil)
      (pss_one (ps_par3 (i := 2) (j := 3) (l := 1) rfl scRe.nd rfl rfl rfl (by decide) (by decide) (by decide) rfl rfl rfl (pa_cons (pe_op op_cat (pv 2) (pe_lst (pa_cons (pe_tupleOf (by rfl) S.tuple (pe_lc (te := tCB (fun xs H Q => ∃ a i, xs = [.str a] ∧ PySem.intText? a = some i ∧ a.length ≤ 640 ∧ Q (.int i) H) (tCons (tVar 6) tNil)) (own := [("_law_sign", 6)]) (g := gName 6) rfl scRe.nd (pi_list (pv 5)) (blkOk_by (own := [("_law_sign", 6)]) (N := nRe) (sc := defScope sRe) (by decide +kernel)) (fun _ _ _ _ _ => pg_name (i := 6) scRe.nd rfl (Or.inl rfl)) (fun _ _ _ _ _ => pts_nil)
                (fun _ _ _ _ _ => pe_callTy call_int_str (by rfl) T.int (by decide +kernel) (pa_cons (pv 6) pa_nil)))) pa_nil))) (pa_cons (pe_join pe_str (pv 5)) (pa_cons (pe_op op_add (pv 1) pe_int) pa_nil))) (by rfl)))))))
      (pss_one (ps_ret (pe_tup (pa_cons (pv 1) (pa_cons (pe_tup (pa_cons (pe_cmpR op_eq (pe_ix (show IxR _ (rIxL K) from ix_list) (pv 0) (pv 4) (fun _ _ => rfl)) pe_str (nomark _)) (pa_cons (pv 2) pa_nil))) pa_nil))))))))), ?_⟩
    have nl := rat_le hrat
    have no : ∀ {i : Nat} {st : L2.St} {H2 : Hp}, Ex H H2 → st[1]? = some (some (.int (i : Int))) → rowsF ws = .inl i → i ≤ ws.length → tRet (tTup (tCons (tVar 1) (tCons (tC .non) tNil))) { nx := fun _ H' => Q .non H', rt := Q } st H2 := fun {i} {st} {H2} e hi hw le =>
      s_retU (eu_tup (ea_cons (ev_var hi) (ea_cons ev_c ea_nil)) (by show 2 ≤ 100000; decide)) fun t H3 ht e3 h3 => kNo i t H3 hw le (fresh_back e ht) (e.trans e3) h3
    have sl : EvD K (tSl (rSlL K) (tVar 0) (tPart (tVar 1)) (tPart (tOp (rI0 fun i j => .int (i + j)) (tVar 1) (tC (.int 1))))) [some (.ref a), some (.int (n : Int)), none, none, none, none, none] H (.list (((ws.drop n).take 1).map PyData.str)) := by
      have := el_sl (K := K) (H := H) (σ := [some (.ref a), some (.int (n : Int)), none, none, none, none, none]) (te := tVar 0) (tl := tPart (tVar 1)) (th := tPart (tOp (rI0 fun i j => .int (i + j)) (tVar 1) (tC (.int 1)))) (ev_var rfl) (eo_some (ev_var rfl)) (eo_some (ev_op (ev_var rfl) ev_c rv_I0)) (sq_of ha)
      rw [cut_one nl] at this
      exact ed_L this fun H1 e => dpAll_strs _
    have okS : ∀ z ∈ (ws.drop n).take 1, PyData.strOk z = true := fun z hz => (wrd z (List.mem_of_mem_drop (List.mem_of_mem_take hz))).2.2
    have okR : SeqAt.shaped (.tuple [.list [.str "row"], .list [.str "mute"]]) = true := by decide +kernel
    refine q_when (b := !decide ((ws.drop n).take 1 = (["row"] : List Str) ∨ (ws.drop n).take 1 = (["mute"] : List Str))) (et_test fun H1 e1 Q1 q1 => sl H1 e1 _ fun v H2 e2 hv => ed_two (K := K) (d := .list [.str "row"]) (e := .list [.str "mute"]) (ed_L (el_lst (ea_cons ev_c ea_nil) (by show 1 ≤ 100000; decide)) fun _ _ => .cons (.str _) .nil) (ed_L (el_lst (ea_cons ev_c ea_nil) (by show 1 ≤ 100000; decide)) fun _ _ => .cons (.str _) .nil) H2 (Ex.refl H2) _ fun u H3 e3 hu => ⟨_, _, dp_up e3 _ hv, hu, low_shaped (strs_low okS) (by decide), okR, by rw [begins]; exact q1 H3 (e2.trans e3)⟩) (fun hb H1 e1 => ?_) (fun hb H1 e1 => ?_)
    · refine no e1 rfl ?_ nl
      have nb : ¬ ((ws.drop n).take 1 = (["row"] : List Str) ∨ (ws.drop n).take 1 = (["mute"] : List Str)) := by simpa using hb
      rcases Nat.lt_or_ge n ws.length with c | c
      · have hz := List.getElem?_eq_getElem c
        have o := one_at hz
        rw [o] at nb
        refine rowsF_no hrat hz ?_
        unfold rstep
        rw [if_pos rfl, if_neg (fun y => nb (.inl (by rw [y]))), if_neg (fun y => nb (.inr (by rw [y])))]
      · have e : n = ws.length := by omega
        have := rowsF_end (by rw [← e]; exact hrat)
        rw [if_pos rfl, ← e] at this
        exact this
    · have hin : (ws.drop n).take 1 = (["row"] : List Str) ∨ (ws.drop n).take 1 = (["mute"] : List Str) := by
        cases hd : decide ((ws.drop n).take 1 = (["row"] : List Str) ∨ (ws.drop n).take 1 = (["mute"] : List Str)) with
        | true => exact of_decide_eq_true hd
        | false => rw [hd] at hb; cases hb
      obtain ⟨z0, b, hz0, hk, hst⟩ : ∃ (z : Str) (b : Bool), ws[n]? = some z ∧ decide (z = "mute") = b ∧ rstep (true, ps) z = some (false, ps ++ [(b, [])]) := by
        rcases Nat.lt_or_ge n ws.length with c | c
        · have hz := List.getElem?_eq_getElem c
          rw [one_at hz] at hin
          rcases hin with h | h
          · have e : ws[n] = "row" := by simpa using h
            exact ⟨_, false, hz, by rw [e]; decide +kernel, by rw [e]; unfold rstep; rw [if_pos rfl, if_pos rfl]⟩
          · have e : ws[n] = "mute" := by simpa using h
            exact ⟨_, true, hz, by rw [e]; exact decide_eq_true rfl, by rw [e]; unfold rstep; rw [if_pos rfl, if_neg (by decide +kernel), if_pos rfl]⟩
        · rw [List.drop_eq_nil_of_le c] at hin
          rcases hin with h | h <;> cases h
      refine q_par3 (cons_i (el_nil (σ := [some (.ref a), some (.int (n : Int)), none, none, none, none, none]) (H := H1) H1 (Ex.refl H1) _ fun F0 H2 hF0 e2 h2 => cons_i (c_i (cons_i ⟨_, rfl, _, _, _, rfl, ?_⟩))))
      have E2 := e1.trans e2
      refine q_asg (v := .int ((n + 1 : Nat) : Int)) (ev_is (ev_op (ev_var rfl) ev_c rv_I0) (by congr 1)) fun H3 e3 => ?_
      have E3 := E2.trans e3
      refine q_while (fun m σ' H' => ∃ (i : Nat) (F : Addr) (ys : List V) (ss : List (List Nat)) (x5 : Option V), m = ws.length - i ∧ i ≤ ws.length ∧ n < i ∧ rat ws i = some (false, ps ++ [(b, ss)]) ∧ σ' = [some (.ref a), some (.int (i : Int)), some (.ref F), some (.str (lastT ss)), some (.int (n : Int)), x5, none] ∧ Ex H H' ∧ H' F = some (.lst ys) ∧ H F = none ∧ TRow H' ys ss ∧ (∀ l ∈ ss, l ∈ fift))
        (ws.length - (n + 1)) ⟨n + 1, F0, [], [], none, rfl, (List.getElem?_eq_some_iff.mp hz0).1, Nat.lt_succ_self n, rat_next hrat hz0 hst, rfl, E3, e3 _ _ h2, fresh_back e1 hF0, trow_nil, fun l hl => (by cases hl)⟩ ?_
      rintro m σ' H4 ⟨i, F, ys, ss, x5, rfl, le, lt, hri, rfl, e4, hF, hFn, row, fs⟩
      have ln : ∀ {H5 : Hp}, Ex H4 H5 → Ev (tCB (rLen K) (tCons (tVar 0) tNil)) [some (.ref a), some (.int (i : Int)), some (.ref F), some (.str (lastT ss)), some (.int (n : Int)), x5, none] H5 (.int (ws.length : Int)) := fun e => ev_is (ev_cb (ea_cons (ev_var rfl) ea_nil) (rc_lenQ (.inl (sq_of ((e4.trans e) _ _ ha))))) (by rw [List.length_map])
      have out : ∀ {H5 : Hp}, Ex H4 H5 → (i ≠ ws.length → ws[i]? = some "/") → tRet (tTup (tCons (tVar 1) (tCons (tTup (tCons (tOp rEq (tOp (rIxL K) (tVar 0) (tVar 4)) (tC (.str "mute"))) (tCons (tVar 2) tNil))) tNil))) { nx := fun _ H' => Q .non H', rt := Q } [some (.ref a), some (.int (i : Int)), some (.ref F), some (.str (lastT ss)), some (.int (n : Int)), x5, none] H5 := fun {H5} e5 bar => by
        have E5 := e4.trans e5
        have inner : EvU (tTup (tCons (tOp rEq (tOp (rIxL K) (tVar 0) (tVar 4)) (tC (.str "mute"))) (tCons (tVar 2) tNil))) [some (.ref a), some (.int (i : Int)), some (.ref F), some (.str (lastT ss)), some (.int (n : Int)), x5, none] H5 [.bl b, .ref F] :=
          eu_tup (ea_cons (ev_is (ev_op (ev_op (ev_var rfl) (ev_var rfl) (rv_ixL (v := .str z0) (sq_of (E5 _ _ ha)) (atI_nat (by rw [List.getElem?_map, hz0]; rfl)))) ev_c (rv_eq rfl)) (by rw [← hk]; congr 1; exact decide_eq_decide.mpr ⟨fun y => V.str.inj y, fun y => by rw [y]⟩)) (ea_cons (ev_var rfl) ea_nil)) (by show 2 ≤ 100000; decide)
        refine s_retR (tup_i (cons_i (ev_var (v := .int (i : Int)) rfl H5 (Ex.refl H5) _ fun H6 e6 => cons_i (inner H6 e6 _ fun u H7 hu e7 h7 => ⟨by show 2 ≤ sizeLine; decide, fun t ht => ?_⟩))))
        have E7 := (E5.trans e6).trans e7
        have eN := Ex.new (o := .tup [V.int (i : Int), .ref u]) ht
        exact kYes i (b, ss) t u F ys _ lt hri bar (fresh_back E7 ht) hFn (E7.trans eN) upd_same (eN _ _ h7) (eN _ _ ((e5.trans e6).trans e7 |> fun e => e _ _ hF)) ((row.mono ((e5.trans e6).trans e7)).mono eN)
      rcases Nat.lt_or_ge i ws.length with c | c
      · have hz := List.getElem?_eq_getElem c
        generalize ws[i] = z at hz
        have at_ : ∀ {H5 : Hp} {x : Option V}, Ex H4 H5 → Ev (tOp (rIxL K) (tVar 0) (tVar 1)) [some (.ref a), some (.int (i : Int)), some (.ref F), some (.str (lastT ss)), some (.int (n : Int)), x, none] H5 (.str z) := fun e => ev_op (ev_var rfl) (ev_var rfl) (rv_ixL (sq_of ((e4.trans e) _ _ ha)) (atI_nat (by rw [List.getElem?_map, hz]; rfl)))
        refine ⟨!decide (z = "/"), et_is (et_and (a := true) (et_is (et_test (ev_op (ev_var rfl) (ln (Ex.refl H4)) rv_I0)) (decide_eq_true (by omega))) fun _ => et_test (ev_op (at_ (Ex.refl H4)) ev_c (rv_ne rfl))) ?_, fun ht H5 e5 => ?_, fun ht H5 e5 => out e5 fun _ => by rw [hz]; congr 1; simpa using ht⟩
        · rw [Bool.true_and]
          congr 1
          exact decide_eq_decide.mpr ⟨fun y => V.str.inj y, fun y => by rw [y]⟩
        · have nz : z ≠ "/" := by simpa using ht
          have wz := wrd z (List.mem_of_getElem? hz)
          have wok := wrd_ok wz
          have rs := rstep_sum (ps := ps) (b := b) (ss := ss) nz
          have E5 := e4.trans e5
          refine ⟨fun σ' H' => ∃ (F' : Addr) (ys' : List V) (l : List Nat) (x5 : Option V), rat ws (i + 1) = some (false, ps ++ [(b, ss ++ [l])]) ∧ l ∈ fift ∧ σ' = [some (.ref a), some (.int ((i + 1 : Nat) : Int)), some (.ref F'), some (.str (spW l)), some (.int (n : Int)), x5, none] ∧ Ex H H' ∧ H' F' = some (.lst ys') ∧ H F' = none ∧ TRow H' ys' (ss ++ [l]), ?_, ?_⟩
          · rintro σ2 H6 ⟨F', ys', l, x5, q1, q2, rfl, q3, q4, q5, q6⟩
            refine ⟨ws.length - (i + 1), by omega, i + 1, F', ys', ss ++ [l], x5, rfl, c, by omega, q1, by rw [lastT_snoc], q3, q4, q5, q6, fun m hm => ?_⟩
            rcases List.mem_append.mp hm with y | y
            · exact fs m y
            · rw [List.mem_singleton.mp y]
              exact q2
          · refine q_asgL (i := 5) (el_split (at_ e5) (by decide +kernel) (by have := wz.1; omega)) fun Sg H6 hS e6 h6 => ?_
            have E6 := E5.trans e6
            have pl : (Txt.split z "+").length ≤ 11 := by have := split_few z; have := wz.1; omega
            have pl2 : (partsW z).length ≤ 11 := pl
            have odd := el_mapL (K := K) (σ := [some (.ref a), some (.int (i : Int)), some (.ref F), some (.str (lastT ss)), some (.int (n : Int)), some (.ref Sg), none]) (H := H6) (a := Sg) (l := partsW z) (j := 6) (vs := [6]) (tl := tVar 5) (te := tVar 6) (t := tTest (tOp (rIn K true) (tVar 6) (tTup (tCons (tC (.str "1")) (tCons (tC (.str "2")) (tCons (tC (.str "3")) (tCons (tC (.str "4")) tNil)))))))
              V.str (fun p => !decide (p ∈ digs)) V.str (ev_var rfl) (sq_of h6) (by omega) (fun _ => rfl) (fun x hx H7 e7 => et_is (et_test (ev_niU (K := K) (xs := digs.map V.str) (ev_var rfl) (eu_tup (ea_cons ev_c (ea_cons ev_c (ea_cons ev_c (ea_cons ev_c ea_nil)))) (by show 4 ≤ 100000; decide)) rfl (by decide +kernel))) (by rw [in_strs])) (fun x hx H7 e7 _ => ev_var rfl)
            by_cases all_ : ((partsW z).filter fun p => !decide (p ∈ digs)) = []
            · have hd := digs_of all_
              have sw := sumW_digs hd
              have k1 : (!decide (((partsW z).filter fun p => !decide (p ∈ digs)).map V.str = [])) = false := by rw [all_]; rfl
              have st := ev_setNe (X := (cxOf CX0 P w K mg base nRe "_law_row_end" (defScope sRe) f cdv A outer s H E).nox) (σ := [some (.ref a), some (.int (i : Int)), some (.ref F), some (.str (lastT ss)), some (.int (n : Int)), some (.ref Sg), none]) (j := 5) rfl h6 hd (by omega)
              refine q_when (b := !ascB ((partsW z).map dig)) (et_is (et_or (a := false) (et_is (et_test (ev_neMt odd)) k1) fun _ => et_test st) (by rw [Bool.false_or])) (fun hb H7 e7 => ?_) (fun hb H7 e7 => ?_)
              · refine no (E6.trans e7) rfl (rowsF_no hri hz ?_) le
                have : ascB ((partsW z).map dig) = false := by simpa using hb
                rw [rs, sw, if_neg (by rw [this]; decide)]
              · have ab : ascB ((partsW z).map dig) = true := by simpa using hb
                rw [if_pos ab] at sw
                have fl : (partsW z).map dig ∈ fift := ages_fift (sumW_ok sw wok)
                rw [sw] at rs
                have E7 := E6.trans e7
                have h7 := e7 _ _ h6
                have F7 := e7 _ _ (e6 _ _ (e5 _ _ hF))
                have row7 := row.mono ((e5.trans e6).trans e7)
                have jn : ∀ {H8 : Hp}, Ex H7 H8 → Ev (tM1 (rJoin K) (tC (.str " ")) (tVar 5)) [some (.ref a), some (.int (i : Int)), some (.ref F), some (.str (lastT ss)), some (.int (n : Int)), some (.ref Sg), none] H8 (.str (spW ((partsW z).map dig))) := fun e => by
                  rw [spW_digs hd]
                  refine ev_joinV rfl (sq_of (e _ _ h7)) ?_
                  have m := sum_by (B := 10) (ys := partsW z) fun p hp => by
                    have : ∀ p ∈ digs, p.length ≤ 10 := by decide +kernel
                    exact this p (hd p hp)
                  have b : (" " : Str).length = 1 := by decide +kernel
                  rw [b]
                  omega
                have ss4 : ss.length ≤ 4 := (rat_len hri).1 (b, ss) (by simp)
                refine q_when (b := !canF ss z) (et_is (et_or (et_test (ev_op (jn (Ex.refl H7)) (ev_var rfl) fun H8 e8 Q8 q8 => ⟨_, _, rfl, rfl, q8 H8 (Ex.refl H8)⟩)) fun _ => et_test (ev_op (ev_is (ev_cb (ea_cons (ev_var rfl) ea_nil) (rc_lenQ (.inl (sq_of F7)))) (by rw [row7.1])) ev_c (rv_eq rfl))) ?_) (fun hb2 H8 e8 => ?_) (fun hb2 H8 e8 => ?_)
                · rw [← canF_is sw fl fs]
                  congr 1
                  rw [vint_inj]
                  exact decide_eq_decide.mpr (by omega)
                · refine no (E7.trans e8) rfl (rowsF_no hri hz ?_) le
                  have : canF ss z = false := by simpa using hb2
                  rw [rs]
                  show (if canF ss z = true then _ else none) = none
                  rw [if_neg (by rw [this]; decide)]
                · have ct : canF ss z = true := by simpa using hb2
                  have rs' : rstep (false, ps ++ [(b, ss)]) z = some (false, ps ++ [(b, ss ++ [(partsW z).map dig])]) := by
                    rw [rs]
                    show (if canF ss z = true then _ else none) = _
                    rw [if_pos ct]
                  have E8 := E7.trans e8
                  have tu : EvU (tThen (tLc (iList K (tVar 5)) (gName 6) tYes (tCB (fun xs H Q => ∃ a i, xs = [.str a] ∧ PySem.intText? a = some i ∧ a.length ≤ 640 ∧ Q (.int i) H) (tCons (tVar 6) tNil)) [6]) (kTup K)) [some (.ref a), some (.int (i : Int)), some (.ref F), some (.str (lastT ss)), some (.int (n : Int)), some (.ref Sg), none] H8 (vN ((partsW z).map dig)) := by
                    have c := el_mapL (K := K) (σ := [some (.ref a), some (.int (i : Int)), some (.ref F), some (.str (lastT ss)), some (.int (n : Int)), some (.ref Sg), none]) (H := H8) (a := Sg) (l := partsW z) (j := 6) (vs := [6]) (tl := tVar 5) (te := tCB (fun xs H Q => ∃ a i, xs = [.str a] ∧ PySem.intText? a = some i ∧ a.length ≤ 640 ∧ Q (.int i) H) (tCons (tVar 6) tNil)) (t := tYes)
                      V.str (fun _ => true) (fun p => V.int ((dig p : Nat) : Int)) (ev_var rfl) (sq_of (e8 _ _ h7)) (by omega) (fun _ => rfl) (fun x hx H9 e9 => et_none) (fun x hx H9 e9 _ => by
                        obtain ⟨d1, d2, _⟩ := dig_int (hd x hx)
                        exact ev_cb (z := .int ((dig x : Nat) : Int)) (ea_cons (ev_var rfl) ea_nil) fun H4 _ Q4 q4 => ⟨x, _, rfl, d1, d2, q4 H4 (Ex.refl H4)⟩)
                    rw [List.filter_eq_self.mpr fun _ _ => rfl, show (partsW z).map (fun p => V.int ((dig p : Nat) : Int)) = vN ((partsW z).map dig) by unfold vN vI zI; rw [List.map_map, List.map_map]; rfl] at c
                    exact eu_tuple c
                  refine s_par3 (cons_i (op_i ⟨_, rfl, lst_i (cons_i (tu H8 (Ex.refl H8) _ fun t H9 ht e9 h9 => ⟨by show 1 ≤ sizeLine; decide, fun L hL => ?_⟩))⟩))
                  have eL := Ex.new (o := .lst [V.ref t]) hL
                  refine ⟨F, L, ys, [.ref t], rfl, rfl, eL _ _ (e9 _ _ (e8 _ _ F7)), upd_same, sz_of (by rw [row7.1]; show ss.length + 1 ≤ _; omega), fun G hG => ?_⟩
                  have eG := Ex.new (o := .lst (ys ++ [V.ref t])) hG
                  have E9 := ((E8.trans e9).trans eL).trans eG
                  have hG2 : (upd (upd H9 L (.lst [V.ref t])) G (.lst (ys ++ [V.ref t]))) G = some (.lst (ys ++ [V.ref t])) := upd_same
                  have row9 := ((row7.mono (e8.trans e9)).mono eL).mono eG
                  have t9 := eG _ _ (eL _ _ h9)
                  have z1 := (jn ((e8.trans e9).trans (eL.trans eG)))
                  generalize upd (upd H9 L (.lst [V.ref t])) G (.lst (ys ++ [V.ref t])) = HA at E9 hG2 row9 t9 z1 ⊢
                  refine cons_i (z1 HA (Ex.refl HA) _ fun HB eB => cons_i (ev_op (x := .int (i : Int)) (y := .int 1) (ev_var rfl) ev_c rv_I0 HB (Ex.refl HB) _ fun HC eC => ⟨_, _, _, rfl, ?_⟩))
                  have EC := eB.trans eC
                  exact ⟨G, ys ++ [.ref t], _, _, rat_next hri hz rs', fl, rfl, E9.trans EC, EC _ _ hG2, fresh_back ((E8.trans e9).trans eL) hG, trow_snoc (row9.mono EC) (EC _ _ t9)⟩
            · have k1 : (!decide (((partsW z).filter fun p => !decide (p ∈ digs)).map V.str = [])) = true := by
                rw [decide_eq_false fun y => all_ (List.map_eq_nil_iff.mp y)]
                rfl
              refine q_when (b := true) (et_is (et_or (a := true) (b := false) (et_is (et_test (ev_neMt odd)) k1) fun y => absurd y (by decide)) rfl) (fun _ H7 e7 => ?_) (fun y => absurd y (by decide))
              refine no (E6.trans e7) rfl (rowsF_no hri hz ?_) le
              rw [rs, sumW_odd all_]
      · have e : i = ws.length := by omega
        refine ⟨false, et_is (et_and (a := false) (b := false) (et_is (et_test (ev_op (ev_var rfl) (ln (Ex.refl H4)) rv_I0)) (decide_eq_false (by omega))) fun y => absurd y (by decide)) rfl, fun y => absurd y (by decide), fun _ H5 e5 => out e5 fun y => absurd e y⟩
end
end K17
namespace K17
open PySem L2 Evl Gr StX EnT MkS StK ClX ClK RdX OwX OwC StS Kn
/-! ### _law_due -/
section
variable {K : PySem.W.Frag} {σ : L2.St} {H : Hp} {ta tb te tl : TE} {t : TT}
/-- [e for i, j in enumerate(a list) if t] -/
theorem el_enL {ta : TA} {a : Addr} {xs : List V} {i j : Nat} {vs : List Nat} (f : Nat → Bool) (v : Nat → V) (h : EvA ta σ H [.ref a]) (hx : SqL K H a xs) (hz : xs.length ≤ 40000) (hw : ∀ x y, wipe (((wipe σ vs).set i (some x)).set j (some y)) vs = wipe σ vs)
    (ht : ∀ (k : Nat) (x : V) H1, Ex H H1 → xs[k]? = some x → EvT t (((wipe σ vs).set i (some (.int (k : Int)))).set j (some x)) H1 (f k)) (he : ∀ (k : Nat) (x : V) H1, Ex H H1 → xs[k]? = some x → f k = true → Ev te (((wipe σ vs).set i (some (.int (k : Int)))).set j (some x)) H1 (v k)) :
    EvL (tLc (iEnum K ta) (gTup K 2 (gCons (gName i) (gCons (gName j) gNil))) t te vs) σ H (given xs.length f v) := fun H0 e Q q => h H0 e _ fun H1 e1 =>
  ⟨a, xs, rfl, ex_l (e.trans e1) hx, fun Dl hD => lc_it (n := xs.length) (walk_enum (K := K)) (Cw H1 f v Dl) ⟨hD, Ex.new hD, upd_same⟩ (fun _ H' _ p => ex_l ((e.trans e1).trans p.2.1) hx)
    (fun k x H' H'' hk p y => by
      obtain ⟨T, x1, y1, rfl, hT, rfl, ex, ey⟩ := y
      obtain rfl := Option.some.inj ex
      have e2 := Ex.new (H := H') (o := .tup [.int (k : Nat), y1]) hT
      have p' : Cw H1 f v Dl k (upd H' T (.tup [.int (k : Nat), y1])) := ⟨p.1, p.2.1.trans e2, e2 _ _ p.2.2⟩
      exact ⟨T, _, rfl, st_of upd_same, rfl, _, _, rfl, _, _, rfl, rfl, hw _ _, cw_turn p' (by omega) (ht k y1 H1 (e.trans e1) ey) fun hf => he k y1 H1 (e.trans e1) ey hf⟩)
    (fun H' p => q Dl H' (fresh_back e1 p.1) (e1.trans p.2.1) p.2.2)⟩
/-- [e for j in a list of sums if t] -/
theorem el_trowF {a : Addr} {xs : List V} {ss : List (List Nat)} {j : Nat} {vs : List Nat} (p : List Nat → Bool) (g : List Nat → V) (h : Ev tl σ H (.ref a)) (hx : SqL K H a xs) (row : TRow H xs ss) (hz : ss.length ≤ 40000) (hw : ∀ x, wipe ((wipe σ vs).set j (some x)) vs = wipe σ vs)
    (ht : ∀ a l H1, l ∈ ss → Ex H H1 → H1 a = some (.tup (vN l)) → EvT t ((wipe σ vs).set j (some (.ref a))) H1 (p l)) (he : ∀ a l H1, l ∈ ss → Ex H H1 → H1 a = some (.tup (vN l)) → Ev te ((wipe σ vs).set j (some (.ref a))) H1 (g l)) : EvL (tLc (iList K tl) (gName j) t te vs) σ H ((ss.filter p).map g) := by
  have c := el_lcL (K := K) (σ := σ) (H := H) (t := t) (te := te) (a := a) (xs := xs) (tl := tl) (j := j) (vs := vs) (at_ ss p) (got ss g) h hx (by rw [row.1]; exact hz) hw (fun i x H1 e hi => by
    obtain ⟨a, l, hl, rfl, ha⟩ := row.at hi
    rw [at_of hl]
    exact ht a l H1 (List.mem_of_getElem? hl) e (e _ _ ha)) (fun i x H1 e hi _ => by
    obtain ⟨a, l, hl, rfl, ha⟩ := row.at hi
    rw [got_of hl]
    exact he a l H1 (List.mem_of_getElem? hl) e (e _ _ ha))
  rw [row.1, given_of] at c
  exact c
theorem ev_addS {a b : Str} (ha : Ev ta σ H (.str a)) (hb : Ev tb σ H (.str b)) (hz : a.length + b.length ≤ 100000) : Ev (tOp (fun x y H Q => ∃ i j, x = .str i ∧ y = .str j ∧ i.length + j.length ≤ sizeLine ∧ Q (.str (i ++ j)) H) ta tb) σ H (.str (a ++ b)) := ev_op ha hb fun H1 _ Q q => ⟨a, b, rfl, rfl, sz_of hz, q H1 (Ex.refl H1)⟩
theorem q_callG {σ : L2.St} {H : Hp} {sp : Sp} {vs : List V} {E : XK} {ta : TA} {g : TG} {tz : TS} {D : Ends} (h : EvA ta σ H vs) (k : ∀ H1, Ex H H1 → sp vs H1 (fun v H2 => g v σ H2 (tz D)) E) : tSeq (tAsg (tCall sp [] E ta) g) tz D σ H :=
  h H (Ex.refl H) _ fun H1 e => by
    have := k H1 e
    show sp (vs ++ []) H1 _ E
    rw [List.append_nil]
    exact this
theorem s_brk {σ : L2.St} {H : Hp} {D : Ends} (h : D.bk σ H) : tBreak D σ H := h
theorem in_bools (b : Bool) : ∀ bs : List Bool, inV (.bl b) (bs.map V.bl) = bs.any fun c => c == b
  | [] => rfl
  | c :: bs => by
    have ih := in_bools b bs
    unfold inV at ih ⊢
    rw [List.map_cons, List.any_cons, List.any_cons, ih]
    rfl
theorem bools_flat (bs : List Bool) : (bs.map V.bl).all flatV = true := by
  rw [List.all_map]
  exact List.all_eq_true.mpr fun x _ => rfl
theorem allM_is (ps : List Ph) : (!(ps.map (·.1)).any fun c => c == false) = allM ps := by
  rw [Bool.eq_iff_iff, Bool.not_eq_true', List.any_eq_false]
  unfold allM
  rw [List.all_eq_true]
  constructor
  · intro h i hi
    have hi := List.mem_range.mp hi
    have e := cyc_small (ps := ps) hi
    have := h _ (List.mem_map.mpr ⟨_, List.mem_of_getElem? e, rfl⟩)
    cases c : (cyc ps (i : Int)).1 with
    | true => rfl
    | false => rw [c] at this; exact absurd rfl this
  · intro h x hx
    obtain ⟨p, hp, rfl⟩ := List.mem_map.mp hx
    obtain ⟨i, hi⟩ := List.mem_iff_getElem?.mp hp
    have lt := (List.getElem?_eq_some_iff.mp hi).1
    have e := cyc_small (ps := ps) lt
    rw [hi] at e
    have := h i (List.mem_range.mpr lt)
    rw [← Option.some.inj e] at this
    rw [this]
    decide
theorem tel_is (ps : List Ph) (k : Nat) : (!decide ((((cyc ps (k : Int)).2.filter fun l => (l.map (gT ps k)).any fun c => c == true).map fun _ => V.int 1) = [])) = telB ps k := by
  unfold telB
  rw [Bool.eq_iff_iff, Bool.not_eq_true', decide_eq_false_iff_not, List.map_eq_nil_iff, List.filter_eq_nil_iff, List.any_eq_true]
  constructor
  · intro h
    obtain ⟨l, hl, h2⟩ := Classical.not_forall.mp h |>.imp fun l h => Classical.not_imp.mp h
    have h2 : ((l.map (gT ps k)).any fun c => c == true) = true := by simpa using h2
    obtain ⟨c, hc, h3⟩ := List.any_eq_true.mp h2
    exact ⟨c, List.mem_flatMap.mpr ⟨l, hl, hc⟩, by simpa using h3⟩
  · rintro ⟨c, hc, h3⟩ h
    obtain ⟨l, hl, h4⟩ := List.mem_flatMap.mp hc
    have h3 : c = true := h3
    exact h l hl (List.any_eq_true.mpr ⟨c, h4, by rw [h3]; rfl⟩)
theorem first_is {n : Nat} {f : Nat → Bool} {k : Nat} {r : List Nat} (h : (List.range n).filter f = k :: r) : k < n ∧ f k = true ∧ ∀ j < k, f j = false := by
  have hk : k ∈ (List.range n).filter f := by rw [h]; exact List.mem_cons_self
  obtain ⟨h1, h2⟩ := List.mem_filter.mp hk
  refine ⟨List.mem_range.mp h1, h2, fun j hj => ?_⟩
  cases c : f j with
  | false => rfl
  | true =>
    have hj2 : j ∈ (List.range n).filter f := List.mem_filter.mpr ⟨List.mem_range.mpr (by have := List.mem_range.mp h1; omega), c⟩
    have pw : ((List.range n).filter f).Pairwise (· < ·) := List.pairwise_lt_range.filter _
    rw [h] at hj2 pw
    rcases List.mem_cons.mp hj2 with e | e
    · omega
    · have := (List.pairwise_cons.mp pw).1 j e
      omega
end
abbrev rInt1 : List V → Hp → VK → Prop := fun xs H Q => (∃ i, xs = [V.int i] ∧ Q (V.int i) H) ∨ ∃ k, xs = [V.bl k] ∧ Q (V.int (if k = true then 1 else 0)) H
abbrev teAg (K : PySem.W.Frag) : TE := tOp (rIxL K) (tVar 5) (tOp (rI (fun _ j => 0 < j) fun i j => .int (i % j)) (tCB rInt1 (tCons (tOp (rI0 fun i j => .int (i - j)) (tVar 2) (tVar 8)) tNil)) (tCB (rLen K) (tCons (tVar 5) tNil)))
abbrev ttIn (K : PySem.W.Frag) : TT := tTest (tOp (rIn K false) (tC (.bl true)) (tLc (iTup K (tVar 7)) (gName 8) tYes (teAg K) [8]))
abbrev ttOn (K : PySem.W.Frag) : TT := tTest (tOp rNeMt (tLc (iList K (tOp (rIxT K) (tVar 4) (tC (.int 1)))) (gName 7) (ttIn K) (tC (.int 1)) [7]) (tLst tNil))
def phT (k : Nat) : Str := "phase " ++ sd k
section
variable {P : Program} {w : World} {K : PySem.W.Frag} {mg : Str → Option Value} {base : Heap}
abbrev sDu : Stmt := top 35
abbrev nDu : List Str := ["_law_line", "_law_words", "_law_at", "_law_plain_here", "_law_row", "_law_mutes", "_law_bad", "_law_ages", "_law_age"]
def spDu (m : Nat) : Sp := fun vs H Q _ => ∃ z : Str, vs = [.str z] ∧ LnOk m z ∧ m ≤ 100 ∧ (∀ i, rowsF (Txt.split z " ") = .inl i → RetV (.int (i : Int)) H Q) ∧ ∀ ps, rowsF (Txt.split z " ") = .inr ps →
  (allM ps = true → RetV (.str "mute") H Q) ∧ (∀ k, k < ps.length → allM ps = false → telB ps k = true → (∀ j < k, telB ps j = false) → RetV (.str (phT k)) H Q) ∧
  (allM ps = false → (∀ i, i < ps.length → telB ps i = false) → ∀ p xs H', H p = none → Ex H H' → H' p = some (.lst xs) → xs.length = ps.length → Q (.ref p) H')
theorem scDu : FnScope nDu ["_law_line"] (defScope sDu) := ⟨rfl, rfl, rfl, by decide +kernel, rfl, by decide +kernel, by decide +kernel⟩
theorem ok_Du {m : Nat} {f : Addr} {fd : FuncData} (F : Fun K "_law_due" "_law_due" sDu f fd) (T : GlbT mg) (S : GlbS mg) (I : GlbE mg) (GR : Gfn P w K mg base 1 "_law_row_end" ["_law_words", "_law_at"] spRe) : FnOk P w K mg base CX0 2 f fd ["_law_line"] (spDu m) := by
  obtain ⟨fR, fdR, GR, kR, bR, gR⟩ := GR
  refine F.ok scDu (fun vs H Q E h => ?_) (fun cdv A outer s H vs Q E hr h => ?_)
  · obtain ⟨z, rfl, _⟩ := h
    rfl
  · obtain ⟨z, rfl, line, m100, kI, kP⟩ := h
    refine ⟨_, (pss_cons (ps_par3 (i := 1) (j := 2) (l := 3) rfl scDu.nd rfl rfl rfl (by decide) (by decide) (by decide) rfl rfl rfl (pa_cons (pe_split (pv 0) pe_str) (pa_cons pe_int (pa_cons (pe_lst pa_nil) pa_nil))) (by rfl))
      (pss_cons (ps_while PassesOwn.never (pt_val pe_bl)
        (pss_cons (ps_asg (pe_call GR hr (by rfl) gR kR bR .nil pass0 (pa_cons (pv 1) (pa_cons (pv 2) pa_nil))) (pg_tup rfl (pgs_cons (pg_name (i := 2) scDu.nd rfl (.inl rfl)) (pgs_cons (pg_name (i := 4) scDu.nd rfl (.inl rfl)) pgs_nil))))
      (pss_cons (ps_if (pt_cmpR op_isN1 (pv 4) pe_non (nomark _)) (pss_one (ps_ret (pv 2))) pss_nil)
      (pss_cons (ps_expr (pe_bm PySem.F.plainAttrs_list PySem.F.slot_list_append PySem.F.type_list_append mt_append (pv 3) (pa_cons (pv 4) pa_nil)))
      (pss_cons (ps_if (pt_cmpR op_eq (pv 2) (pe_callB call_len_seq (by rfl) S.len PySem.boot_len (pa_cons (pv 1) pa_nil)) (nomark _)) (pss_one ps_break) pss_nil)
      (pss_cons (ps_if (pt_cmpR op_eq (pe_callB call_len_seq (by rfl) S.len PySem.boot_len (pa_cons (pv 3) pa_nil)) pe_int (nomark _)) (pss_one (ps_ret (pv 2))) pss_nil)
      (pss_one (ps_set (i := 2) scDu.nd rfl (.inl rfl) (pe_op op_add (pv 2) pe_int)))))))))
      (pss_cons (ps_set (i := 5) scDu.nd rfl (.inr rfl) (pe_lc (te := tOp (rIxT K) (tVar 4) (tC (.int 0))) (own := [("_law_row", 4)]) (g := gName 4) rfl scDu.nd (pi_list (pv 3)) (blkOk_by (own := [("_law_row", 4)]) (N := nDu) (sc := defScope sDu) (by decide +kernel)) (fun _ _ _ _ _ => pg_name (i := 4) scDu.nd rfl (Or.inl rfl)) (fun _ _ _ _ _ => pts_nil)
        (fun _ _ _ _ _ => pe_ix (show IxR _ (rIxT K) from ix_tup) (pv 4) pe_int (fun _ _ => rfl))))
      (pss_cons (ps_setLc (i := 6) (te := tVar 2) (tt := ttOn K) (own := [("_law_at", 2), ("_law_row", 4)]) (g := gTup K 2 (gCons (gName 2) (gCons (gName 4) gNil))) rfl scDu.nd rfl rfl (by rfl) (pi_enum (by rfl) I.enum (pa_cons (pv 3) pa_nil)) (blkOk_by (own := [("_law_at", 2), ("_law_row", 4)]) (N := nDu) (sc := defScope sDu) (by decide +kernel))
        (fun _ _ _ _ _ => pg_tup rfl (pgs_cons (pg_name (i := 2) scDu.nd rfl (Or.inr rfl)) (pgs_cons (pg_name (i := 4) scDu.nd rfl (Or.inl rfl)) pgs_nil)))
        (fun _ _ _ _ _ => pts_one (pt_cmpR (show OpR _ _ rNeMt from op_neMt hr.units0) (pe_lc (te := tC (.int 1)) (tt := ttIn K) (own := [("_law_ages", 7)]) (g := gName 7) rfl scDu.nd (pi_list (pe_ix (show IxR _ (rIxT K) from ix_tup) (pv 4) pe_int (fun _ _ => rfl))) (blkOk_by (own := [("_law_ages", 7)]) (by rfl)) (fun _ _ _ _ _ => pg_name (i := 7) scDu.nd rfl (Or.inl rfl))
            (fun _ _ _ _ _ => pts_one (pt_cmpR (show OpR _ _ (rIn K false) from op_in_seq) pe_bl (pe_lc (te := teAg K) (own := [("_law_age", 8)]) (g := gName 8) rfl scDu.nd (pi_tup (pv 7)) (blkOk_by (own := [("_law_age", 8)]) (by rfl)) (fun _ _ _ _ _ => pg_name (i := 8) scDu.nd rfl (Or.inl rfl)) (fun _ _ _ _ _ => pts_nil)
                (fun _ _ _ _ _ => pe_ix (show IxR _ (rIxL K) from ix_list) (pv 5) (pe_op op_mod (pe_callTy call_int1 (by rfl) T.int (by decide +kernel) (pa_cons (pe_op op_sub (pv 2) (pv 8)) pa_nil)) (pe_callB call_len_seq (by rfl) S.len PySem.boot_len (pa_cons (pv 5) pa_nil))) (fun _ _ => rfl))) (by with_unfolding_all rfl)))
            (fun _ _ _ _ _ => pe_int)) (pe_lst pa_nil) (nomark _)))
        (fun _ _ _ _ _ => pv 2))
      (pss_cons (ps_if (pt_cmpR op_notIn_seq pe_bl (pv 5) (by with_unfolding_all rfl)) (pss_one (ps_ret pe_str)) pss_nil)
      (pss_one (ps_ret (pe_ifExp (pt_cmpR (op_eqD hr.units) (pv 6) (pe_lst pa_nil) (by with_unfolding_all rfl)) (pv 3) (pe_op op_add_str pe_str (pe_callTy call_strV (by rfl) T.str (by decide +kernel) (pa_cons (pe_ix (show IxR _ (rIxL K) from ix_list) (pv 6) pe_int (fun _ _ => rfl)) pa_nil))))))))))), ?_⟩
    obtain ⟨few, ne, wrd, jn⟩ := line
    have zl : z.length ≤ 11 * m := ln_len ⟨few, ne, wrd, jn⟩
    have sp0 := el_split (σ := [some (.str z), none, none, none, none, none, none, none, none]) (H := H) (ta := tVar 0) (z := z) (y := " ") (ev_var rfl) (by decide +kernel) (by omega)
    generalize hws : Txt.split z " " = ws at *
    refine q_par3 (cons_i (sp0 H (Ex.refl H) _ fun Wd H1 hW e1 h1 => cons_i (c_i (cons_i (el_nil (σ := [some (.str z), none, none, none, none, none, none, none, none]) (H := H1) H1 (Ex.refl H1) _ fun Pl H2 hP e2 h2 => ⟨_, _, _, rfl, ?_⟩)))))
    have PlH := fresh_back e1 hP
    refine q_while (fun u σ' H' => ∃ (n : Nat) (ps : List Ph) (xs : List V) (x4 : Option V), u = ws.length - n ∧ rat ws n = some (true, ps) ∧ ps.length ≤ 3 ∧ σ' = [some (.str z), some (.ref Wd), some (.int (n : Int)), some (.ref Pl), x4, none, none, none, none] ∧ Ex H H' ∧ H' Wd = some (.lst (ws.map V.str)) ∧ H' Pl = some (.lst xs) ∧ LRow [Pl] H' xs ps)
      ws.length ⟨0, [], [], none, rfl, rfl, by decide, rfl, e1.trans e2, e2 _ _ h1, h2, lrow_nil⟩ ?_
    rintro u σ' H3 ⟨n, ps, xs, x4, rfl, hn, l3, rfl, e3, hWd, hPl, row⟩
    have PW_ : Pl ≠ Wd := fun y => by rw [y, h1] at hP; cases hP
    refine ⟨true, et_B ev_c, fun _ H4 e4 => ⟨fun σ' H' => ∃ (i : Nat) (ps : List Ph) (xs : List V) (x4 : Option V), n < i ∧ i ≤ ws.length ∧ rat ws i = some (true, ps) ∧ ps.length ≤ 3 ∧ σ' = [some (.str z), some (.ref Wd), some (.int (i : Int)), some (.ref Pl), x4, none, none, none, none] ∧ Ex H H' ∧ H' Wd = some (.lst (ws.map V.str)) ∧ H' Pl = some (.lst xs) ∧ LRow [Pl] H' xs ps, ?_, ?_⟩, fun y => absurd y (by decide)⟩
    · rintro σ2 H5 ⟨i, ps', xs', x4', q1, q2, q3, q4, q5, q6, q7, q8, q9⟩
      exact ⟨ws.length - i, by omega, i, ps', xs', x4', rfl, q3, q4, q5, q6, q7, q8, q9⟩
    have E4 := e3.trans e4
    refine q_callG (ea_cons (ev_var rfl) (ea_cons (ev_var rfl) ea_nil)) fun H5 e5 => ⟨Wd, n, ws, ps, rfl, e5 _ _ (e4 _ _ hWd), wrd, by omega, hn, fun i t H6 hi le ht e6 h6 => ?_, fun i p t v f ys H6 lt hri bar ht hf e6 h6 hv hfl rowp => ?_⟩
    · refine ⟨t, [.int (i : Int), .non], rfl, st_of h6, rfl, _, _, rfl, _, _, rfl, rfl, ?_⟩
      refine q_when (b := true) (et_is (et_test (ev_op (ev_var rfl) ev_c fun H7 e7 Q7 q7 => ⟨rfl, q7 H7 (Ex.refl H7)⟩)) (decide_eq_true rfl)) (fun _ H7 e7 => ?_) (fun y => absurd y (by decide))
      exact s_ret (v := .int (i : Int)) (ev_var rfl) fun H8 e8 => kI i hi H8 ((((E4.trans e5).trans e6).trans e7).trans e8)
    · refine ⟨t, [.int (i : Int), .ref v], rfl, st_of h6, rfl, _, _, rfl, _, _, rfl, rfl, ?_⟩
      refine q_when (b := false) (et_is (et_test (ev_op (ev_var rfl) ev_c fun H7 e7 Q7 q7 => ⟨rfl, q7 H7 (Ex.refl H7)⟩)) (decide_eq_false fun y => by cases y)) (fun y => absurd y (by decide)) (fun _ H7 e7 => ?_)
      have E57 := (e5.trans e6).trans e7
      have P7 := E57 _ _ (e4 _ _ hPl)
      refine q_app (K := K) (xs := xs) P7 (ev_var rfl) (ev_var (v := .ref v) rfl) (by rw [row.1]; omega) fun H8 e8 => ?_
      have E8 := E57.trans e8
      have P8 := e8 _ _ P7
      have fP : f ≠ Pl := fun y => by rw [y, e5 _ _ (e4 _ _ hPl)] at hf; cases hf
      have v8 : H8 v = some (.tup [.bl p.1, .ref f]) := e8 _ _ (e7 _ _ hv)
      have vP : v ≠ Pl := fun y => by rw [y, P8] at v8; cases v8
      have f8 : H8 f = some (.lst ys) := e8 _ _ (e7 _ _ hfl)
      have rowp8 := (rowp.mono (e7.trans e8))
      have row8 := (row.mono (e4.trans E8)).upd (u := .lst (xs ++ [.ref v])) (by simp) P8
      have EB : Ex H (upd H8 Pl (.lst (xs ++ [V.ref v]))) := Ex.mut (E4.trans E8) PlH
      have rowB : LRow [Pl] (upd H8 Pl (.lst (xs ++ [V.ref v]))) (xs ++ [.ref v]) (ps ++ [p]) := row8.snoc (t := v) (s := f) (ys := ys) (by rw [upd_ne vP]; exact v8) (by rw [upd_ne fP]; exact f8) (by simpa using fP) (trow_updL rowp8 P8)
      have WB : (upd H8 Pl (.lst (xs ++ [V.ref v]))) Wd = some (.lst (ws.map V.str)) := by rw [upd_ne PW_.symm]; exact E8 _ _ (e4 _ _ hWd)
      have PB : (upd H8 Pl (.lst (xs ++ [V.ref v]))) Pl = some (.lst (xs ++ [.ref v])) := upd_same
      generalize upd H8 Pl (.lst (xs ++ [V.ref v])) = HB at EB rowB WB PB ⊢
      have li := rat_le hri
      refine q_when (b := decide (i = ws.length)) (et_is (et_test (ev_op (ev_var rfl) (ev_is (ev_cb (ea_cons (ev_var rfl) ea_nil) (rc_lenQ (.inl (sq_of WB)))) (by rw [List.length_map])) (rv_eq rfl))) (by rw [vint_inj]; exact decide_eq_decide.mpr (by omega))) (fun hb H9 e9 => ?_) (fun hb H9 e9 => ?_)
      · have ei := of_decide_eq_true hb
        have hro := rowsF_end (ws := ws) (st := (false, ps ++ [p])) (by rw [← ei]; exact hri)
        rw [if_neg (show ¬ (false = true) from Bool.false_ne_true)] at hro
        obtain ⟨kM, kT, kG⟩ := kP _ hro
        have E9 := EB.trans e9
        have row9 := rowB.mono e9
        have P9 := e9 _ _ PB
        have good := fun q (hq : q ∈ ps ++ [p]) => ((rat_good (fun z hz => wrd_ok (wrd z hz)) hri).1 q hq).1
        have l1 : 1 ≤ (ps ++ [p]).length := by rw [List.length_append]; show 1 ≤ ps.length + 1; omega
        have l4 : (ps ++ [p]).length ≤ 4 := by rw [List.length_append]; show ps.length + 1 ≤ 4; omega
        generalize hqs : ps ++ [p] = qs at *
        generalize hrs : xs ++ [V.ref v] = rs at *
        have lr := row9.1
        have get : ∀ {Hz : Hp} {k : Nat} {x : V}, Ex H9 Hz → rs[k]? = some x → ∃ (t s : Addr) (zs : List V), qs[k]? = some (cyc qs (k : Int)) ∧ x = .ref t ∧ Hz t = some (.tup [.bl (cyc qs (k : Int)).1, .ref s]) ∧ Hz s = some (.lst zs) ∧ TRow Hz zs (cyc qs (k : Int)).2 := fun {Hz} {k} {x} e hx => by
          have lk : k < qs.length := by rw [← lr]; exact (List.getElem?_eq_some_iff.mp hx).1
          have hq := cyc_small lk
          obtain ⟨t, s, zs, g1, g2, g3, _, g5⟩ := row9.2 k x _ hx hq
          exact ⟨t, s, zs, hq, g1, e _ _ g2, e _ _ g3, g5.mono e⟩
        refine s_brk ?_
        have c1 := el_lcL (K := K) (σ := [some (.str z), some (.ref Wd), some (.int (i : Int)), some (.ref Pl), some (.ref v), none, none, none, none]) (H := H9) (t := tYes) (te := tOp (rIxT K) (tVar 4) (tC (.int 0))) (a := Pl) (xs := rs) (tl := tVar 3) (j := 4) (vs := [4]) (fun _ => true) (got qs fun p => V.bl p.1) (ev_var rfl) (sq_of P9) (by rw [lr]; omega) (fun _ => rfl) (fun _ _ _ _ _ => et_none) (fun k x Hz e hx _ => by
          obtain ⟨t, s, zs, g0, rfl, g2, _⟩ := get e hx
          rw [got_of g0]
          exact ev_op (ev_var rfl) ev_c (rv_ixT (st_of g2) (atI_nat (j := 0) rfl)))
        rw [given_all, lr, row_got] at c1
        have e0 : (qs.map fun p => V.bl p.1) = (qs.map (·.1)).map V.bl := by rw [List.map_map]; rfl
        rw [e0] at c1
        refine q_asgL (i := 5) c1 fun Mu HC hM eC hC => ?_
        have muAt : ∀ {Hz : Hp} {j : Int}, Ex HC Hz → ∃ k : Nat, j % (qs.length : Int) = (k : Int) ∧ atI ((qs.map (·.1)).map V.bl) (k : Int) = some (V.bl (cyc qs j).1) := fun {Hz} {j} e => by
          obtain ⟨k, k1, k2, k3⟩ := cyc_at (ps := qs) (by omega) j
          exact ⟨k, k2, atI_nat (by rw [List.getElem?_map, List.getElem?_map, k3]; rfl)⟩
        have c2 := el_enL (K := K) (σ := [some (.str z), some (.ref Wd), some (.int (i : Int)), some (.ref Pl), some (.ref v), some (.ref Mu), none, none, none]) (H := HC) (t := ttOn K) (te := tVar 2) (ta := tCons (tVar 3) tNil) (a := Pl) (xs := rs) (i := 2) (j := 4) (vs := [2, 4]) (telB qs) (fun k => V.int (k : Int)) (ea_cons (ev_var rfl) ea_nil) (sq_of (eC _ _ P9)) (by rw [lr]; omega) (fun _ _ => rfl) (fun k x Hz e hx => by
            obtain ⟨t, s, zs, g0, rfl, g2, g3, g4⟩ := get (eC.trans e) hx
            have lk : (cyc qs (k : Int)).2.length ≤ 4 := (rat_len hri).1 _ (List.mem_of_getElem? g0)
            have c3 := el_trowF (K := K) (σ := [some (.str z), some (.ref Wd), some (.int (k : Int)), some (.ref Pl), some (.ref t), some (.ref Mu), none, none, none]) (H := Hz) (t := ttIn K) (te := tC (.int 1)) (a := s) (xs := zs) (ss := (cyc qs (k : Int)).2) (tl := tOp (rIxT K) (tVar 4) (tC (.int 1))) (j := 7) (vs := [7]) (fun l => (l.map (gT qs k)).any fun c => c == true) (fun _ => V.int 1) (ev_op (ev_var rfl) ev_c (rv_ixT (st_of g2) (atI_nat (j := 1) rfl))) (sq_of g3) g4 (by omega) (fun _ => rfl) (fun b l Hy hl ey hb => by
                have l4 : l.length ≤ 4 := (good _ (List.mem_of_getElem? g0) l hl).2.1
                have c4 := el_mapT (K := K) (σ := [some (.str z), some (.ref Wd), some (.int (k : Int)), some (.ref Pl), some (.ref t), some (.ref Mu), none, some (.ref b), none]) (H := Hy) (t := tYes) (te := teAg K) (tl := tVar 7) (fun a : Nat => V.int (a : Int)) (l := l) (j := 8) (vs := [8]) (fun _ => true) (fun a => V.bl (gT qs k a)) (by rw [show (l.map fun a : Nat => V.int (a : Int)) = vN l by unfold vN vI zI; rw [List.map_map]; rfl]; exact etu_var rfl (st_of hb)) (by omega) (fun _ => rfl) (fun _ _ _ _ => et_none) (fun a ha Hx ex _ => by
                    obtain ⟨r, r1, r2⟩ := muAt (Hz := Hx) (j := (k : Int) - (a : Int)) ((e.trans ey).trans ex)
                    exact ev_op (y := .int (r : Int)) (ev_var rfl) (ev_is (ev_op (x := .int ((k : Int) - (a : Int))) (y := .int (qs.length : Int)) (ev_cb (ea_cons (ev_op (ev_var rfl) (ev_var rfl) rv_I0) ea_nil) fun Hw _ Q4 q4 => .inl ⟨_, rfl, q4 Hw (Ex.refl Hw)⟩) (ev_is (ev_cb (ea_cons (ev_var rfl) ea_nil) (rc_lenQ (.inl (sq_of (((e.trans ey).trans ex) _ _ hC))))) (by rw [List.length_map, List.length_map])) (rv_I (by omega))) (by rw [r1])) (rv_ixL (sq_of (((e.trans ey).trans ex) _ _ hC)) r2))
                rw [List.filter_eq_self.mpr fun _ _ => rfl, show (l.map fun a => V.bl (gT qs k a)) = (l.map (gT qs k)).map V.bl by rw [List.map_map]; rfl] at c4
                refine et_test (ev_opL (x := .bl true) ev_c c4 fun p Hw hw ew => ?_)
                have := rv_isL (K := K) (x := .bl true) (sq_of hw) rfl (bools_flat (l.map (gT qs k)))
                rw [in_bools] at this
                exact this) (fun b l Hy hl ey hb => ev_c)
            have := et_test (ev_neMt c3)
            rw [tel_is] at this
            exact this) (fun k x Hz e hx _ => ev_var rfl)
        rw [lr] at c2
        refine q_asgL (i := 6) c2 fun Bd HD hBd eD hD => ?_
        have EC := E9.trans eC
        have ED := EC.trans eD
        have nf := rv_niL (K := K) (x := .bl false) (sq_of (eD _ _ hC)) rfl (bools_flat (qs.map (·.1)))
        rw [in_bools, allM_is] at nf
        refine q_when (b := allM qs) (et_test (ev_op ev_c (ev_var rfl) nf)) (fun hA HE eE => ?_) (fun hA HE eE => ?_)
        · exact s_ret (v := .str "mute") ev_c fun HF eF => kM hA HF ((ED.trans eE).trans eF)
        · have EE := ED.trans eE
          have hBE := eE _ _ hD
          have bd : given qs.length (telB qs) (fun k => V.int (k : Int)) = vN ((List.range qs.length).filter (telB qs)) := by unfold given vN vI zI; rw [List.map_map]; rfl
          rw [bd] at hBE
          have ts : ∀ {Hz : Hp}, Ex HE Hz → EvT (tTest (tOp (rEqD K) (tVar 6) (tLst tNil))) [some (.str z), some (.ref Wd), some (.int (i : Int)), some (.ref Pl), some (.ref v), some (.ref Mu), some (.ref Bd), none, none] Hz (decide ((List.range qs.length).filter (telB qs) = [])) := fun {Hz} e => by
            have := ev_eqD (K := K) (H := Hz) (σ := [some (.str z), some (.ref Wd), some (.int (i : Int)), some (.ref Pl), some (.ref v), some (.ref Mu), some (.ref Bd), none, none]) (ta := tVar 6) (tb := tLst tNil) (d := .list ((zI ((List.range qs.length).filter (telB qs))).map PyData.int)) (e := .list ((zI []).map PyData.int)) (ed_of (ev_var rfl) fun Hy ey => .lst (sq_of (ey _ _ (e _ _ hBE))) (dpAll_ints _)) (ed_L el_nil fun _ _ => .nil) (low_shaped (low_list (n := 0) fun d hd => by obtain ⟨i, _, rfl⟩ := List.mem_map.mp hd; exact low_int i) (by decide)) (by decide +kernel)
            rw [eqv_lists, dec_zI] at this
            exact et_test this
          cases hf : (List.range qs.length).filter (telB qs) with
          | nil =>
            refine s_ret (v := .ref Pl) (ev_if (b := true) (et_is (ts (Ex.refl HE)) (by rw [hf]; rfl)) (fun _ => ev_var rfl) (fun y => absurd y (by decide))) fun HF eF => kG hA (fun j hj => ?_) Pl rs HF PlH (EE.trans eF) (eF _ _ (eE _ _ (eD _ _ (eC _ _ P9)))) lr
            have := List.filter_eq_nil_iff.mp hf j (List.mem_range.mpr hj)
            simpa using this
          | cons k r =>
            obtain ⟨f1, f2, f3⟩ := first_is hf
            rw [hf] at hBE
            refine s_ret (v := .str (phT k)) (ev_if (b := false) (et_is (ts (Ex.refl HE)) (by rw [hf]; rfl)) (fun y => absurd y (by decide)) (fun _ => ev_addS ev_c (ev_sd (ev_op (ev_var rfl) ev_c (rv_ixL (sq_of hBE) (atI_nat (j := 0) (vN_at rfl)))) (by omega)) ?_)) fun HF eF => kT k f1 hA f2 f3 HF (EE.trans eF)
            have a := sd_len (a := k) (by omega)
            have b : ("phase " : Str).length = 6 := by decide +kernel
            rw [b]
            omega
      · have ni := of_decide_eq_false hb
        have bz := bar ni
        have ln3 : ∀ {Hz : Hp}, Ex HB Hz → Ev (tCB (rLen K) (tCons (tVar 3) tNil)) [some (.str z), some (.ref Wd), some (.int (i : Int)), some (.ref Pl), some (.ref v), none, none, none, none] Hz (.int ((ps.length + 1 : Nat) : Int)) := fun e => ev_is (ev_cb (ea_cons (ev_var rfl) ea_nil) (rc_lenQ (.inl (sq_of (e _ _ PB))))) (by rw [List.length_append, row.1]; rfl)
        refine q_when (b := decide (ps.length + 1 = 4)) (et_is (et_test (ev_op (ln3 e9) ev_c (rv_eq rfl))) (by rw [vint_inj]; exact decide_eq_decide.mpr (by omega))) (fun hb4 HC eC => ?_) (fun hb4 HC eC => ?_)
        · refine s_ret (v := .int (i : Int)) (ev_var rfl) fun HD eD => kI i (rowsF_no hri bz ?_) HD (((EB.trans e9).trans eC).trans eD)
          unfold rstep
          rw [if_neg (show ¬ (false = true) from Bool.false_ne_true), if_pos rfl, if_pos (by rw [List.length_append]; exact of_decide_eq_true hb4)]
        · have n4 := of_decide_eq_false hb4
          refine s_asg (v := .int ((i + 1 : Nat) : Int)) (ev_is (ev_op (ev_var rfl) ev_c rv_I0) (by congr 1)) fun HD eD => ?_
          have Ez := (e9.trans eC).trans eD
          refine ⟨i + 1, ps ++ [p], xs ++ [.ref v], some (.ref v), by omega, by omega, rat_next hri bz ?_, by rw [List.length_append]; show ps.length + 1 ≤ 3; omega, rfl, EB.trans Ez, Ez _ _ WB, Ez _ _ PB, rowB.mono Ez⟩
          unfold rstep
          rw [if_neg (show ¬ (false = true) from Bool.false_ne_true), if_pos rfl, if_neg (by rw [List.length_append]; exact n4)]
end
end K17
namespace K17
open PySem L2 Evl Gr StX EnT MkS StK ClX ClK ClW RdX OwX OwC StS EXC OpX Kn
/-! ### _law_read_right -/
section
variable {K : PySem.W.Frag} {σ : L2.St} {H : Hp} {ta tb te : TE}
theorem ev_xcF {a C d : Addr} {fs : List (Str × V)} {v : V} {f : Str} (h : Ev te σ H (.ref a)) (ha : H a = some (ExC (.ref C) (some d) a)) (hd : H d = some (.xd fs)) (xc : XcC K C) (own : PySem.W.findIn K (.ref C) f = some none) (l : fs.lookup f = some v) : Ev (tXcF K f te) σ H v := fun H1 e Q q =>
  h H1 e _ fun H2 e2 => ⟨a, C, d, fs, v, rfl, (e.trans e2) _ _ ha, (e.trans e2) _ _ hd, xc, own, l, q H2 e2⟩
theorem rc_xc {a C D d : Addr} {fs : List (Str × V)} {b : Bool} (ha : H a = some (ExC (.ref C) (some d) a)) (hd : H d = some (.xd fs)) (xc : XcC K C) (hk : PySem.W.kitOne K (.ref C) (.ref D) = some b) : RC (rXc K) [.ref a, .ref D] H (.bl b) := fun H1 e Q q =>
  ⟨a, C, some d, _, _, b, rfl, .own D, e _ _ ha, fun dd z => ⟨fs, by cases z; exact e _ _ hd⟩, xc, hk, q H1 (Ex.refl H1)⟩
end
structure PName (K : PySem.W.Frag) (mg : Str → Option Value) (CP : Addr) (mc : Value) : Prop where
  g : mg "Plan" = some (.ref CP)
  rd : CRead K CP mc
/-- the errors' classes -/
structure ErrK (K : PySem.W.Frag) (mg : Str → Option Value) (B CB CT : Addr) : Prop where
  gB : mg "PostError" = some (.ref B)
  gP : mg "BadPlan" = some (.ref CB)
  gT : mg "BadText" = some (.ref CT)
  hitP : PySem.W.exmOne K (.ref CB) (.ref B) = some true
  hitT : PySem.W.exmOne K (.ref CT) (.ref B) = some true
  kPP : PySem.W.kitOne K (.ref CB) (.ref CB) = some true
  kTT : PySem.W.kitOne K (.ref CT) (.ref CT) = some true
  xcP : XcC K CB
  xcT : XcC K CT
  fp : PySem.W.findIn K (.ref CB) "part" = some none
  fw : PySem.W.findIn K (.ref CT) "word" = some none
  fl : PySem.W.findIn K (.ref CT) "line" = some none
section
variable {P : Program} {w : World} {K : PySem.W.Frag} {mg : Str → Option Value} {base : Heap}
abbrev sRr : Stmt := top 36
abbrev nRr : List Str := ["_law_line", "_law_due_here", "_law_caught", "_law_made", "error"]
def spRr (m : Nat) : Sp := fun vs H Q _ => ∃ z : Str, vs = [.str z] ∧ LnOk m z ∧ RetV (.bl true) H Q
theorem scRr : FnScope nRr ["_law_line"] (defScope sRr) := ⟨rfl, rfl, rfl, by decide +kernel, rfl, by decide +kernel, by decide +kernel⟩
theorem ok_Rr {m : Nat} {CP C CT CB B pR fR fS fL f : Addr} {mc : Value} {fd fdR fdS fdL : FuncData} (F : Fun K "_law_read_right" "_law_read_right" sRr f fd) (hm : m ≤ 60) (T : GlbT mg) (S : GlbS mg) (X : ErrK K mg B CB CT) (N : PName K mg CP mc)
    (hR : CMet K CP mc "read" pR fR) (FR : FnOk P w K mg base (L2.CX P w) 6 fR fdR ["cls", "text"] (spRd K CP C CT CB)) (bR : Binds K fdR ["cls", "text"] [])
    (hS : StrIn K CP fS) (FS : FnOk P w K mg base CX0 2 fS fdS ["self"] (spStr K CP C)) (bS : Binds K fdS ["self"] []) (hL : Has K CP fL "__len__") (FL : FnOk P w K mg base CX0 1 fL fdL ["self"] (spLen K CP C)) (bL : Binds K fdL ["self"] [])
    (GD : Gfn P w K mg base 2 "_law_due" ["_law_line"] (spDu m)) : FnOk P w K mg base CX0 7 f fd ["_law_line"] (spRr m) := by
  obtain ⟨fD, fdD, GD, kD, bD, gD⟩ := GD
  refine F.ok scRr (fun vs H Q E h => ?_) (fun cdv A outer s H vs Q E hr h => ?_)
  · obtain ⟨z, rfl, _⟩ := h
    rfl
  · obtain ⟨z, rfl, line, k⟩ := h
    have r2 := hr.mono (show 2 ≤ 6 by decide)
    have r4 := hr.mono (show 4 ≤ 6 by decide)
    refine ⟨_, (pss_cons (ps_par3 (i := 1) (j := 2) (l := 3) rfl scRr.nd rfl rfl rfl (by decide) (by decide) (by decide) rfl rfl rfl (pa_cons (pe_call GD r2 (by rfl) gD kD bD .nil pass0 (pa_cons (pv 0) pa_nil)) (pa_cons pe_non (pa_cons pe_non pa_nil))) (by rfl))
      (pss_cons (ps_try_held (X := (cxOf CX0 P w K mg base nRr "_law_read_right" (defScope sRr) f cdv A outer s H E).nox) (c := .ref B) (i := 4) (tb := fun W => tAsg (tCMW CP (spRd K CP C CT CB) W (tC (.ref CP)) (tCons (tVar 0) tNil)) (gName 3)) (ts := fun _ _ _ => tAsg (tVar 4) (gName 2)) rfl rfl rfl scRr.nd rfl rfl ⟨rfl, by decide, .inl X.gB⟩
        (fun W pn xe tk _ => (pss_one (ps_set (i := 3) scRr.nd rfl (.inl rfl) (pe_cmethW tk (pe_glob (v := .ref CP) (by rfl) N.g rfl) N.rd hR (fnR0 FR bR) hr (pa_cons (pv 0) pa_nil))))) (fun a oe cls d pn _ _ => (pss_one (ps_set (i := 2) scRr.nd rfl (.inl rfl) (pv 4)))))
      (pss_cons (ps_if (pt_val (pe_callB call_isi (by rfl) T.inst (by decide +kernel) (pa_cons (pv 1) (pa_cons (pe_bltn (v := .ty "list") (by rfl) S.list (by decide +kernel) rfl) pa_nil))))
        (pss_one (ps_ret (pe_and (pe_cmpR op_isN1 (pv 2) pe_non (nomark _)) (pe_and (pe_cmpR op_eq (pe_callTy (call_strI hS (fnR0 FS bS) r4 pass0) (by rfl) T.str (by decide +kernel) (pa_cons (pv 3) pa_nil)) (pv 0) (nomark _)) (pe_one (pe_cmpR op_eq (pe_callB (call_lenO hL (fnR0 FL bL) r2 pass0) (by rfl) S.len PySem.boot_len (pa_cons (pv 3) pa_nil)) (pe_callB call_len_seq (by rfl) S.len PySem.boot_len (pa_cons (pv 1) pa_nil)) (nomark _))))))) pss_nil)
      (pss_cons (ps_if (pt_val (pe_callB call_isi (by rfl) T.inst (by decide +kernel) (pa_cons (pv 1) (pa_cons (pe_bltn (v := .ty "str") (by rfl) T.str (by decide +kernel) rfl) pa_nil))))
        (pss_one (ps_ret (pe_and (pe_callB call_xc (by rfl) T.inst (by decide +kernel) (pa_cons (pv 2) (pa_cons (pe_glob (v := .ref CB) (by rfl) X.gP (by rfl)) pa_nil))) (pe_one (pe_cmpR op_eq (pe_ifExp (pt_cmpR op_eq (pe_xcF (pv 2)) pe_str (nomark _)) pe_str (pe_op op_add_str pe_str (pe_callTy call_strV (by rfl) T.str (by decide +kernel) (pa_cons (pe_xcF (pv 2)) pa_nil)))) (pv 1) (nomark _)))))) pss_nil)
      (pss_one (ps_ret (pe_and (pe_callB call_xc (by rfl) T.inst (by decide +kernel) (pa_cons (pv 2) (pa_cons (pe_glob (v := .ref CT) (by rfl) X.gT (by rfl)) pa_nil))) (pe_one (pe_cmpR (op_eqD hr.units) (pe_tup (pa_cons (pe_xcF (pv 2)) (pa_cons (pe_xcF (pv 2)) pa_nil))) (pe_tup (pa_cons pe_int (pa_cons (pv 1) pa_nil))) (by with_unfolding_all rfl)))))))))), ?_⟩
    obtain ⟨few, ne, wrd, jn⟩ := id line
    have zl := ln_len line
    have wok : ∀ y ∈ Txt.split z " ", WOk y := fun y hy => wrd_ok (wrd y hy)
    have ty : ∀ {x : V} {a b : String} {r : Bool} {σ : L2.St} {H1 : Hp}, TyX K H1 x (.type a) → kitB a b = some r → σ[1]? = some (some x) → EvT (tB (tCB (rIsi K) (tCons (tVar 1) (tCons (tC (.ty b)) tNil)))) σ H1 r := fun h hk hσ => et_B (ev_cb (ea_cons (ev_var hσ) (ea_cons ev_c ea_nil)) (rc_isi h hk))
    refine q_par3 (cons_i ⟨_, rfl, z, rfl, line, by omega, fun i hi H1 e1 => cons_i (c_i (cons_i (c_i ⟨_, _, _, rfl, ?_⟩))), fun ps hps => ⟨fun hA H1 e1 => cons_i (c_i (cons_i (c_i ⟨_, _, _, rfl, ?_⟩))), fun j lj hA tj fj H1 e1 => cons_i (c_i (cons_i (c_i ⟨_, _, _, rfl, ?_⟩))), fun hA hT p xs H1 hp e1 h1 lx => cons_i (c_i (cons_i (c_i ⟨_, _, _, rfl, ?_⟩)))⟩⟩)
    · refine ⟨rfl, _, rfl, _, fun _ _ _ h => h, z, rfl, by omega, ne, by omega, wok, ?_, ?_⟩
      case refine_2 =>
        intro ps hps
        rw [hi] at hps
        cases hps
      intro j hj
      rw [hi] at hj
      cases hj
      intro d H2 hd e2 h2
      refine ⟨X.hitT, fun a ha => ⟨_, rfl, ?_⟩⟩
      dsimp only [gName, List.set]
      have e3 := Ex.new (o := ExC (.ref CT) (some d) a) ha
      have ha2 : upd H2 a (ExC (.ref CT) (some d) a) a = some (ExC (.ref CT) (some d) a) := upd_same
      have hd2 := e3 _ _ h2
      generalize upd H2 a (ExC (.ref CT) (some d) a) = H3 at e3 ha2 hd2 ⊢
      refine q_when (b := false) (ty (.base (.int _)) (by decide +kernel) rfl) (fun y => absurd y (by decide)) (fun _ H4 e4 => ?_)
      refine q_when (b := false) (ty (.base (.int _)) (by decide +kernel) rfl) (fun y => absurd y (by decide)) (fun _ H5 e5 => ?_)
      have E5 := e4.trans e5
      refine s_ret (ev_is (ev_andV (ev_cb (ea_cons (ev_var rfl) (ea_cons ev_c ea_nil)) (rc_xc (E5 _ _ ha2) (E5 _ _ hd2) X.xcT X.kTT)) fun _ => ev_eqTuG (xs := [0, (i : Int)]) (ys := [0, (i : Int)]) (etu_disp (ea_cons (ev_xcF (ev_var rfl) (E5 _ _ ha2) (E5 _ _ hd2) X.xcT X.fl rfl) (ea_cons (ev_xcF (ev_var rfl) (E5 _ _ ha2) (E5 _ _ hd2) X.xcT X.fw rfl) ea_nil)) (by show 2 ≤ 100000; decide)) (etu_disp (ea_cons ev_c (ea_cons (ev_var rfl) ea_nil)) (by show 2 ≤ 100000; decide))) (by rw [Bool.true_and]; exact congrArg V.bl (decide_eq_true rfl))) fun H6 e6 => k H6 (((((e1.trans e2).trans e3).trans E5).trans e6))
    · obtain ⟨l1, l4, good⟩ := rows_good wok hps
      refine ⟨rfl, _, rfl, _, fun _ _ _ h => h, z, rfl, by omega, ne, by omega, wok, ?_, ?_⟩
      case refine_1 =>
        intro j hj
        rw [hps] at hj
        cases hj
      intro qs hqs
      rw [hps] at hqs
      cases hqs
      refine ⟨l1, l4, good, fun _ => ?_, fun j lj hA' => ?_, fun hA' => ?_⟩
      case refine_2 => rw [hA] at hA'; cases hA'
      case refine_3 => rw [hA] at hA'; cases hA'
      intro d H2 hd e2 h2
      refine ⟨X.hitP, fun a ha => ⟨_, rfl, ?_⟩⟩
      dsimp only [gName, List.set]
      have e3 := Ex.new (o := ExC (.ref CB) (some d) a) ha
      have ha2 : upd H2 a (ExC (.ref CB) (some d) a) a = some (ExC (.ref CB) (some d) a) := upd_same
      have hd2 := e3 _ _ h2
      generalize upd H2 a (ExC (.ref CB) (some d) a) = H3 at e3 ha2 hd2 ⊢
      refine q_when (b := false) (ty (.base (.str _)) (by decide +kernel) rfl) (fun y => absurd y (by decide)) (fun _ H4 e4 => ?_)
      refine q_when (b := true) (ty (.base (.str _)) (by decide +kernel) rfl) (fun _ H5 e5 => ?_) (fun y => absurd y (by decide))
      have E5 := e4.trans e5
      exact s_ret (ev_is (ev_andV (ev_cb (ea_cons (ev_var rfl) (ea_cons ev_c ea_nil)) (rc_xc (E5 _ _ ha2) (E5 _ _ hd2) X.xcP X.kPP)) fun _ => ev_op (ev_if (v := .str "mute") (b := true) (et_is (et_test (ev_op (ev_xcF (v := .str "mute") (ev_var rfl) (E5 _ _ ha2) (E5 _ _ hd2) X.xcP X.fp rfl) ev_c (rv_eq rfl))) (decide_eq_true rfl)) (fun _ => ev_c) (fun y => absurd y (by decide))) (ev_var rfl) (rv_eq rfl)) (by rw [Bool.true_and]; exact congrArg V.bl (decide_eq_true rfl))) fun H6 e6 => k H6 (((((e1.trans e2).trans e3).trans E5).trans e6))
    · obtain ⟨l1, l4, good⟩ := rows_good wok hps
      refine ⟨rfl, _, rfl, _, fun _ _ _ h => h, z, rfl, by omega, ne, by omega, wok, ?_, ?_⟩
      case refine_1 =>
        intro j hj
        rw [hps] at hj
        cases hj
      intro qs hqs
      rw [hps] at hqs
      cases hqs
      refine ⟨l1, l4, good, fun hA' => ?_, fun i li _ ti fi => ?_, fun _ none_ => ?_⟩
      case refine_1 => rw [hA] at hA'; cases hA'
      case refine_3 => rw [none_ j lj] at tj; cases tj
      obtain rfl : i = j := by
        rcases Nat.lt_trichotomy i j with c | c | c
        · rw [fj i c] at ti; cases ti
        · exact c
        · rw [fi j c] at tj; cases tj
      intro d H2 hd e2 h2
      refine ⟨X.hitP, fun a ha => ⟨_, rfl, ?_⟩⟩
      dsimp only [gName, List.set]
      have e3 := Ex.new (o := ExC (.ref CB) (some d) a) ha
      have ha2 : upd H2 a (ExC (.ref CB) (some d) a) a = some (ExC (.ref CB) (some d) a) := upd_same
      have hd2 := e3 _ _ h2
      generalize upd H2 a (ExC (.ref CB) (some d) a) = H3 at e3 ha2 hd2 ⊢
      refine q_when (b := false) (ty (.base (.str _)) (by decide +kernel) rfl) (fun y => absurd y (by decide)) (fun _ H4 e4 => ?_)
      refine q_when (b := true) (ty (.base (.str _)) (by decide +kernel) rfl) (fun _ H5 e5 => ?_) (fun y => absurd y (by decide))
      have E5 := e4.trans e5
      have fld : ∀ {Hz : Hp}, Ex H5 Hz → Ev (tXcF K "part" (tVar 2)) [some (.str z), some (.str (phT i)), some (.ref a), some .non, none] Hz (.int (i : Int)) := fun e => ev_xcF (ev_var rfl) (e _ _ (E5 _ _ ha2)) (e _ _ (E5 _ _ hd2)) X.xcP X.fp rfl
      refine s_ret (ev_is (ev_andV (ev_cb (ea_cons (ev_var rfl) (ea_cons ev_c ea_nil)) (rc_xc (E5 _ _ ha2) (E5 _ _ hd2) X.xcP X.kPP)) fun _ => ev_op (ev_if (v := .str (phT i)) (b := false) (et_is (et_test (ev_op (fld (Ex.refl H5)) ev_c (rv_eq rfl))) (decide_eq_false fun y => by cases y)) (fun y => absurd y (by decide)) (fun _ => ev_addS ev_c (ev_sd (fld (Ex.refl H5)) (by omega)) ?_)) (ev_var rfl) (rv_eq rfl)) (by rw [Bool.true_and]; exact congrArg V.bl (decide_eq_true rfl))) fun H6 e6 => k H6 (((((e1.trans e2).trans e3).trans E5).trans e6))
      have a := sd_len (a := i) (by omega)
      have b : ("phase " : Str).length = 6 := by decide +kernel
      rw [b]
      omega
    · obtain ⟨l1, l4, good⟩ := rows_good wok hps
      refine ⟨rfl, _, rfl, _, fun _ _ _ h => h, z, rfl, by omega, ne, by omega, wok, ?_, ?_⟩
      case refine_1 =>
        intro j hj
        rw [hps] at hj
        cases hj
      intro qs hqs
      rw [hps] at hqs
      cases hqs
      refine ⟨l1, l4, good, fun hA' => ?_, fun i li _ ti => ?_, fun _ _ o H2 e2 at_ => ?_⟩
      case refine_1 => rw [hA] at hA'; cases hA'
      case refine_2 => rw [hT i li] at ti; cases ti
      dsimp only [gName, List.set]
      have h2 := e2 _ _ h1
      obtain ⟨dx, fs, hi⟩ := at_.ins
      refine q_when (b := true) (ty (.base (.lst h2)) (by decide +kernel) rfl) (fun _ H3 e3 => ?_) (fun y => absurd y (by decide))
      have txt : txP ps = z := by
        unfold txP
        rw [show wordsP ps ps.length = W ps from rfl, ← rows_words hps]
        exact jn
      have at3 := at_.mono e3
      refine s_ret (ev_is (ev_andV (ev_is (ev_op (ev_var rfl) ev_c fun H4 _ Q4 q4 => ⟨rfl, q4 H4 (Ex.refl H4)⟩) (congrArg V.bl (decide_eq_true rfl))) fun _ => ev_andV (ev_is (ev_op (x := .str z) (ev_cb (ea_cons (ev_var rfl) ea_nil) fun H4 e4 Q4 q4 => ⟨o, rfl, .inr ⟨dx, fs, e4 _ _ (e3 _ _ hi)⟩, o, ps, rfl, at3.mono e4, fun H5 e5 => ⟨_, rfl, by rw [txt]; exact q4 H5 e5⟩⟩) (ev_var rfl) (rv_eq rfl)) (congrArg V.bl (decide_eq_true rfl))) fun _ => ev_is (ev_op (x := .int (ps.length : Int)) (ev_cb (ea_cons (ev_var rfl) ea_nil) fun H4 e4 Q4 q4 => ⟨o, rfl, .inr ⟨dx, fs, e4 _ _ (e3 _ _ hi)⟩, o, ps, rfl, at3.mono e4, fun H5 e5 => ⟨_, rfl, by omega, by omega, q4 H5 e5⟩⟩) (ev_is (ev_cb (ea_cons (ev_var rfl) ea_nil) (rc_lenQ (.inl (sq_of (e3 _ _ h2))))) (by rw [lx])) (rv_eq rfl)) (congrArg V.bl (decide_eq_true rfl))) rfl) fun H6 e6 => k H6 (((e1.trans e2).trans e3).trans e6)
end
end K17
namespace K17
open PySem L2 Evl Gr StX EnT MkS StK ClX ClK ClW RdX OwX OwC OpX OwU ItX StS Kn
/-! ### _law_right -/
theorem et_orF {t u : TT} {σ : L2.St} {H : Hp} (h1 : EvT t σ H false) (h2 : EvT u σ H false) : EvT (tOr t u) σ H false := et_is (et_or h1 fun _ => h2) rfl
theorem et_neF {te : TE} {σ : L2.St} {H : Hp} {x y : V} (h : Ev te σ H (.bl (!decide (x = y)))) (e : x = y) : EvT (tTest te) σ H false := et_is (et_test h) (by rw [decide_eq_true e]; rfl)
theorem tupA_i {n : Nat} {t : TA} {σ : L2.St} {H : Hp} {Q : VK} (h : t σ H fun zs H1 => zs.length ≤ sizeLine ∧ ∀ p, H1 p = none → n ≤ p → Q (.ref p) (upd H1 p (.tup zs))) : tTupA n t σ H Q := h
theorem q_asgG {te : TE} {g : TG} {tz : TS} {D : Ends} {σ : L2.St} {H : Hp} (h : te σ H fun v H2 => g v σ H2 (tz D)) : tSeq (tAsg te g) tz D σ H := h
def EvLA (te : TE) (σ : L2.St) (H : Hp) (ss : List (List Nat)) : Prop := ∀ H1, Ex H H1 → ∀ Q : VK, (∀ p xs H2, Ex H1 H2 → H2 p = some (.lst xs) → TRow H2 xs ss → Q (.ref p) H2) → te σ H1 Q
section
variable {K : PySem.W.Frag} {CP C : Addr} {σ : L2.St} {H : Hp} {ta tb t0 t1 te : TE} {ss : List (List Nat)} {a o : Addr} {ys : List V} {m : Bool} {q : Ph}
theorem ela_of (h : Ev te σ H (.ref a)) (ha : H a = some (.lst ys)) (row : TRow H ys ss) : EvLA te σ H ss := fun H1 e Q k => h H1 e _ fun H2 e2 => k a ys H2 e2 ((e.trans e2) _ _ ha) (row.mono (e.trans e2))
theorem ela_rev (h : Ev te σ H (.ref a)) (ha : H a = some (.lst ys)) (row : TRow H ys ss) : EvLA (tRevL K te) σ H ss.reverse := fun H1 e Q k => h H1 e _ fun H2 e2 => ⟨a, ys, rfl, sq_of ((e.trans e2) _ _ ha), fun p hp => k p _ _ (e2.trans (Ex.new hp)) upd_same (trow_rev (row.mono ((e.trans e2).trans (Ex.new hp))))⟩
theorem eph_new (h0 : Ev t0 σ H (.bl m)) (h1 : EvLA t1 σ H ss) (ok : SmsOk ss) : EvPh K C (tCall (spPhs K C) [] E0 (tCons (tTup (tCons t0 (tCons t1 tNil))) tNil)) σ H (m, ss) := fun H1 e Q k =>
  cons_i (tup_i (cons_i (h0 H1 e _ fun H2 e2 => cons_i (h1 H2 (e.trans e2) _ fun p xs H3 e3 h3 r3 => ⟨by show 2 ≤ sizeLine; decide, fun t ht => ⟨t, p, xs, (m, ss), rfl, upd_same, (Ex.new ht) _ _ h3, r3.mono (Ex.new ht), ok, fun o ss' H4 e4 ho pm => k o ss' H4 (((e2.trans e3).trans (Ex.new ht)).trans e4) ho pm⟩⟩))))
theorem et_nePh {X : Cx} (ha : Ev ta σ H (.ref o)) (ho : PhAt X.K C H o q) (hb : EvPh X.K C tb σ H (q.1, ss)) (pm : ss.Perm q.2) : EvT (tTest (tOp (rNeO X C (spEqP X.K C) E0) ta tb)) σ H false := et_test fun H1 e Q k =>
  ha H1 e _ fun H2 e2 => hb H2 (e.trans e2) _ fun u ss' H3 e3 hu pm' => by
    have ho3 := ho.mono ((e.trans e2).trans e3)
    obtain rfl := asc_one ho3.asc hu.asc (pm'.trans pm)
    exact ⟨o, u, rfl, rfl, .inr ho3.ins, .inr hu.ins, o, u, q, q, rfl, ho3, hu, fun H4 e4 => ⟨_, rfl, by rw [decide_eq_true rfl]; exact k H4 ((e2.trans e3).trans e4)⟩⟩
theorem et_eqPh {X : Cx} (nf : PySem.W.notFirst X.K C (.ref C) = true) (ha : Ev ta σ H (.ref o)) (ho : PhAt X.K C H o q) (hb : EvPh X.K C tb σ H (m, ss)) (ne : q.1 ≠ m) : EvT (tTest (tOp (rEqO X C (spEqP X.K C) E0) ta tb)) σ H false := et_test fun H1 e Q k =>
  ha H1 e _ fun H2 e2 => hb H2 (e.trans e2) _ fun u ss' H3 e3 hu pm' => by
    have ho3 := ho.mono ((e.trans e2).trans e3)
    exact ⟨o, u, C, rfl, rfl, .inr ho3.ins, .inr hu.ins, nf, o, u, q, (m, ss'), rfl, ho3, hu, fun H4 e4 => by rw [decide_eq_false fun z => ne (congrArg Prod.fst z)]; exact k H4 ((e2.trans e3).trans e4)⟩
end
structure RtK (P : Program) (w : World) (K : PySem.W.Frag) (mg : Str → Option Value) (base : Heap) (CP C fE fQ fL fI fG : Addr) (edE : FuncData) : Prop where
  hE : Has K C fE "__eq__"
  eqP : FnOk P w K mg base CX0 1 fE edE ["self", "other"] (spEqP K C)
  bE : Binds K edE ["self", "other"] []
  neC : PySem.W.findIn K (.ref C) "__ne__" = some (some (.builtin "object.__ne__"))
  obC : PySem.W.mroIn K C (.type "object") = some true
  nfC : PySem.W.notFirst K C (.ref C) = true
  hQ : Has K CP fQ "__eq__"
  eqL : FnR P w K mg base CX0 3 fQ (spEqL K CP C)
  neP : PySem.W.findIn K (.ref CP) "__ne__" = some (some (.builtin "object.__ne__"))
  obP : PySem.W.mroIn K CP (.type "object") = some true
  nfP : PySem.W.notFirst K CP (.ref CP) = true
  sub : PySem.W.subIn K (.type "list") (.ref CP) = some false
  kit : PySem.W.kitOne K (.type "list") (.ref CP) = some false
  hL : Has K CP fL "__len__"
  len : FnR P w K mg base CX0 1 fL (spLen K CP C)
  hI : Has K CP fI "__iter__"
  iter : ∀ m, FnR P w K mg base CX0 1 fI (spIterP K CP C m)
  hG : Has K CP fG "__getitem__"
  iG : PySem.W.fnIn K fG = true
  get : FnR P w K mg base CX0 2 fG (spGetP K CP C)
def big : Int := 10 ^ 20
theorem ev_big {σ : L2.St} {H : Hp} : Ev (tOp (rI CPow fun i j => .int (i ^ j.toNat)) (tC (.int 10)) (tC (.int 20))) σ H (.int big) := ev_is (ev_op (ev_c (v := .int 10)) (ev_c (v := .int 20)) (rv_I (C := CPow) (g := fun i j => .int (i ^ j.toNat)) (show (0 : Int) ≤ 20 ∧ (20 : Int) ≤ 1000000 ∧ (10 : Int).natAbs < 2 ^ 64 by decide))) (congrArg V.int (by decide +kernel))
theorem pe_ixO2 {X : Cx} (X0 : Cx) {CX : CXT} {n : Nat} {C g : Addr} {sp : Sp} {E : XK} {a b : Expr} {ta tb : TE} {pos : Pos} (h : Has X.K C g "__getitem__") (hf : PySem.W.fnIn X.K g = true) (F : FnR X.prog X.w X.K X.mg X.base CX n g sp) (hr : Room (n + 1) X.A) (hx : Passes CX X E) (ha : PE X a ta) (hb : PE X b tb)
    (hsl : ∀ x i, subscripted b true (.ref x) i = runValue (.builtin "lifetime.subscript" ⟨[.ref x, i], []⟩) := by intro _ _; with_unfolding_all rfl) : PE X (.Subscript a b pos) (tOp (rIxO X0 C sp E) ta tb) := pe_ixO h hf F hr hx ha hb hsl
section
variable {P : Program} {w : World} {K : PySem.W.Frag} {mg : Str → Option Value} {base : Heap}
abbrev sRt : Stmt := top 33
abbrev nRt : List Str := ["_law_plain_here", "_law_made", "_law_some", "_law_row", "_law_one", "_law_n", "_law_phase_here", "_law_told", "_law_ages"]
def spRt : Sp := fun vs H Q _ => ∃ (a : Addr) (av : List Addr) (xs : List V) (ps : List Ph), vs = [.ref a] ∧ H a = some (.lst xs) ∧ LRow av H xs ps ∧ PlnOk ps ∧ RetV (.bl true) H Q
theorem scRt : FnScope nRt ["_law_plain_here"] (defScope sRt) := ⟨rfl, rfl, rfl, by decide +kernel, rfl, by decide +kernel, by decide +kernel⟩
theorem ok_Rt {CP C fE fQ fL fI fG fC pC fN pN f : Addr} {mc : Value} {fd edE : FuncData} (F : Fun K "_law_right" "_law_right" sRt f fd) (T : GlbT mg) (S : GlbS mg) (hz : mg "zip" = none) (GC : PhC K C) (GP : PlC K CP) (R : RtK P w K mg base CP C fE fQ fL fI fG edE) (N : PName K mg CP mc)
    (hC : CMet K CP mc "copies" pC fC) (FC : FnR P w K mg base CX0 6 fC (spCopA K CP C)) (hN : CMet K CP mc "plain" pN fN) (FN : FnR P w K mg base CX0 6 fN (spPlain K CP C))
    (GH : Gfn P w K mg base 6 "_law_phase" ["_law_row"] (spPhs K C)) (GL : Gfn P w K mg base 7 "_law_plan" ["_law_plain_here"] (spPla K CP C)) (GW : Gfn P w K mg base 1 "_law_word" ["_law_ages"] spLw) (GT : Gfn P w K mg base 2 "_law_text" ["_law_plain_here"] spLt) :
    FnOk P w K mg base CX0 8 f fd ["_law_plain_here"] spRt := by
  obtain ⟨fH, fdH, GH, kH, bH, gH⟩ := GH
  obtain ⟨fPl, fdPl, GL, kPl, bPl, gPl⟩ := GL
  obtain ⟨fW, fdW, GW, kW, bW, gW⟩ := GW
  obtain ⟨fT, fdT, GT, kT, bT, gT⟩ := GT
  refine F.ok scRt (fun vs H Q E h => ?_) (fun cdv A outer s H vs Q E hr h => ?_)
  · obtain ⟨a, av, xs, ps, rfl, _⟩ := h
    rfl
  · obtain ⟨a, av, xs, ps, rfl, ha, row, ok, k⟩ := h
    have r1 := hr.mono (show 1 ≤ 7 by decide)
    have r2 := hr.mono (show 2 ≤ 7 by decide)
    have r3 := hr.mono (show 3 ≤ 7 by decide)
    have r4 := hr.mono (show 4 ≤ 7 by decide)
    have r6 := hr.mono (show 6 ≤ 7 by decide)
    refine ⟨_, (pss_cons (ps_asg (pe_tupA (pa_cons (pe_call GL hr (by rfl) gPl kPl bPl .nil pass0 (pa_cons (pv 0) pa_nil)) (pa_cons (pe_lc (te := tCall (spPhs K C) [] E0 (tCons (tVar 3) tNil)) (own := [("_law_row", 3)]) (g := gName 3) rfl scRt.nd (pi_list (pv 0)) (blkOk_by (own := [("_law_row", 3)]) (N := nRt) (sc := defScope sRt) (by decide +kernel)) (fun _ _ _ _ _ => pg_name (i := 3) scRt.nd rfl (Or.inl rfl)) (fun _ _ _ _ _ => pts_nil) (fun _ _ _ _ _ => pe_call GH r6 (by rfl) gH kH bH .nil pass0 (pa_cons (pv 3) pa_nil))) pa_nil))) (pg_tup rfl (pgs_cons (pg_name (i := 1) scRt.nd rfl (.inr rfl)) (pgs_cons (pg_name (i := 2) scRt.nd rfl (.inl rfl)) pgs_nil))))
      (pss_cons (ps_if (PW.pt (pw_or (pt_cmpR (op_neUL (D := DPh K C) mon_Ph (eqU_Ph (CX := CX0) R.eqP R.hE R.bE) r2) (pe_lc (own := [("_law_one", 4)]) (g := gName 4) rfl scRt.nd (pi_own R.hI R.iter r1 pass0 (pv 1)) (blkOk_by (own := [("_law_one", 4)]) (N := nRt) (sc := defScope sRt) (by decide +kernel)) (fun _ _ _ _ _ => pg_name (i := 4) scRt.nd rfl (Or.inl rfl)) (fun _ _ _ _ _ => pts_nil) (fun _ _ _ _ _ => pv 4)) (pv 2) (nomark _))
          (pw_or (pt_cmpR (op_neU (D := DPh K C) mon_Ph (eqU_Ph (CX := CX0) R.eqP R.hE R.bE) r2) (pe_fld (pv 1) rfl) (pe_callTy call_tupA (by rfl) S.tuple (by decide +kernel) (pa_cons (pv 2) pa_nil)) (nomark _))
          (pw_or1 (pt_cmpR op_ne (pe_callB (call_lenO R.hL R.len r2 pass0) (by rfl) S.len PySem.boot_len (pa_cons (pv 1) pa_nil)) (pe_callB call_len_seq (by rfl) S.len PySem.boot_len (pa_cons (pv 2) pa_nil)) (nomark _)))))) (pss_one (ps_ret pe_bl)) pss_nil)
      (pss_cons (ps_if (pt_cmpR (op_neUL (D := DPh K C) mon_Ph (eqU_Ph (CX := CX0) R.eqP R.hE R.bE) r2) (pe_lc (own := [("_law_n", 5)]) (g := gName 5) rfl scRt.nd (pi_range1 (by rfl) S.range (pa_cons (pe_op op_mul pe_int (pe_callB call_len_seq (by rfl) S.len PySem.boot_len (pa_cons (pv 2) pa_nil))) pa_nil)) (blkOk_by (own := [("_law_n", 5)]) (N := nRt) (sc := defScope sRt) (by decide +kernel)) (fun _ _ _ _ _ => pg_name (i := 5) scRt.nd rfl (Or.inl rfl)) (fun _ _ _ _ _ => pts_nil) (fun _ _ _ _ _ => pe_ixO2 (cxOf CX0 P w K mg base nRt "_law_right" (defScope sRt) f cdv A outer s H E) R.hG R.iG R.get r3 pass0 (pv 1) (pv 5))) (pe_op op_cat (pv 2) (pv 2)) (nomark _)) (pss_one (ps_ret pe_bl)) pss_nil)
      (pss_cons (ps_for PassesOwn.never rfl (pi_zip (by rfl) hz (pa_cons (pv 0) (pa_cons (pv 2) pa_nil))) (pg_tup rfl (pgs_cons (pg_name (i := 3) scRt.nd rfl (.inl rfl)) (pgs_cons (pg_name (i := 6) scRt.nd rfl (.inl rfl)) pgs_nil)))
        (pss_cons (ps_set (i := 7) scRt.nd rfl (.inl rfl) (pe_join pe_str (pe_op op_cat (pe_lst (pa_cons (pe_ifExp (pt_val (pe_fld (pv 6) rfl)) pe_str pe_str) pa_nil)) (pe_lc (te := tCall spLw [] E0 (tCons (tVar 8) tNil)) (own := [("_law_ages", 8)]) (g := gName 8) rfl scRt.nd (pi_tup (pe_fld (pv 6) rfl)) (blkOk_by (own := [("_law_ages", 8)]) (N := nRt) (sc := defScope sRt) (by decide +kernel)) (fun _ _ _ _ _ => pg_name (i := 8) scRt.nd rfl (Or.inl rfl)) (fun _ _ _ _ _ => pts_nil) (fun _ _ _ _ _ => pe_call GW r1 (by rfl) gW kW bW .nil pass0 (pa_cons (pv 8) pa_nil))))))
      (pss_cons (ps_if (PW.pt (pw_or (pt_cmpR op_ne (pe_fld (pv 6) rfl) (pe_ix (show IxR _ (rIxT K) from ix_tup) (pv 3) pe_int (fun _ _ => rfl)) (nomark _))
              (pw_or (pt_cmpR op_ne (pv 7) (pe_call GT r2 (by rfl) gT kT bT .nil pass0 (pa_cons (pe_lst (pa_cons (pv 3) pa_nil)) pa_nil)) (nomark _))
              (pw_or1 (pt_cmpR op_ne (pe_callB call_len_seq (by rfl) S.len PySem.boot_len (pa_cons (pe_fld (pv 6) rfl) pa_nil)) (pe_callB call_len_seq (by rfl) S.len PySem.boot_len (pa_cons (pe_ix (show IxR _ (rIxT K) from ix_tup) (pv 3) pe_int (fun _ _ => rfl)) pa_nil)) (nomark _)))))) (pss_one (ps_ret pe_bl)) pss_nil)
      (pss_one (ps_if (PW.pt (pw_or (pt_cmpR (op_neO (E := E0) R.hE R.neC R.obC (fnR0 R.eqP R.bE) r2 pass0) (pv 6) (pe_call GH r6 (by rfl) gH kH bH .nil pass0 (pa_cons (pe_tup (pa_cons (pe_ix (show IxR _ (rIxT K) from ix_tup) (pv 3) pe_int (fun _ _ => rfl)) (pa_cons (pe_revL (pe_ix (show IxR _ (rIxT K) from ix_tup) (pv 3) pe_int (fun _ _ => rfl))) pa_nil))) pa_nil)) (nomark _))
              (pw_or1 (pt_cmpR (op_eqO (E := E0) (op := .Eq) (fun _ _ => rfl) R.hE (fnR0 R.eqP R.bE) r1 pass0) (pv 6) (pe_call GH r6 (by rfl) gH kH bH .nil pass0 (pa_cons (pe_tup (pa_cons (pe_not (pe_ix (show IxR _ (rIxT K) from ix_tup) (pv 3) pe_int (fun _ _ => rfl))) (pa_cons (pe_ix (show IxR _ (rIxT K) from ix_tup) (pv 3) pe_int (fun _ _ => rfl)) pa_nil))) pa_nil)) (nomark _))))) (pss_one (ps_ret pe_bl)) pss_nil)))))
      (pss_cons (ps_if (PW.pt (pw_or (pt_cmpR (op_neO (E := E0) R.hE R.neC R.obC (fnR0 R.eqP R.bE) r2 pass0) (pe_ixO2 (cxOf CX0 P w K mg base nRt "_law_right" (defScope sRt) f cdv A outer s H E) R.hG R.iG R.get r3 pass0 (pv 1) (pe_op op_pow pe_int pe_int)) (pe_ix (show IxR _ (rIxL K) from ix_list) (pv 2) (pe_op op_mod (pe_callTy call_int1 (by rfl) T.int (by decide +kernel) (pa_cons (pe_op op_pow pe_int pe_int) pa_nil)) (pe_callB call_len_seq (by rfl) S.len PySem.boot_len (pa_cons (pv 2) pa_nil))) (fun _ _ => rfl)) (nomark _))
          (pw_or1 (pt_cmpR (op_neO (E := E0) R.hQ R.neP R.obP R.eqL r4 pass0) (pe_cmeth0 (E := E0) (pe_glob (v := .ref CP) (by rfl) N.g rfl) N.rd hC FC r6 pass0) (pe_cmeth0 (E := E0) (pe_glob (v := .ref CP) (by rfl) N.g rfl) N.rd hN FN r6 pass0) (nomark _))))) (pss_one (ps_ret pe_bl)) pss_nil)
      (pss_one (ps_ret (pe_and (pe_cmpR (op_neL (E := E0) R.hQ R.sub R.neP R.obP R.eqL r4 pass0) (pv 1) (pv 2) (nomark _)) (pe_one (pe_cmpR (op_eqO (E := E0) (op := .Eq) (fun _ _ => rfl) R.hQ R.eqL r3 pass0) (pv 1) (pe_call GL hr (by rfl) gPl kPl bPl .nil pass0 (pa_cons (pv 0) pa_nil)) (nomark _))))))))))), ?_⟩
    refine q_asgG (tupA_i (cons_i ?_))
    refine ⟨_, rfl, a, av, xs, ps, rfl, ha, row, ok, fun o qs H1 e1 hO sim => cons_i ?_⟩
    refine epr_phs (K := K) (C := C) (j := 3) (vs := [3]) (tl := tVar 0) (ev_var rfl) (e1 _ _ ha) (row.mono e1) ok sim (pl_asc hO) (fun _ => rfl) (fun _ => rfl) H1 (Ex.refl H1) _ fun Sm ys H2 e2 hS rs => ?_
    refine ⟨by show 2 ≤ sizeLine; decide, fun p hp age => ⟨p, [.ref o, .ref Sm], rfl, st_of upd_same, rfl, _, _, rfl, _, _, rfl, rfl, ?_⟩⟩
    have e3 := Ex.new (o := .tup [.ref o, .ref Sm]) hp
    have old : Old s.heap.objs.size (upd H2 p (.tup [.ref o, .ref Sm])) := ⟨p, _, upd_same, age⟩
    have E3 := e1.trans (e2.trans e3)
    have hO3 := hO.mono (e2.trans e3)
    have hS3 := e3 _ _ hS
    have rs3 := rs.mono e3
    have asc := pl_asc hO
    have lq := sim.1
    have l1 := ok.1
    have l3 := ok.2.1
    clear hp age hO hS rs
    generalize upd H2 p (.tup [.ref o, .ref Sm]) = H3 at e3 old E3 hO3 hS3 rs3 ⊢
    clear e3 e2 e1
    have ls := rs3.1
    have lnS : ∀ {σ : L2.St} {H4 : Hp}, Ex H3 H4 → σ[2]? = some (some (.ref Sm)) → Ev (tCB (rLen K) (tCons (tVar 2) tNil)) σ H4 (.int (qs.length : Int)) := fun e hσ => ev_is (ev_cb (ea_cons (ev_var hσ) ea_nil) (rc_lenQ (.inl (sq_of (e _ _ hS3))))) (by rw [ls])
    -- first
    have t1 := et_neL (epr_iter (X := (cxOf CX0 P w K mg base nRt "_law_right" (defScope sRt) f cdv A outer s H E)) (CP := CP) (C := C) (σ := [some (.ref a), some (.ref o), some (.ref Sm), none, none, none, none, none, none]) (tl := tVar 1) (j := 4) (vs := [4]) (ev_var rfl) hO3 old (fun _ => rfl) (fun _ => rfl)) (epr_var (i := 2) rfl hS3 rs3)
    have t2 := et_neT (X := (cxOf CX0 P w K mg base nRt "_law_right" (defScope sRt) f cdv A outer s H E)) (CP := CP) (C := C) (n := s.heap.objs.size) (σ := [some (.ref a), some (.ref o), some (.ref Sm), none, none, none, none, none, none]) (ta := tVar 1) (i := 2) GP (ev_var rfl) hO3 rfl hS3 rs3 old
    have t3 : EvT (tTest (tOp rNe (tCB (rLenO (cxOf CX0 P w K mg base nRt "_law_right" (defScope sRt) f cdv A outer s H E) CP (spLen K CP C) E0) (tCons (tVar 1) tNil)) (tCB (rLen K) (tCons (tVar 2) tNil)))) [some (.ref a), some (.ref o), some (.ref Sm), none, none, none, none, none, none] H3 false := et_neF (ev_op (x := .int (qs.length : Int)) (ev_cb (ea_cons (ev_var rfl) ea_nil) fun H4 e4 Q4 q4 => ⟨o, rfl, .inr (hO3.mono e4).ins, o, qs, rfl, hO3.mono e4, fun H5 e5 => ⟨_, rfl, by omega, by omega, q4 H5 e5⟩⟩) (lnS (Ex.refl H3) rfl) (rv_ne rfl)) rfl
    refine q_when (et_orF t1 (et_orF t2 t3)) (fun y => absurd y (by decide)) fun _ H4 e4 => ?_
    clear t1 t2 t3 old
    -- second
    have u1 := epr_get (X := (cxOf CX0 P w K mg base nRt "_law_right" (defScope sRt) f cdv A outer s H E)) (CP := CP) (C := C) (σ := [some (.ref a), some (.ref o), some (.ref Sm), none, none, none, none, none, none]) (H := H4) (i := 1) (j := 5) (vs := [5]) (m := 2 * qs.length) (t := tCons (tOp (rI CMul fun i j => .int (i * j)) (tC (.int 2)) (tCB (rLen K) (tCons (tVar 2) tNil))) tNil) (ea_cons (ev_is (ev_op ev_c (lnS e4 rfl) (rv_I (C := CMul) (g := fun i j => .int (i * j)) (.inl (by decide)))) (by congr 1)) ea_nil) (by omega) (fun _ => rfl) (fun _ => rfl) (hO3.mono e4) (fun _ => rfl)
    rw [cycs_two (by omega)] at u1
    refine q_when (et_neL u1 (epr_cat (epr_var (i := 2) rfl (e4 _ _ hS3) (rs3.mono e4)) (epr_var (i := 2) rfl (e4 _ _ hS3) (rs3.mono e4)) (by omega))) (fun y => absurd y (by decide)) fun _ H5 e5 => ?_
    clear u1
    have E5 := e4.trans e5
    -- side by side
    refine q_forZL (K := K) (a := a) (b := Sm) (xs := xs) (ys := ys) (ea_cons (ev_var rfl) (ea_cons (ev_var rfl) ea_nil)) (sq_of ((E3.trans E5) _ _ ha)) (sq_of (E5 _ _ hS3)) (by rw [ls, row.1, lq]) (fun n σ' H' => ∃ (x3 x6 x7 : Option V), σ' = [some (.ref a), some (.ref o), some (.ref Sm), x3, none, none, x6, x7, none] ∧ Ex H3 H') (fun H6 e6 => ⟨none, none, none, rfl, E5.trans e6⟩) (fun _ _ H' _ ⟨_, _, _, _, e⟩ => ⟨sq_of ((E3.trans e) _ _ ha), sq_of (e _ _ hS3)⟩) ?_ ?_
    · rintro i x y σ' H6 Z hx hy ⟨x3, x6, x7, rfl, e6⟩ hZ
      have eZ := Ex.new (o := .tup [x, y]) hZ
      have li : i < ps.length := by rw [← row.1]; exact (List.getElem?_eq_some_iff.mp hx).1
      have hp := List.getElem?_eq_getElem li
      generalize ps[i] = p at hp
      obtain ⟨u, q, hq, rfl, hu⟩ := rs3.at hy
      obtain ⟨t, r, zs, t1, t2, t3, _, t5⟩ := row.2 i x p hx hp
      subst t1
      obtain ⟨s1, s2⟩ := sim.2 i p q hp hq
      have sms := ok.2.2.2.2 p (List.mem_of_getElem? hp)
      have E6 := (E3.trans e6).trans eZ
      have ht := E6 _ _ t2
      have hr' := E6 _ _ t3
      have rr := t5.mono E6
      have hu6 := hu.mono (e6.trans eZ)
      have eR := e6.trans eZ
      refine ⟨Z, [.ref t, .ref u], rfl, st_of upd_same, rfl, _, _, rfl, _, _, rfl, rfl, ?_⟩
      generalize upd H6 Z (.tup [.ref t, .ref u]) = H7 at eZ E6 ht hr' rr hu6 eR ⊢
      clear eZ hZ e6
      obtain ⟨dx, sq, us, h1, h2, h3, h4⟩ := id hu6
      have fq : ∀ l ∈ q.2, l ∈ fift := fun l hl => ages_fift (h4.1 l hl)
      have l2 : q.2.length ≤ 4 := h4.2.1
      -- told
      have w1 : EvL (tLst (tCons (tIf (tB (tFld K (tVar 6) "mute")) (tC (.str "mute")) (tC (.str "row"))) tNil)) [some (.ref a), some (.ref o), some (.ref Sm), some (.ref t), none, none, some (.ref u), x7, none] H7 [V.str (kindOf q)] := el_lst (ea_cons (ev_if (b := q.1) (et_B (ev_fld (ev_var rfl) h1 GC.cls GC.mute rfl)) (fun hb => ev_is ev_c (by unfold kindOf; rw [if_pos hb])) (fun hb => ev_is ev_c (by unfold kindOf; rw [if_neg (by rw [hb]; decide)]))) ea_nil) (by show 1 ≤ 100000; decide)
      have w2 : EvL (tLc (iTup K (tFld K (tVar 6) "sums")) (gName 8) tYes (tCall spLw [] E0 (tCons (tVar 8) tNil)) [8]) [some (.ref a), some (.ref o), some (.ref Sm), some (.ref t), none, none, some (.ref u), x7, none] H7 (q.2.map fun l => V.str (sumT l)) := el_trow (fun l => V.str (sumT l)) (fun H8 e8 Q8 q8 => ev_fld (ev_var rfl) h1 GC.cls GC.sums rfl H8 e8 _ fun H9 e9 => q8 _ H9 e9 (ex_t (e8.trans e9) h2)) h3 (by omega) (fun _ => rfl) (fun b l H8 hl e8 hb => ev_call (ea_cons (ev_var rfl) ea_nil) fun H9 e9 Q9 q9 E9 => ⟨b, l, rfl, e9 _ _ hb, h4.1 l hl, q9⟩)
      have w3 := el_cat w1 w2 (by rw [List.length_map]; show 1 + q.2.length ≤ _; omega)
      rw [show [V.str (kindOf q)] ++ (q.2.map fun l => V.str (sumT l)) = (rowW q).map V.str by unfold rowW; rw [List.map_cons, List.map_map]; rfl] at w3
      have wr : ∀ z ∈ rowW q, Wrd z := fun z hz => by
        rcases List.mem_cons.mp hz with rfl | hz
        · exact kind_wrd q
        · obtain ⟨l, hl, rfl⟩ := List.mem_map.mp hz
          exact sumT_wrd (fq l hl)
      refine q_asg (v := .str (rowT q)) (ev_joinL (K := K) (a := " ") ev_c w3 ?_) fun H8 e8 => ?_
      · have b : (" " : Str).length = 1 := by decide +kernel
        have n := wrd_sum wr
        have m : (rowW q).length = 1 + q.2.length := by unfold rowW; rw [List.length_cons, List.length_map]; omega
        rw [b]
        omega
      clear w1 w2 w3
      have r0 : ∀ {H9 : Hp}, Ex H8 H9 → Ev (tOp (rIxT K) (tVar 3) (tC (.int 0))) [some (.ref a), some (.ref o), some (.ref Sm), some (.ref t), none, none, some (.ref u), some (.str (rowT q)), none] H9 (.bl p.1) := fun e => ev_op (ev_var rfl) ev_c (rv_ixT (st_of ((e8.trans e) _ _ ht)) (atI_nat (j := 0) rfl))
      have r1' : ∀ {H9 : Hp}, Ex H8 H9 → Ev (tOp (rIxT K) (tVar 3) (tC (.int 1))) [some (.ref a), some (.ref o), some (.ref Sm), some (.ref t), none, none, some (.ref u), some (.str (rowT q)), none] H9 (.ref r) := fun e => ev_op (ev_var rfl) ev_c (rv_ixT (st_of ((e8.trans e) _ _ ht)) (atI_nat (j := 1) rfl))
      have c1 : EvT (tTest (tOp rNe (tFld K (tVar 6) "mute") (tOp (rIxT K) (tVar 3) (tC (.int 0))))) [some (.ref a), some (.ref o), some (.ref Sm), some (.ref t), none, none, some (.ref u), some (.str (rowT q)), none] H8 false := et_neF (ev_op (x := .bl q.1) (ev_fld (ev_var rfl) (e8 _ _ h1) GC.cls GC.mute rfl) (r0 (Ex.refl H8)) (rv_ne rfl)) (by rw [s1])
      have c2 : EvT (tTest (tOp rNe (tVar 7) (tCall spLt [] E0 (tCons (tLst (tCons (tVar 3) tNil)) tNil)))) [some (.ref a), some (.ref o), some (.ref Sm), some (.ref t), none, none, some (.ref u), some (.str (rowT q)), none] H8 false := et_neF (y := .str (rowT q)) (ev_op (ev_var rfl) (fun H9 e9 Q9 q9 => cons_i (lst_i ⟨_, rfl, by show 1 ≤ sizeLine; decide, fun d hd => ⟨d, [], [.ref t], [p], [q], rfl, upd_same, ⟨rfl, fun k v m hv hm => ?_⟩, ⟨by show 1 ≤ 1; decide, by show 1 ≤ 4; decide, fun m hm => ?_⟩, Sim.one s1 s2, fun m hm => ?_, fun H10 e10 => ?_⟩⟩)) (rv_ne rfl)) rfl
      have c3 : EvT (tTest (tOp rNe (tCB (rLen K) (tCons (tFld K (tVar 6) "sums") tNil)) (tCB (rLen K) (tCons (tOp (rIxT K) (tVar 3) (tC (.int 1))) tNil)))) [some (.ref a), some (.ref o), some (.ref Sm), some (.ref t), none, none, some (.ref u), some (.str (rowT q)), none] H8 false := et_neF (ev_op (ev_cb (ea_cons (ev_fld (ev_var rfl) (e8 _ _ h1) GC.cls GC.sums rfl) ea_nil) (rc_lenQ (.inr (ex_t e8 h2)))) (ev_cb (ea_cons (r1' (Ex.refl H8)) ea_nil) (rc_lenQ (.inl (sq_of (e8 _ _ hr'))))) (rv_ne rfl)) (by rw [h3.1, rr.1, s2.length_eq])
      case refine_1 =>
        have eD := Ex.new (o := .lst [.ref t]) hd
        cases k with
        | zero => cases hv; cases hm; exact ⟨t, r, zs, rfl, ((e8.trans e9).trans eD) _ _ ht, ((e8.trans e9).trans eD) _ _ hr', by simp, rr.mono ((e8.trans e9).trans eD)⟩
        | succ n => cases hv
      case refine_2 =>
        rw [List.mem_singleton.mp hm]
        exact ⟨sms_ok sms, sms.1⟩
      case refine_3 =>
        rw [List.mem_singleton.mp hm]
        exact h4.2.2
      case refine_4 =>
        rw [txP_one]
        exact q9 H10 ((Ex.new hd).trans e10)
      refine q_when (et_orF c1 (et_orF c2 c3)) (fun y => absurd y (by decide)) fun _ H9 e9 => ?_
      have E9 := e8.trans e9
      refine s_when (et_orF (et_nePh (X := (cxOf CX0 P w K mg base nRt "_law_right" (defScope sRt) f cdv A outer s H E)) (ss := p.2.reverse) (ev_var rfl) (hu6.mono E9) (eph_new (ev_is (r0 e9) (by rw [s1])) (ela_rev (r1' e9) (E9 _ _ hr') (rr.mono E9)) (sms_rev sms)) ((List.reverse_perm p.2).trans s2.symm))
        (et_eqPh (X := (cxOf CX0 P w K mg base nRt "_law_right" (defScope sRt) f cdv A outer s H E)) R.nfC (m := !p.1) (ss := p.2) (ev_var rfl) (hu6.mono E9) (eph_new (fun H10 e10 Q10 q10 => r0 e9 H10 e10 _ fun H11 e11 => ⟨_, rfl, q10 H11 e11⟩) (ela_of (r1' e9) (E9 _ _ hr') (rr.mono E9)) sms) (by rw [s1]; cases p.1 <;> decide))) (fun y => absurd y (by decide)) fun _ H10 e10 => ⟨_, _, _, rfl, eR.trans (E9.trans e10)⟩
    · rintro σ' H6 ⟨x3, x6, x7, rfl, e6⟩
      have hO6 := hO3.mono e6
      obtain ⟨n, hn, he, hat⟩ := cyc_at (ps := qs) (by omega) big
      obtain ⟨b, hb, hB⟩ := rs3.to hat
      have d1 : EvT (tTest (tOp (rNeO (cxOf CX0 P w K mg base nRt "_law_right" (defScope sRt) f cdv A outer s H E) C (spEqP K C) E0) (tOp (rIxO (cxOf CX0 P w K mg base nRt "_law_right" (defScope sRt) f cdv A outer s H E) CP (spGetP K CP C) E0) (tVar 1) (tOp (rI CPow fun i j => .int (i ^ j.toNat)) (tC (.int 10)) (tC (.int 20))))
          (tOp (rIxL K) (tVar 2) (tOp (rI (fun _ j => 0 < j) fun i j => .int (i % j)) (tCB rInt1 (tCons (tOp (rI CPow fun i j => .int (i ^ j.toNat)) (tC (.int 10)) (tC (.int 20))) tNil)) (tCB (rLen K) (tCons (tVar 2) tNil)))))) [some (.ref a), some (.ref o), some (.ref Sm), x3, none, none, x6, x7, none] H6 false := et_test fun H7 e7 Q7 q7 => ⟨_, rfl, ev_big H7 e7 _ fun H8 e8 => ?_⟩
      case refine_1 =>
        have E8 := e7.trans e8
        refine ⟨o, rfl, .inr (hO6.mono E8).ins, o, qs, big, rfl, by decide +kernel, hO6.mono E8, fun c H9 e9 hc => ?_⟩
        have E9 := E8.trans e9
        refine ev_op (z := .ref b) (ev_var (i := 2) rfl) (ev_is (ev_op (ev_cb (ea_cons ev_big ea_nil) rc_int) (lnS (e6.trans E9) rfl) (rv_I (C := fun _ j => 0 < j) (g := fun i j => .int (i % j)) (show (0 : Int) < (qs.length : Int) by omega))) (by rw [he])) (rv_ixL (sq_of ((e6.trans E9) _ _ hS3)) (atI_nat hb)) H9 (Ex.refl H9) _ fun H10 e10 => ?_
        have hc' := hc.mono e10
        have hb' := hB.mono ((e6.trans E9).trans e10)
        exact ⟨c, b, rfl, rfl, .inr hc'.ins, .inr hb'.ins, c, b, _, _, rfl, hc', hb', fun H11 e11 => ⟨_, rfl, by rw [decide_eq_true rfl]; exact q7 H11 (((e8.trans e9).trans e10).trans e11)⟩⟩
      have d2 : EvT (tTest (tOp (rNeO (cxOf CX0 P w K mg base nRt "_law_right" (defScope sRt) f cdv A outer s H E) CP (spEqL K CP C) E0) (tCMeth CP (spCopA K CP C) E0 (tC (.ref CP)) tNil) (tCMeth CP (spPlain K CP C) E0 (tC (.ref CP)) tNil))) [some (.ref a), some (.ref o), some (.ref Sm), x3, none, none, x6, x7, none] H6 false := et_test fun H7 e7 Q7 q7 => ⟨rfl, [.ref CP], [], rfl, rfl, by show 0 ≤ sizeLine; decide, fun p hp => ⟨p, [], rfl, st_of upd_same, (fun a h => by cases h), List.nodup_nil, by decide, fun c cs H8 e8 hc hcs => ?_⟩⟩
      case refine_1 =>
        obtain ⟨ss, rfl, pm⟩ := hcs
        obtain rfl := perm_nil' pm
        refine ⟨rfl, rfl, fun d ds H9 e9 hd hds => ?_⟩
        obtain rfl := hds
        have hc' := hc.mono e9
        exact ⟨c, d, rfl, rfl, .inr hc'.ins, .inr hd.ins, c, .ref d, _, rfl, hc', .inl ⟨d, _, rfl, hd, fun H10 e10 => ⟨_, rfl, by rw [decide_eq_true rfl]; exact q7 H10 ((((Ex.new hp).trans e8).trans e9).trans e10)⟩⟩⟩
      refine q_when (et_orF d1 d2) (fun y => absurd y (by decide)) fun _ H7 e7 => ?_
      have hO7 := hO6.mono e7
      have E7 := e6.trans e7
      refine s_ret (ev_is (ev_andV (a := true) (b := true) (fun H8 e8 Q8 q8 => ⟨_, rfl, _, rfl, o, Sm, ys, rfl, rfl, .inr (hO7.mono e8).ins, sq_of ((E7.trans e8) _ _ hS3), o, .ref Sm, qs, rfl, hO7.mono e8, .inr ⟨"list", .base (.lst ((E7.trans e8) _ _ hS3)), R.kit, fun H9 e9 => ⟨_, rfl, q8 H9 e9⟩⟩⟩) (fun _ H8 e8 Q8 q8 => ⟨_, rfl, _, rfl, a, av, xs, ps, rfl, ((E3.trans E7).trans e8) _ _ ha, row.mono ((E3.trans E7).trans e8), ok, fun c cs H9 e9 hc simc => ?_⟩)) rfl) fun H8 e8 => k H8 ((E3.trans E7).trans e8)
      obtain rfl := sim_one sim simc asc (pl_asc hc)
      have hO9 := hO7.mono (e8.trans e9)
      exact ⟨o, c, CP, rfl, rfl, .inr hO9.ins, .inr hc.ins, R.nfP, o, .ref c, _, rfl, hO9, .inl ⟨c, _, rfl, hc, fun H10 e10 => by rw [decide_eq_true rfl]; exact q8 H10 (e9.trans e10)⟩⟩
end
end K17
namespace K17
open PySem L2 Evl Gr StX EnT MkS StK ClX ClK RdX OwX OwC StS Kn
/-! ### _law_bent -/
theorem cut_to {xs : List V} {n : Nat} (h : n ≤ xs.length) : cutV xs none (some (n : Int)) = xs.take n := cut_n h
theorem cut_from {xs : List V} {n : Nat} (h : n ≤ xs.length) : cutV xs (some (n : Int)) none = xs.drop n := by
  unfold cutV
  rw [HT.sIx_nat, show HT.sIx xs.length xs.length none = xs.length from rfl, Nat.min_eq_left h]
  exact List.take_of_length_le (by rw [List.length_drop]; exact Nat.le_refl _)
def oddW : List Str := ["row", "mute", "/", "1", "2", "1+2", "2+1", "4", "5", "1+", "", "1+1", "x", "2+3+4"]
theorem odd_wrd {z : Str} (h : z ∈ oddW) : Wrd z := by
  have : ∀ z ∈ oddW, z.length ≤ 10 ∧ 32 ∉ TL.tl z ∧ PyData.strOk z = true := by decide +kernel
  exact this z h
theorem w_pickV {p l : Addr} {cells : List Int} {σ : L2.St} {H : Hp} {i : Nat} {tr : TA} {xs : List V} (hi : σ[i]? = some (some (.ref p))) (hr : ∀ H1, EvA tr σ H1 xs) (h0 : 0 < xs.length) (h1 : xs.length ≤ 1000) (h63 : cells.length ≤ 63) :
    EvW p l cells 1 (tCall spPick [] E0 (tCons (tVar i) (tCons (tLst tr) tNil))) σ H (fun v => v ∈ xs) := fun m H1 kp hP hm Q q =>
  ⟨_, hi, hr H1 H1 (Ex.refl H1) _ fun H2 e2 => ⟨sz_of (n := xs.length) (by omega), fun a ha => by
    have e3 := e2.trans (Ex.new (o := .lst xs) ha)
    have hap : a ≠ p := by
      obtain ⟨k, r, hp, _⟩ := hP
      intro z
      rw [z, e2 _ _ hp] at ha
      cases ha
    refine ⟨p, l, a, cells, m, xs, rfl, hP.mono e3 (Nat.le_refl m), by omega, h63, upd_same, hap, h0, by omega, fun j x H3 hx hP3 k3 => ?_⟩
    exact q _ H3 (List.mem_of_getElem? hx) hP3 ((Keep.of_ex e3).trans k3)⟩⟩
section
variable {P : Program} {w : World} {K : PySem.W.Frag} {mg : Str → Option Value} {base : Heap}
abbrev sBt : Stmt := top 37
abbrev nBt : List Str := ["_law_pen_here", "_law_line", "_law_words", "_law_at", "_law_way", "_law_odd"]
def spBt (n : Nat) : Sp := fun vs H Q _ => ∃ (p l : Addr) (cells : List Int) (m : Nat) (z : Str), vs = [.ref p, .str z] ∧ PenAt H p l cells m ∧ m + 3 ≤ 50000 ∧ cells.length ≤ 63 ∧ LnOk n z ∧ n ≤ 100 ∧
  ∀ y H', LnOk (n + 1) y → PenAt H' p l cells (m + 3) → Keep p H H' → Q (.str y) H'
theorem scBt : FnScope nBt ["_law_pen_here", "_law_line"] (defScope sBt) := ⟨rfl, rfl, rfl, by decide +kernel, rfl, by decide +kernel, by decide +kernel⟩
theorem ok_Bt {n : Nat} {f : Addr} {fd : FuncData} (F : Fun K "_law_bent" "_law_bent" sBt f fd) (T : GlbT mg) (S : GlbS mg) (GD : Gfn P w K mg base 1 "_law_draw" ["_law_pen_here", "_law_top_so"] spDraw)
    (GP : Gfn P w K mg base 2 "_law_pick" ["_law_pen_here", "_law_some"] spPick) : FnOk P w K mg base CX0 3 f fd ["_law_pen_here", "_law_line"] (spBt n) := by
  obtain ⟨fD, fdD, GD, kD, bD, gD⟩ := GD
  obtain ⟨fP, fdP, GP, kP, bP, gP⟩ := GP
  refine F.ok scBt (fun vs H Q E h => ?_) (fun cdv A outer s H vs Q E hr h => ?_)
  · obtain ⟨p, l, cells, m, z, rfl, _⟩ := h
    rfl
  · obtain ⟨p, l, cells, m, z, rfl, hP, hm, h63, line, n100, k⟩ := h
    have r1 := hr.mono (show 1 ≤ 2 by decide)
    refine ⟨_, (pss_cons (ps_set (i := 2) scBt.nd rfl (.inl rfl) (pe_split (pv 1) pe_str))
      (pss_cons (ps_par (i := 3) (j := 4) rfl scBt.nd rfl rfl (by decide) rfl rfl (pa_cons (pe_call GD r1 (by rfl) gD kD bD .nil pass0 (pa_cons (pv 0) (pa_cons (pe_callB call_len_seq (by rfl) S.len PySem.boot_len (pa_cons (pv 2) pa_nil)) pa_nil))) (pa_cons (pe_call GD r1 (by rfl) gD kD bD .nil pass0 (pa_cons (pv 0) (pa_cons pe_int pa_nil))) pa_nil)) (by rfl))
      (pss_cons (ps_set (i := 5) scBt.nd rfl (.inl rfl) (pe_call GP hr (by rfl) gP kP bP .nil pass0 (pa_cons (pv 0) (pa_cons (pe_lst (pa_cons pe_str (pa_cons pe_str (pa_cons pe_str (pa_cons pe_str (pa_cons pe_str (pa_cons pe_str (pa_cons pe_str (pa_cons pe_str (pa_cons pe_str (pa_cons pe_str (pa_cons pe_str (pa_cons pe_str (pa_cons pe_str (pa_cons pe_str pa_nil))))))))))))))) pa_nil))))
      (pss_cons (ps_if (pt_cmpR op_eq (pv 4) pe_int (nomark _)) (pss_one (ps_ret (pe_join pe_str (pe_op op_cat (pe_slice sl_list (pv 2) po_none (po_some (pv 3))) (pe_slice sl_list (pv 2) (po_some (pe_op op_add (pv 3) pe_int)) po_none))))) pss_nil)
      (pss_one (ps_ret (pe_join pe_str (pe_op op_cat (pe_op op_cat (pe_slice sl_list (pv 2) po_none (po_some (pv 3))) (pe_lst (pa_cons (pv 5) pa_nil))) (pe_slice sl_list (pv 2) (po_some (pe_op op_add (pv 3) (pe_callTy call_int1 (by rfl) T.int (by decide +kernel) (pa_cons (pe_cmpR op_gt (pv 4) pe_int (nomark _)) pa_nil)))) po_none))))))))), ?_⟩
    have zl := ln_len line
    obtain ⟨few, ne, wrd, jn⟩ := line
    refine q_asgL (el_split (ev_var rfl) (by decide +kernel) (by omega)) fun Wd H1 hW e1 h1 => ?_
    generalize hws : Txt.split z " " = ws at *
    have l1 : 1 ≤ ws.length := List.length_pos_iff.mpr ne
    have Wp := pen_ne hP hW
    have hP1 := hP.mono e1 (Nat.le_refl m)
    have lenW : ∀ {Hz : Hp}, Hz Wd = some (.lst (ws.map V.str)) → Ev (tCB (rLen K) (tCons (tVar 2) tNil)) [some (.ref p), some (.str z), some (.ref Wd), none, none, none] Hz (.int (ws.length : Int)) := fun h => ev_is (ev_cb (ea_cons (ev_var rfl) ea_nil) (rc_lenQ (.inl (sq_of h)))) (by rw [List.length_map])
    refine q_par (cons_i ((w_draw (H := H1) (i := 0) (σ := [some (.ref p), some (.str z), some (.ref Wd), none, none, none]) (many := (ws.length : Int)) rfl (fun Hz kz => lenW (kz _ _ h1 Wp.1)) (by omega) (by omega) h63) m H1 (Keep.of_ex (Ex.refl H1)) hP1 (by omega) _ fun v H2 hv hP2 k2 => ?_))
    obtain ⟨d, rfl, hd⟩ := hv
    refine cons_i ((w_draw (H := H2) (i := 0) (σ := [some (.ref p), some (.str z), some (.ref Wd), none, none, none]) (many := 4) rfl (fun _ _ => ev_c) (by decide) (by decide) h63) (m + 1) H2 (Keep.of_ex (Ex.refl H2)) hP2 (by omega) _ fun v H3 hv hP3 k3 => ?_)
    obtain ⟨y, rfl, hy⟩ := hv
    refine ⟨_, _, rfl, ?_⟩
    have K3 := ((Keep.of_ex e1).trans k2).trans k3
    have W3 := k3 _ _ (k2 _ _ h1 Wp.1) Wp.1
    refine q_asgR ((w_pickV (H := H3) (i := 0) (σ := [some (.ref p), some (.str z), some (.ref Wd), some (.int (d : Int)), some (.int (y : Int)), none]) (xs := oddW.map V.str) rfl (fun _ => ea_cons ev_c (ea_cons ev_c (ea_cons ev_c (ea_cons ev_c (ea_cons ev_c (ea_cons ev_c (ea_cons ev_c (ea_cons ev_c (ea_cons ev_c (ea_cons ev_c (ea_cons ev_c (ea_cons ev_c (ea_cons ev_c (ea_cons ev_c ea_nil)))))))))))))) (by decide) (by decide) h63) (m + 1 + 1) H3 (Keep.of_ex (Ex.refl H3)) hP3 (by omega) _ fun v H4 hv hP4 k4 => ?_)
    obtain ⟨o, ho, rfl⟩ := List.mem_map.mp hv
    have K4 := K3.trans k4
    have W4 := k4 _ _ W3 Wp.1
    have end_ : ∀ {te : TE} {H5 : Hp} {vs : List Str}, Ex H4 H5 → (∀ w ∈ vs, Wrd w) → vs.length ≤ n + 1 → EvL te [some (.ref p), some (.str z), some (.ref Wd), some (.int (d : Int)), some (.int (y : Int)), some (.str o)] H5 (vs.map V.str) →
        tRet (tM1 (rJoin K) (tC (.str " ")) te) { nx := fun _ H' => Q .non H', rt := Q } [some (.ref p), some (.str z), some (.ref Wd), some (.int (d : Int)), some (.int (y : Int)), some (.str o)] H5 := fun {te} {H5} {vs} e wv lv h =>
      s_ret (ev_joinL ev_c h (by
        have a := wrd_sum wv
        have b : (" " : Str).length = 1 := by decide +kernel
        rw [b]
        omega)) fun H6 e6 => k _ H6 (ln_join wv lv (by omega)).1 (hP4.mono (e.trans e6) (by omega)) (K4.trans (Keep.of_ex (e.trans e6)))
    have head : ∀ {H5 : Hp}, Ex H4 H5 → EvL (tSl (rSlL K) (tVar 2) tNoPart (tPart (tVar 3))) [some (.ref p), some (.str z), some (.ref Wd), some (.int (d : Int)), some (.int (y : Int)), some (.str o)] H5 ((ws.take d).map V.str) := fun e => by
      have := el_sl (K := K) (σ := [some (.ref p), some (.str z), some (.ref Wd), some (.int (d : Int)), some (.int (y : Int)), some (.str o)]) (te := tVar 2) (tl := tNoPart) (th := tPart (tVar 3)) (ev_var rfl) eo_none (eo_some (ev_var rfl)) (sq_of (e _ _ W4))
      rw [cut_to (by rw [List.length_map]; omega), ← List.map_take] at this
      exact this
    have tail : ∀ {H5 : Hp} {te : TE} {j : Nat}, Ex H4 H5 → j ≤ ws.length → Ev te [some (.ref p), some (.str z), some (.ref Wd), some (.int (d : Int)), some (.int (y : Int)), some (.str o)] H5 (.int (j : Int)) → EvL (tSl (rSlL K) (tVar 2) (tPart te) tNoPart) [some (.ref p), some (.str z), some (.ref Wd), some (.int (d : Int)), some (.int (y : Int)), some (.str o)] H5 ((ws.drop j).map V.str) := fun {H5} {te} {j} e lj h => by
      have := el_sl (K := K) (σ := [some (.ref p), some (.str z), some (.ref Wd), some (.int (d : Int)), some (.int (y : Int)), some (.str o)]) (te := tVar 2) (tl := tPart te) (th := tNoPart) (ev_var rfl) (eo_some h) eo_none (sq_of (e _ _ W4))
      rw [cut_from (by rw [List.length_map]; exact lj), ← List.map_drop] at this
      exact this
    have wt : ∀ {j : Nat}, ∀ w ∈ ws.take j, Wrd w := fun {j} w hw => wrd w (List.mem_of_mem_take hw)
    have wd : ∀ {j : Nat}, ∀ w ∈ ws.drop j, Wrd w := fun {j} w hw => wrd w (List.mem_of_mem_drop hw)
    refine q_when (b := decide (y = 0)) (et_is (et_test (ev_op (ev_var rfl) ev_c (rv_eq rfl))) (by rw [vint_inj]; exact decide_eq_decide.mpr (by omega))) (fun hb H5 e5 => ?_) (fun hb H5 e5 => ?_)
    · have c := el_cat (head e5) (tail (te := tOp (rI0 fun i j => .int (i + j)) (tVar 3) (tC (.int 1))) (j := d + 1) e5 (by omega) (ev_is (ev_op (ev_var rfl) ev_c rv_I0) (by congr 1))) (by rw [List.length_map, List.length_map, List.length_take, List.length_drop]; omega)
      rw [← List.map_append] at c
      exact end_ e5 (fun w hw => (List.mem_append.mp hw).elim (wt w) (wd w)) (by rw [List.length_append, List.length_take, List.length_drop]; omega) c
    · have lj : d + (if decide ((y : Int) > 1) = true then 1 else 0) ≤ ws.length := by split <;> omega
      have c := el_cat (el_cat (head e5) (el_lst (ta := tCons (tVar 5) tNil) (ea_cons (ev_var (v := .str o) rfl) ea_nil) (by show 1 ≤ 100000; decide)) (by rw [List.length_map, List.length_take]; show _ + 1 ≤ _; omega)) (tail (te := tOp (rI0 fun i j => .int (i + j)) (tVar 3) (tCB rInt1 (tCons (tOp (rI0 fun i j => .bl (decide (i > j))) (tVar 4) (tC (.int 1))) tNil))) (j := d + (if decide ((y : Int) > 1) = true then 1 else 0)) e5 lj (ev_is (ev_op (ev_var rfl) (ev_cb (ea_cons (ev_op (ev_var rfl) ev_c rv_I0) ea_nil) rc_intB) rv_I0) (by split <;> rfl))) (by rw [List.length_append, List.length_map, List.length_map, List.length_take, List.length_drop]; show _ + 1 + _ ≤ _; omega)
      rw [show (ws.take d).map V.str ++ [V.str o] ++ (ws.drop (d + (if decide ((y : Int) > 1) = true then 1 else 0))).map V.str = (ws.take d ++ [o] ++ ws.drop (d + (if decide ((y : Int) > 1) = true then 1 else 0))).map V.str by rw [List.map_append, List.map_append]; rfl] at c
      refine end_ e5 (fun w hw => ?_) ?_ c
      · rcases List.mem_append.mp hw with hw | hw
        · rcases List.mem_append.mp hw with hw | hw
          · exact wt w hw
          · rw [List.mem_singleton.mp hw]
            exact odd_wrd ho
        · exact wd w hw
      · rw [List.length_append, List.length_append, List.length_take, List.length_drop]
        show _ + 1 + _ ≤ _
        omega
end
end K17
namespace K17
open PySem L2 Evl Gr StX EnT MkS StK ClX ClK RdX OwX OwC Kn
/-! ### groups of one and of three -/
def okG1 (ps : List Ph) : Prop := ps = [(false, []), (true, [[1]])]
theorem g1_ok : PlOk [(false, []), (true, [[1]])] := by
  refine ⟨by decide, by decide, ⟨_, List.mem_cons_self, rfl⟩, ?_⟩
  unfold NoTell
  decide +kernel
def okG3 (ps : List Ph) : Prop := ps = [(false, []), (false, []), (false, []), (true, [[1, 2, 3]])]
theorem g3_ok : PlOk [(false, []), (false, []), (false, []), (true, [[1, 2, 3]])] := by
  refine ⟨by decide, by decide, ⟨_, List.mem_cons_self, rfl⟩, ?_⟩
  unfold NoTell
  decide +kernel
section
variable {P : Program} {w : World} {K : PySem.W.Frag} {mg : Str → Option Value} {base : Heap}
def spGrp1 (K : PySem.W.Frag) (CP C : Addr) : Sp := fun vs H Q _ => vs = [.ref CP, .int 1] ∧ RetP K CP C okG1 H Q
theorem ok_Grp1 {CP C fP fI f : Addr} {fd : FuncData} (F : Fun K "groups" "Plan.groups" (sPl 3) f fd) (G : GPl P w K mg base CP C fP fI) (S : GlbS mg) (GW : Gfn P w K mg base 2 "is_within" ["value", "least", "most"] (spWithin K)) : FnOk P w K mg base CX0 6 f fd ["cls", "size"] (spGrp1 K CP C) := by
  obtain ⟨fW, fdW, GW, kW, bW, gW⟩ := GW
  refine F.ok scGrp (fun vs H Q E h => ?_) (fun cdv A outer s H vs Q E hr h => ?_)
  · obtain ⟨rfl, _⟩ := h
    rfl
  · obtain ⟨rfl, k⟩ := h
    refine ⟨_, (pss_cons (ps_if (pt_not (pt_val (pe_call GW (hr.mono (by decide)) (by rfl) gW kW bW .nil pass0 (pa_cons (pv 1) (pa_cons pe_int (pa_cons pe_int pa_nil)))))) (pss_one ps_no) pss_nil)
      (pss_cons (ps_setLc (te := tMakeR C (fun vs H Q E => starSp (spPh K C) vs (.bl false) H Q E) E0 tNil) (i := 2) (own := [("_", 3)]) (g := gName 3) rfl scGrp.nd rfl rfl (by rfl) (pi_range1 (by rfl) S.range (pa_cons (pv 1) pa_nil)) (blkOk_by (own := [("_", 3)]) (N := nGrp) (sc := defScope (sPl 3)) (by decide +kernel)) (fun _ _ _ _ _ => pg_name (i := 3) scGrp.nd rfl (Or.inl rfl)) (fun _ _ _ _ _ => pts_nil)
        (fun _ _ _ _ _ => pe_makeR0 (E := E0) G.mC G.initD hr (by rfl) G.gC pass0))
      (pss_cons (ps_expr (pe_bm PySem.F.plainAttrs_list PySem.F.slot_list_append PySem.F.type_list_append mt_append (pv 2) (pa_cons (pe_makeSK (E := E0) G.mC G.initK hr (by rfl) G.gC pass0 (pa_cons (pe_tupRg rfl (by rfl) S.tuple (prg_2 (by rfl) S.range pe_int (pe_op op_add (pv 1) pe_int))) pa_nil) (pk_cons pe_bl pk_nil)) pa_nil)))
      (pss_one (ps_ret (pe_makeLS (i := 0) (E := E0) G.mP G.initP (hr.mono (by decide)) rfl (.inl rfl) pass0 (pv 2))))))), ?_⟩
    refine q_when (b := false) (et_is (et_not (et_B (ev_call (z := .bl true) (ea_cons (ev_var rfl) (ea_cons ev_c (ea_cons ev_c ea_nil))) fun H1 e1 Q1 q1 E1 => .inl ⟨1, 1, 3, rfl, q1⟩))) rfl) (fun z => absurd z (by decide)) (fun _ H1 e1 => ?_)
    refine q_asgR ⟨_, rfl, 1, rfl, by decide, by decide, fun D hD => ?_⟩
    refine lc_range (lo := 0) (n := 1) (fun i H' => Ex H1 H' ∧ ∃ xs, H' D = some (.lst xs) ∧ xs.length = i ∧ PRow K C H' xs (List.replicate i (false, []))) ⟨Ex.new hD, [], upd_same, rfl, prow_nil⟩ (fun i H' hi h => ?_) (fun H' h => ?_)
    · obtain ⟨h1, xs, h2, h3, h4⟩ := h
      refine ⟨rfl, yes_i (A := fun H3 => _) ?_⟩
      refine ep_one (H := H') (ep_D ear_nil ⟨fun l hl => (by cases hl), by decide⟩ List.nodup_nil) (Ex.refl H') fun o H3 e3 ho => ⟨xs, e3 _ _ h2, sz_lt (by omega), Ex.mut (h1.trans e3) hD, xs ++ [.ref o], upd_same, by rw [List.length_append, h3]; rfl, ?_⟩
      rw [List.replicate_succ']
      exact prow_updL (prow_snoc (h4.mono e3) ho) (e3 _ _ h2)
    · obtain ⟨h1, xs, h2, h3, h4⟩ := h
      refine ⟨_, rfl, Or.inl ⟨rfl, xs, sq_of h2⟩, ?_⟩
      refine ep_K (K := K) (C := C) (m := true) (ss := [[1]]) (ear_new (l := [1]) (eu_rg (a := 1) (b := 2) ev_c (ev_op (x := .int 1) (y := .int 1) (ev_var rfl) ev_c rv_I0) (RgOk.of_le (by decide) (by decide) (by decide) (by decide))) ear_nil) (ea_cons ev_c ea_nil) ⟨fun l hl => ?_, by decide⟩ (by decide) H' (Ex.refl H') _ fun o ss H3 e3 ho pm => ⟨D, xs, .ref o, rfl, rfl, e3 _ _ h2, sz_lt (by omega), ?_⟩
      · rw [List.mem_singleton.mp hl]
        exact ⟨by decide, by decide, by decide, by decide⟩
      · have e1' : ss = [[1]] := pm.eq_singleton
        subst e1'
        have row := prow_updL (u := .lst (xs ++ [.ref o])) (prow_snoc (h4.mono e3) ho) (e3 _ _ h2)
        have hD3 : (upd H3 D (.lst (xs ++ [.ref o]))) D = some (.lst (xs ++ [.ref o])) := upd_same
        have E3 : Ex H (upd H3 D (.lst (xs ++ [.ref o]))) := e1.trans (Ex.mut (h1.trans e3) hD)
        generalize upd H3 D (.lst (xs ++ [.ref o])) = H4 at row hD3 E3 ⊢
        dsimp only
        refine s_retR ?_
        refine ⟨rfl, _, rfl, D, xs ++ [.ref o], rfl, .inr (sq_of hD3), fun x dx hx hd hn => ?_⟩
        exact pl_told hx hd hn row g1_ok fun o' H5 e5 at_ => k o' _ H5 (E3.trans e5) at_ rfl
def spGrp3 (K : PySem.W.Frag) (CP C : Addr) : Sp := fun vs H Q _ => vs = [.ref CP, .int 3] ∧ RetP K CP C okG3 H Q
theorem ok_Grp3 {CP C fP fI f : Addr} {fd : FuncData} (F : Fun K "groups" "Plan.groups" (sPl 3) f fd) (G : GPl P w K mg base CP C fP fI) (S : GlbS mg) (GW : Gfn P w K mg base 2 "is_within" ["value", "least", "most"] (spWithin K)) : FnOk P w K mg base CX0 6 f fd ["cls", "size"] (spGrp3 K CP C) := by
  obtain ⟨fW, fdW, GW, kW, bW, gW⟩ := GW
  refine F.ok scGrp (fun vs H Q E h => ?_) (fun cdv A outer s H vs Q E hr h => ?_)
  · obtain ⟨rfl, _⟩ := h
    rfl
  · obtain ⟨rfl, k⟩ := h
    refine ⟨_, (pss_cons (ps_if (pt_not (pt_val (pe_call GW (hr.mono (by decide)) (by rfl) gW kW bW .nil pass0 (pa_cons (pv 1) (pa_cons pe_int (pa_cons pe_int pa_nil)))))) (pss_one ps_no) pss_nil)
      (pss_cons (ps_setLc (te := tMakeR C (fun vs H Q E => starSp (spPh K C) vs (.bl false) H Q E) E0 tNil) (i := 2) (own := [("_", 3)]) (g := gName 3) rfl scGrp.nd rfl rfl (by rfl) (pi_range1 (by rfl) S.range (pa_cons (pv 1) pa_nil)) (blkOk_by (own := [("_", 3)]) (N := nGrp) (sc := defScope (sPl 3)) (by decide +kernel)) (fun _ _ _ _ _ => pg_name (i := 3) scGrp.nd rfl (Or.inl rfl)) (fun _ _ _ _ _ => pts_nil)
        (fun _ _ _ _ _ => pe_makeR0 (E := E0) G.mC G.initD hr (by rfl) G.gC pass0))
      (pss_cons (ps_expr (pe_bm PySem.F.plainAttrs_list PySem.F.slot_list_append PySem.F.type_list_append mt_append (pv 2) (pa_cons (pe_makeSK (E := E0) G.mC G.initK hr (by rfl) G.gC pass0 (pa_cons (pe_tupRg rfl (by rfl) S.tuple (prg_2 (by rfl) S.range pe_int (pe_op op_add (pv 1) pe_int))) pa_nil) (pk_cons pe_bl pk_nil)) pa_nil)))
      (pss_one (ps_ret (pe_makeLS (i := 0) (E := E0) G.mP G.initP (hr.mono (by decide)) rfl (.inl rfl) pass0 (pv 2))))))), ?_⟩
    refine q_when (b := false) (et_is (et_not (et_B (ev_call (z := .bl true) (ea_cons (ev_var rfl) (ea_cons ev_c (ea_cons ev_c ea_nil))) fun H1 e1 Q1 q1 E1 => .inl ⟨3, 1, 3, rfl, q1⟩))) rfl) (fun z => absurd z (by decide)) (fun _ H1 e1 => ?_)
    refine q_asgR ⟨_, rfl, 3, rfl, by decide, by decide, fun D hD => ?_⟩
    refine lc_range (lo := 0) (n := 3) (fun i H' => Ex H1 H' ∧ ∃ xs, H' D = some (.lst xs) ∧ xs.length = i ∧ PRow K C H' xs (List.replicate i (false, []))) ⟨Ex.new hD, [], upd_same, rfl, prow_nil⟩ (fun i H' hi h => ?_) (fun H' h => ?_)
    · obtain ⟨h1, xs, h2, h3, h4⟩ := h
      refine ⟨rfl, yes_i (A := fun H3 => _) ?_⟩
      refine ep_one (H := H') (ep_D ear_nil ⟨fun l hl => (by cases hl), by decide⟩ List.nodup_nil) (Ex.refl H') fun o H3 e3 ho => ⟨xs, e3 _ _ h2, sz_lt (by omega), Ex.mut (h1.trans e3) hD, xs ++ [.ref o], upd_same, by rw [List.length_append, h3]; rfl, ?_⟩
      rw [List.replicate_succ']
      exact prow_updL (prow_snoc (h4.mono e3) ho) (e3 _ _ h2)
    · obtain ⟨h1, xs, h2, h3, h4⟩ := h
      refine ⟨_, rfl, Or.inl ⟨rfl, xs, sq_of h2⟩, ?_⟩
      refine ep_K (K := K) (C := C) (m := true) (ss := [[1, 2, 3]]) (ear_new (l := [1, 2, 3]) (eu_rg (a := 1) (b := 4) ev_c (ev_op (x := .int 3) (y := .int 1) (ev_var rfl) ev_c rv_I0) (RgOk.of_le (by decide) (by decide) (by decide) (by decide))) ear_nil) (ea_cons ev_c ea_nil) ⟨fun l hl => ?_, by decide⟩ (by decide) H' (Ex.refl H') _ fun o ss H3 e3 ho pm => ⟨D, xs, .ref o, rfl, rfl, e3 _ _ h2, sz_lt (by omega), ?_⟩
      · rw [List.mem_singleton.mp hl]
        exact ⟨by decide, by decide, by decide, by decide⟩
      · have e1' : ss = [[1, 2, 3]] := pm.eq_singleton
        subst e1'
        have row := prow_updL (u := .lst (xs ++ [.ref o])) (prow_snoc (h4.mono e3) ho) (e3 _ _ h2)
        have hD3 : (upd H3 D (.lst (xs ++ [.ref o]))) D = some (.lst (xs ++ [.ref o])) := upd_same
        have E3 : Ex H (upd H3 D (.lst (xs ++ [.ref o]))) := e1.trans (Ex.mut (h1.trans e3) hD)
        generalize upd H3 D (.lst (xs ++ [.ref o])) = H4 at row hD3 E3 ⊢
        dsimp only
        refine s_retR ?_
        refine ⟨rfl, _, rfl, D, xs ++ [.ref o], rfl, .inr (sq_of hD3), fun x dx hx hd hn => ?_⟩
        exact pl_told hx hd hn row g3_ok fun o' H5 e5 at_ => k o' _ H5 (E3.trans e5) at_ rfl
end
end K17
namespace L2
open PySem PySem.Spec PyProof.Rows
/-! ### defs that are called where no repr runs (the law, and what it calls): FnG -/
def Qt (A : Around) : Prop := A.guards = some []
theorem Qt.deeper {A : Around} (h : Qt A) (env : Env) : Qt (A.deeper env) := h
structure FnG (P : Program) (w : World) (K : PySem.W.Frag) (mg : Str → Option Value) (base : Heap) (k : Nat) (f : Addr) (fd : FuncData) (ps : List Str) (sp : Sp) : Prop where
  len : ∀ vs H Q E, sp vs H Q E → vs.length = ps.length
  run : ∀ (A : Around) (outer : List Env) (s : Shared) (H : Hp) (args : Args) (us : List Value) (vs : List V) (Q : VK) (E : XK), Qt A → Room k A → Env0 P w K mg base A outer s H → BindsTo s fd args (ps.zip us) → Vals vs us → sp vs H Q E →
    codeAny (model P w) A (.call (.ref f) args) (CR CX0 outer P w H s Q E) s
/-- a def whose body is walked where no repr runs -/
theorem fnG_of {P : Program} {w : World} {K : PySem.W.Frag} {mg : Str → Option Value} {base : Heap} {k : Nat} {f : Addr} {fd : FuncData} {x qual : Str} {st : Stmt} {N ps : List Str} {sp : Sp} (F : Fun K x qual st f fd) (S : FnScope N ps (defScope st))
    (len : ∀ vs H Q E, sp vs H Q E → vs.length = ps.length)
    (hbody : ∀ (cdv : Value) (A : Around) (outer : List Env) (s : Shared) (H : Hp) (vs : List V) (Q : VK) (E : XK), Qt A → Room k (A.deeper (envOfC qual (defScope st) s.heap.objs.size f cdv)) → sp vs H Q E →
      ∃ t, PSs (cxOf CX0 P w K mg base N qual (defScope st) f cdv A outer s H E).nox (defBody st) t ∧ t { nx := fun _ H' => Q .non H', rt := Q } (start N vs) H) : FnG P w K mg base (k + 1) f fd ps sp := by
  obtain ⟨oc, od, kV, doc, pm, an, cdv, ct, osl, rfl, lk, hcd⟩ := F.ex
  refine ⟨len, fun A outer s H args us vs Q E gd room e0 bound rel hsp => ?_⟩
  obtain ⟨t, ht, hq⟩ := hbody cdv A outer s H vs Q E gd (room.deeper _) hsp
  have many := len _ _ _ _ hsp
  have inK : K.In s.heap := e0.mod.kin.keeps fun b o e => (e0.bs b o e).1
  have free : s.heap.NoLimit := e0.mod.nolimit.keeps fun b o e => (e0.bs b o e).1
  refine codeAny_call_function room.depth (inK _ _ lk) rfl S.co S.gen rfl (PySem.W.codeRec_of inK hcd) (bound _ _ _ _ ?_)
  have kinds : ∀ y ∈ ps.zip us, (defScope st).names.lookup y.1 = some .local ∨ ((defScope st).names.lookup y.1 = some .cell ∧ ((cellsFrom (s.heap.objs.size + 1) (defScope st).names []).lookup y.1).isSome = true) := by
    rintro ⟨n, v⟩ hy
    exact (S.par n (List.of_mem_zip hy).1).imp id fun q => ⟨q, PySem.W.cellsFrom_some _ _ _ (.inl q)⟩
  refine wpAny_newFunctionEnv_cells S.kind kinds fun env he s1 x => ?_
  cases he
  refine ⟨free.keeps x.toInCall.keep, codeAny_func ?_⟩
  refine wpAny_mono (ht.nox.run [] s1 (start N vs) H _ (inv_start S room.hd e0 many rel x) hq) (fun fl s' hs => ?_) fun e s' hs => hs
  cases fl with
  | ret u =>
    obtain ⟨v, σ', H', J, rv, q⟩ := hs
    exact ⟨v, H', J.os, J.bare, J.base, J.hok, rv, q⟩
  | next =>
    obtain ⟨σ', H', J, q⟩ := hs
    exact ⟨V.non, H', J.os, J.bare, J.base, J.hok, rfl, q⟩
  | brk => exact (hs.choose_spec.choose_spec.2).elim
  | cont => exact (hs.choose_spec.choose_spec.2).elim
section
variable {X : Cx} {k : Nat} {f : Addr} {fd : FuncData} {ps : List Str} {sp : Sp} {x : Str} {p pos : Pos} {e : Expr} {es : List Expr} {t : TA}
theorem pe_callG (F : FnG X.prog X.w X.K X.mg X.base k f fd ps sp) (gd : Qt X.A) (hr : Room k X.A) (hg : Gl X x) (hm : X.mg x = some (.ref f)) (hk : PySem.W.keepIn X.K (.ref f) = true) (hb : Binds X.K fd ps [])
    (ha : PA X (e :: es) t) (hdb : (x == ("__debug__" : Str)) = false := by decide) (he : starEach (e :: es) X.env = (false, eval e X.env) :: starEach es X.env := by rfl) (hpl : (backTo pos (starEach es X.env)).any (·.1) = false := by rfl) :
    PE X (.Call (.Name x p) (e :: es) [] pos) (tCall sp [] E0 t) := by
  refine ⟨fun pins s σ H Q I h => ?_⟩
  refine wpAny_Call_Name_kw (ld_glob I hg hm ?_ hdb)
  refine PySem.W.callWith_K (h₀ := X.base) I.ok.mod.kin hk (thn (ha.run pos pins s σ H _ I h) fun us s1 ⟨vs, H1, I1, r, q⟩ => ⟨I1.kIn, ?_⟩) he hpl
  have q0 : sp vs H1 Q E0 := by simpa using q
  have many : us.length = ps.length := r.length.symm.trans (F.len _ _ _ _ q0)
  have bd : BindsTo s1 fd ⟨us, []⟩ (ps.zip us) := by simpa using hb s1 us I1.kIn (by simpa using many)
  show wpAny _ _ (call (.ref f) us) _ _ _
  refine wpAny_call (codeAny_mono (F.run X.A X.stack s1 H1 ⟨us, []⟩ us vs Q E0 gd hr I1.env0 bd r q0) fun res s' hq => ?_)
  cases res with
  | error er => exact (show False from hq).elim
  | ok fl =>
    cases fl with
    | next => exact False.elim hq
    | brk => exact False.elim hq
    | cont => exact False.elim hq
    | ret u => exact I1.after hq
end

/-! ### repr of data -/
mutual
inductive Ds (K : PySem.W.Frag) (H : Hp) : V → PyData → Prop
  | non : Ds K H .non .none
  | bl (b : Bool) : Ds K H (.bl b) (.bool b)
  | int (i : Int) : Ds K H (.int i) (.int i)
  | str (x : Str) : Ds K H (.str x) (.str x)
  | lst {a : Addr} {xs : List V} {ds : List PyData} : SqL K H a xs → a ≠ sysModules → DsAll K H xs ds → Ds K H (.ref a) (.list ds)
  | tup {a : Addr} {xs : List V} {ds : List PyData} : SqT K H a xs → DsAll K H xs ds → Ds K H (.ref a) (.tuple ds)
  | one {a : Addr} {x : Str} {i : Int} : H a = some (.dK [(.inr x, .int i)]) → Ds K H (.ref a) (.dict [(.str x, .int i)])
  | emp {a : Addr} : H a = some (.dK []) → Ds K H (.ref a) (.dict [])
inductive DsAll (K : PySem.W.Frag) (H : Hp) : List V → List PyData → Prop
  | nil : DsAll K H [] []
  | cons {v : V} {vs : List V} {d : PyData} {ds : List PyData} : Ds K H v d → DsAll K H vs ds → DsAll K H (v :: vs) (d :: ds)
end
section
variable {X : Cx} {pins : List (Addr × Obj)} {σ : St} {H : Hp} {s : Shared}
theorem pairs_one {P : Program} {w : World} {x : Str} {i : Int} {es : List DictEntry} {vs : List (Key × Value)} (hp : Pairs (mixKind P w) es vs) (kv : KV [((Sum.inr x : Key), V.int i)] vs) (h : Heap) :
    ReadsAll h (es.map (·.key)) [.str x] [] ∧ ReadsAll h (es.map (·.val)) [.int i] [] := by
  cases kv with
  | cons k1 k2 =>
    cases k2
    rename_i q
    obtain ⟨k, u⟩ := q
    obtain ⟨e1, e2⟩ := k1
    simp only at e1 e2
    subst e1
    obtain ⟨t, rfl⟩ := e2
    cases hp with
    | cons i1 i2 i3 =>
      rename_i e es'
      cases i3
      rcases keyIs_shape (show keyIs (Sum.inr x) e.key = true from i1) with ⟨j, t', e3, e4⟩ | ⟨y, t', e3, e4⟩
      · cases e3
      · cases e3
        rw [List.map_cons, List.map_nil, e4, List.map_cons, List.map_nil, i2]
        exact ⟨ReadsAll.cons (as := []) (bs := []) (Reads.str x t') ReadsAll.nil, ReadsAll.cons (as := []) (bs := []) (Reads.int i t) ReadsAll.nil⟩
theorem pairs_nil {P : Program} {w : World} {es : List DictEntry} (hp : Pairs (mixKind P w) es ([] : List (Key × Value))) (h : Heap) : ReadsAll h (es.map (·.key)) [] [] ∧ ReadsAll h (es.map (·.val)) [] [] := by
  cases hp
  exact ⟨ReadsAll.nil, ReadsAll.nil⟩
mutual
theorem Ds.reads (I : Inv X pins σ H s) : ∀ (d : PyData) (v : V) (u : Value), Ds X.K H v d → RelV v u → ∃ as, Reads s.heap u d as ∧ sysModules ∉ as
  | .none, _, _, h, r => by
    cases h
    cases r
    exact ⟨_, Reads.none, by simp⟩
  | .bool b, _, _, h, r => by
    cases h
    cases r
    exact ⟨_, Reads.bool b, by simp⟩
  | .int i, _, _, h, r => by
    cases h
    obtain ⟨t, rfl⟩ := r
    exact ⟨_, Reads.int i t, by simp⟩
  | .str x, _, _, h, r => by
    cases h
    obtain ⟨t, rfl⟩ := r
    exact ⟨_, Reads.str x t, by simp⟩
  | .list ds, _, _, h, r => by
    cases h with
    | lst hs hne ha =>
      cases r
      obtain ⟨its, rv, ⟨o, n, ho, hc, _, hd⟩, _⟩ := I.list hs
      obtain ⟨as, hr, hq⟩ := Ds.readsAll I ds _ its ha rv
      exact ⟨_, Reads.list ho hc hd hr, by simp only [List.mem_cons, not_or]; exact ⟨Ne.symm hne, hq⟩⟩
  | .tuple ds, _, _, h, r => by
    cases h with
    | tup hs ha =>
      cases r
      obtain ⟨its, rv, ⟨o, ho, hc, n, hd⟩, _⟩ := I.tuple hs
      obtain ⟨as, hr, hq⟩ := Ds.readsAll I ds _ its ha rv
      exact ⟨_, Reads.tuple ho hc hd hr, hq⟩
  | .dict _, _, _, h, r => by
    cases h with
    | @one a x i h =>
      cases r
      obtain ⟨_, ns, vs, kv, o, es, ep, ho, hx, hd, _, hp, _⟩ := (show ObjOk X.prog X.w H s.heap a (.dK [(.inr x, .int i)]) from I.hok a _ h)
      obtain ⟨r1, r2⟩ := pairs_one hp kv s.heap
      exact ⟨_, Reads.dict ho hx.1 hd r1 r2, by
        simp only [List.append_nil, List.mem_cons, List.not_mem_nil, or_false]
        exact fun z => absurd (beq_iff_eq.mpr z.symm) (by rw [ns]; decide)⟩
    | @emp a h =>
      cases r
      obtain ⟨_, ns, vs, kv, o, es, ep, ho, hx, hd, _, hp, _⟩ := (show ObjOk X.prog X.w H s.heap a (.dK []) from I.hok a _ h)
      cases kv
      obtain ⟨r1, r2⟩ := pairs_nil hp s.heap
      exact ⟨_, Reads.dict ho hx.1 hd r1 r2, by
        simp only [List.append_nil, List.mem_cons, List.not_mem_nil, or_false]
        exact fun z => absurd (beq_iff_eq.mpr z.symm) (by rw [ns]; decide)⟩
theorem Ds.readsAll (I : Inv X pins σ H s) : ∀ (ds : List PyData) (vs : List V) (us : List Value), DsAll X.K H vs ds → Vals vs us → ∃ as, ReadsAll s.heap us ds as ∧ sysModules ∉ as
  | [], _, _, h, r => by
    cases h
    cases r
    exact ⟨_, ReadsAll.nil, by simp⟩
  | d :: ds, _, _, h, r => by
    cases h with
    | cons h1 h2 =>
      cases r with
      | cons r1 r2 =>
        obtain ⟨as, q1, n1⟩ := Ds.reads I d _ _ h1 r1
        obtain ⟨bs, q2, n2⟩ := Ds.readsAll I ds _ _ h2 r2
        exact ⟨_, ReadsAll.cons q1 q2, by rw [List.mem_append]; exact fun z => z.elim n1 n2⟩
end
end
/-- repr(x), x such data -/
def rRepr (K : PySem.W.Frag) : List V → Hp → VK → Prop := fun xs H Q => ∃ (x : V) (d : PyData), xs = [x] ∧ Ds K H x d ∧ d.showable = true ∧ d.depth ≤ 60 ∧ d.shown.length ≤ sizeLine ∧ Q (.str d.shown) H
theorem call_reprD {X : Cx} (gd : Qt X.A) (hu : X.A.units + 64 < cLine) : CallR X (.builtin "repr") (rRepr X.K) := by
  intro pins s σ H xs us Q I r h
  obtain ⟨x, d, rfl, hd, sh, dp, sz, q⟩ := h
  obtain ⟨u, rfl, ru⟩ := vals1 r
  obtain ⟨as, rd, ns⟩ := Ds.reads I d x u hd ru
  cases rd with
  | none => exact PySem.P.repr_of_none ⟨.str _, H, I.tok _, ⟨_, rfl⟩, q⟩
  | bool b => exact PySem.P.repr_of_bool ⟨.str _, H, I.tok _, ⟨_, rfl⟩, q⟩
  | int i t => exact PySem.P.repr_of_int (of_decide_eq_true sh) ⟨.str _, H, I.tok _, ⟨_, rfl⟩, q⟩
  | str z t => exact PySem.P.repr_of_str ⟨.str _, H, I.tok _, ⟨_, rfl⟩, q⟩ sz
  | list h1 h2 h3 h4 => exact repr_of_reads' (Reads.list h1 h2 h3 h4) sh (fun _ => ns) gd (by omega) (fun _ _ z => z) (fun h' u tk k => ⟨.str _, H, I.kept k, ⟨_, rfl⟩, q⟩) sz
  | tuple h1 h2 h3 h4 => exact repr_of_reads' (Reads.tuple h1 h2 h3 h4) sh (fun _ => ns) gd (by omega) (fun _ _ z => z) (fun h' u tk k => ⟨.str _, H, I.kept k, ⟨_, rfl⟩, q⟩) sz
  | dict h1 h2 h3 h4 h5 => exact repr_of_reads' (Reads.dict h1 h2 h3 h4 h5) sh (fun _ => ns) gd (by omega) (fun _ _ z => z) (fun h' u tk k => ⟨.str _, H, I.kept k, ⟨_, rfl⟩, q⟩) sz
/-- a list display, whose place is known not to be the table of modules -/
def tLstS (t : TA) : TE := fun σ H Q => t σ H fun xs H1 => xs.length ≤ sizeLine ∧ ∀ l, H1 l = none → l ≠ sysModules → Q (.ref l) (upd H1 l (.lst xs))
theorem pe_lstS {X : Cx} {es : List Expr} {t : TA} {pos : Pos} (h : PA X es t) : PE X (.List es pos) (tLstS t) := by
  refine ⟨fun pins s σ H Q I hq => ?_⟩
  refine wpAny_List_spliced (thn (h.run pos pins s σ H _ I hq) fun us s1 ⟨xs, H1, I1, r, z, q⟩ => ⟨by rw [← r.length]; exact z, ?_⟩)
  have far : s1.heap.objs.size ≠ sysModules := by
    have z1 : (3 : Nat) < X.base.objs.size := I1.mod.glob.lt
    have z2 := I1.ok.bsz
    have z3 := I1.sz
    show s1.heap.objs.size ≠ 1
    omega
  exact ⟨.ref s1.heap.objs.size, _, I1.laid (t' := s1.toks) (o := .lst xs) (fun b u e => Heap.get?_push_of_some _ e) (Nat.le_refl _) ⟨z, us, 0, r, Heap.get?_push_size _ rfl⟩, rfl, q _ (I1.hok.fresh (Nat.le_refl _)) far⟩
end L2
namespace K17
open PySem L2 Evl Gr StX EnT MkS StK ClX ClK ClW RdX OwX OwC OpX OwU ItX StS Kn
/-! ### law -/
theorem q_ifE {c : TT} {tu tz : TS} {D : Ends} {σ : L2.St} {H : Hp} (h : c σ H fun b H1 => if b = true then tu { D with nx := tz D } σ H1 else tz D σ H1) : tSeq (tIfS c tu tNext) tz D σ H := h
theorem s_ifE {c : TT} {tu : TS} {D : Ends} {σ : L2.St} {H : Hp} (h : c σ H fun b H1 => if b = true then tu D σ H1 else D.nx σ H1) : tIfS c tu tNext D σ H := h
theorem test_i {te : TE} {σ : L2.St} {H : Hp} {Q : Bool → Hp → Prop} (h : te σ H fun x H' => ∃ k, x = .bl k ∧ Q k H') : tTest te σ H Q := h
theorem B_i {te : TE} {σ : L2.St} {H : Hp} {Q : Bool → Hp → Prop} (h : te σ H fun x H' => ∃ k, x = .bl k ∧ Q k H') : tB te σ H Q := h
theorem not_i {t : TT} {σ : L2.St} {H : Hp} {Q : Bool → Hp → Prop} (h : t σ H fun c H1 => Q (!c) H1) : tNot t σ H Q := h
theorem or_E {t u : TT} {σ : L2.St} {H : Hp} {Q : Bool → Hp → Prop} (h : t σ H fun c H1 => if c = true then Q true H1 else u σ H1 Q) : tOr t u σ H Q := h
theorem LnOk.mono {n m : Nat} {z : Str} (h : LnOk n z) (l : n ≤ m) : LnOk m z := ⟨Nat.le_trans h.1 l, h.2.1, h.2.2.1, h.2.2.2⟩
theorem allM_no {ps : List Ph} (h : PlOk ps) : allM ps = false := by
  obtain ⟨_, _, ⟨p, hp, mp⟩, _⟩ := h
  obtain ⟨i, hi⟩ := List.mem_iff_getElem?.mp hp
  have lt : i < ps.length := (List.getElem?_eq_some_iff.mp hi).1
  rw [cyc_small lt] at hi
  cases c : allM ps with
  | false => rfl
  | true =>
    unfold allM at c
    rw [List.all_eq_true] at c
    have := c i (List.mem_range.mpr lt)
    rw [Option.some.inj hi, mp] at this
    exact absurd this (by decide)
theorem telB_no {ps : List Ph} (h : PlOk ps) (i : Nat) (hi : i < ps.length) : telB ps i = false := by
  obtain ⟨_, _, _, no⟩ := h
  unfold telB
  rw [List.any_eq_false]
  intro c hc
  obtain ⟨l, hl, hc⟩ := List.mem_flatMap.mp hc
  obtain ⟨a, ha, rfl⟩ := List.mem_map.mp hc
  have : gT ps i a = false := no i hi l hl a ha
  rw [this]
  decide
theorem sim_rows {ps qs : List Ph} (sim : Sim ps qs) (ok : PlnOk ps) (asc : ∀ q ∈ qs, Asc q.2) : ∀ q ∈ qs, RowG q.2 := fun q hq => by
  obtain ⟨i, hi⟩ := List.mem_iff_getElem?.mp hq
  have li : i < ps.length := by rw [← sim.1]; exact (List.getElem?_eq_some_iff.mp hi).1
  obtain ⟨_, s2⟩ := sim.2 i _ q (List.getElem?_eq_getElem li) hi
  have sms := ok.2.2.2.2 _ (List.getElem_mem li)
  have g := sms_ok sms
  exact ⟨fun l hl => g.1 l (s2.mem_iff.mp hl), by rw [s2.length_eq]; exact g.2, strict_of (asc q hq) (s2.nodup_iff.mpr sms.1)⟩
theorem pln_rw {ps : List Ph} (ok : PlnOk ps) : RwOk ps := ⟨ok.1, by have := ok.2.1; omega, fun p hp => ⟨sms_ok (ok.2.2.2.2 p hp), (ok.2.2.2.2 p hp).1⟩⟩
theorem ph_keep {K : PySem.W.Frag} {C : Addr} {p l : Addr} {cells : List Int} {m : Nat} {H H' : Hp} {o : Addr} {q : Ph} (h : PhAt K C H o q) (hP : PenAt H p l cells m) (kp : Keep p H H') : PhAt K C H' o q := by
  obtain ⟨dx, r, xs, h1, h2, h3, h4⟩ := h
  obtain ⟨ys, hp⟩ : ∃ ys, H p = some (.lst ys) := by obtain ⟨_, _, z, _⟩ := hP; exact ⟨_, z⟩
  exact ⟨dx, r, xs, kp _ _ h1 (fun z => by rw [z, hp] at h1; cases h1), sqt_keep hP kp h2, h3.keep hP kp, h4⟩
theorem pl_keep {K : PySem.W.Frag} {CP C : Addr} {p l : Addr} {cells : List Int} {m : Nat} {H H' : Hp} {o : Addr} {ps : List Ph} (h : PlAt K CP C H o ps) (hP : PenAt H p l cells m) (kp : Keep p H H') : PlAt K CP C H' o ps := by
  obtain ⟨dx, r, xs, h1, h2, h3, h4⟩ := h
  obtain ⟨ys, hp⟩ : ∃ ys, H p = some (.lst ys) := by obtain ⟨_, _, z, _⟩ := hP; exact ⟨_, z⟩
  refine ⟨dx, r, xs, kp _ _ h1 (fun z => by rw [z, hp] at h1; cases h1), sqt_keep hP kp h2, ⟨h3.1, fun i x q hx hq => ?_⟩, h4⟩
  obtain ⟨b, b1, b2⟩ := h3.2 i x q hx hq
  exact ⟨b, b1, ph_keep b2 hP kp⟩
def six : List Str := ["", "mute", "row 1 / mute", "row / mute 1", "row 1 2 3 4 1+2", "row / row / row / row / row"]
theorem six_ok : ∀ z ∈ six, LnOk 60 z := by unfold LnOk Wrd; decide +kernel
def four : List Str := ["row", "row 1 2", "row / row / row / mute 1+2+3", "row / mute 1"]
theorem four_ok : ∀ z ∈ four, PyData.strOk z = true := by decide +kernel
theorem tx_plain {ps : List Ph} (h : okPlain ps) : txP ps = "row" := by rw [h]; decide +kernel
theorem tx_g1 {ps : List Ph} (h : okG1 ps) : txP ps = "row / mute 1" := by rw [h]; decide +kernel
theorem tx_g3 {ps : List Ph} (h : okG3 ps) : txP ps = "row / row / row / mute 1+2+3" := by rw [h]; decide +kernel
theorem tx_copies {ps : List Ph} (h : okCopies [2, 1] ps) (a : ∀ q ∈ ps, Asc q.2) : txP ps = "row 1 2" := by
  obtain ⟨ss, rfl, pm⟩ := h
  have s : Asc ss := a _ List.mem_cons_self
  have t : Asc [[1], [2]] := by unfold Asc; decide +kernel
  obtain rfl : ss = [[1], [2]] := asc_one t s (pm.trans (List.Perm.swap [1] [2] []))
  decide +kernel
section
variable {K : PySem.W.Frag} {CP C : Addr} {σ : L2.St} {H : Hp} {te t : TE} {R : List Ph → Prop} {z : Str}
abbrev rStrO (X : Cx) (C : Addr) (sp : Sp) (E : XK) : List V → Hp → VK → Prop := fun xs H Q => ∃ a, xs = [.ref a] ∧ InsC X H a C ∧ sp [.ref a] H (fun v H' => ∃ y, v = .str y ∧ Q v H') E
theorem ev_strP {X : Cx} (h : EvPl X.K CP C te σ H R) (tx : ∀ ps, R ps → (∀ q ∈ ps, Asc q.2) → txP ps = z) : Ev (tCB (rStrO X CP (spStr X.K CP C) E0) (tCons te tNil)) σ H (.str z) := fun H1 e Q q =>
  h H1 e _ fun o ps H2 e2 at_ r => ⟨o, rfl, .inr at_.ins, o, ps, rfl, at_, fun H3 e3 => ⟨_, rfl, by rw [tx ps r (pl_asc at_)]; exact q H3 (e2.trans e3)⟩⟩
end
section
variable {P : Program} {w : World} {K : PySem.W.Frag} {mg : Str → Option Value} {base : Heap}
abbrev sLaw : Stmt := top 38
abbrev nLaw : List Str := ["_law_script", "_law_pen_here", "_law_lap", "_law_plain_here", "_law_made", "_law_line", "_law_again", "_law_some"]
def spLaw (K : PySem.W.Frag) : Sp := fun vs H Q _ => ∃ (a : Addr) (ns : List Int), vs = [.ref a] ∧ SqL K H a (ns.map V.int) ∧ ns.length ≤ 63 ∧ ∀ H', Q (.bl true) H'
theorem scLaw : FnScope nLaw ["_law_script"] (defScope sLaw) := ⟨rfl, rfl, rfl, by decide +kernel, rfl, by decide +kernel, by decide +kernel⟩
theorem ok_Law {CP C CT CB fE fQ fL fI fG fC pC fN pN pG mG pR fR fS f : Addr} {mc : Value} {fd edE fdG fdR fdS : FuncData} (F : Fun K "law" "law" sLaw f fd) (T : GlbT mg) (S : GlbS mg) (N : PName K mg CP mc) (R : RtK P w K mg base CP C fE fQ fL fI fG edE)
    (hC : CMet K CP mc "copies" pC fC) (FC : FnR P w K mg base CX0 6 fC (spCopA K CP C)) (hN : CMet K CP mc "plain" pN fN) (FN : FnR P w K mg base CX0 6 fN (spPlain K CP C))
    (hGr : CMet K CP mc "groups" pG mG) (G3 : FnR P w K mg base CX0 6 mG (spGrp3 K CP C)) (G1 : FnOk P w K mg base CX0 6 mG fdG ["cls", "size"] (spGrp1 K CP C)) (kG : KBn K fdG ["cls", "size"] 1 ["size"] (fun us ws => us ++ ws) (fun vs zs => vs ++ zs))
    (hR : CMet K CP mc "read" pR fR) (FR : FnOk P w K mg base (L2.CX P w) 6 fR fdR ["cls", "text"] (spRd K CP C CT CB)) (kR : KBn K fdR ["cls", "text"] 1 ["text"] (fun us ws => us ++ ws) (fun vs zs => vs ++ zs))
    (hS : StrIn K CP fS) (FS : FnOk P w K mg base CX0 2 fS fdS ["self"] (spStr K CP C)) (bS : Binds K fdS ["self"] [])
    (nfS : PySem.W.notFirst K CP (.type "str") = true) (kS : PySem.W.kitOne K (.type "str") (.ref CP) = some false)
    (GPe : Gfn P w K mg base 1 "_law_pen" ["_law_script"] (spPen K)) (GPn : Gfn P w K mg base 4 "_law_plain" ["_law_pen_here"] spPln) (GPa : Gfn P w K mg base 7 "_law_plan" ["_law_plain_here"] (spPla K CP C)) (GTx : Gfn P w K mg base 2 "_law_text" ["_law_plain_here"] spLt)
    (GRt : Gfn P w K mg base 8 "_law_right" ["_law_plain_here"] spRt) (GRr : Gfn P w K mg base 7 "_law_read_right" ["_law_line"] (spRr 60)) (GB1 : Gfn P w K mg base 3 "_law_bent" ["_law_pen_here", "_law_line"] (spBt 24)) (GB2 : Gfn P w K mg base 3 "_law_bent" ["_law_pen_here", "_law_line"] (spBt 25)) :
    FnG P w K mg base 9 f fd ["_law_script"] (spLaw K) := by
  obtain ⟨f1, fd1, O1, k1, b1, g1⟩ := GPe
  obtain ⟨f4, fd4, O4, k4, b4, g4⟩ := GPn
  obtain ⟨f5, fd5, O5, k5, b5, g5⟩ := GPa
  obtain ⟨f6, fd6, O6, k6, b6, g6⟩ := GTx
  obtain ⟨f7, fd7, O7, k7, b7, g7⟩ := GRt
  obtain ⟨f8, fd8, O8, k8, b8, g8⟩ := GRr
  obtain ⟨f9, fd9, O9, k9, b9, g9⟩ := GB1
  obtain ⟨fA, fdA, OA, kA, bA, gA⟩ := GB2
  refine fnG_of F scLaw (fun vs H Q E h => ?_) (fun cdv A outer s H vs Q E gd hr h => ?_)
  · obtain ⟨a, ns, rfl, _⟩ := h
    rfl
  · obtain ⟨a, ns, rfl, hS0, h63, k⟩ := h
    have r1 := hr.mono (show 1 ≤ 8 by decide)
    have r2 := hr.mono (show 2 ≤ 8 by decide)
    have r3 := hr.mono (show 3 ≤ 8 by decide)
    have r4 := hr.mono (show 4 ≤ 8 by decide)
    have r6 := hr.mono (show 6 ≤ 8 by decide)
    have r7 := hr.mono (show 7 ≤ 8 by decide)
    refine ⟨_, (pss_cons (ps_set (i := 1) scLaw.nd rfl (.inl rfl) (pe_call O1 r1 (by rfl) g1 k1 b1 .nil pass0 (pa_cons (pv 0) pa_nil)))
      (pss_cons (ps_for PassesOwn.never rfl (pi_range1 (by rfl) S.range (pa_cons pe_int pa_nil)) (pg_name (i := 2) scLaw.nd rfl (.inl rfl))
        (pss_cons (ps_set (i := 3) scLaw.nd rfl (.inl rfl) (pe_call O4 r4 (by rfl) g4 k4 b4 .nil pass0 (pa_cons (pv 1) pa_nil)))
      (pss_cons (ps_par (i := 4) (j := 5) rfl scLaw.nd rfl rfl (by decide) rfl rfl (pa_cons (pe_call O5 r7 (by rfl) g5 k5 b5 .nil pass0 (pa_cons (pv 3) pa_nil)) (pa_cons (pe_call O6 r2 (by rfl) g6 k6 b6 .nil pass0 (pa_cons (pv 3) pa_nil)) pa_nil)) (by rfl))
      (pss_cons (ps_if (PW.pt (pw_or (pt_not (pt_val (pe_call O7 hr (by rfl) g7 k7 b7 .nil pass0 (pa_cons (pv 3) pa_nil))))
              (pw_or (pt_cmpR op_ne (pe_callTy (call_strI (E := E0) hS (fnR0 FS bS) r4 pass0) (by rfl) T.str (by decide +kernel) (pa_cons (pv 4) pa_nil)) (pv 5) (nomark _))
              (pw_or1 (pt_cmpR (op_neO (E := E0) R.hQ R.neP R.obP R.eqL r4 pass0) (pe_cmethK (E := E0) (pe_glob (v := .ref CP) (by rfl) N.g rfl) N.rd hR FR r6 (passN rfl rfl) kR (pk_cons (pv 5) pk_nil)) (pv 4) (nomark _)))))) (pss_one (ps_ret pe_bl)) pss_nil)
      (pss_cons (ps_for PassesOwn.never rfl (pi_range1 (by rfl) S.range (pa_cons pe_int pa_nil)) (pg_name (i := 6) scLaw.nd rfl (.inl rfl))
            (pss_one (ps_if (PW.pt (pw_or (pt_not (pt_val (pe_call O8 r7 (by rfl) g8 k8 b8 .nil pass0 (pa_cons (pe_call O9 r3 (by rfl) g9 k9 b9 .nil pass0 (pa_cons (pv 1) (pa_cons (pv 5) pa_nil))) pa_nil))))
                (pw_or1 (pt_not (pt_val (pe_call O8 r7 (by rfl) g8 k8 b8 .nil pass0 (pa_cons (pe_call OA r3 (by rfl) gA kA bA .nil pass0 (pa_cons (pv 1) (pa_cons (pe_call O9 r3 (by rfl) g9 k9 b9 .nil pass0 (pa_cons (pv 1) (pa_cons (pv 5) pa_nil))) pa_nil))) pa_nil))))))) (pss_one (ps_ret pe_bl)) pss_nil)))
      (pss_one (ps_if (PW.pt (pw_or (pt_cmpR (show OpR _ _ (rIn K true) from op_notIn_seq) (pe_cmpR (op_eqO (E := E0) (op := .Eq) (fun _ _ => rfl) R.hQ R.eqL r3 pass0) (pv 4) (pe_call O5 r7 (by rfl) g5 k5 b5 .nil pass0 (pa_cons (pe_call O4 r4 (by rfl) g4 k4 b4 .nil pass0 (pa_cons (pv 1) pa_nil)) pa_nil)) (nomark _)) (pe_tup (pa_cons pe_bl (pa_cons pe_bl pa_nil))) (by with_unfolding_all rfl))
              (pw_or1 (pt_cmpR (op_eqS (E := E0) (op := .Eq) (fun _ _ => rfl) R.hQ R.eqL r3 pass0) (pv 4) (pv 5) (nomark _))))) (pss_one (ps_ret pe_bl)) pss_nil)))))))
      (pss_cons (ps_set (i := 7) scLaw.nd rfl (.inl rfl) (pe_lst (pa_cons (pe_callTy (call_strI (E := E0) hS (fnR0 FS bS) r4 pass0) (by rfl) T.str (by decide +kernel) (pa_cons (pe_cmeth0 (E := E0) (pe_glob (v := .ref CP) (by rfl) N.g rfl) N.rd hN FN r6 pass0) pa_nil)) (pa_cons (pe_callTy (call_strI (E := E0) hS (fnR0 FS bS) r4 pass0) (by rfl) T.str (by decide +kernel) (pa_cons (pe_cmeth (E := E0) (pe_glob (v := .ref CP) (by rfl) N.g rfl) N.rd hC FC r6 pass0 (pa_cons pe_int (pa_cons pe_int pa_nil))) pa_nil)) (pa_cons (pe_callTy (call_strI (E := E0) hS (fnR0 FS bS) r4 pass0) (by rfl) T.str (by decide +kernel) (pa_cons (pe_cmeth (E := E0) (pe_glob (v := .ref CP) (by rfl) N.g rfl) N.rd hGr G3 r6 pass0 (pa_cons pe_int pa_nil)) pa_nil)) (pa_cons (pe_callTy (call_strI (E := E0) hS (fnR0 FS bS) r4 pass0) (by rfl) T.str (by decide +kernel) (pa_cons (pe_cmethK (E := E0) (pe_glob (v := .ref CP) (by rfl) N.g rfl) N.rd hGr G1 r6 pass0 kG (pk_cons pe_int pk_nil)) pa_nil)) pa_nil))))))
      (pss_cons (ps_if (pt_cmpR (op_neD hr.units) (pv 7) (pe_lst (pa_cons pe_str (pa_cons pe_str (pa_cons pe_str (pa_cons pe_str pa_nil))))) (nomark _)) (pss_one (ps_ret pe_bl)) pss_nil)
      (pss_one (ps_ret (pe_cmpR (op_eqD hr.units) (pe_lc (te := tVar 5) (own := [("_law_line", 5)]) (g := gName 5) rfl scLaw.nd (pi_list (pe_lst (pa_cons pe_str (pa_cons pe_str (pa_cons pe_str (pa_cons pe_str (pa_cons pe_str (pa_cons pe_str pa_nil)))))))) (blkOk_by (own := [("_law_line", 5)]) (N := nLaw) (sc := defScope sLaw) (by decide +kernel)) (fun _ _ _ _ _ => pg_name (i := 5) scLaw.nd rfl (Or.inl rfl))
          (fun _ _ _ _ _ => pts_one (pt_not (pt_val (pe_call O8 r7 (by rfl) g8 k8 b8 .nil pass0 (pa_cons (pv 5) pa_nil))))) (fun _ _ _ _ _ => pv 5)) (pe_lst pa_nil) (nomark _)))))))), ?_⟩
    refine q_call (ea_cons (ev_var rfl) ea_nil) fun H1 e1 => ⟨a, ns, rfl, ex_l e1 hS0, h63, fun p l H2 hp hl e2 hP => ?_⟩
    refine q_forR1 (j := 2) (n := 5) (ea_cons ev_c ea_nil) (by decide) (fun i σ' H' => ∃ x2 x3 x4 x5 x6 : Option V, σ' = [some (.ref a), some (.ref p), x2, x3, x4, x5, x6, none] ∧ PenAt H' p l ns (80 * i)) (fun H3 e3 => ⟨none, none, none, none, none, rfl, hP.mono e3 (by omega)⟩) ?_ ?_
    · rintro i σ' H3 hi ⟨x2, x3, x4, x5, x6, rfl, hP3⟩
      refine q_asgR ⟨_, rfl, p, l, ns, 80 * i, rfl, hP3, by omega, h63, fun F0 xs ps H4 hF h4 row ok hP4 k4 => ?_⟩
      have l1 := ok.1
      have l3 := ok.2.1
      refine q_par (cons_i ⟨_, rfl, F0, [p], xs, ps, rfl, h4, row, ok, fun o qs H5 e5 at5 sim => cons_i ?_⟩)
      have asc := pl_asc at5
      have lq := sim.1
      have rows := sim_rows sim ok asc
      obtain ⟨line, spl, rof⟩ := txP_ok rows (by omega) (by omega)
      refine ⟨_, rfl, F0, [p], xs, ps, qs, rfl, e5 _ _ h4, row.mono e5, pln_rw ok, sim, asc, fun H6 e6 => ⟨_, _, rfl, ?_⟩⟩
      have E6 := e5.trans e6
      have at6 := at5.mono e6
      have h6 := E6 _ _ h4
      have row6 := row.mono E6
      have hP6 := hP4.mono E6 (Nat.le_refl _)
      clear e5 e6 at5 h4 row hP4 k4 E6
      -- the first
      have c1 : EvT (tNot (tB (tCall spRt [] E0 (tCons (tVar 3) tNil)))) [some (.ref a), some (.ref p), some (.int (i : Int)), some (.ref F0), some (.ref o), some (.str (txP qs)), x6, none] H6 false := et_is (et_not (et_B (ev_call (z := .bl true) (ea_cons (ev_var rfl) ea_nil) fun H7 e7 Q7 q7 E7 => ⟨F0, [p], xs, ps, rfl, e7 _ _ h6, row6.mono e7, ok, q7⟩))) rfl
      have c2 : EvT (tTest (tOp rNe (tCB (rStrO (cxOf CX0 P w K mg base nLaw "law" (defScope sLaw) f cdv A outer s H E) CP (spStr K CP C) E0) (tCons (tVar 4) tNil)) (tVar 5))) [some (.ref a), some (.ref p), some (.int (i : Int)), some (.ref F0), some (.ref o), some (.str (txP qs)), x6, none] H6 false := et_neF (ev_op (x := .str (txP qs)) (ev_cb (ea_cons (ev_var rfl) ea_nil) fun H7 e7 Q7 q7 => ⟨o, rfl, .inr (at6.mono e7).ins, o, qs, rfl, at6.mono e7, fun H8 e8 => ⟨_, rfl, q7 H8 e8⟩⟩) (ev_var rfl) (rv_ne rfl)) rfl
      have c3 : EvT (tTest (tOp (rNeO (cxOf CX0 P w K mg base nLaw "law" (defScope sLaw) f cdv A outer s H E) CP (spEqL K CP C) E0) (fun σ H Q => (tC (.ref CP)) σ H fun x H1 => x = .ref CP ∧ (tCons (tVar 5) tNil) σ H1 fun zs H2 => zs.length = (["text"] : List Str).length ∧ spRd K CP C CT CB ([.ref CP] ++ zs) H2 Q E0) (tVar 4))) [some (.ref a), some (.ref p), some (.int (i : Int)), some (.ref F0), some (.ref o), some (.str (txP qs)), x6, none] H6 false := et_test fun H7 e7 Q7 q7 => by
        have zl := ln_len line
        have wok : ∀ y ∈ Txt.split (txP qs) " ", WOk y := fun y hy => wrd_ok (line.2.2.1 y hy)
        refine ⟨rfl, _, rfl, rfl, txP qs, rfl, by omega, line.2.1, by have := line.1; omega, wok, ?_, ?_⟩
        · intro j hj
          rw [rof] at hj
          cases hj
        · intro rs hrs
          obtain ⟨g1', g4', good⟩ := rows_good wok hrs
          rw [rof] at hrs
          cases hrs
          have plok := sim.ok ok
          refine ⟨g1', g4', good, fun y => ?_, fun j lj _ y => ?_, fun _ _ o' H8 e8 at8 => ?_⟩
          · rw [allM_no plok] at y
            cases y
          · rw [telB_no plok j lj] at y
            cases y
          · have at7 := at6.mono (e7.trans e8)
            exact ⟨_, rfl, o', o, rfl, rfl, .inr at8.ins, .inr at7.ins, o', .ref o, qs, rfl, at8, .inl ⟨o, qs, rfl, at7, fun H9 e9 => ⟨_, rfl, by rw [decide_eq_true rfl]; exact q7 H9 (e8.trans e9)⟩⟩⟩
      refine q_when (et_orF c1 (et_orF c2 c3)) (fun y => absurd y (by decide)) fun _ H7 e7 => ?_
      clear c1 c2 c3
      -- bent lines
      refine q_forR1 (j := 6) (n := 4) (ea_cons ev_c ea_nil) (by decide) (fun j σ' H' => ∃ x6 : Option V, σ' = [some (.ref a), some (.ref p), some (.int (i : Int)), some (.ref F0), some (.ref o), some (.str (txP qs)), x6, none] ∧ PenAt H' p l ns (80 * i + 20 + 9 * j) ∧ PlAt K CP C H' o qs)
        (fun H8 e8 => ⟨x6, rfl, hP6.mono (e7.trans e8) (by omega), at6.mono (e7.trans e8)⟩) ?_ ?_
      · rintro j σ' H8 hj ⟨y6, rfl, hP8, at8⟩
        refine s_ifE (or_E (not_i (B_i (cons_i ?_))))
        refine ⟨_, rfl, _, rfl, p, l, ns, 80 * i + 20 + 9 * j, txP qs, rfl, hP8, by omega, h63, line, by decide, fun y H9 lny hP9 k9 => ?_⟩
        refine ⟨y, rfl, lny.mono (by decide), fun HA eA => ⟨true, rfl, iteF ?_⟩⟩
        refine not_i (B_i (cons_i ⟨_, rfl, cons_i ?_⟩))
        have hPA := hP9.mono eA (Nat.le_refl _)
        have atA := (pl_keep at8 hP8 k9).mono eA
        refine ⟨_, rfl, _, rfl, p, l, ns, 80 * i + 20 + 9 * j + 3, txP qs, rfl, hPA, by omega, h63, line, by decide, fun y2 HB lny2 hPB kB => ?_⟩
        refine ⟨p, l, ns, 80 * i + 20 + 9 * j + 3 + 3, y2, rfl, hPB, by omega, h63, lny2, by decide, fun y3 HC lny3 hPC kC => ?_⟩
        refine ⟨y3, rfl, lny3.mono (by decide), fun HD eD => ⟨true, rfl, iteF ⟨_, rfl, hPC.mono eD (by omega), ?_⟩⟩⟩
        exact (pl_keep (pl_keep atA hPA kB) hPB kC).mono eD
      · rintro σ' H8 ⟨y6, rfl, hP8, at8⟩
        refine s_ifE (or_E (test_i (op_i (op_i ?_))))
        refine ⟨_, rfl, cons_i (cons_i ⟨_, rfl, p, l, ns, 80 * i + 20 + 9 * 4, rfl, hP8, by omega, h63, fun F1 xs1 ps1 H9 hF1 h9 row1 ok1 hP9 k9 => ?_⟩)⟩
        have at9 := pl_keep at8 hP8 k9
        refine ⟨F1, [p], xs1, ps1, rfl, h9, row1, ok1, fun o1 qs1 HA eA atA simA => ?_⟩
        have at10 := at9.mono eA
        refine ⟨o, o1, CP, rfl, rfl, .inr at10.ins, .inr atA.ins, R.nfP, o, .ref o1, qs, rfl, at10, .inl ⟨o1, qs1, rfl, atA, fun HB eB => ?_⟩⟩
        refine tup_i (cons_i (c_i (cons_i (c_i ⟨by show 2 ≤ sizeLine; decide, fun t ht => ?_⟩))))
        have eC := Ex.new (o := .tup [V.bl true, .bl false]) ht
        have atC := at10.mono (eB.trans eC)
        have hPC := hP9.mono ((eA.trans eB).trans eC) (Nat.le_refl _)
        refine ⟨t, [.bl true, .bl false], rfl, .inr (st_of upd_same), rfl, rfl, ?_⟩
        generalize decide (qs = qs1) = b
        have inb : (!inV (.bl b) [.bl true, .bl false]) = false := by cases b <;> rfl
        rw [if_pos rfl, inb]
        refine ⟨false, rfl, iteF ?_⟩
        refine test_i (op_i ⟨_, rfl, _, rfl, o, txP qs, rfl, rfl, .inr atC.ins, nfS, o, .str (txP qs), qs, rfl, atC, .inr ⟨"str", .base (.str _), kS, fun HD eD => ⟨false, rfl, iteF ⟨_, _, _, _, _, rfl, hPC.mono eD (by omega)⟩⟩⟩⟩)
    · rintro σ' H3 ⟨x2, x3, x4, x5, x6, rfl, hP3⟩
      have m1 : Ev (tCB (rStrO (cxOf CX0 P w K mg base nLaw "law" (defScope sLaw) f cdv A outer s H E) CP (spStr K CP C) E0) (tCons (tCMeth CP (spPlain K CP C) E0 (tC (.ref CP)) tNil) tNil)) [some (.ref a), some (.ref p), x2, x3, x4, x5, x6, none] H3 (.str "row") := ev_strP (R := okPlain) (fun H4 e4 Q4 q4 => ⟨rfl, rfl, fun c cs H5 e5 hc hcs => q4 c cs H5 e5 hc hcs⟩) fun _ r _ => tx_plain r
      have m2 : Ev (tCB (rStrO (cxOf CX0 P w K mg base nLaw "law" (defScope sLaw) f cdv A outer s H E) CP (spStr K CP C) E0) (tCons (tCMeth CP (spCopA K CP C) E0 (tC (.ref CP)) (tCons (tC (.int 2)) (tCons (tC (.int 1)) tNil))) tNil)) [some (.ref a), some (.ref p), x2, x3, x4, x5, x6, none] H3 (.str "row 1 2") := ev_strP (R := okCopies [2, 1]) (fun H4 e4 Q4 q4 => ⟨rfl, [.ref CP], [.int 2, .int 1], rfl, rfl, by show 2 ≤ sizeLine; decide, fun p2 hp2 => ⟨p2, [2, 1], rfl, st_of upd_same, by decide, by decide, by decide, fun c cs H5 e5 hc hcs => q4 c cs H5 ((Ex.new hp2).trans e5) hc hcs⟩⟩) fun _ r d => tx_copies r d
      have m3 : Ev (tCB (rStrO (cxOf CX0 P w K mg base nLaw "law" (defScope sLaw) f cdv A outer s H E) CP (spStr K CP C) E0) (tCons (tCMeth CP (spGrp3 K CP C) E0 (tC (.ref CP)) (tCons (tC (.int 3)) tNil)) tNil)) [some (.ref a), some (.ref p), x2, x3, x4, x5, x6, none] H3 (.str "row / row / row / mute 1+2+3") := ev_strP (R := okG3) (fun H4 e4 Q4 q4 => ⟨rfl, rfl, fun c cs H5 e5 hc hcs => q4 c cs H5 e5 hc hcs⟩) fun _ r _ => tx_g3 r
      have m4 : Ev (tCB (rStrO (cxOf CX0 P w K mg base nLaw "law" (defScope sLaw) f cdv A outer s H E) CP (spStr K CP C) E0) (tCons (fun σ H Q => (tC (.ref CP)) σ H fun x H1 => x = .ref CP ∧ (tCons (tC (.int 1)) tNil) σ H1 fun zs H2 => zs.length = (["size"] : List Str).length ∧ spGrp1 K CP C ([.ref CP] ++ zs) H2 Q E0) tNil)) [some (.ref a), some (.ref p), x2, x3, x4, x5, x6, none] H3 (.str "row / mute 1") := ev_strP (R := okG1) (fun H4 e4 Q4 q4 => ⟨rfl, rfl, rfl, fun c cs H5 e5 hc hcs => q4 c cs H5 e5 hc hcs⟩) fun _ r _ => tx_g1 r
      refine q_asgL (xs := four.map V.str) (el_lst (ea_cons m1 (ea_cons m2 (ea_cons m3 (ea_cons m4 ea_nil)))) (by show 4 ≤ 100000; decide)) fun Rr H4 hRr e4 h4 => ?_
      have d1 := ev_neD (K := K) (σ := [some (.ref a), some (.ref p), x2, x3, x4, x5, x6, some (.ref Rr)]) (H := H4) (ta := tVar 7) (tb := tLst (tCons (tC (.str "row")) (tCons (tC (.str "row 1 2")) (tCons (tC (.str "row / row / row / mute 1+2+3")) (tCons (tC (.str "row / mute 1")) tNil))))) (d := .list (four.map PyData.str)) (e := .list (four.map PyData.str)) (ed_of (ev_var rfl) fun H5 e5 => .lst (sq_of (e5 _ _ h4)) (dpAll_strs four)) (ed_L (xs := four.map V.str) (el_lst (ea_cons ev_c (ea_cons ev_c (ea_cons ev_c (ea_cons ev_c ea_nil)))) (by show 4 ≤ 100000; decide)) fun _ _ => dpAll_strs four) (low_shaped (strs_low four_ok) (by decide)) (low_shaped (strs_low four_ok) (by decide))
      refine q_when (et_is (et_test d1) (by rw [strs_eqv, decide_eq_true rfl])) (fun y => absurd y (by decide)) fun _ H5 e5 => ?_
      have d2 := el_lcNL (K := K) (σ := [some (.ref a), some (.ref p), x2, x3, x4, x5, x6, some (.ref Rr)]) (H := H5) (t := tNot (tB (tCall (spRr 60) [] E0 (tCons (tVar 5) tNil)))) (te := tVar 5) (xs := six.map V.str) (tl := tLst (tCons (tC (.str "")) (tCons (tC (.str "mute")) (tCons (tC (.str "row 1 / mute")) (tCons (tC (.str "row / mute 1")) (tCons (tC (.str "row 1 2 3 4 1+2")) (tCons (tC (.str "row / row / row / row / row")) tNil))))))) (j := 5) (vs := [5]) (fun _ => false) (fun _ => .non) (el_lst (ea_cons ev_c (ea_cons ev_c (ea_cons ev_c (ea_cons ev_c (ea_cons ev_c (ea_cons ev_c ea_nil)))))) (by show 6 ≤ 100000; decide)) (by show 6 ≤ 40000; decide) (fun _ => rfl)
        (fun n x H6 e6 hx => by
          obtain ⟨z, hz, rfl⟩ := nth_map (f := V.str) hx
          exact et_is (et_not (et_B (ev_call (z := .bl true) (ea_cons (ev_var (v := .str z) rfl) ea_nil) fun H7 e7 Q7 q7 E7 => ⟨z, rfl, six_ok z (List.mem_of_getElem? hz), q7⟩))) rfl) (fun n x H6 e6 hx y => absurd y (by decide))
      rw [given_none] at d2
      exact s_ret (ev_is (ev_eqD (K := K) (d := .list []) (e := .list []) (ed_L d2 fun _ _ => .nil) (ed_L el_nil fun _ _ => .nil) (by decide +kernel) (by decide +kernel)) (congrArg V.bl (by decide +kernel))) fun H6 e6 => k H6
end
end K17
namespace L2
open PySem PySem.Spec PyProof.Rows
/-! ### the law's end, for a law that is walked where no repr runs -/
/-- the law's end from a heap in which nothing but the script may be tracked -/
theorem lawG_core {P : Program} {w : World} {K : PySem.W.Frag} {mg mb : Str → Option Value} {k : Nat} {fa a : Addr} {fd : FuncData} {x : Str} {sp : Sp} {s : Shared} {vs : List Value} {ns : List Int} {H : Hp}
    (KX : K.In s.heap) (hns : s.heap.Ns mainGlobals mg) (hb : s.heap.Ns builtinsNs mb) (hbb : ∀ x : Str, x ≠ "__name__" → mb x = bootBuiltins x) (hlim : s.heap.NoLimit) (hg : s.gens = #[])
    (ha : s.heap.get? a = some { cls := .type "list", data := .seq vs.toArray }) (hr : Room k callerA)
    (F : ∀ base : Heap, K.In base → base.Ns mainGlobals mg → FnG P w K mg base k fa fd [x] sp) (hbind : ∀ (s : Shared) (u : Value), BindsTo s fd ⟨[u], []⟩ [(x, u)])
    (hO : Only H) (hok : HOk P w H s.heap) (hA : ∀ b, H b ≠ none → b = a) (hK : H a ≠ none → K.lookup a = none)
    (hsp : sp [.ref a] H (fun v _ => v = .bl true) E0) :
    codeAny (model P w) callerA (.call (.ref fa) ⟨[.ref a], []⟩) (fun r s' => r = .ok (.ret (.bool true)) ∧ OldK s.heap s'.heap ∧ s'.os = s.os ∧ AllBare s'.gens) s := by
  have apart : ∀ {b : Addr} {o : Obj}, s.heap.get? b = some o → (b = a → False) → (hidT s.heap H).get? b = some o := fun {b o} e n => hidT_get e (Classical.byContradiction fun z => n (hA b z))
  have space : ∀ {b : Addr} {m : Str → Option Value}, s.heap.Ns b m → (hidT s.heap H).Ns b m := fun {b m} ⟨o, es, ep, e, d, r⟩ => ⟨o, es, ep, apart e fun z => by
    subst z
    rw [ha] at e
    cases e
    exact Data.noConfusion (show Data.seq vs.toArray _ = Data.dict es ep from d), d, r⟩
  have inb : K.In (hidT s.heap H) := fun b o e => hidT_get (KX b o e) (Classical.byContradiction fun z => by
    obtain rfl := hA b z
    rw [hK z] at e
    cases e)
  have world : Mod K mg (hidT s.heap H) := ⟨inb, space hns, ⟨mb, space hb, hbb⟩, hlim.elim fun mc z => ⟨mc, space z.1, z.2⟩⟩
  have start0 : Env0 P w K mg (hidT s.heap H) callerA [] s H := ⟨rfl, world, fun _ _ z => of_hidT z, Nat.le_of_eq (hidT_size _ _), trivial, fun b hb => absurd hb List.not_mem_nil, hok, .of_eq hg⟩
  refine codeAny_mono ((F _ inb (space hns)).run callerA [] s H ⟨[.ref a], []⟩ [.ref a] [.ref a] _ E0 rfl hr start0 (hbind s (.ref a)) (.cons rfl .nil) hsp) fun r s' h => ?_
  cases r with
  | error e => exact (show False from h).elim
  | ok fl =>
    cases fl with
    | next => exact False.elim h
    | brk => exact False.elim h
    | cont => exact False.elim h
    | ret u =>
      obtain ⟨v, H', os, bare, un, hok', r', q⟩ := h
      obtain rfl : v = .bl true := q
      obtain rfl : u = Value.bool true := r'
      refine ⟨rfl, OldK.of_keep fun b o e => ?_, os, bare⟩
      rcases hO b with z | ⟨ob, xs, z⟩
      · exact un.keep b o e z List.not_mem_nil List.not_mem_nil
      · have e1 := (hok b _ z).1
        have e2 := (hok' b _ (un.frzs b ob _ z)).1
        rw [e] at e1
        cases e1
        exact e2
theorem lawG_call {P : Program} {w : World} {K : PySem.W.Frag} {mg mb : Str → Option Value} {k : Nat} {fa a : Addr} {fd : FuncData} {x : Str} {sp : Sp} {s : Shared} {vs : List Value} {ns : List Int}
    (KX : K.In s.heap) (hns : s.heap.Ns mainGlobals mg) (hb : s.heap.Ns builtinsNs mb) (hbb : ∀ x : Str, x ≠ "__name__" → mb x = bootBuiltins x) (hlim : s.heap.NoLimit) (hg : s.gens = #[])
    (ha : s.heap.get? a = some { cls := .type "list", data := .seq vs.toArray }) (hi : IntsAre vs ns) (hl : ns.length ≤ sizeLine) (hr : Room k callerA)
    (F : ∀ base : Heap, K.In base → base.Ns mainGlobals mg → FnG P w K mg base k fa fd [x] sp) (hbind : ∀ (s : Shared) (u : Value), BindsTo s fd ⟨[u], []⟩ [(x, u)])
    (hsp : ∀ H : Hp, Only H → SqL K H a (ns.map V.int) → sp [.ref a] H (fun v _ => v = .bl true) E0) :
    codeAny (model P w) callerA (.call (.ref fa) ⟨[.ref a], []⟩) (fun r s' => r = .ok (.ret (.bool true)) ∧ OldK s.heap s'.heap ∧ s'.os = s.os ∧ AllBare s'.gens) s := by
  have rv := vals_ints hi
  cases hk : K.lookup a with
  | some o =>
    have e := KX a o hk
    rw [ha] at e
    cases e
    have hS : SqL K (fun _ => none) a (ns.map V.int) := .inr ⟨_, vs.toArray, _, hk, rfl, rfl, rfl, by rw [List.size_toArray, hi.length]; exact hl, by simpa using rv⟩
    exact lawG_core (ns := ns) KX hns hb hbb hlim hg ha hr F hbind (fun _ => .inl rfl) (fun b u z => by cases (show (none : Option HO) = some u from z)) (fun b z => absurd rfl z) (fun z => absurd rfl z) (hsp _ (fun _ => .inl rfl) hS)
  | none =>
    let ob : Obj := { cls := .type "list", data := .seq vs.toArray }
    let H : Hp := upd (fun _ => none) a (.frz ob (.lst (ns.map V.int)))
    have hO : Only H := fun b => by
      by_cases z : b = a
      · exact .inr ⟨_, _, by rw [z]; exact upd_same⟩
      · exact .inl (upd_ne z)
    have only : ∀ b, H b ≠ none → b = a := fun b z => Classical.byContradiction fun n => z (upd_ne n)
    refine lawG_core (ns := ns) (H := H) KX hns hb hbb hlim hg ha hr F hbind hO (fun b u z => ?_) only (fun _ => hk) (hsp H hO (.inl (.inr ⟨ob, upd_same⟩)))
    obtain rfl := only b (by rw [z]; simp)
    cases upd_same.symm.trans z
    exact ⟨ha, by rw [List.length_map]; exact hl, vs, _, rv, ha⟩
theorem walkG_of {l : PySem.W.OpenLaw} {n k : Nat} {q : Program} {loose : List Str} {XP : (Str → Option Value) → Heap → Prop} {YP : World → Heap → Prop} {d : DefRec} {K : Params → PySem.W.Frag} {sp : World → Sp} {x : Str}
    (hn : l.most = some n) (hn2 : n ≤ sizeLine) (hdf : d.params.defaults = []) (hr : Room k callerA)
    (hY : ∀ (w : World) (h : Heap), YP w h → (K w.params).In h)
    (F : ∀ (w : World) (mg : Str → Option Value) (fa : Addr) (h : Heap), (K w.params).In h → h.Ns mainGlobals mg → mg d.name = some (.ref fa) →
      ∃ fd : FuncData, (∀ (s : Shared) (u : Value), BindsTo s fd ⟨[u], []⟩ [(x, u)]) ∧ ∀ base : Heap, (K w.params).In base → base.Ns mainGlobals mg → FnG l.prog w (K w.params) mg base k fa fd [x] (sp w))
    (hsp : ∀ (w : World) (H : Hp) (a : Addr) (ns : List Int), ns.length ≤ n → Only H → SqL (K w.params) H a (ns.map V.int) → sp w [.ref a] H (fun v _ => v = .bl true) E0) :
    PySem.W.WalkO q loose XP YP l.row.toRowW d [] (fun f vs => PySem.call f vs) := by
  refine Att.attach_call hn hdf fun w s₀ s₁ mg mb fa o pm cd doc a vs ns G Y ho hd hcd hmg hobj hints hlen hg => ?_
  obtain ⟨fd, hb, hF⟩ := F w mg fa _ (hY w _ Y) G.T.g hmg
  exact lawG_call (hY w _ Y) G.T.g G.T.b G.T.builtins G.T.nolimit hg hobj hints (Nat.le_trans hlen hn2) hr hF hb fun H hO hS => hsp w H a ns hlen hO hS
end L2
namespace K17
open PySem L2 Evl Gr StX EnT MkS StK ClX ClK ClW RdX OwX OwC OpX OwU TkL Kn
structure FQ (K : PySem.W.Frag) (x y : Str) (st : Stmt) (f : Addr) : Prop where
  l : ∃ (oc : Value) (od : Option Addr) (kV doc pm : Value) (an : Option Addr) (cdv ct : Value) (osl : Array (Option Value)),
    K.lookup f = some ⟨oc, od, .func (PySem.W.fnOf x y (defArgs st) (defBody st) (defScope st) .none kV doc pm an cdv ct), osl⟩ ∧ PySem.W.codeIn K cdv y = true
  k : PySem.W.keepIn K (.ref f) = true
theorem FQ.fn {K : PySem.W.Frag} {x y : Str} {st : Stmt} {f : Addr} (h : FQ K x y st f) : ∃ fd, Fun K x y st f fd := by
  obtain ⟨oc, od, kV, doc, pm, an, cdv, ct, osl, h1, h2⟩ := h.l
  exact ⟨_, fun_mk h1 h2 h.k⟩
theorem first_of_ty {K : PySem.W.Frag} {C : Addr} {t : String} (h : PySem.W.subIn K (.type t) (.ref C) = some false) : PySem.W.notFirst K C (.type t) = true := by
  unfold PySem.W.notFirst
  rw [h]
  simp
theorem kit_of_ty {K : PySem.W.Frag} {C : Addr} {t : String} (h : PySem.W.subIn K (.type t) (.ref C) = some false) (c : (PySem.W.clsIn K C).isSome = true) (ty : PySem.W.typeIn K (.ref C) = some (.type "type")) : PySem.W.kitOne K (.type t) (.ref C) = some false := by
  unfold PySem.W.kitOne PySem.W.kitCls
  rw [if_neg (by simp)]
  show (if ((PySem.W.clsIn K C).isSome && PySem.W.typeIn K (.ref C) == some (.type "type")) = true then PySem.W.subIn K (.type t) (.ref C) else none) = some false
  rw [if_pos (by rw [c, ty]; rfl)]
  exact h
theorem all_mk {l : PySem.W.OpenLaw} {w : World} {K : PySem.W.Frag} {h : Heap} {mg : Str → Option Value} {fa fInt fWi fWo fAs fSu fSo fPw fCf fRf fTe fPe fDr fPi fSm fPn fPh fPa fLw fLt fRt fRe fDu fRr fBt fLa C CP mC D mP pN mN pO mO pG mG pR mR mE mL mI mX mQ mS B cB fB cT fT : Addr} {mc : Value} (X : K.In h) (G : h.Ns mainGlobals mg) (hfa : mg "law" = some (.ref fa))
    (aInt : PySem.W.nsIn K mainGlobals "is_integer" = some (some (.ref fInt)))
    (hInt : FQ K "is_integer" "is_integer" (top 1) fInt)
    (aWi : PySem.W.nsIn K mainGlobals "is_within" = some (some (.ref fWi)))
    (hWi : FQ K "is_within" "is_within" (top 2) fWi)
    (aWo : PySem.W.nsIn K mainGlobals "words_of" = some (some (.ref fWo)))
    (hWo : FQ K "words_of" "words_of" (top 9) fWo)
    (aAs : PySem.W.nsIn K mainGlobals "is_ascending" = some (some (.ref fAs)))
    (hAs : FQ K "is_ascending" "is_ascending" (top 14) fAs)
    (aSu : PySem.W.nsIn K mainGlobals "is_sum" = some (some (.ref fSu)))
    (hSu : FQ K "is_sum" "is_sum" (top 15) fSu)
    (aSo : PySem.W.nsIn K mainGlobals "sum_of" = some (some (.ref fSo)))
    (hSo : FQ K "sum_of" "sum_of" (top 16) fSo)
    (aPw : PySem.W.nsIn K mainGlobals "phase_words" = some (some (.ref fPw)))
    (hPw : FQ K "phase_words" "phase_words" (top 17) fPw)
    (aCf : PySem.W.nsIn K mainGlobals "can_follow" = some (some (.ref fCf)))
    (hCf : FQ K "can_follow" "can_follow" (top 18) fCf)
    (aRf : PySem.W.nsIn K mainGlobals "rows_of" = some (some (.ref fRf)))
    (hRf : FQ K "rows_of" "rows_of" (top 19) fRf)
    (aTe : PySem.W.nsIn K mainGlobals "tells_mute" = some (some (.ref fTe)))
    (hTe : FQ K "tells_mute" "tells_mute" (top 21) fTe)
    (aPe : PySem.W.nsIn K mainGlobals "_law_pen" = some (some (.ref fPe)))
    (hPe : FQ K "_law_pen" "_law_pen" (top 24) fPe)
    (aDr : PySem.W.nsIn K mainGlobals "_law_draw" = some (some (.ref fDr)))
    (hDr : FQ K "_law_draw" "_law_draw" (top 25) fDr)
    (aPi : PySem.W.nsIn K mainGlobals "_law_pick" = some (some (.ref fPi)))
    (hPi : FQ K "_law_pick" "_law_pick" (top 26) fPi)
    (aSm : PySem.W.nsIn K mainGlobals "_law_sums" = some (some (.ref fSm)))
    (hSm : FQ K "_law_sums" "_law_sums" (top 27) fSm)
    (aPn : PySem.W.nsIn K mainGlobals "_law_plain" = some (some (.ref fPn)))
    (hPn : FQ K "_law_plain" "_law_plain" (top 28) fPn)
    (aPh : PySem.W.nsIn K mainGlobals "_law_phase" = some (some (.ref fPh)))
    (hPh : FQ K "_law_phase" "_law_phase" (top 29) fPh)
    (aPa : PySem.W.nsIn K mainGlobals "_law_plan" = some (some (.ref fPa)))
    (hPa : FQ K "_law_plan" "_law_plan" (top 30) fPa)
    (aLw : PySem.W.nsIn K mainGlobals "_law_word" = some (some (.ref fLw)))
    (hLw : FQ K "_law_word" "_law_word" (top 31) fLw)
    (aLt : PySem.W.nsIn K mainGlobals "_law_text" = some (some (.ref fLt)))
    (hLt : FQ K "_law_text" "_law_text" (top 32) fLt)
    (aRt : PySem.W.nsIn K mainGlobals "_law_right" = some (some (.ref fRt)))
    (hRt : FQ K "_law_right" "_law_right" (top 33) fRt)
    (aRe : PySem.W.nsIn K mainGlobals "_law_row_end" = some (some (.ref fRe)))
    (hRe : FQ K "_law_row_end" "_law_row_end" (top 34) fRe)
    (aDu : PySem.W.nsIn K mainGlobals "_law_due" = some (some (.ref fDu)))
    (hDu : FQ K "_law_due" "_law_due" (top 35) fDu)
    (aRr : PySem.W.nsIn K mainGlobals "_law_read_right" = some (some (.ref fRr)))
    (hRr : FQ K "_law_read_right" "_law_read_right" (top 36) fRr)
    (aBt : PySem.W.nsIn K mainGlobals "_law_bent" = some (some (.ref fBt)))
    (hBt : FQ K "_law_bent" "_law_bent" (top 37) fBt)
    (aLa : PySem.W.nsIn K mainGlobals "law" = some (some (.ref fLa)))
    (hLa : FQ K "law" "law" (top 38) fLa)
    (aC : PySem.W.nsIn K mainGlobals "Phase" = some (some (.ref C)))
    (clsC : Cls K C)
    (mkC : PySem.W.makesIn K C = true)
    (kpC : PySem.W.keepIn K (.ref C) = true)
    (ccC : PySem.W.findIn K (.ref C) "__class__" = some (some (.builtin "object.__class__")))
    (obC : PySem.W.mroIn K C (.type "object") = some true)
    (neC : PySem.W.findIn K (.ref C) "__ne__" = some (some (.builtin "object.__ne__")))
    (nfC : PySem.W.notFirst K C (.ref C) = true)
    (aCP : PySem.W.nsIn K mainGlobals "Plan" = some (some (.ref CP)))
    (clsCP : Cls K CP)
    (mkCP : PySem.W.makesIn K CP = true)
    (kpCP : PySem.W.keepIn K (.ref CP) = true)
    (ccCP : PySem.W.findIn K (.ref CP) "__class__" = some (some (.builtin "object.__class__")))
    (obCP : PySem.W.mroIn K CP (.type "object") = some true)
    (neCP : PySem.W.findIn K (.ref CP) "__ne__" = some (some (.builtin "object.__ne__")))
    (nfCP : PySem.W.notFirst K CP (.ref CP) = true)
    (nsu : NoAttr K C "sums")
    (nmu : NoAttr K C "mute")
    (nph : NoAttr K CP "phases")
    (aIC : PySem.W.findIn K (.ref C) "__init__" = some (some (.ref mC)))
    (tIC : PySem.W.isFn K (.ref mC) = true)
    (hIC : FunD K "__init__" "Phase.__init__" (sPh 0) mC D)
    (hD : PySem.W.nsIn K D "mute" = some (some (.bool false)))
    (aIP : PySem.W.findIn K (.ref CP) "__init__" = some (some (.ref mP)))
    (tIP : PySem.W.isFn K (.ref mP) = true)
    (hIP : FQ K "__init__" "Plan.__init__" (sPl 0) mP)
    (rd : PySem.W.readsIn K CP mc = true)
    (ga : PySem.W.specialIn K (.ref CP) "__getattribute__" = some (some (.builtin "type.__getattribute__")))
    (tN : CMet K CP mc "plain" pN mN)
    (hN : FQ K "plain" "Plan.plain" (sPl 1) mN)
    (tO : CMet K CP mc "copies" pO mO)
    (hO : FQ K "copies" "Plan.copies" (sPl 2) mO)
    (tG : CMet K CP mc "groups" pG mG)
    (hG : FQ K "groups" "Plan.groups" (sPl 3) mG)
    (tR : CMet K CP mc "read" pR mR)
    (hR : FQ K "read" "Plan.read" (sPl 9) mR)
    (aE : PySem.W.findIn K (.ref C) "__eq__" = some (some (.ref mE)))
    (tE : PySem.W.isFn K (.ref mE) = true)
    (hE : FQ K "__eq__" "Phase.__eq__" (sPh 1) mE)
    (aL : PySem.W.findIn K (.ref CP) "__len__" = some (some (.ref mL)))
    (tL : PySem.W.isFn K (.ref mL) = true)
    (hL : FQ K "__len__" "Plan.__len__" (sPl 4) mL)
    (aI : PySem.W.findIn K (.ref CP) "__iter__" = some (some (.ref mI)))
    (tI : PySem.W.isFn K (.ref mI) = true)
    (hI : FQ K "__iter__" "Plan.__iter__" (sPl 5) mI)
    (aX : PySem.W.findIn K (.ref CP) "__getitem__" = some (some (.ref mX)))
    (tX : PySem.W.isFn K (.ref mX) = true)
    (hX : FQ K "__getitem__" "Plan.__getitem__" (sPl 6) mX)
    (aQ : PySem.W.findIn K (.ref CP) "__eq__" = some (some (.ref mQ)))
    (tQ : PySem.W.isFn K (.ref mQ) = true)
    (hQ : FQ K "__eq__" "Plan.__eq__" (sPl 7) mQ)
    (aS : PySem.W.findIn K (.ref CP) "__str__" = some (some (.ref mS)))
    (tS : PySem.W.isFn K (.ref mS) = true)
    (hS : FQ K "__str__" "Plan.__str__" (sPl 8) mS)
    (iX : PySem.W.fnIn K mX = true)
    (sL : PySem.W.subIn K (.type "list") (.ref CP) = some false)
    (sS : PySem.W.subIn K (.type "str") (.ref CP) = some false)
    (tyP : PySem.W.typeIn K (.ref CP) = some (.type "type"))
    (cs : PySem.W.specialIn K (.builtin "object.__class__") "__get__" = some (some (.builtin "getset_descriptor.__get__")))
    (ct : PySem.W.takesIn K (.builtin "object.__class__") = some true)
    (gB : PySem.W.nsIn K mainGlobals "PostError" = some (some (.ref B)))
    (bB : PySem.W.subIn K (.ref B) (.type "BaseException") = some true)
    (dB : PySem.W.hasDictIn K B = true)
    (tyB : PySem.W.typeIn K (.ref B) = some (.type "type"))
    (xP : CF K "BadPlan" "BadPlan.__init__" (inClass (top 5) 0) cB fB B)
    (xT : CF K "BadText" "BadText.__init__" (inClass (top 6) 0) cT fT B)
    (xp : PySem.W.findIn K (.ref cB) "part" = some none)
    (xl : PySem.W.findIn K (.ref cT) "line" = some none)
    (xw : PySem.W.findIn K (.ref cT) "word" = some none)
    (zA : ∃ t, PySem.W.nsIn K mainGlobals "MOST_AGE" = some (some (.int 4 t)))
    (zS : ∃ t, PySem.W.nsIn K mainGlobals "MOST_SUMS" = some (some (.int 4 t)))
    (zP : ∃ t, PySem.W.nsIn K mainGlobals "MOST_PHASES" = some (some (.int 4 t)))
    (z_isinstance : PySem.W.nsIn K mainGlobals "isinstance" = some (none))
    (z_int : PySem.W.nsIn K mainGlobals "int" = some (none))
    (z_bool : PySem.W.nsIn K mainGlobals "bool" = some (none))
    (z_str : PySem.W.nsIn K mainGlobals "str" = some (none))
    (z_len : PySem.W.nsIn K mainGlobals "len" = some (none))
    (z_abs : PySem.W.nsIn K mainGlobals "abs" = some (none))
    (z_list : PySem.W.nsIn K mainGlobals "list" = some (none))
    (z_range : PySem.W.nsIn K mainGlobals "range" = some (none))
    (z_tuple : PySem.W.nsIn K mainGlobals "tuple" = some (none))
    (z_enumerate : PySem.W.nsIn K mainGlobals "enumerate" = some (none))
    (z_sorted : PySem.W.nsIn K mainGlobals "sorted" = some (none))
    (z_any : PySem.W.nsIn K mainGlobals "any" = some (none))
    (z_all : PySem.W.nsIn K mainGlobals "all" = some (none))
    (z_sum : PySem.W.nsIn K mainGlobals "sum" = some (none))
    (z_zip : PySem.W.nsIn K mainGlobals "zip" = some (none))
    (z_iter : PySem.W.nsIn K mainGlobals "iter" = some (none))
    (z_set : PySem.W.nsIn K mainGlobals "set" = some (none))
    : ∃ fd : FuncData, (∀ (s : Shared) (v : Value), BindsTo s fd ⟨[v], []⟩ [("_law_script", v)]) ∧ ∀ base : Heap, K.In base → base.Ns mainGlobals mg → FnG l.prog w K mg base 9 fa fd ["_law_script"] (spLaw K) := by
  have eLa := hfa.symm.trans (PySem.W.mg_of X G aLa)
  cases eLa
  have gInt := PySem.W.mg_of X G aInt
  obtain ⟨dInt, FInt⟩ := hInt.fn
  have bInt : Binds K dInt ["value"] [] := FInt.binds fun _ _ _ _ _ _ us hl => match us, hl with | [_], _ => rfl
  have gWi := PySem.W.mg_of X G aWi
  obtain ⟨dWi, FWi⟩ := hWi.fn
  have bWi : Binds K dWi ["value", "least", "most"] [] := FWi.binds fun _ _ _ _ _ _ us hl => match us, hl with | [_, _, _], _ => rfl
  have gWo := PySem.W.mg_of X G aWo
  obtain ⟨dWo, FWo⟩ := hWo.fn
  have bWo : Binds K dWo ["text"] [] := FWo.binds fun _ _ _ _ _ _ us hl => match us, hl with | [_], _ => rfl
  have gAs := PySem.W.mg_of X G aAs
  obtain ⟨dAs, FAs⟩ := hAs.fn
  have bAs : Binds K dAs ["values"] [] := FAs.binds fun _ _ _ _ _ _ us hl => match us, hl with | [_], _ => rfl
  have gSu := PySem.W.mg_of X G aSu
  obtain ⟨dSu, FSu⟩ := hSu.fn
  have bSu : Binds K dSu ["value"] [] := FSu.binds fun _ _ _ _ _ _ us hl => match us, hl with | [_], _ => rfl
  have gSo := PySem.W.mg_of X G aSo
  obtain ⟨dSo, FSo⟩ := hSo.fn
  have bSo : Binds K dSo ["word"] [] := FSo.binds fun _ _ _ _ _ _ us hl => match us, hl with | [_], _ => rfl
  have gPw := PySem.W.mg_of X G aPw
  obtain ⟨dPw, FPw⟩ := hPw.fn
  have bPw : Binds K dPw ["phases"] [] := FPw.binds fun _ _ _ _ _ _ us hl => match us, hl with | [_], _ => rfl
  have gCf := PySem.W.mg_of X G aCf
  obtain ⟨dCf, FCf⟩ := hCf.fn
  have bCf : Binds K dCf ["sums", "word"] [] := FCf.binds fun _ _ _ _ _ _ us hl => match us, hl with | [_, _], _ => rfl
  have gRf := PySem.W.mg_of X G aRf
  obtain ⟨dRf, FRf⟩ := hRf.fn
  have bRf : Binds K dRf ["words"] [] := FRf.binds fun _ _ _ _ _ _ us hl => match us, hl with | [_], _ => rfl
  have gTe := PySem.W.mg_of X G aTe
  obtain ⟨dTe, FTe⟩ := hTe.fn
  have bTe : Binds K dTe ["phases", "at"] [] := FTe.binds fun _ _ _ _ _ _ us hl => match us, hl with | [_, _], _ => rfl
  have gPe := PySem.W.mg_of X G aPe
  obtain ⟨dPe, FPe⟩ := hPe.fn
  have bPe : Binds K dPe ["_law_script"] [] := FPe.binds fun _ _ _ _ _ _ us hl => match us, hl with | [_], _ => rfl
  have gDr := PySem.W.mg_of X G aDr
  obtain ⟨dDr, FDr⟩ := hDr.fn
  have bDr : Binds K dDr ["_law_pen_here", "_law_top_so"] [] := FDr.binds fun _ _ _ _ _ _ us hl => match us, hl with | [_, _], _ => rfl
  have gPi := PySem.W.mg_of X G aPi
  obtain ⟨dPi, FPi⟩ := hPi.fn
  have bPi : Binds K dPi ["_law_pen_here", "_law_some"] [] := FPi.binds fun _ _ _ _ _ _ us hl => match us, hl with | [_, _], _ => rfl
  have gSm := PySem.W.mg_of X G aSm
  obtain ⟨dSm, FSm⟩ := hSm.fn
  have bSm : Binds K dSm ["_law_pen_here"] [] := FSm.binds fun _ _ _ _ _ _ us hl => match us, hl with | [_], _ => rfl
  have gPn := PySem.W.mg_of X G aPn
  obtain ⟨dPn, FPn⟩ := hPn.fn
  have bPn : Binds K dPn ["_law_pen_here"] [] := FPn.binds fun _ _ _ _ _ _ us hl => match us, hl with | [_], _ => rfl
  have gPh := PySem.W.mg_of X G aPh
  obtain ⟨dPh, FPh⟩ := hPh.fn
  have bPh : Binds K dPh ["_law_row"] [] := FPh.binds fun _ _ _ _ _ _ us hl => match us, hl with | [_], _ => rfl
  have gPa := PySem.W.mg_of X G aPa
  obtain ⟨dPa, FPa⟩ := hPa.fn
  have bPa : Binds K dPa ["_law_plain_here"] [] := FPa.binds fun _ _ _ _ _ _ us hl => match us, hl with | [_], _ => rfl
  have gLw := PySem.W.mg_of X G aLw
  obtain ⟨dLw, FLw⟩ := hLw.fn
  have bLw : Binds K dLw ["_law_ages"] [] := FLw.binds fun _ _ _ _ _ _ us hl => match us, hl with | [_], _ => rfl
  have gLt := PySem.W.mg_of X G aLt
  obtain ⟨dLt, FLt⟩ := hLt.fn
  have bLt : Binds K dLt ["_law_plain_here"] [] := FLt.binds fun _ _ _ _ _ _ us hl => match us, hl with | [_], _ => rfl
  have gRt := PySem.W.mg_of X G aRt
  obtain ⟨dRt, FRt⟩ := hRt.fn
  have bRt : Binds K dRt ["_law_plain_here"] [] := FRt.binds fun _ _ _ _ _ _ us hl => match us, hl with | [_], _ => rfl
  have gRe := PySem.W.mg_of X G aRe
  obtain ⟨dRe, FRe⟩ := hRe.fn
  have bRe : Binds K dRe ["_law_words", "_law_at"] [] := FRe.binds fun _ _ _ _ _ _ us hl => match us, hl with | [_, _], _ => rfl
  have gDu := PySem.W.mg_of X G aDu
  obtain ⟨dDu, FDu⟩ := hDu.fn
  have bDu : Binds K dDu ["_law_line"] [] := FDu.binds fun _ _ _ _ _ _ us hl => match us, hl with | [_], _ => rfl
  have gRr := PySem.W.mg_of X G aRr
  obtain ⟨dRr, FRr⟩ := hRr.fn
  have bRr : Binds K dRr ["_law_line"] [] := FRr.binds fun _ _ _ _ _ _ us hl => match us, hl with | [_], _ => rfl
  have gBt := PySem.W.mg_of X G aBt
  obtain ⟨dBt, FBt⟩ := hBt.fn
  have bBt : Binds K dBt ["_law_pen_here", "_law_line"] [] := FBt.binds fun _ _ _ _ _ _ us hl => match us, hl with | [_, _], _ => rfl
  obtain ⟨oc, od, kV, doc, pm, an, cdv, ct', osl, lkL, cdL⟩ := hLa.l
  have FLa := fun_mk (st := top 38) lkL cdL hLa.k
  obtain ⟨eIP, MIP⟩ := hIP.fn
  obtain ⟨eN, MN⟩ := hN.fn
  have cN : Binds K eN ["cls"] [] := MN.binds fun _ _ _ _ _ _ us hl => match us, hl with | [_], _ => rfl
  obtain ⟨eO, MO⟩ := hO.fn
  obtain ⟨eG, MG⟩ := hG.fn
  have cG : Binds K eG ["cls", "size"] [] := MG.binds fun _ _ _ _ _ _ us hl => match us, hl with | [_, _], _ => rfl
  obtain ⟨eR, MR⟩ := hR.fn
  have cR : Binds K eR ["cls", "text"] [] := MR.binds fun _ _ _ _ _ _ us hl => match us, hl with | [_, _], _ => rfl
  obtain ⟨eE, ME⟩ := hE.fn
  have cE : Binds K eE ["self", "other"] [] := ME.binds fun _ _ _ _ _ _ us hl => match us, hl with | [_, _], _ => rfl
  obtain ⟨eL, ML⟩ := hL.fn
  have cL : Binds K eL ["self"] [] := ML.binds fun _ _ _ _ _ _ us hl => match us, hl with | [_], _ => rfl
  obtain ⟨eI, MI⟩ := hI.fn
  have cI : Binds K eI ["self"] [] := MI.binds fun _ _ _ _ _ _ us hl => match us, hl with | [_], _ => rfl
  obtain ⟨eX, MX⟩ := hX.fn
  have cX : Binds K eX ["self", "at"] [] := MX.binds fun _ _ _ _ _ _ us hl => match us, hl with | [_, _], _ => rfl
  obtain ⟨eQ, MQ⟩ := hQ.fn
  have cQ : Binds K eQ ["self", "other"] [] := MQ.binds fun _ _ _ _ _ _ us hl => match us, hl with | [_, _], _ => rfl
  obtain ⟨eS, MS⟩ := hS.fn
  have cS : Binds K eS ["self"] [] := MS.binds fun _ _ _ _ _ _ us hl => match us, hl with | [_], _ => rfl
  have kG : KBn K eG ["cls", "size"] 1 ["size"] (fun us ws => us ++ ws) (fun vs zs => vs ++ zs) := by
    obtain ⟨oc, od, kV, doc, pm, an, cdv, ct, osl, rfl, lk, hcd⟩ := MG.ex
    exact ⟨fun s us ws _ l1 l2 => .of_eq (match us, l1, ws, l2 with | [_], _, [_], _ => rfl), fun r1 r2 => r1.append r2⟩
  have kR : KBn K eR ["cls", "text"] 1 ["text"] (fun us ws => us ++ ws) (fun vs zs => vs ++ zs) := by
    obtain ⟨oc, od, kV, doc, pm, an, cdv, ct, osl, rfl, lk, hcd⟩ := MR.ex
    exact ⟨fun s us ws _ l1 l2 => .of_eq (match us, l1, ws, l2 with | [_], _, [_], _ => rfl), fun r1 r2 => r1.append r2⟩
  obtain ⟨dB', FB⟩ := xP.fn
  have bB' : Binds K dB' ["self", "part"] [] := FB.binds fun _ _ _ _ _ _ us hl => match us, hl with | [_, _], _ => rfl
  obtain ⟨dT, FT⟩ := xT.fn
  have bT : Binds K dT ["self", "line", "word"] [] := FT.binds fun _ _ _ _ _ _ us hl => match us, hl with | [_, _, _], _ => rfl
  have m_isinstance := PySem.W.mg_none_of X G z_isinstance
  have m_int := PySem.W.mg_none_of X G z_int
  have m_bool := PySem.W.mg_none_of X G z_bool
  have m_str := PySem.W.mg_none_of X G z_str
  have m_len := PySem.W.mg_none_of X G z_len
  have m_abs := PySem.W.mg_none_of X G z_abs
  have m_list := PySem.W.mg_none_of X G z_list
  have m_range := PySem.W.mg_none_of X G z_range
  have m_tuple := PySem.W.mg_none_of X G z_tuple
  have m_enumerate := PySem.W.mg_none_of X G z_enumerate
  have m_sorted := PySem.W.mg_none_of X G z_sorted
  have m_any := PySem.W.mg_none_of X G z_any
  have m_all := PySem.W.mg_none_of X G z_all
  have m_sum := PySem.W.mg_none_of X G z_sum
  have m_zip := PySem.W.mg_none_of X G z_zip
  have m_iter := PySem.W.mg_none_of X G z_iter
  have m_set := PySem.W.mg_none_of X G z_set
  have TT : GlbT mg := ⟨m_isinstance, m_int, m_bool, m_str, m_len⟩
  have TS : GlbS mg := ⟨m_len, m_range, m_tuple, m_list⟩
  have TG : Glb mg := ⟨m_int, m_abs, m_len, m_list⟩
  have TE : GlbE mg := ⟨m_enumerate, m_sorted, m_any, m_all, m_sum⟩
  have gC := PySem.W.mg_of X G aC
  have gCP := PySem.W.mg_of X G aCP
  have hA : ∃ t, mg "MOST_AGE" = some (.int 4 t) := zA.imp fun _ e => PySem.W.mg_of X G e
  have hSu' : ∃ t, mg "MOST_SUMS" = some (.int 4 t) := zS.imp fun _ e => PySem.W.mg_of X G e
  have hP : ∃ t, mg "MOST_PHASES" = some (.int 4 t) := zP.imp fun _ e => PySem.W.mg_of X G e
  have GC : PhC K C := ⟨clsC, nsu, nmu⟩
  have GP : PlC K CP := ⟨clsCP, nph⟩
  have IC : GIsi K C := ⟨ccC, cs, ct, obC⟩
  have IP : GIsi K CP := ⟨ccCP, cs, ct, obCP⟩
  have MkC : Mk K C mC := ⟨mkC, aIC, tIC, kpC⟩
  have MkP : Mk K CP mP := ⟨mkCP, aIP, tIP, kpCP⟩
  have CGK : CG K := ⟨cs, ct⟩
  have isP : (PySem.W.clsIn K CP).isSome = true := by
    obtain ⟨cd, hc, _⟩ := PySem.W.any_some clsCP.hd
    rw [hc]
    rfl
  have N : PName K mg CP mc := ⟨gCP, ⟨rd, ga⟩⟩
  have EK : ErrK K mg B cB cT := ⟨PySem.W.mg_of X G gB, PySem.W.mg_of X G xP.b.aC, PySem.W.mg_of X G xT.b.aC, xP.b.caught bB dB tyB, xT.b.caught bB dB tyB, kit_self, kit_self, xP.b.xc CGK, xT.b.xc CGK, xp, xw, xl⟩
  refine ⟨PySem.W.fnOf "law" "law" (defArgs sLaw) (defBody sLaw) (defScope sLaw) .none kV doc pm an cdv ct', fun s v => .of_eq rfl, fun base _ _ => ?_⟩
  have BP : GOne l.prog w K mg base "BadPlan" "part" cB fB dB' := ⟨xP.b.ox, xP.a1, xP.t1, ok_I1 xP FB ⟨rfl, rfl, rfl, by decide +kernel, rfl, by decide +kernel, by decide +kernel⟩ rfl rfl rfl (by decide +kernel) (by decide +kernel) xp, bB', PySem.W.mg_of X G xP.b.aC⟩
  have BT : GTwo l.prog w K mg base "BadText" "line" "word" cT fT dT := ⟨xT.b.ox, xT.a1, xT.t1, ok_I2 xT FT ⟨rfl, rfl, rfl, by decide +kernel, rfl, by decide +kernel, by decide +kernel⟩ rfl rfl rfl rfl (by decide +kernel) (by decide +kernel) (by decide +kernel) (by decide +kernel) xl xw, bT, PySem.W.mg_of X G xT.b.aC⟩
  have oInt : FnOk l.prog w K mg base (CX0) 1 fInt dInt ["value"] (spIsInt K) := ok_isInt FInt TT
  have GInt : Gfn l.prog w K mg base 1 "is_integer" ["value"] (spIsInt K) := ⟨_, _, oInt, hInt.k, bInt, gInt⟩
  have oWi : FnOk l.prog w K mg base (CX0) 2 fWi dWi ["value", "least", "most"] (spWithin K) := ok_within FWi TT FInt bInt gInt
  have GWi : Gfn l.prog w K mg base 2 "is_within" ["value", "least", "most"] (spWithin K) := ⟨_, _, oWi, hWi.k, bWi, gWi⟩
  have oAs : FnOk l.prog w K mg base (CX0) 1 fAs dAs ["values"] (spAsc K) := ok_Asc FAs TS m_all
  have GAs : Gfn l.prog w K mg base 1 "is_ascending" ["values"] (spAsc K) := ⟨_, _, oAs, hAs.k, bAs, gAs⟩
  have oAg : FnOk l.prog w K mg base (CX0) 1 fAs dAs ["values"] (spAscG K) := ok_AscG FAs TS m_all
  have GAg : Gfn l.prog w K mg base 1 "is_ascending" ["values"] (spAscG K) := ⟨_, _, oAg, hAs.k, bAs, gAs⟩
  have oSu : FnOk l.prog w K mg base (CX0) 3 fSu dSu ["value"] (spSum K) := ok_Sum FSu TT TS m_all hA GWi GAs
  have GSu : Gfn l.prog w K mg base 3 "is_sum" ["value"] (spSum K) := ⟨_, _, oSu, hSu.k, bSu, gSu⟩
  have oTe : FnOk l.prog w K mg base (CX0) 1 fTe dTe ["phases", "at"] (spTel K C) := ok_Tel FTe GC TS TE
  have GTe : Gfn l.prog w K mg base 1 "tells_mute" ["phases", "at"] (spTel K C) := ⟨_, _, oTe, hTe.k, bTe, gTe⟩
  have oTf : FnOk l.prog w K mg base (CX0) 1 fTe dTe ["phases", "at"] (spTelE K C) := ok_TelE FTe GC TS TE
  have GTf : Gfn l.prog w K mg base 1 "tells_mute" ["phases", "at"] (spTelE K C) := ⟨_, _, oTf, hTe.k, bTe, gTe⟩
  have oSo : FnOk l.prog w K mg base (CX0) 2 fSo dSo ["word"] (spSof) := ok_Sof FSo TT TS GAg
  have GSo : Gfn l.prog w K mg base 2 "sum_of" ["word"] (spSof) := ⟨_, _, oSo, hSo.k, bSo, gSo⟩
  have oCf : FnOk l.prog w K mg base (CX0) 3 fCf dCf ["sums", "word"] (spCan) := ok_Can FCf TS hSu' GSo
  have GCf : Gfn l.prog w K mg base 3 "can_follow" ["sums", "word"] (spCan) := ⟨_, _, oCf, hCf.k, bCf, gCf⟩
  have oWo : FnOk l.prog w K mg base (CX0) 1 fWo dWo ["text"] (spWo) := ok_Wo FWo TT
  have GWo : Gfn l.prog w K mg base 1 "words_of" ["text"] (spWo) := ⟨_, _, oWo, hWo.k, bWo, gWo⟩
  have oPw : FnOk l.prog w K mg base (CX0) 1 fPw dPw ["phases"] (spPw K C) := ok_Pw FPw GC TT TE
  have GPw : Gfn l.prog w K mg base 1 "phase_words" ["phases"] (spPw K C) := ⟨_, _, oPw, hPw.k, bPw, gPw⟩
  have oRf : FnOk l.prog w K mg base (L2.CX l.prog w) 4 fRf dRf ["words"] (spRof cT) := ok_Rof FRf TS TE hP BT GSo GCf
  have GG : GPl l.prog w K mg base CP C mP mC := ⟨gCP, gC, MkP, MkC, ok_Pl MIP GP GC IC gC TT TS TE hP GTe, made_PhK hIC GC TT TS TE hSu' GSu, made_PhD hIC hD GC TT TS TE hSu' GSu, GP, GC⟩
  have oIP : FnR l.prog w K mg base (L2.CX l.prog w) 4 mP (spPlAE K CP C cB) := ok_PlE MIP GP GC IC gC TT TS TE hP GTf BP
  have oN : FnOk l.prog w K mg base CX0 6 mN eN ["cls"] (spPlain K CP C) := ok_Plain MN GG
  have oO : FnR l.prog w K mg base CX0 6 mO (spCopA K CP C) := ok_Cop MO GG
  have oG1 : FnOk l.prog w K mg base CX0 6 mG eG ["cls", "size"] (spGrp1 K CP C) := ok_Grp1 MG GG TS GWi
  have oG3 : FnOk l.prog w K mg base CX0 6 mG eG ["cls", "size"] (spGrp3 K CP C) := ok_Grp3 MG GG TS GWi
  have oR : FnOk l.prog w K mg base (L2.CX l.prog w) 6 mR eR ["cls", "text"] (spRd K CP C cT cB) := ok_Rd MR GG oIP m_zip oWo hWo.k bWo gWo oRf hRf.k bRf gRf
  have oE : FnOk l.prog w K mg base CX0 1 mE eE ["self", "other"] (spEqP K C) := ok_EqP ME GC IC gC TT
  have oL : FnOk l.prog w K mg base CX0 1 mL eL ["self"] (spLen K CP C) := ok_LenP ML GP TS
  have oI : ∀ m, FnOk l.prog w K mg base CX0 1 mI eI ["self"] (spIterP K CP C m) := ok_IterP MI GP m_iter
  have oX : FnOk l.prog w K mg base CX0 2 mX eX ["self", "at"] (spGetP K CP C) := ok_GetP MX GP TS GInt
  have oQ : FnOk l.prog w K mg base CX0 3 mQ eQ ["self", "other"] (spEqL K CP C) := ok_EqL MQ GP IP gCP TT oE ⟨aE, tE⟩ cE
  have oS : FnOk l.prog w K mg base CX0 2 mS eS ["self"] (spStr K CP C) := ok_Str MS GP GPw
  have RK : RtK l.prog w K mg base CP C mE mQ mL mI mX eE := ⟨⟨aE, tE⟩, oE, cE, neC, obC, nfC, ⟨aQ, tQ⟩, fnR0 oQ cQ, neCP, obCP, nfCP, sL, kit_of_ty sL isP tyP, ⟨aL, tL⟩, fnR0 oL cL, ⟨aI, tI⟩, fun m => fnR0 (oI m) cI, ⟨aX, tX⟩, iX, fnR0 oX cX⟩
  have oPe : FnOk l.prog w K mg base (CX0) 1 fPe dPe ["_law_script"] (spPen K) := ok_pen FPe TG
  have GPe : Gfn l.prog w K mg base 1 "_law_pen" ["_law_script"] (spPen K) := ⟨_, _, oPe, hPe.k, bPe, gPe⟩
  have oDr : FnOk l.prog w K mg base (CX0) 1 fDr dDr ["_law_pen_here", "_law_top_so"] (spDraw) := ok_draw FDr TG
  have GDr : Gfn l.prog w K mg base 1 "_law_draw" ["_law_pen_here", "_law_top_so"] (spDraw) := ⟨_, _, oDr, hDr.k, bDr, gDr⟩
  have oPi : FnOk l.prog w K mg base (CX0) 2 fPi dPi ["_law_pen_here", "_law_some"] (spPick) := ok_pick FPi TG FDr bDr gDr
  have GPi : Gfn l.prog w K mg base 2 "_law_pick" ["_law_pen_here", "_law_some"] (spPick) := ⟨_, _, oPi, hPi.k, bPi, gPi⟩
  have oSm : FnOk l.prog w K mg base (CX0) 3 fSm dSm ["_law_pen_here"] (spSms) := ok_Sms FSm TS oDr hDr.k bDr gDr GPi
  have GSm : Gfn l.prog w K mg base 3 "_law_sums" ["_law_pen_here"] (spSms) := ⟨_, _, oSm, hSm.k, bSm, gSm⟩
  have oPn : FnOk l.prog w K mg base (CX0) 4 fPn dPn ["_law_pen_here"] (spPln) := ok_Pln FPn TG TS oDr hDr.k bDr gDr GSm
  have GPn : Gfn l.prog w K mg base 4 "_law_plain" ["_law_pen_here"] (spPln) := ⟨_, _, oPn, hPn.k, bPn, gPn⟩
  have oPh : FnOk l.prog w K mg base (CX0) 6 fPh dPh ["_law_row"] (spPhs K C) := ok_Phs FPh TS GG
  have GPh : Gfn l.prog w K mg base 6 "_law_phase" ["_law_row"] (spPhs K C) := ⟨_, _, oPh, hPh.k, bPh, gPh⟩
  have oPa : FnOk l.prog w K mg base (CX0) 7 fPa dPa ["_law_plain_here"] (spPla K CP C) := ok_Pla FPa TS GG GPh
  have GPa : Gfn l.prog w K mg base 7 "_law_plan" ["_law_plain_here"] (spPla K CP C) := ⟨_, _, oPa, hPa.k, bPa, gPa⟩
  have oLw : FnOk l.prog w K mg base (CX0) 1 fLw dLw ["_law_ages"] (spLw) := ok_Lw FLw TT
  have GLw : Gfn l.prog w K mg base 1 "_law_word" ["_law_ages"] (spLw) := ⟨_, _, oLw, hLw.k, bLw, gLw⟩
  have tLw : FnT l.prog w K mg base 1 fLw dLw ["_law_ages"] spLw := okT_Lw FLw TT
  have oLt : FnOk l.prog w K mg base (CX0) 2 fLt dLt ["_law_plain_here"] (spLt) := ok_Lt FLt TE tLw gLw hLw.k bLw
  have GLt : Gfn l.prog w K mg base 2 "_law_text" ["_law_plain_here"] (spLt) := ⟨_, _, oLt, hLt.k, bLt, gLt⟩
  have oRt : FnOk l.prog w K mg base (CX0) 8 fRt dRt ["_law_plain_here"] (spRt) := ok_Rt (mc := mc) FRt TT TS m_zip GC GP RK N tO oO tN (fnR0 oN cN) GPh GPa GLw GLt
  have GRt : Gfn l.prog w K mg base 8 "_law_right" ["_law_plain_here"] (spRt) := ⟨_, _, oRt, hRt.k, bRt, gRt⟩
  have oRe : FnOk l.prog w K mg base (CX0) 1 fRe dRe ["_law_words", "_law_at"] (spRe) := ok_Re FRe TT TS TE m_set
  have GRe : Gfn l.prog w K mg base 1 "_law_row_end" ["_law_words", "_law_at"] (spRe) := ⟨_, _, oRe, hRe.k, bRe, gRe⟩
  have oDu : FnOk l.prog w K mg base (CX0) 2 fDu dDu ["_law_line"] (spDu 60) := ok_Du FDu TT TS TE GRe
  have GDu : Gfn l.prog w K mg base 2 "_law_due" ["_law_line"] (spDu 60) := ⟨_, _, oDu, hDu.k, bDu, gDu⟩
  have oRr : FnOk l.prog w K mg base (CX0) 7 fRr dRr ["_law_line"] (spRr 60) := ok_Rr (mc := mc) FRr (by decide) TT TS EK N tR oR cR ⟨aS, tS⟩ oS cS ⟨aL, tL⟩ oL cL GDu
  have GRr : Gfn l.prog w K mg base 7 "_law_read_right" ["_law_line"] (spRr 60) := ⟨_, _, oRr, hRr.k, bRr, gRr⟩
  have oB1 : FnOk l.prog w K mg base (CX0) 3 fBt dBt ["_law_pen_here", "_law_line"] (spBt 24) := ok_Bt FBt TT TS GDr GPi
  have GB1 : Gfn l.prog w K mg base 3 "_law_bent" ["_law_pen_here", "_law_line"] (spBt 24) := ⟨_, _, oB1, hBt.k, bBt, gBt⟩
  have oB2 : FnOk l.prog w K mg base (CX0) 3 fBt dBt ["_law_pen_here", "_law_line"] (spBt 25) := ok_Bt FBt TT TS GDr GPi
  have GB2 : Gfn l.prog w K mg base 3 "_law_bent" ["_law_pen_here", "_law_line"] (spBt 25) := ⟨_, _, oB2, hBt.k, bBt, gBt⟩
  exact ok_Law (mc := mc) FLa TT TS N RK tO oO tN (fnR0 oN cN) tG (fnR0 oG3 cG) oG1 kG tR oR kR ⟨aS, tS⟩ oS cS (first_of_ty sS) (kit_of_ty sS isP tyP) GPe GPn GPa GLt GRt GRr GB1 GB2
end K17
namespace K17
open PySem L2 Evl
theorem walk {l : PySem.W.OpenLaw} {q : Program} {loose : List Str} {XP : (Str → Option Value) → Heap → Prop} {YP : World → Heap → Prop} {d : DefRec} {K : Params → PySem.W.Frag} (hn : l.most = some 63) (hdf : d.params.defaults = [])
    (hY : ∀ (w : World) (h : Heap), YP w h → (K w.params).In h)
    (F : ∀ (w : World) (mg : Str → Option Value) (fa : Addr) (h : Heap), (K w.params).In h → h.Ns mainGlobals mg → mg d.name = some (.ref fa) →
      ∃ fd : FuncData, (∀ (s : Shared) (u : Value), BindsTo s fd ⟨[u], []⟩ [("_law_script", u)]) ∧ ∀ base : Heap, (K w.params).In base → base.Ns mainGlobals mg → FnG l.prog w (K w.params) mg base 9 fa fd ["_law_script"] (spLaw (K w.params))) :
    PySem.W.WalkO q loose XP YP l.row.toRowW d [] (fun f vs => PySem.call f vs) :=
  walkG_of (n := 63) (k := 9) (x := "_law_script") (sp := fun w => spLaw (K w.params)) hn (by decide) hdf ⟨rfl, by decide, by decide⟩ hY F (fun w H a ns hl _ hS => ⟨a, ns, rfl, hS, hl, fun _ => rfl⟩)
end K17
open PySem PySem.W PyProof.Rows
set_option maxRecDepth 100000 in
set_option maxHeartbeats 0 in
theorem PySem.Challenge.cw_layerpost_k17_plans_made_and_written_holds : PySem.Challenge.rw_layerpost_k17_plans_made_and_written.Holds := by
  w_on; o_law; k_head; (case hw => w_witness2)
  k_fill
  refine K17.walk (l := PySem.Challenge.rw_layerpost_k17_plans_made_and_written) rfl rfl (fun w h Y => PySem.W.kIn_of Y) ?F
  case F =>
    intro w mg fa h KX G hmg
    refine' K17.all_mk KX G hmg ?qaInt ?qhInt ?qaWi ?qhWi ?qaWo ?qhWo ?qaAs ?qhAs ?qaSu ?qhSu ?qaSo ?qhSo ?qaPw ?qhPw ?qaCf ?qhCf ?qaRf ?qhRf ?qaTe ?qhTe ?qaPe ?qhPe ?qaDr ?qhDr ?qaPi ?qhPi ?qaSm ?qhSm ?qaPn ?qhPn ?qaPh ?qhPh ?qaPa ?qhPa ?qaLw ?qhLw ?qaLt ?qhLt ?qaRt ?qhRt ?qaRe ?qhRe ?qaDu ?qhDu ?qaRr ?qhRr ?qaBt ?qhBt ?qaLa ?qhLa ?qaC ?qclsC ?qmkC ?qkpC ?qccC ?qobC ?qneC ?qnfC ?qaCP ?qclsCP ?qmkCP ?qkpCP ?qccCP ?qobCP ?qneCP ?qnfCP ?qnsu ?qnmu ?qnph ?qaIC ?qtIC ?qhIC ?qhD ?qaIP ?qtIP ?qhIP ?qrd ?qga ?qtN ?qhN ?qtO ?qhO ?qtG ?qhG ?qtR ?qhR ?qaE ?qtE ?qhE ?qaL ?qtL ?qhL ?qaI ?qtI ?qhI ?qaX ?qtX ?qhX ?qaQ ?qtQ ?qhQ ?qaS ?qtS ?qhS ?qiX ?qsL ?qsS ?qtyP ?qcs ?qct ?qgB ?qbB ?qdB ?qtyB ?qxP ?qxT ?qxp ?qxl ?qxw ?qzA ?qzS ?qzP ?qz_isinstance ?qz_int ?qz_bool ?qz_str ?qz_len ?qz_abs ?qz_list ?qz_range ?qz_tuple ?qz_enumerate ?qz_sorted ?qz_any ?qz_all ?qz_sum ?qz_zip ?qz_iter ?qz_set
    (case qaInt => k_is)
    (case qhInt => exact ⟨⟨_, _, _, _, _, _, _, _, _, by k_is, by k_is⟩, by k_is⟩)
    (case qaWi => k_is)
    (case qhWi => exact ⟨⟨_, _, _, _, _, _, _, _, _, by k_is, by k_is⟩, by k_is⟩)
    (case qaWo => k_is)
    (case qhWo => exact ⟨⟨_, _, _, _, _, _, _, _, _, by k_is, by k_is⟩, by k_is⟩)
    (case qaAs => k_is)
    (case qhAs => exact ⟨⟨_, _, _, _, _, _, _, _, _, by k_is, by k_is⟩, by k_is⟩)
    (case qaSu => k_is)
    (case qhSu => exact ⟨⟨_, _, _, _, _, _, _, _, _, by k_is, by k_is⟩, by k_is⟩)
    (case qaSo => k_is)
    (case qhSo => exact ⟨⟨_, _, _, _, _, _, _, _, _, by k_is, by k_is⟩, by k_is⟩)
    (case qaPw => k_is)
    (case qhPw => exact ⟨⟨_, _, _, _, _, _, _, _, _, by k_is, by k_is⟩, by k_is⟩)
    (case qaCf => k_is)
    (case qhCf => exact ⟨⟨_, _, _, _, _, _, _, _, _, by k_is, by k_is⟩, by k_is⟩)
    (case qaRf => k_is)
    (case qhRf => exact ⟨⟨_, _, _, _, _, _, _, _, _, by k_is, by k_is⟩, by k_is⟩)
    (case qaTe => k_is)
    (case qhTe => exact ⟨⟨_, _, _, _, _, _, _, _, _, by k_is, by k_is⟩, by k_is⟩)
    (case qaPe => k_is)
    (case qhPe => exact ⟨⟨_, _, _, _, _, _, _, _, _, by k_is, by k_is⟩, by k_is⟩)
    (case qaDr => k_is)
    (case qhDr => exact ⟨⟨_, _, _, _, _, _, _, _, _, by k_is, by k_is⟩, by k_is⟩)
    (case qaPi => k_is)
    (case qhPi => exact ⟨⟨_, _, _, _, _, _, _, _, _, by k_is, by k_is⟩, by k_is⟩)
    (case qaSm => k_is)
    (case qhSm => exact ⟨⟨_, _, _, _, _, _, _, _, _, by k_is, by k_is⟩, by k_is⟩)
    (case qaPn => k_is)
    (case qhPn => exact ⟨⟨_, _, _, _, _, _, _, _, _, by k_is, by k_is⟩, by k_is⟩)
    (case qaPh => k_is)
    (case qhPh => exact ⟨⟨_, _, _, _, _, _, _, _, _, by k_is, by k_is⟩, by k_is⟩)
    (case qaPa => k_is)
    (case qhPa => exact ⟨⟨_, _, _, _, _, _, _, _, _, by k_is, by k_is⟩, by k_is⟩)
    (case qaLw => k_is)
    (case qhLw => exact ⟨⟨_, _, _, _, _, _, _, _, _, by k_is, by k_is⟩, by k_is⟩)
    (case qaLt => k_is)
    (case qhLt => exact ⟨⟨_, _, _, _, _, _, _, _, _, by k_is, by k_is⟩, by k_is⟩)
    (case qaRt => k_is)
    (case qhRt => exact ⟨⟨_, _, _, _, _, _, _, _, _, by k_is, by k_is⟩, by k_is⟩)
    (case qaRe => k_is)
    (case qhRe => exact ⟨⟨_, _, _, _, _, _, _, _, _, by k_is, by k_is⟩, by k_is⟩)
    (case qaDu => k_is)
    (case qhDu => exact ⟨⟨_, _, _, _, _, _, _, _, _, by k_is, by k_is⟩, by k_is⟩)
    (case qaRr => k_is)
    (case qhRr => exact ⟨⟨_, _, _, _, _, _, _, _, _, by k_is, by k_is⟩, by k_is⟩)
    (case qaBt => k_is)
    (case qhBt => exact ⟨⟨_, _, _, _, _, _, _, _, _, by k_is, by k_is⟩, by k_is⟩)
    (case qaLa => k_is)
    (case qhLa => exact ⟨⟨_, _, _, _, _, _, _, _, _, by k_is, by k_is⟩, by k_is⟩)
    (case qaC => k_is)
    (case qclsC => exact ⟨by k_is, by k_is, by k_is, by k_is⟩)
    (case qmkC => k_is)
    (case qkpC => k_is)
    (case qccC => k_is)
    (case qobC => k_is)
    (case qneC => k_is)
    (case qnfC => k_is)
    (case qaCP => k_is)
    (case qclsCP => exact ⟨by k_is, by k_is, by k_is, by k_is⟩)
    (case qmkCP => k_is)
    (case qkpCP => k_is)
    (case qccCP => k_is)
    (case qobCP => k_is)
    (case qneCP => k_is)
    (case qnfCP => k_is)
    (case qnsu => exact (by unfold L2.NoAttr; k_is))
    (case qnmu => exact (by unfold L2.NoAttr; k_is))
    (case qnph => exact (by unfold L2.NoAttr; k_is))
    (case qaIC => k_is)
    (case qtIC => k_is)
    (case qhIC => exact ⟨⟨_, _, _, _, _, _, _, _, by k_is, by k_is⟩⟩)
    (case qhD => k_is)
    (case qaIP => k_is)
    (case qtIP => k_is)
    (case qhIP => exact ⟨⟨_, _, _, _, _, _, _, _, _, by k_is, by k_is⟩, by k_is⟩)
    (case qrd => exact (show PySem.W.readsIn _ _ (.type "type") = true by k_is))
    (case qga => k_is)
    (case qtN => exact ⟨by k_is, ⟨_, by k_is⟩, by k_is⟩)
    (case qhN => exact ⟨⟨_, _, _, _, _, _, _, _, _, by k_is, by k_is⟩, by k_is⟩)
    (case qtO => exact ⟨by k_is, ⟨_, by k_is⟩, by k_is⟩)
    (case qhO => exact ⟨⟨_, _, _, _, _, _, _, _, _, by k_is, by k_is⟩, by k_is⟩)
    (case qtG => exact ⟨by k_is, ⟨_, by k_is⟩, by k_is⟩)
    (case qhG => exact ⟨⟨_, _, _, _, _, _, _, _, _, by k_is, by k_is⟩, by k_is⟩)
    (case qtR => exact ⟨by k_is, ⟨_, by k_is⟩, by k_is⟩)
    (case qhR => exact ⟨⟨_, _, _, _, _, _, _, _, _, by k_is, by k_is⟩, by k_is⟩)
    (case qaE => k_is)
    (case qtE => k_is)
    (case qhE => exact ⟨⟨_, _, _, _, _, _, _, _, _, by k_is, by k_is⟩, by k_is⟩)
    (case qaL => k_is)
    (case qtL => k_is)
    (case qhL => exact ⟨⟨_, _, _, _, _, _, _, _, _, by k_is, by k_is⟩, by k_is⟩)
    (case qaI => k_is)
    (case qtI => k_is)
    (case qhI => exact ⟨⟨_, _, _, _, _, _, _, _, _, by k_is, by k_is⟩, by k_is⟩)
    (case qaX => k_is)
    (case qtX => k_is)
    (case qhX => exact ⟨⟨_, _, _, _, _, _, _, _, _, by k_is, by k_is⟩, by k_is⟩)
    (case qaQ => k_is)
    (case qtQ => k_is)
    (case qhQ => exact ⟨⟨_, _, _, _, _, _, _, _, _, by k_is, by k_is⟩, by k_is⟩)
    (case qaS => k_is)
    (case qtS => k_is)
    (case qhS => exact ⟨⟨_, _, _, _, _, _, _, _, _, by k_is, by k_is⟩, by k_is⟩)
    (case qiX => k_is)
    (case qsL => k_is)
    (case qsS => k_is)
    (case qtyP => k_is)
    (case qcs => k_is)
    (case qct => k_is)
    (case qgB => k_is)
    (case qbB => k_is)
    (case qdB => k_is)
    (case qtyB => k_is)
    (case qxP => exact ⟨⟨by k_is, ⟨_, _, _, _, _, _, _, _, _, _, _, _, _, _, by k_is⟩, by k_is, by k_is, by k_is, by k_is, by k_is, by k_is⟩, by k_is, ⟨_, _, _, _, _, _, _, _, _, by k_is, by k_is⟩, by k_is, by k_is⟩)
    (case qxT => exact ⟨⟨by k_is, ⟨_, _, _, _, _, _, _, _, _, _, _, _, _, _, by k_is⟩, by k_is, by k_is, by k_is, by k_is, by k_is, by k_is⟩, by k_is, ⟨_, _, _, _, _, _, _, _, _, by k_is, by k_is⟩, by k_is, by k_is⟩)
    (case qxp => k_is)
    (case qxl => k_is)
    (case qxw => k_is)
    (case qzA => exact ⟨_, by k_is⟩)
    (case qzS => exact ⟨_, by k_is⟩)
    (case qzP => exact ⟨_, by k_is⟩)
    (case qz_isinstance => k_is)
    (case qz_int => k_is)
    (case qz_bool => k_is)
    (case qz_str => k_is)
    (case qz_len => k_is)
    (case qz_abs => k_is)
    (case qz_list => k_is)
    (case qz_range => k_is)
    (case qz_tuple => k_is)
    (case qz_enumerate => k_is)
    (case qz_sorted => k_is)
    (case qz_any => k_is)
    (case qz_all => k_is)
    (case qz_sum => k_is)
    (case qz_zip => k_is)
    (case qz_iter => k_is)
    (case qz_set => k_is)
