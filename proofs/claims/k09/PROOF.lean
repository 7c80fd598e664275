import PyProof.Rows.All
import Wide.All
import OpenK.AllK
import Wide.FinOn
import HandS.ForMost
import HandS.ClsMeth
import HandS.Star
import HandS.SlotsOwn
import HandS.OwnEq
import KE.KOpsOwn
import HandS.Defaults
import HandS.RaiseMore
import HandS.Codes
import KE.KCallOwn
import HandS.Evl
import HandS.MakeKwOnly
import HandS.ForExc
import HandS.ExcInit
import HandS.ExcValue
import HandS.ExcField
import HandS.IsInst
import KE.KExcIs
import HandS.Lambda
import PyProof.ReprRoads
import HandS.EndTab
import KE.KNest
import PyProof.Rows.SortStr
import PyProof.EqAt
import PyProof.EqKinds
import PyProof.TupleCall
import PyProof.Rows.SortShell
import PyProof.Rows.SortWalk
import KE.KSortTup
import HandS.Base
import HandS.Call
import HandS.Dict
import HandS.Sort
import HandS.SortOrd
import HandS.SortRule
import HandS.Text
import HandS.StrMore
import PyProof.Rows.StrIf
import HandS.CallLocal
import HandS.TupMul
import HandS.Iter
import HandS.Walk
import KE.GoesMore
import KE.GoesEnum
import HandS.SetFor
import HandS.Strs
import HandS.TupSets
import HandS.SortKw
import PyProof.SetRoads
import HandS.Wide
import HandS.TupAny
import HandS.Conv
import HandS.Keys
import HandS.ExcIs
import HandS.Deep
import HandS.WordsExc
import HandS.TupLe
import PyProof.StrOps2
import HandS.Small
import PyProof.Rows.StrFacts
import HandS.MakeKw
import PySem.Challenge.RW_layerpost_k09_letters_framed_and_read_ba
set_option Elab.async false
set_option linter.all false
set_option maxRecDepth 100000
set_option maxHeartbeats 8000000
/-! a static method called off its class -/
namespace StM
open PySem PySem.Spec PyProof.Rows L2 ClX
/-- C.m is a staticmethod: its record at p, its def at g -/
structure SMet (K : PySem.W.Frag) (C : Addr) (mc : Value) (m : Str) (p g : Addr) : Prop where
  at_ : PySem.W.findCls K (.ref C) mc m = some (.get (.builtin "staticmethod.__get__") (.ref p) .none (.ref C))
  rc : ∃ rest, PySem.W.recIn K p "staticmethod" = some (.ref g :: rest)
  kp : PySem.W.keepIn K (.ref g) = true
/-- e.m(..), e the class at C -/
def tSMeth (C : Addr) (sp : Sp) (E : XK) (ta : TE) (t : TA) : TE := fun σ H Q => ta σ H fun x H1 => x = .ref C ∧ t σ H1 fun vs H2 => sp vs H2 Q E
section
variable {X : Cx} {CX : CXT} {k : Nat} {C p g : Addr} {mc : Value} {sp : Sp} {E : XK} {o e : Expr} {es : List Expr} {m : Str} {pos apos : Pos} {ta : TE} {t : TA} {pl : Sem Bool}
theorem pe_smeth (he : PE X o ta) (r : CRead X.K C mc) (c : SMet X.K C mc m p g) (F : FnR X.prog X.w X.K X.mg X.base CX k g sp) (hr : Room k X.A) (hx : Passes CX X E) (ha : PA X (e :: es) t)
    (hst : starEach (e :: es) X.env = (false, eval e X.env) :: starEach es X.env := by rfl) (hpl : (backTo pos (starEach es X.env)).any (·.1) = false := by rfl)
    (ht : eval (.Call (.Attribute o m apos) (e :: es) [] pos) X.env = (do
      let ov ← eval o X.env
      standAt apos.atName
      let (f, first) ← holding [ov] (getMethod ov m pl)
      callWith pos f first (backTo pos (starEach (e :: es) X.env)) (backToKw pos (keywordEach [] X.env))) := by rfl) :
    PE X (.Call (.Attribute o m apos) (e :: es) [] pos) (tSMeth C sp E ta t) := by
  refine ⟨fun pins s σ H Q I h => ?_⟩
  refine PySem.W.methodCall_KW (pl := pl) (thn (he.run pins s σ H _ I h) fun u s1 ⟨x, H1, I1, rx, ex, q⟩ => ?_) ht
  subst ex
  obtain rfl : u = Value.ref C := rx
  obtain ⟨rest, hp⟩ := c.rc
  refine PySem.W.method_cls I1.kIn r.ga (PySem.W.cls_bind I1.kIn r.rd c.at_ ?_)
  refine wpAny_call (PySem.W.sm_get (s := { s1 with toks := s1.toks + 1 }) I1.kIn hp (PySem.W.handed_on rfl ?_))
  have I2 : Inv X pins σ H1 { s1 with toks := s1.toks + 1 } := I1.tok _
  refine PySem.W.callWith_K (h₀ := X.base) I2.ok.mod.kin c.kp (thn (ha.run pos pins _ σ H1 _ I2 q) fun us s3 ⟨vs, H2, I3, rv, q2⟩ => ⟨I3.kIn, ?_⟩) hst hpl
  exact wpAny_call (run_fnR (us := us) (vs := vs) F hr hx I3 rv q2)
end
end StM
/-! operators of own classes, for instances with a dict or with slots -/
namespace OpX
open PySem PySem.Spec PyProof.Rows L2 StX
section
variable {prog : Program} {w : World} {A : Around} {E : Value → Shared → Prop} {s : Shared} {K : PySem.W.Frag} {x y C f L : Addr} {h₀ : Heap} {m : Str → Option Value} {ox oy : Obj} {od od' : Option Obj}
/-- some answer came -/
def Told (Q : Value → Shared → Prop) (r : Option Value) (s' : Shared) : Prop := ∃ v, r = some v ∧ Q v s'
/-- what an operator's first try told is the operator's word -/
theorem told_pure {M : Model} {B : Around} {F : Value → Shared → Prop} {Q : Value → Shared → Prop} {t : Sem (Option Value)} {k : Option Value → Sem Value} {s' : Shared} (h : wpAny M B t (Told Q) F s') (hk : ∀ v, k (some v) = pure v) : wpAny M B (t >>= k) Q F s' :=
  wpAny_bind (wpAny_mono h (fun r s'' ⟨v, e, q⟩ => by rw [e, hk]; exact wpAny_pure q) fun _ _ z => z)
open Builtin in
/-- object's own != asks the class's == and turns its bool about -/
theorem turned {Q : Value → Shared → Prop} {b : Value} (hu : A.in1.units < cLine) (X : K.In s.heap) (I : PySem.W.InstAt s.heap x ox C od) (hm : PySem.W.mroIn K C (.type "object") = some true)
    (hs : PySem.W.findIn K (.ref C) "__eq__" = some (some (.ref f))) (hf : PySem.W.isFn K (.ref f) = true)
    (h : wpAny (model prog w) A.in1 (call (.ref f) [.ref x, b]) (fun r s' => ∃ c, r = .bool c ∧ Q (.bool (!c)) s') E s) : wpAny (model prog w) A (call (.builtin "object.__ne__") [.ref x, b]) Q E s := by
  refine wpAny_call (codeAny_call_builtin PySem.F.slot_object_ne.plain PySem.F.entry_object_ne (PySem.W.check_slot (i := "object.__ne__") (owner := "object") (n := "__ne__") (by decide +kernel) (by decide +kernel) (I.type.andThen (PySem.W.looks_mroIn X hm)) (PySem.F.args_object_ne_2 _ _) ?_))
  show wpAny _ _ (Builtin.«object.__ne__» _) _ _ _
  unfold Builtin.«object.__ne__»
  exact wpAny_bind (m := slotArgs "__ne__" 1 _) (wpAny_pure (wpAny_bind (m := cRoomFor _ _) (wpAny_cRoomFor hu (wpAny_bind (m := callSpecialIfBound? (.ref x) (Str.ofString "__eq__") _)
    (PySem.W.ifBound_K X I hs hf (wpAny_mono h (fun r s' ⟨c, e, q⟩ => by
      subst e
      exact wpAny_bind (m := truthy (.bool c)) (wpAny_truthy_bool (wpAny_pure q))) fun _ _ z => z))))))
/-- x != y, both of one class that has an own == and object's != -/
theorem ne_same {Q : Value → Shared → Prop} (hu : A.units < cLine) (hu1 : A.in1.units < cLine) (X : K.In s.heap) (I : PySem.W.InstAt s.heap x ox C od) (J : PySem.W.InstAt s.heap y oy C od')
    (hne : PySem.W.findIn K (.ref C) "__ne__" = some (some (.builtin "object.__ne__"))) (hm : PySem.W.mroIn K C (.type "object") = some true) (hs : PySem.W.findIn K (.ref C) "__eq__" = some (some (.ref f))) (hf : PySem.W.isFn K (.ref f) = true)
    (h : wpAny (model prog w) A.in1 (call (.ref f) [.ref x, .ref y]) (fun r s' => ∃ c, r = .bool c ∧ Q (.bool (!c)) s') E s) : wpAny (model prog w) A (richCompare .NotEq (.ref x) (.ref y)) Q E s := by
  have word := turned (Q := fun v s' => Q v s' ∧ ∃ c, v = .bool c) hu1 X I hm hs hf (wpAny_mono h (fun r s' ⟨c, e, q⟩ => ⟨c, e, q, _, rfl⟩) fun _ _ z => z)
  have bnd : PySem.W.Looks (model prog w) s.heap (bindSpecial (.builtin "object.__ne__") (.ref x)) (.builtin "object.__ne__", [.ref x]) := PySem.W.Looks.of_pure (PySem.F.slot_object_ne.bind _)
  have asked : wpAny (model prog w) A (call (.builtin "object.__ne__") ([.ref x] ++ [.ref y]) >>= fun v => pure (some v)) (Told fun v s' => Q v s' ∧ ∃ c, v = .bool c) E s := wpAny_bind (wpAny_mono word (fun v s' q => wpAny_pure ⟨v, rfl, q⟩) fun _ _ z => z)
  have tried : wpAny (model prog w) A (tryCompare (.ref x) (cmpInfo .NotEq).2.1 (.ref y)) (Told Q) E s := by
    unfold tryCompare callSpecialIfBound? bindSpecialIfBound?
    refine wpAny_bind (wpAny_holding (wpAny_bind (wpAny_bind (wpAny_bind (I.type.here ((PySem.W.looks_findIn X hne).here (wpAny_bind (wpAny_askSetting (wpAny_ite ?_)))))))))
    split
    · refine wpAny_bind (bnd.here (wpAny_pure ?_))
      exact wpAny_mono asked (fun r s' ⟨v, e, q, c, ec⟩ => by
        subst e ec
        exact wpAny_pure ⟨_, rfl, q⟩) fun _ _ z => z
    · refine wpAny_tryCatch (wpAny_bind (bnd.here (wpAny_pure ?_)))
      exact wpAny_mono asked (fun r s' ⟨v, e, q, c, ec⟩ => by
        subst e ec
        exact wpAny_pure ⟨_, rfl, q⟩) fun _ _ z => z
  have same : (Value.ref C != Value.ref C) = false := by simp
  unfold richCompare
  rw [oneThing_ref]
  refine wpAny_holding (wpAny_bind (wpAny_cRoomFor hu (wpAny_bind (I.type.here (wpAny_bind (J.type.here ?_))))))
  rw [same, if_neg Bool.false_ne_true]
  exact wpAny_bind (wpAny_pure (told_pure tried fun _ => rfl))
end
section
variable {X : Cx} {CX : CXT} {n : Nat} {C g : Addr} {sp : Sp} {E : XK}
/-- x op y: both of the class at C -/
def rS (X : Cx) (C : Addr) (sp : Sp) (E : XK) : R2 := fun x y H Q => ∃ a b, x = .ref a ∧ y = .ref b ∧ InsC X H a C ∧ InsC X H b C ∧ sp [.ref a, .ref b] H Q E
/-- x op i: x of the class at C, i an int -/
def rI (X : Cx) (C : Addr) (sp : Sp) (E : XK) : R2 := fun x y H Q => ∃ a i, x = .ref a ∧ y = .int i ∧ InsC X H a C ∧ sp [.ref a, .int i] H Q E
/-- i op x: the reflected one -/
def rR (X : Cx) (C : Addr) (sp : Sp) (E : XK) : R2 := fun x y H Q => ∃ a i, x = .int i ∧ y = .ref a ∧ InsC X H a C ∧ sp [.ref a, .int i] H Q E
/-- the def of an operator -/
structure Has (K : PySem.W.Frag) (C g : Addr) (name : Str) : Prop where
  at_ : PySem.W.findIn K (.ref C) name = some (some (.ref g))
  fn : PySem.W.isFn K (.ref g) = true
theorem run_own {pins : List (Addr × Obj)} {σ : L2.St} {H : Hp} {s : Shared} {Q : VK} {us : List Value} {vs : List V} (F : FnR X.prog X.w X.K X.mg X.base CX n g sp) (hr : Room n X.A) (hx : Passes CX X E) (I : Inv X pins σ H s) (r : Vals vs us)
    (q : sp vs H Q E) : wpAny (model X.prog X.w) X.A (call (.ref g) us) (PySem.W.CmpBack (EP X pins σ Q)) X.xe s := by
  refine wpAny_mono (wpAny_call (run_fnR F hr hx I r q)) (fun w s' z => ?_) fun _ _ x => x
  obtain ⟨z', H', I', rz, qz⟩ := z
  exact SlX.cmpback rz ⟨z', H', I', rz, qz⟩
theorem op_binS {op : Operator} (hc : PySem.W.selfFirst X.K C = true) (h : Has X.K C g (PySem.dunder op.info.2)) (F : FnR X.prog X.w X.K X.mg X.base CX n g sp) (hr : Room n X.A) (hx : Passes CX X E) :
    OpR X (binaryOp op) (rS X C sp E) := by
  intro pins s σ H x y v u Q I rx ry hq
  obtain ⟨a, b, rfl, rfl, ha, hb, q⟩ := hq
  cases (show v = Value.ref a from rx)
  cases (show u = Value.ref b from ry)
  obtain ⟨ox, od, J, _⟩ := insC_at I ha
  obtain ⟨ox', od', J', _⟩ := insC_at I hb
  obtain ⟨m, hF⟩ := I.fr
  exact PySem.W.binop_K hF I.ok.mod.kin J J'.type hc h.at_ h.fn (run_own (us := [.ref a, .ref b]) (vs := [.ref a, .ref b]) F hr hx I (.cons rfl (.cons rfl .nil)) q)
theorem op_binI {op : Operator} {fo ro rc : Option Value} (hc : PySem.W.selfFirst X.K C = true) (h : Has X.K C g (PySem.dunder op.info.2)) (hrf : PySem.W.findIn X.K (.ref C) (dunderR op.info.2) = some rc) (hp : rc = none ∨ ∃ g : Addr, rc = some (.ref g))
    (h1 : PySem.W.findIn X.K (.type "int") (PySem.dunder op.info.2) = some fo) (h2 : PySem.W.findIn X.K (.type "int") (dunderR op.info.2) = some ro) (hsub : PySem.W.subIn X.K (.type "int") (.ref C) = some false)
    (F : FnR X.prog X.w X.K X.mg X.base CX n g sp) (hr : Room n X.A) (hx : Passes CX X E) : OpR X (binaryOp op) (rI X C sp E) := by
  intro pins s σ H x y v u Q I rx ry hq
  obtain ⟨a, i, rfl, rfl, ha, q⟩ := hq
  cases (show v = Value.ref a from rx)
  obtain ⟨t, e⟩ := (show ∃ t, u = Value.int i t from ry)
  subst e
  obtain ⟨ox, od, J, _⟩ := insC_at I ha
  obtain ⟨m, hF⟩ := I.fr
  exact PySem.W.ksp_binT (T := "int") hF I.ok.mod.kin J rfl hc h.at_ h.fn hrf hp h1 h2 hsub (run_own (us := [.ref a, .int i t]) (vs := [.ref a, .int i]) F hr hx I (.cons rfl (.cons ⟨t, rfl⟩ .nil)) q)
/-- x == y: x of the class at C; y an instance of a class that is not below C -/
def rEqO (X : Cx) (C : Addr) (sp : Sp) (E : XK) : R2 := fun x y H Q => ∃ a b C', x = .ref a ∧ y = .ref b ∧ InsC X H a C ∧ InsC X H b C' ∧ PySem.W.notFirst X.K C (.ref C') = true ∧ sp [.ref a, .ref b] H Q E
theorem op_eqO {op : CmpOp} (hop : ∀ a b, compareOp op a b = richCompare op a b) (h : Has X.K C g (cmpInfo op).2.1) (F : FnR X.prog X.w X.K X.mg X.base CX n g sp)
    (hr : Room n X.A) (hx : Passes CX X E) : OpR X (compareOp op) (rEqO X C sp E) := by
  intro pins s σ H x y v u Q I rx ry hq
  obtain ⟨a, b, C', rfl, rfl, ha, hb, hn, q⟩ := hq
  cases (show v = Value.ref a from rx)
  cases (show u = Value.ref b from ry)
  obtain ⟨ox, od, J, _⟩ := insC_at I ha
  obtain ⟨ox', od', J', _⟩ := insC_at I hb
  obtain ⟨m, hF⟩ := I.fr
  rw [hop]
  exact PySem.W.cmp_K (op := op) (tb := .ref C') hr.units0 hF I.ok.mod.kin J J'.type hn h.at_ h.fn (run_own (us := [.ref a, .ref b]) (vs := [.ref a, .ref b]) F hr hx I (.cons rfl (.cons rfl .nil)) q)
/-- x != y, both of the class at C, which has an own == -/
def rNeO (X : Cx) (C : Addr) (sp : Sp) (E : XK) : R2 := fun x y H Q => ∃ a b, x = .ref a ∧ y = .ref b ∧ InsC X H a C ∧ InsC X H b C ∧ sp [.ref a, .ref b] H (fun v H' => ∃ c, v = .bl c ∧ Q (.bl (!c)) H') E
theorem op_neO (h : Has X.K C g "__eq__") (hne : PySem.W.findIn X.K (.ref C) "__ne__" = some (some (.builtin "object.__ne__"))) (hm : PySem.W.mroIn X.K C (.type "object") = some true) (F : FnR X.prog X.w X.K X.mg X.base CX n g sp)
    (hr : Room (n + 1) X.A) (hx : Passes CX X E) : OpR X (compareOp .NotEq) (rNeO X C sp E) := fun pins s σ H x y v u Q I rx ry ⟨a, b, ex, ey, ha, hb, q⟩ => by
  subst ex ey
  cases (show v = Value.ref a from rx)
  cases (show u = Value.ref b from ry)
  obtain ⟨ox, od, J, _⟩ := insC_at I ha
  obtain ⟨ox', od', J', _⟩ := insC_at I hb
  refine ne_same hr.units0 hr.in1.units0 I.kIn J J' hne hm h.at_ h.fn (wpAny_mono (wpAny_call (SlX.run_at (us := [.ref a, .ref b]) (ws := [.ref a, .ref b]) F hr.in1 I.env0.in1 hx I (.cons rfl (.cons rfl .nil)) q)) (fun r s' back => ?_) fun _ _ z => z)
  obtain ⟨_, H', I', rr, c, ec, qc⟩ := back
  subst ec
  cases (show r = Value.bool c from rr)
  exact ⟨c, rfl, .bl (!c), H', I', rfl, qc⟩
end
end OpX
/-! str of an own instance; str of an int or a text; C.m() of a static method; o.m(k = v) -/
namespace OwX
open PySem PySem.Spec PyProof.Rows L2 ClX StX
/-- a class's own __str__ -/
structure StrIn (K : PySem.W.Frag) (C g : Addr) : Prop where
  there : PySem.W.findIn K (.ref C) "__str__" = some (some (.ref g))
  isDef : PySem.W.isFn K (.ref g) = true
section
variable {X : Cx} {CX : CXT} {n : Nat} {C g : Addr} {sp : Sp} {E : XK}
theorem call_strI (c : StrIn X.K C g) (F : FnR X.prog X.w X.K X.mg X.base CX n g sp) (hr : Room (n + 2) X.A) (hx : Passes CX X E) :
    CallR X (.type "str") (fun xs H Q => ∃ a, xs = [.ref a] ∧ InsC X H a C ∧ sp [.ref a] H (fun v H' => ∃ y, v = .str y ∧ Q v H') E) := by
  intro pins s σ H xs us Q I r h
  obtain ⟨a, rfl, ha, q⟩ := h
  obtain ⟨u, rfl, ru⟩ := vals1 r
  cases (show u = Value.ref a from ru)
  obtain ⟨ox, od, J, _⟩ := insC_at I ha
  refine PySem.W.kso_call hr.in1.in1.units0 I.kIn J c.there c.isDef ?_
  refine wpAny_mono (wpAny_call (SlX.run_at (us := [.ref a]) (ws := [.ref a]) F hr.in1.in1 I.env0.in1.in1 hx I (.cons rfl .nil) q)) (fun v s' back => ?_) fun _ _ z => z
  obtain ⟨v', H', I', rv, y, ey, qy⟩ := back
  subst ey
  obtain ⟨t, et⟩ := (show ∃ t, v = Value.str y t from rv)
  subst et
  exact ⟨.str y, H', I', ⟨t, rfl⟩, qy⟩
/-- of an int that is not too long, and of a text -/
theorem call_strV : CallR X (.type "str") (fun xs H Q => (∃ i, xs = [.int i] ∧ i.natAbs.log2 < 1920 ∧ Q (.str (toString i)) H) ∨ ∃ a, xs = [.str a] ∧ Q (.str a) H) := fun pins s σ H xs us Q I r h =>
  h.elim (fun hi => call_str_int pins s σ H xs us Q I r hi) fun ha => SkE.call_str_str pins s σ H xs us Q I r ha
end
section
variable {X : Cx} {k : Nat} {C p f : Addr} {mc : Value} {fd : FuncData} {ps ks : List Str} {sp : Sp} {o : Expr} {m : Str} {pos apos : Pos} {ta : TE} {tk : TA} {pl : Sem Bool} {kws : List Keyword} {g : List Value → List Value → List Value} {gV : List V → List V → List V}
/-- o.m(k = v, ..), keywords alone -/
theorem pe_methKw (he : PE X o ta) (c : Cls X.K C) (hm : Meth X.K C m f) (F : FnOk X.prog X.w X.K X.mg X.base CX0 k f fd ps sp) (hr : Room k X.A) (hb : KBn X.K fd ps 1 ks g gV) (hkw : PK X kws tk)
    (some_ : (backToKw pos (keywordEach kws X.env)).all (·.1.isSome) = true := by rfl) (names : (backToKw pos (keywordEach kws X.env)).filterMap (·.1) = ks := by rfl)
    (none_ : ((backTo pos (starEach [] X.env)).any (·.1) || (backToKw pos (keywordEach kws X.env)).any (·.1.isNone)) = false := by rfl)
    (form : eval (.Call (.Attribute o m apos) [] kws pos) X.env = (do let ov ← eval o X.env; standAt apos.atName; let (f, first) ← holding [ov] (getMethod ov m pl); callWith pos f first (backTo pos (starEach [] X.env)) (backToKw pos (keywordEach kws X.env))) := by rfl) :
    PE X (.Call (.Attribute o m apos) [] kws pos) (fun σ H Q => ta σ H fun x H1 => ∃ a dx fs, x = .ref a ∧ H1 a = some (.ins C dx fs) ∧ fs.lookup m = none ∧ tk σ H1 fun zs H2 => zs.length = ks.length ∧ sp (gV [.ref a] zs) H2 Q E0) := by
  refine ⟨fun pins s σ H Q I h => PySem.W.methodCall_KW (pl := pl) (thn (he.run pins s σ H _ I h) fun u s1 ⟨x, H1, J, rx, a, dx, fs, ex, ea, l, q⟩ => ?_) form⟩
  subst ex
  cases (show u = Value.ref a from rx)
  refine getmeth_ok J ea c hm l (PySem.W.callWith_KW0 (first := [.ref a]) (h₀ := X.base) J.ok.mod.kin hm.kp some_ ?_ none_)
  refine thn (hkw.run pos pins s1 σ H1 _ J q) fun ws s2 ⟨zs, H2, J2, rz, l2, q2⟩ => ⟨J2.kIn, ?_⟩
  rw [names]
  exact run_fnN (us := [.ref a]) (vs := [.ref a]) F hr hb pass0 J2 (.cons rfl .nil) rz rfl l2 q2
end
end OwX
/-! x == y, y a tuple; C.m(k = v, ..) of a static method -/
namespace EqT
open PySem PySem.Spec PyProof.Rows L2 StX OpX
section
variable {X : Cx} {CX : CXT} {n : Nat} {C g : Addr} {sp : Sp} {E : XK}
/-- x == y: x of the class at C; y a tuple -/
def rEqT (X : Cx) (C : Addr) (sp : Sp) (E : XK) : R2 := fun x y H Q => ∃ a b ys, x = .ref a ∧ y = .ref b ∧ InsC X H a C ∧ SqT X.K H b ys ∧ PySem.W.notFirst X.K C (.type "tuple") = true ∧ sp [.ref a, .ref b] H Q E
theorem op_eqT {op : CmpOp} (hop : ∀ a b, compareOp op a b = richCompare op a b) (h : Has X.K C g (cmpInfo op).2.1) (F : FnR X.prog X.w X.K X.mg X.base CX n g sp)
    (hr : Room n X.A) (hx : Passes CX X E) : OpR X (compareOp op) (rEqT X C sp E) := by
  intro pins s σ H x y v u Q I rx ry hq
  obtain ⟨a, b, ys, rfl, rfl, ha, hb, hn, q⟩ := hq
  cases (show v = Value.ref a from rx)
  cases (show u = Value.ref b from ry)
  obtain ⟨ox, od, J, _⟩ := insC_at I ha
  obtain ⟨its, rv, ⟨o, ho, hc, nn, hd⟩, _⟩ := I.tuple hb
  have ty : PySem.W.Looks (model X.prog X.w) s.heap (typeOf (.ref b)) (.type "tuple") := fun A Q E s k q => wpAny_typeOf_ref (k _ _ ho) (by rw [hc]; exact q)
  obtain ⟨m, hF⟩ := I.fr
  rw [hop]
  exact PySem.W.cmp_K (op := op) (tb := .type "tuple") hr.units0 hF I.ok.mod.kin J ty hn h.at_ h.fn (run_own (us := [.ref a, .ref b]) (vs := [.ref a, .ref b]) F hr hx I (.cons rfl (.cons rfl .nil)) q)
end
end EqT
namespace StM
open PySem PySem.Spec PyProof.Rows L2 ClX
/-- e.m(k = v, ..), e the class at C -/
def tSMethK (C : Addr) (n : Nat) (sp : Sp) (gV : List V → List V → List V) (E : XK) (ta : TE) (tk : TA) : TE := fun σ H Q => ta σ H fun x H1 => x = .ref C ∧ tk σ H1 fun zs H2 => zs.length = n ∧ sp (gV [] zs) H2 Q E
section
variable {X : Cx} {k : Nat} {C p f : Addr} {mc : Value} {fd : FuncData} {ps ks : List Str} {sp : Sp} {o : Expr} {m : Str} {pos apos : Pos} {ta : TE} {tk : TA} {pl : Sem Bool} {kws : List Keyword} {g : List Value → List Value → List Value} {gV : List V → List V → List V}
theorem pe_smethK (he : PE X o ta) (r : CRead X.K C mc) (c : SMet X.K C mc m p f) (F : FnOk X.prog X.w X.K X.mg X.base CX0 k f fd ps sp) (hr : Room k X.A) (hb : KBn X.K fd ps 0 ks g gV) (hkw : PK X kws tk)
    (some_ : (backToKw pos (keywordEach kws X.env)).all (·.1.isSome) = true := by rfl) (names : (backToKw pos (keywordEach kws X.env)).filterMap (·.1) = ks := by rfl)
    (none_ : ((backTo pos (starEach [] X.env)).any (·.1) || (backToKw pos (keywordEach kws X.env)).any (·.1.isNone)) = false := by rfl)
    (form : eval (.Call (.Attribute o m apos) [] kws pos) X.env = (do let ov ← eval o X.env; standAt apos.atName; let (f, first) ← holding [ov] (getMethod ov m pl); callWith pos f first (backTo pos (starEach [] X.env)) (backToKw pos (keywordEach kws X.env))) := by rfl) :
    PE X (.Call (.Attribute o m apos) [] kws pos) (tSMethK C ks.length sp gV E0 ta tk) := by
  refine ⟨fun pins s σ H Q I h => PySem.W.methodCall_KW (pl := pl) (thn (he.run pins s σ H _ I h) fun u s1 ⟨x, H1, J, rx, ex, q⟩ => ?_) form⟩
  subst ex
  cases (show u = Value.ref C from rx)
  obtain ⟨rest, hp⟩ := c.rc
  refine PySem.W.method_cls J.kIn r.ga (PySem.W.cls_bind J.kIn r.rd c.at_ (wpAny_call (PySem.W.sm_get (s := { s1 with toks := s1.toks + 1 }) J.kIn hp (PySem.W.handed_on rfl ?_))))
  have J2 : Inv X pins σ H1 { s1 with toks := s1.toks + 1 } := J.tok _
  refine PySem.W.callWith_KW0 (first := []) (h₀ := X.base) J2.ok.mod.kin c.kp some_ ?_ none_
  refine thn (hkw.run pos pins _ σ H1 _ J2 q) fun ws s2 ⟨zs, H2, I2, rz, l2, q2⟩ => ⟨I2.kIn, ?_⟩
  rw [names]
  exact run_fnN (us := []) (vs := []) F hr hb pass0 I2 .nil rz rfl l2 q2
end
end StM
/-! C.m(k = v, ..) of a static method that may let an error out; C(k = v), __init__ with a star behind -/
namespace StM
open PySem PySem.Spec PyProof.Rows L2 ClX
section
variable {X : Cx} {CX : CXT} {E : XK} {k : Nat} {C p f : Addr} {mc : Value} {fd : FuncData} {ps ks : List Str} {sp : Sp} {o : Expr} {m : Str} {pos apos : Pos} {ta : TE} {tk : TA} {pl : Sem Bool} {kws : List Keyword} {g : List Value → List Value → List Value} {gV : List V → List V → List V}
theorem pe_smethKx (he : PE X o ta) (r : CRead X.K C mc) (c : SMet X.K C mc m p f) (F : FnOk X.prog X.w X.K X.mg X.base CX k f fd ps sp) (hr : Room k X.A) (hx : Passes CX X E) (hb : KBn X.K fd ps 0 ks g gV) (hkw : PK X kws tk)
    (some_ : (backToKw pos (keywordEach kws X.env)).all (·.1.isSome) = true := by rfl) (names : (backToKw pos (keywordEach kws X.env)).filterMap (·.1) = ks := by rfl)
    (none_ : ((backTo pos (starEach [] X.env)).any (·.1) || (backToKw pos (keywordEach kws X.env)).any (·.1.isNone)) = false := by rfl)
    (form : eval (.Call (.Attribute o m apos) [] kws pos) X.env = (do let ov ← eval o X.env; standAt apos.atName; let (f, first) ← holding [ov] (getMethod ov m pl); callWith pos f first (backTo pos (starEach [] X.env)) (backToKw pos (keywordEach kws X.env))) := by rfl) :
    PE X (.Call (.Attribute o m apos) [] kws pos) (tSMethK C ks.length sp gV E ta tk) := by
  constructor
  intro pins s σ H Q I h
  refine PySem.W.methodCall_KW (pl := pl) (thn (he.run pins s σ H _ I h) fun u s1 back => ?_) form
  obtain ⟨x, H1, J, rx, ex, q⟩ := back
  subst ex
  cases (show u = Value.ref C from rx)
  obtain ⟨rest, hp⟩ := c.rc
  refine PySem.W.method_cls J.kIn r.ga (PySem.W.cls_bind J.kIn r.rd c.at_ (wpAny_call (PySem.W.sm_get (s := { s1 with toks := s1.toks + 1 }) J.kIn hp (PySem.W.handed_on rfl ?_))))
  have J2 : Inv X pins σ H1 { s1 with toks := s1.toks + 1 } := J.tok _
  refine PySem.W.callWith_KW0 (first := []) (h₀ := X.base) J2.ok.mod.kin c.kp some_ ?_ none_
  refine thn (hkw.run pos pins _ σ H1 _ J2 q) fun ws s2 back => ?_
  obtain ⟨zs, H2, I2, rz, l2, q2⟩ := back
  refine ⟨I2.kIn, ?_⟩
  rw [names]
  exact run_fnN (us := []) (vs := []) F hr hb hx I2 .nil rz rfl l2 q2
end
end StM
namespace StX
open PySem PySem.Spec PyProof.Rows L2
section
variable {CX : CXT} {P : Program} {w : World} {K : PySem.W.Frag} {mg : Str → Option Value} {base : Heap} {k : Nat} {f : Addr} {name qual : Str} {params : Arguments} {body : List Stmt} {scope : Scope} {dV kV doc pm cdv ct oc : Value} {an od : Option Addr} {osl : Array (Option Value)} {N : List Str} {sp : Sp}
/-- a def (self, x, *v), asked with x by its name -/
def Kw1 (P : Program) (w : World) (K : PySem.W.Frag) (mg : Str → Option Value) (base : Heap) (CX : CXT) (k : Nat) (f : Addr) (x : Str) (sp : Sp) : Prop := ∀ (A : Around) (outer : List Env) (s : Shared) (H : Hp) (u0 u1 : Value) (v0 v1 : V) (Q : VK) (E : XK),
  Room k A → Env0 P w K mg base A outer s H → RelV v0 u0 → RelV v1 u1 → (∀ p, H p = none → sp [v0, v1, .ref p] (upd H p (.tup [])) Q E) → codeAny (model P w) A (.call (.ref f) ⟨[u0], [(x, u1)]⟩) (CR CX outer P w H s Q E) s
theorem kw1 {a0 x pv : Str} (lk : K.lookup f = some ⟨oc, od, .func (PySem.W.fnOf name qual params body scope dV kV doc pm an cdv ct), osl⟩) (hcd : PySem.W.codeIn K cdv qual = true) (S : FnScope N [a0, x, pv] scope) (up : CXUp CX)
    (binds : ∀ u0 u1 : Value, bindArgs (PySem.W.fnOf name qual params body scope dV kV doc pm an cdv ct) ⟨[u0], [(x, u1)]⟩ = (newTuple [] >>= fun t => pure [(a0, u0), (x, u1), (pv, t)]))
    (runs : ∀ (A : Around) (outer : List Env) (s : Shared) (H : Hp) (vs : List V) (Q : VK) (E : XK), Room k (A.deeper (envOfC qual scope s.heap.objs.size f cdv)) → sp vs H Q E →
      ∃ t, PSs (cxOf CX P w K mg base N qual scope f cdv A outer s H E) body t ∧ t { nx := fun _ H' => Q .non H', rt := Q } (start N vs) H) : Kw1 P w K mg base CX (k + 1) f x sp := by
  intro A outer s H u0 u1 v0 v1 Q E room e0 r0 r1 told
  have fresh : H s.heap.objs.size = Option.none := e0.hok.fresh (Nat.le_refl _)
  have laid := un_laid (fs := frs outer) (s := s) (o := ({ cls := .type "tuple", data := .seq #[] } : Obj)) (u := .tup []) fresh
  have obj : ObjOk P w (upd H s.heap.objs.size (.tup [])) (s.heap.push ({ cls := .type "tuple", data := .seq #[] } : Obj)) s.heap.objs.size (.tup []) := ⟨Nat.zero_le _, [], .nil, ⟨_, Heap.get?_push_size _ rfl, rfl, _, rfl⟩⟩
  apply run_bnd lk hcd S room e0 (G := fun xs H2 => ∃ p, H p = Option.none ∧ xs = [v0, v1, V.ref p] ∧ H2 = upd H p (.tup []))
  · intro A' Ex Q' h
    rw [binds]
    refine wpAny_bind (wpAny_newTuple (wpAny_pure ?_) (Nat.zero_le _))
    exact h _ _ [v0, v1, V.ref s.heap.objs.size] [u0, u1, Value.ref s.heap.objs.size] (env0_laid e0 obj) laid rfl (fun e s' => up outer s H _ _ E e s' laid (fun b o q => Heap.get?_push_of_some _ q) rfl) (.cons r0 (.cons r1 (.cons rfl .nil))) rfl ⟨_, fresh, rfl, rfl⟩
  · rintro s2 H2 xs ⟨p, hp, rfl, rfl⟩ room'
    exact runs A outer s2 _ _ Q E room' (told p hp)
end
end StX
namespace StX
open PySem PySem.Spec PyProof.Rows L2
section
variable {X : Cx} {CX : CXT} {E : XK} {k : Nat} {C f : Addr} {n x : Str} {sp : Sp} {tk : TA} {kws : List Keyword} {p pos : Pos}
/-- C(x = e), what stands behind x in __init__ is a star -/
def tMakeKw (C : Addr) (sp : Sp) (E : XK) (tk : TA) : TE := fun σ H Q => tk σ H fun zs H1 => ∃ z, zs = [z] ∧ ∀ o dx, H1 o = Option.none → H1 dx = Option.none → dx ≠ o → ∀ q, (upd (upd H1 dx (.own o)) o (.ins C dx [])) q = Option.none →
  sp [V.ref o, z, V.ref q] (upd (upd (upd H1 dx (.own o)) o (.ins C dx [])) q (.tup [])) (fun v H2 => v = .non ∧ Q (.ref o) H2) E
theorem pe_makeKw (M : Mk X.K C f) (F : Kw1 X.prog X.w X.K X.mg X.base CX k f x sp) (room : Room (k + 1) X.A) (glob : Gl X n) (isC : X.mg n = some (.ref C)) (hx : Passes CX X E) (hkw : PK X kws tk)
    (all_ : (backToKw pos (keywordEach kws X.env)).all (·.1.isSome) = true := by rfl) (name : (backToKw pos (keywordEach kws X.env)).filterMap (·.1) = [x] := by rfl)
    (plain : ((backTo pos (starEach [] X.env)).any (·.1) || (backToKw pos (keywordEach kws X.env)).any (·.1.isNone)) = false := by rfl) (nd : (n == ("__debug__" : Str)) = false := by decide) : PE X (.Call (.Name n p) [] kws pos) (tMakeKw C sp E tk) := by
  constructor
  intro pins s σ H Q I h
  apply wpAny_Call_Name_kw
  refine ld_glob I glob isC ?_ nd
  refine PySem.W.callWith_KW0 (first := []) (h₀ := X.base) I.ok.mod.kin M.kp all_ ?_ plain
  refine thn (hkw.run pos pins s σ H _ I h) fun ws s2 back => ?_
  obtain ⟨zs, H2, I2, rz, z, ez, told⟩ := back
  subst ez
  obtain ⟨u, eu, ru⟩ := vals1 rz
  subst eu
  refine ⟨I2.kIn, ?_⟩
  rw [name]
  have I3 := Inv.made (C := C) I2
  have here := told (s2.heap.objs.size + 1) s2.heap.objs.size (I2.hok.fresh (Nat.le_succ _)) (I2.hok.fresh (Nat.le_refl _)) (Nat.ne_of_lt (Nat.lt_succ_self _))
  have ran := F _ X.stack _ _ (Value.ref (s2.heap.objs.size + 1)) u (V.ref (s2.heap.objs.size + 1)) z _ E (room.make C [] [(x, u)]) (I3.env0.make C [] [(x, u)]) rfl ru here
  refine wpAny_call (make_map (f := f) (vs := []) (kw := [(x, u)]) I2.kIn M.makes M.init (beq_iff_eq.mp M.fn) (codeAny_mono ran fun r s3 out => ?_))
  match r, out with
  | .error e, out => exact hx pins σ _ _ e s3 I3 out
  | .ok (.ret v), out =>
    obtain ⟨v', H', I4, rv, ev, q3⟩ := I3.after out
    subst ev
    exact ⟨rv, ⟨V.ref (s2.heap.objs.size + 1), H', I4, rfl, q3⟩⟩
  | .ok .next, out => exact out.elim
  | .ok .brk, out => exact out.elim
  | .ok .cont, out => exact out.elim
end
end StX
/-! an error that was caught, kept in a name behind its suite: isinstance of it, its fields -/
namespace EXC
open PySem PySem.Spec PyProof.Rows L2
/-- a caught error at a: its class, its own dict -/
def ExC (cls : Value) (d : Option Addr) (a : Addr) : HO := .ext fun h => ∃ (oe : Obj) (vs : Array Value), h.get? a = some oe ∧ Zc cls d oe ∧ oe.data = .fields vs
theorem exC_ok {P : Program} {w : World} {H : Hp} {h : Heap} {a : Addr} {cls : Value} {d : Option Addr} {oe : Obj} {vs : Array Value} (e : h.get? a = some oe) (z : Zc cls d oe) (hd : oe.data = .fields vs) : ObjOk P w H h a (ExC cls d a) :=
  ⟨⟨oe, vs, e, z, hd⟩, ⟨oe, e⟩, fun _ _ ⟨o, v, q, r⟩ k => ⟨o, v, k o q, r⟩⟩
section
variable {X : Cx} {pins : List (Addr × Obj)} {σ : L2.St} {H : Hp} {s : Shared} {a : Addr} {o : HO}
/-- what stands there untracked, and did not stand at the entry, is tracked from now on -/
theorem Inv.track {oe : Obj} {vs : Array Value} (I : Inv X pins σ H s) (here : s.heap.get? a = some oe) (hd : oe.data = .fields vs) (n : H a = none) (n0 : X.s_0.heap.get? a = none) (nL : a ≠ X.env.locals) (nP : ∀ p ∈ X.pn ++ pins, p.1 ≠ a)
    (ok : ObjOk X.prog X.w (upd H a o) s.heap a o) : Inv X pins σ (upd H a o) s := by
  have off : ∀ b, b ≠ a → upd H a o b = H b := fun b hb => upd_ne hb
  have ne0 : ∀ b u, X.s_0.heap.get? b = some u → b ≠ a := fun b u e z => by rw [z, n0] at e; cases e
  have neS : ∀ b u, H b = some u → b ≠ a := fun b u e z => by rw [z, n] at e; cases e
  have base : Un X.fs X.ex X.H_0 (upd H a o) X.s_0.heap s.heap := {
    keep := I.base.keep
    slot := I.base.slot
    free := fun b u e m x => by rw [off b (ne0 b u e)]; exact I.base.free b u e m x
    there := I.base.there
    tups := fun b xs e => by
      have q := I.base.tups b xs e
      rw [off b (neS b _ q)]; exact q
    frzs := fun b u v e => by
      have q := I.base.frzs b u v e
      rw [off b (neS b _ q)]; exact q
    tbls := fun b ps e => by
      obtain ⟨m, q⟩ := I.base.tbls b ps e
      exact ⟨m, by rw [off b (neS b _ q)]; exact q⟩ }
  refine ⟨I.ok, I.os, I.bare, base, I.loc, I.cell, ?_, fun x c e => ?_, fun p hp => ?_, I.hok.laidN (fun _ _ e => e) n ok, I.len⟩
  · rw [off _ nL.symm]; exact I.free
  · have ne : c ≠ a := fun z => by
      obtain ⟨v, oc, hc, hv⟩ := I.cell x c e
      rw [z, here] at hc
      cases hc
      rw [hd] at hv
      cases hv
    rw [off _ ne]
    exact I.freeC x c e
  · obtain ⟨q1, q2, q3⟩ := I.pin p hp
    exact ⟨q1, by rw [off _ (nP p hp)]; exact q2, q3⟩
end
/-- what the clause 'except x as n' (n in slot i) wishes of each error of the body; behind it the error is kept -/
def wHeld (K : PySem.W.Frag) (c : Value) (i : Nat) (ts : Addr → Value → Option Addr → TS) (D : Ends) : WX := fun cls d σ H => PySem.W.exmOne K cls c = some true ∧
  ∀ a, H a = none → ts a cls d { nx := fun σ2 H2 => D.nx (σ2.set i none) (upd H2 a (ExC cls d a)), rt := fun _ _ => False, bk := fun _ _ => False, ct := fun _ _ => False } (σ.set i (some (.ref a))) H
section
variable {X : Cx} {x n : Str} {c : Value} {i : Nat} {body suite : List Stmt} {b₀ : Stmt} {np pos pos' : Pos} {tb : WX → TS} {ts : Addr → Value → Option Addr → TS}
theorem ps_try_held (hs : X.stack = X.env :: X.outer) (hf : X.env.frame = some X.env.locals) (hex : X.ex = []) (nd : X.N.Nodup) (at_i : X.N[i]? = some n) (loc : X.env.kindOf n = some .local) (hc : Names X x c)
    (hb : ∀ (W : WX) (pn : List (Addr × Obj)) (xe : Value → Shared → Prop), Takes (X.tr pn xe) W → PassesOwn (model X.prog X.w) X.A X.env xe → PSs (X.tr pn xe) body (tb W))
    (hsu : ∀ (a : Addr) (oe : Obj) (cls : Value) (d : Option Addr) (pn : List (Addr × Obj)), Zc cls d oe → (∃ vs, oe.data = .fields vs) → PSs (X.suite a ((a, oe) :: pn)) (b₀ :: suite) (ts a cls d)) :
    PS X (.Try body [.ExceptHandler (some (.Name x np)) (some n) (b₀ :: suite) pos'] [] [] pos) (fun D σ H => tb (wHeld X.K c i ts D) D σ H) := by
  refine ⟨fun pins s σ H D I h => ?_⟩
  have ok := I.ok
  have frames : X.A.frames = some (X.env :: X.outer) := ok.frames.trans (congrArg some hs)
  let catch' : Value → Shared → Prop := fun e s1 => wpAny (model X.prog X.w) X.A (noteFrame e X.env) (fun _ s2 => wpAny (model X.prog X.w) X.A (setFlight e none) (fun _ s3 =>
    wpAny (model X.prog X.w) X.A (handleBy e X.env [.ExceptHandler (some (.Name x np)) (some n) (b₀ :: suite) pos']) (SP X pins D) X.xe s3) X.xe s2) X.xe s1
  have takes : Takes (X.tr (X.pn ++ pins) catch') (wHeld X.K c i ts D) := by
    rintro u s' ⟨a, B, sI, ps, σ1, H1, cls, d, rfl, J0, nb, up, sky, na, os, ag, hit, next⟩
    have J : Inv X pins σ1 H1 sI := J0.ofTry ok
    rw [show (X.tr (X.pn ++ pins) catch').stack = X.env :: X.outer from hs] at sky
    show wpAny (model X.prog X.w) X.A (noteFrame (.ref a) X.env) _ _ _
    refine Sky.land Zc.steady frames hf sky fun h3 fl3 up3 => ?_
    have J3 : Inv X pins σ1 H1 { s' with heap := h3 } := J.landed nb (by exact fl3.1) (up.trans up3) os ag
    obtain ⟨o3, f3, g3, z3, d3⟩ := fl3.there
    have apart : a ∉ frs (X.env :: X.outer) := fun hm => by
      obtain ⟨_, o, e, hno⟩ := fl3.2.2.1.mem hm
      rw [g3] at e
      cases e
      exact hno _ d3
    have nL : a ≠ X.env.locals := fun z => apart (List.mem_filterMap.mpr ⟨X.env, List.mem_cons_self, by rw [hf, z]⟩)
    have nF : a ∉ X.fs := fun hm => by
      obtain ⟨e, he, q⟩ := List.mem_filterMap.mp hm
      exact apart (List.mem_filterMap.mpr ⟨e, List.mem_cons_of_mem _ he, q⟩)
    have new : sI.heap.get? a = none := by
      cases q : sI.heap.get? a with
      | none => rfl
      | some o =>
        have z := nb a o q (by rw [show (X.tr (X.pn ++ pins) catch').stack = X.env :: X.outer from hs]; exact apart)
        rw [fl3.2.1] at z
        cases z
    have new0 : X.s_0.heap.get? a = none := by
      cases q : X.s_0.heap.get? a with
      | none => rfl
      | some o =>
        obtain ⟨o2, z⟩ := J.base.there a o q (by rw [hex]; exact List.not_mem_nil)
        rw [new] at z
        cases z
    have unpinned : ∀ p ∈ X.pn ++ pins, p.1 ≠ a := fun p hp z => by
      have q := (J.pin p hp).1
      rw [z, new] at q
      cases q
    have S3 := J3.suite g3 d3 na nL nF
    refine wpAny_handleBy_cons (codeAny_handlers_test ?_) (by intro q; cases q)
    have looks : PySem.W.Looks (model X.prog X.w) h3 (typeOf (.ref a)) cls := fun _ _ _ _ k q => wpAny_typeOf_ref (k _ _ g3) (by rw [z3.1]; exact q)
    have hits := PySem.W.exm_one (M := model X.prog X.w) J3.kIn looks hit
    have named : ∀ {Q E : Value → Shared → Prop}, Q c { s' with heap := h3 } → wpAny (model X.prog X.w) (X.A.mark (some (.ref a))) (eval (.Name x np) X.env) Q E { s' with heap := h3 } := fun {Q E} q => by
      obtain ⟨g, nodbg, m | ⟨m, v, w⟩⟩ := hc
      · exact ld_glob (X := X.suite a ((a, o3) :: (X.pn ++ pins))) S3 g m q nodbg
      · exact ld_blt (X := X.suite a ((a, o3) :: (X.pn ++ pins))) S3 g m v q w nodbg
    refine named (hits.here (codeAny_handlers_suite_as (HandSPX.lands_againZ fl3 fun h4 fl4 up4 => ?_)))
    have J4 : Inv X pins σ1 H1 { s' with heap := h4 } := J.landed nb (by exact fl4.1) ((up.trans up3).trans up4) os ag
    obtain ⟨o4, f4, g4, z4, d4⟩ := fl4.there
    refine store_ok (X := X.suite a ((a, o4) :: (X.pn ++ pins))) (v := .ref a) (J4.suite g4 d4 na nL nF) nd at_i (.inl loc) rfl (fun s5 S5 => ?_) (.inr loc)
    refine wpAny_mono ((hsu a o4 cls d (X.pn ++ pins) z4 ⟨_, d4⟩).run [] s5 _ H1 _ S5 (next a na)) (fun fl s6 back => ?_) (fun _ _ z => z.elim)
    cases fl with
    | next =>
      obtain ⟨σ6, H6, S6, q6⟩ := back
      refine gone_ok (X := X.suite a ((a, o4) :: (X.pn ++ pins))) S6 nd at_i loc fun s7 S7 => ?_
      obtain ⟨p1, p2, _⟩ := S7.pin (a, o4) (List.mem_append_left _ List.mem_cons_self)
      exact ⟨_, _, Inv.track (S7.unsuite ok) p1 d4 p2 new0 nL unpinned (exC_ok p1 z4 d4), q6⟩
    | brk =>
      obtain ⟨_, _, _, z⟩ := back
      exact False.elim z
    | cont =>
      obtain ⟨_, _, _, z⟩ := back
      exact False.elim z
    | ret u =>
      obtain ⟨_, _, _, _, _, z⟩ := back
      exact False.elim z
  refine wpAny_Try_except (wpAny_mono ((hb _ _ catch' takes PassesOwn.looking).run [] s σ H D (I.toTry _) h) (fun fl s1 back => ?_) fun _ _ z => z)
  cases fl with
  | next =>
    obtain ⟨σ1, H1, J, q⟩ := back
    exact wpAny_execs_nil ⟨σ1, H1, J.ofTry ok, q⟩
  | brk =>
    obtain ⟨σ1, H1, J, q⟩ := back
    exact ⟨σ1, H1, J.ofTry ok, q⟩
  | cont =>
    obtain ⟨σ1, H1, J, q⟩ := back
    exact ⟨σ1, H1, J.ofTry ok, q⟩
  | ret u =>
    obtain ⟨v, σ1, H1, J, r, q⟩ := back
    exact ⟨v, σ1, H1, J.ofTry ok, r, q⟩
end
/-! ### isinstance of it, a field of it -/
def Dct (H : Hp) (d : Option Addr) : Prop := ∀ dd, d = some dd → ∃ fs, H dd = some (.xd fs)
theorem inst_of {X : Cx} {pins : List (Addr × Obj)} {σ : L2.St} {H : Hp} {s : Shared} {a C : Addr} {d : Option Addr} (I : Inv X pins σ H s) (ha : H a = some (ExC (.ref C) d a)) (hd : Dct H d) : ∃ ox od, PySem.W.InstAt s.heap a ox C od := by
  obtain ⟨⟨oe, vs, ho, hz, hf⟩, _, _⟩ := I.hok a _ ha
  have nc : PySem.W.notCls oe = true := by unfold PySem.W.notCls; rw [hf]
  cases d with
  | none => exact ⟨oe, none, ho, hz.1, nc, by rw [hz.2]; exact True.intro⟩
  | some dd =>
    obtain ⟨fs, e⟩ := hd dd rfl
    obtain ⟨mA, hns, _⟩ := (show ObjOk X.prog X.w H s.heap dd (.xd fs) from I.hok dd _ e)
    obtain ⟨od, hod, _⟩ := lookIn_ns hns
    exact ⟨oe, some od, ho, hz.1, nc, by rw [hz.2]; exact hod⟩
structure XcC (K : PySem.W.Frag) (C : Addr) : Prop where
  hcl : (PySem.W.clsIn K C).isSome = true
  hga : PySem.W.findIn K (.ref C) "__getattribute__" = some (some (.builtin "BaseException.__getattribute__"))
  hgt : PySem.W.findIn K (.ref C) "__getattr__" = some none
  hsub : PySem.W.subIn K (.ref C) (.type "BaseException") = some true
  hdct : PySem.W.hasDictIn K C = true
  ha : PySem.W.findIn K (.ref C) "__class__" = some (some (.builtin "object.__class__"))
  hn : PySem.W.specialIn K (.builtin "object.__class__") "__get__" = some (some (.builtin "getset_descriptor.__get__"))
  htk : PySem.W.takesIn K (.builtin "object.__class__") = some true
  hm : PySem.W.mroIn K C (.type "object") = some true
def rXc (K : PySem.W.Frag) : List V → Hp → VK → Prop := fun xs H Q => ∃ (a C : Addr) (d : Option Addr) (c : V) (u : Value) (b : Bool), xs = [.ref a, c] ∧ ClsV c u ∧ H a = some (ExC (.ref C) d a) ∧ Dct H d ∧ XcC K C ∧ PySem.W.kitOne K (.ref C) u = some b ∧ Q (.bl b) H
theorem call_xc {X : Cx} : CallR X (.builtin "isinstance") (rXc X.K) := by
  intro pins s σ H xs us Q I r h
  obtain ⟨a, C, d, c, u, b, rfl, k, xa, xd, T, e, q⟩ := h
  obtain ⟨u1, u2, rfl, r1, r2⟩ := vals2 r
  have e2 := k.eq r2
  subst e2
  obtain rfl : u1 = Value.ref a := r1
  obtain ⟨ox, od, J⟩ := inst_of I xa xd
  exact PySem.W.kia_one (PySem.W.kitx_exc T.hcl T.hga T.hgt T.hsub T.ha T.hn T.htk T.hm) I.kIn J e (fun z => nomatch z) fun tk => ⟨.bl b, H, I.tok tk, rfl, q⟩
/-- e.f, e a caught error -/
def tXcF (K : PySem.W.Frag) (f : Str) (te : TE) : TE := fun σ H Q => te σ H fun x H1 => ∃ (a C d : Addr) (fs : List (Str × V)) (v : V), x = .ref a ∧ H1 a = some (ExC (.ref C) (some d) a) ∧ H1 d = some (.xd fs) ∧ XcC K C ∧ PySem.W.findIn K (.ref C) f = some none ∧ fs.lookup f = some v ∧ Q v H1
theorem pe_xcF {X : Cx} {e : Expr} {te : TE} {pos : Pos} {n : Str} (he : PE X e te) (hb : attributeBase e n X.env (eval e X.env) = eval e X.env := by rfl) : PE X (.Attribute e n pos) (tXcF X.K n te) := by
  refine ⟨fun pins s σ H Q I h => attr_of hb (thn (he.run pins s σ H _ I h) fun u s1 ⟨x, H1, J, rx, a, C, d, fs, v, ex, ea, ed, T, own, l, q⟩ => ?_)⟩
  subst ex
  obtain rfl : u = Value.ref a := rx
  obtain ⟨⟨oe, vs, ho, hz, hf⟩, _, _⟩ := J.hok a _ ea
  obtain ⟨mA, hns, rel⟩ := (show ObjOk X.prog X.w H1 s1.heap d (.xd fs) from J.hok d _ ed)
  obtain ⟨od, hod, found⟩ := lookIn_ns hns
  obtain ⟨u2, hu, ru⟩ := RelO.some_of (v := v) (o := mA n) (l ▸ rel n)
  have at_ : PySem.W.InstAt s1.heap a oe C (some od) := ⟨ho, hz.1, by unfold PySem.W.notCls; rw [hf], by rw [hz.2]; exact hod⟩
  exact HandSPX.exc_get J.kIn at_ T.hga T.hgt T.hsub (PySem.W.findObj_own T.hdct own rfl (by rw [found, hu])) (handed_of ru) ⟨v, H1, J.tok _, ru, q⟩
end EXC
/-! a lambda handed to a def: what its call lets out is told beside the names of the def as they stand at the call -/
namespace LamY
open PySem PySem.Spec PyProof.Rows L2 LamX
abbrev nm : Str := "<lambda>"
/-- the def's own suite, entered at z0 -/
abbrev Suite (X : Cx) (N : List Str) (x : Str) (sc : Scope) (g : Addr) (cd : Value) (z0 : Shared) (G0 : Hp) : Cx := cxOf C8.CX0 X.prog X.w X.K X.mg X.base N x sc g cd X.A X.stack z0 G0 C8.E0
abbrev Deep (X : Cx) (x : Str) (sc : Scope) (g : Addr) (cd : Value) (z0 : Shared) : Around := X.A.deeper (envOfC x sc z0.heap.objs.size g cd)
section
variable {X : Cx} {pins : List (Addr × Obj)} {σ : L2.St} {G0 : Hp} {z0 : Shared} {N : List Str} {x a : Str} {sc scope : Scope} {g f c' : Addr} {cd pm ctv : Value} {params : Arguments} {body : Expr} {k i : Nat} {tb : XK → TE} {p1 p2 : Pos}
abbrev lamObj (X : Cx) (params : Arguments) (body : Expr) (scope : Scope) (pm ctv : Value) (c' : Addr) : Obj := PySem.W.kla_obj nm (X.env.qual ++ nm) params body scope (cloFrom X.env.cells scope.names []) pm c' ctv
/-- the call itself -/
theorem asked {pn : List (Addr × Obj)} {xe : Value → Shared → Prop} {E : XK} {Q : VK} (I : Inv X pins σ G0 z0) (L : LamS X.env.scope scope) (at_ : z0.heap.get? f = some (lamObj X params body scope pm ctv c')) (un0 : G0 f = none) (off : f ∉ frs X.stack)
    (bare : bindArgs (PySem.W.kla_fn nm (X.env.qual ++ nm) params body scope (cloFrom X.env.cells scope.names []) pm (.ref c') ctv) ⟨[], []⟩ = pure []) (room : Room (k + 1) (Deep X x sc g cd z0))
    (reads : ∀ (A : Around) (outer : List Env) (z : Shared) (G : Hp), Room k (A.deeper (lamEnv X scope z.heap.objs.size f c')) → PE (lamCx X A outer z G E scope f c') body (tb E))
    {pz : List (Addr × Obj)} {τ : L2.St} {G : Hp} {z : Shared} (J : Inv ((Suite X N x sc g cd z0 G0).tr pn xe) pz τ G z) (code : G c' = some (CodeO c' (X.env.qual ++ nm))) (told : tb E σ G Q) :
    codeAny (model X.prog X.w) (Deep X x sc g cd z0) (.call (.ref f) ⟨[], []⟩) (CR (L2.CX X.prog X.w) (envOfC x sc z0.heap.objs.size g cd :: X.stack) X.prog X.w G z Q E) z := by
  have here := J.base.keep f _ at_ un0 off (fun h => nomatch (show f ∈ ([] : List Addr) from h))
  obtain ⟨⟨_, _, _, q1, q2, q3⟩, _⟩ := J.hok c' _ code
  apply PySem.W.kla_callFunE room.depth here rfl L.co L.gen rfl ⟨c', _, _, _, rfl, q1, q2, q3⟩
  rw [bare]
  apply wpAny_pure
  refine wpAny_newFunctionEnv (fun y hy => (L.own y hy).2) (fun _ h => by cases h) (fun h1 ns sb => ?_) L.kind
  refine ⟨J.nolimit.fresh _ sb, ?_⟩
  have stays : ∀ (b : Addr) (o : Obj), z.heap.get? b = some o → h1.get? b = some o := fun b o e => sb.extBut b o (Nat.ne_of_lt (Heap.lt_size e)) (Heap.get?_push_of_some _ e)
  have begun := lam_start2 (E := E) (f := f) (c' := c') (tk := z.toks + ([] : List (Str × Value)).length) I L J.env0 room.hd J.base ns stays
  have run := (reads _ _ z G (room.deeper _)).run [] _ _ G Q begun told
  apply PySem.W.kla_codeExpr
  refine wpAny_mono run (fun v z1 back => ?_) (fun _ _ h => h)
  obtain ⟨u, G1, J1, ru, q⟩ := back
  exact ⟨u, G1, J1.os, J1.bare, J1.base, J1.hok, ru, q⟩
/-- a(), in that suite: what goes out is told of the names as they stand -/
theorem pe_ask {pn : List (Addr × Obj)} {xe : Value → Shared → Prop} {W : WX} (I : Inv X pins σ G0 z0) (L : LamS X.env.scope scope) (at_ : z0.heap.get? f = some (lamObj X params body scope pm ctv c')) (un0 : G0 f = none) (off : f ∉ frs X.stack)
    (bare : bindArgs (PySem.W.kla_fn nm (X.env.qual ++ nm) params body scope (cloFrom X.env.cells scope.names []) pm (.ref c') ctv) ⟨[], []⟩ = pure []) (tk : Takes ((Suite X N x sc g cd z0 G0).tr pn xe) W) (room : Room (k + 1) (Deep X x sc g cd z0))
    (reads : ∀ (E : XK) (A : Around) (outer : List Env) (z : Shared) (G : Hp), Room k (A.deeper (lamEnv X scope z.heap.objs.size f c')) → PE (lamCx X A outer z G E scope f c') body (tb E))
    (hN : N[i]? = some a) (vis : Vis sc a) (nd : (a == ("__debug__" : Str)) = false) (nc : (a == ("__classdict__" : Str)) = false) :
    PE ((Suite X N x sc g cd z0 G0).tr pn xe) (.Call (.Name a p1) [] [] p2)
      (fun τ G Q => τ[i]? = some (some (.ref f)) ∧ G c' = some (CodeO c' (X.env.qual ++ nm)) ∧ ∃ E : XK, (∀ cls d G', E cls d G' → W cls d τ G') ∧ tb E σ G Q) := by
  constructor
  rintro pz z τ G Q J ⟨here, code, E, up, told⟩
  have name := (pe_var (X := (Suite X N x sc g cd z0 G0).tr pn xe) (pos := p1) (i := i) hN vis nd nc).run pz z τ G (fun v G1 => v = .ref f ∧ G1 = G) J ⟨.ref f, here, rfl, rfl⟩
  apply wpAny_Call_Name_kw
  refine thn name fun u z1 back => ?_
  obtain ⟨v, G1, J1, ru, ev, eG⟩ := back
  subst ev
  subst eG
  cases (show u = Value.ref f from ru)
  have still := J1.base.keep f _ at_ un0 off (fun h => nomatch (show f ∈ ([] : List Addr) from h))
  apply PySem.W.callWith_F0 ⟨_, _, _, _, still⟩
  refine wpAny_call (codeAny_mono (asked I L at_ un0 off bare room (reads E) J1 code told) fun r z2 out => ?_)
  match r, out with
  | .error e, out => exact tk e z2 (XE.of_call J1 (fun cls d G' h => up cls d G' h) out)
  | .ok (.ret u), out => exact J1.after out
  | .ok .next, out => exact out.elim
  | .ok .brk, out => exact out.elim
  | .ok .cont, out => exact out.elim
/-- what a def makes of a lambda that it calls by the name a -/
def GivesS (X : Cx) (N : List Str) (x : Str) (sc : Scope) (g : Addr) (cd : Value) (suite : List Stmt) (a q : Str) (TT : (XK → Hp → VK → Prop) → Hp → VK → Prop) : Prop :=
  ∀ (f c' : Addr) (z0 : Shared) (G0 : Hp) (Q : VK) (tl : XK → Hp → VK → Prop),
    (∀ (W : WX) (pn : List (Addr × Obj)) (xe : Value → Shared → Prop) (p1 p2 : Pos), Takes ((Suite X N x sc g cd z0 G0).tr pn xe) W →
      PE ((Suite X N x sc g cd z0 G0).tr pn xe) (.Call (.Name a p1) [] [] p2) (fun τ G Q => τ[0]? = some (some (.ref f)) ∧ G c' = some (CodeO c' q) ∧ ∃ E : XK, (∀ cls d G', E cls d G' → W cls d τ G') ∧ tl E G Q)) →
    G0 c' = some (CodeO c' q) → TT tl G0 Q → ∃ t, PSs (Suite X N x sc g cd z0 G0).nox suite t ∧ t { nx := fun _ G' => Q .non G', rt := Q } (L2.start N [.ref f]) G0
/-- x(lambda: e) -/
theorem pe_lamcallS {T : List (Addr × Str)} {TT : (XK → Hp → VK → Prop) → Hp → VK → Prop} {c Pt : Addr} {pg : Arguments} {suite : List Stmt} {dV kV doc pmG ctG oc : Value} {an od : Option Addr} {osl : Array (Option Value)} {p lpos pos : Pos} (glob : Gl X x) (isG : X.mg x = some (.ref g)) (keep : PySem.W.keepIn X.K (.ref g) = true)
    (lk : X.K.lookup g = some ⟨oc, od, .func (PySem.W.fnOf x x pg suite sc dV kV doc pmG an cd ctG), osl⟩) (codeG : PySem.W.codeIn X.K cd x = true) (binds : L2.Binds X.K (PySem.W.fnOf x x pg suite sc dV kV doc pmG an cd ctG) [a] []) (S : FnScope N [a] sc) (hN : N[0]? = some a) (vis : Vis sc a)
    (gives : GivesS X N x sc g cd suite a (X.env.qual ++ nm) TT) (TB : TabB X.base X.mg c Pt) (hcode : X.env.code = .ref c) (hT : (Pt, X.env.qual ++ nm) ∈ T) (hu : ∀ p ∈ T, p.1 = Pt → p.2 = X.env.qual ++ nm) (room : Room (k + 2) X.A) (L : LamS X.env.scope scope) (hdef : defaultsOf params X.env = ([], []))
    (bare : ∀ (q : Str) (cl : List (Str × Addr)) (pm cv ctv : Value), bindArgs (PySem.W.kla_fn nm q params body scope cl pm cv ctv) ⟨[], []⟩ = pure [])
    (reads : ∀ (A : Around) (outer : List Env) (z : Shared) (G : Hp) (E : XK) (f c' : Addr), Room k (A.deeper (lamEnv X scope z.heap.objs.size f c')) → PE (lamCx X A outer z G E scope f c') body (tb E))
    (xd : (x == ("__debug__" : Str)) = false := by decide) (nd : (a == ("__debug__" : Str)) = false := by decide) (nc : (a == ("__classdict__" : Str)) = false := by decide) : PE X (.Call (.Name x p) [.Lambda params body scope lpos] [] pos) (tLam T TT tb) := by
  constructor
  rintro pins s τ H Q I ⟨tabs, told⟩
  apply wpAny_Call_Name_kw
  refine ld_glob I glob isG ?_ xd
  refine PySem.W.callWith_K (h₀ := X.base) I.ok.mod.kin keep ?_ (by rfl) (by rfl)
  refine Calls.spliced_cons (x := eval (.Lambda params body scope lpos) X.env) (rest := backTo pos (starEach [] X.env)) (lam_make2 I TB hcode hT hu tabs hdef (L.has I.ok) fun f c' pm' ctv H1 s1 I1 more tabs1 at_ un0 off code => ?_)
  refine Calls.spliced_nil ⟨I1.kIn, ?_⟩
  have ran : codeAny (model X.prog X.w) X.A (.call (.ref g) ⟨[.ref f], []⟩) (CR C8.CX0 X.stack X.prog X.w H1 s1 Q C8.E0) s1 := by
    apply run_ofS (N := N) (ps := [a]) (us := [.ref f]) (vs := [.ref f]) lk codeG S room I1.env0 (binds s1 [.ref f] I1.kIn rfl) (.cons rfl .nil) rfl
    intro room'
    obtain ⟨t, reads', told'⟩ := gives f c' s1 H1 Q (fun E G Q' => tb E τ G Q') (fun W pn xe p1 p2 tk => pe_ask (i := 0) I1 L at_ un0 off (bare _ _ _ _ _) tk room' (fun E A outer z G r => reads A outer z G E f c' r) hN vis nd nc) code (told H1 more tabs1)
    exact ⟨t, reads'.nox, told'⟩
  refine wpAny_call (codeAny_mono ran fun r s2 out => ?_)
  match r, out with
  | .error e, out => exact (show False from out).elim
  | .ok (.ret u), out => exact I1.after out
  | .ok .next, out => exact out.elim
  | .ok .brk, out => exact out.elim
  | .ok .cont, out => exact out.elim
end
end LamY
namespace L2
open PySem PySem.Spec PyProof.Rows
/-! ### defs that are called where no repr runs (the law, and what it calls): FnG -/
def Qt (A : Around) : Prop := A.guards = some []
theorem Qt.deeper {A : Around} (h : Qt A) (env : Env) : Qt (A.deeper env) := h
structure FnG (P : Program) (w : World) (K : PySem.W.Frag) (mg : Str → Option Value) (base : Heap) (k : Nat) (f : Addr) (fd : FuncData) (ps : List Str) (sp : Sp) : Prop where
  len : ∀ vs H Q E, sp vs H Q E → vs.length = ps.length
  run : ∀ (A : Around) (outer : List Env) (s : Shared) (H : Hp) (args : Args) (us : List Value) (vs : List V) (Q : VK) (E : XK), Qt A → Room k A → Env0 P w K mg base A outer s H → BindsTo s fd args (ps.zip us) → Vals vs us → sp vs H Q E →
    codeAny (model P w) A (.call (.ref f) args) (CR CX0 outer P w H s Q E) s
/-- a def whose body is walked where no repr runs -/
theorem fnG_of {P : Program} {w : World} {K : PySem.W.Frag} {mg : Str → Option Value} {base : Heap} {k : Nat} {f : Addr} {fd : FuncData} {x qual : Str} {st : Stmt} {N ps : List Str} {sp : Sp} (F : Fun K x qual st f fd) (S : FnScope N ps (defScope st))
    (len : ∀ vs H Q E, sp vs H Q E → vs.length = ps.length)
    (hbody : ∀ (cdv : Value) (A : Around) (outer : List Env) (s : Shared) (H : Hp) (vs : List V) (Q : VK) (E : XK), Qt A → Room k (A.deeper (envOfC qual (defScope st) s.heap.objs.size f cdv)) → sp vs H Q E →
      ∃ t, PSs (cxOf CX0 P w K mg base N qual (defScope st) f cdv A outer s H E).nox (defBody st) t ∧ t { nx := fun _ H' => Q .non H', rt := Q } (start N vs) H) : FnG P w K mg base (k + 1) f fd ps sp := by
  obtain ⟨oc, od, kV, doc, pm, an, cdv, ct, osl, rfl, lk, hcd⟩ := F.ex
  refine ⟨len, fun A outer s H args us vs Q E gd room e0 bound rel hsp => ?_⟩
  obtain ⟨t, ht, hq⟩ := hbody cdv A outer s H vs Q E gd (room.deeper _) hsp
  have many := len _ _ _ _ hsp
  have inK : K.In s.heap := e0.mod.kin.keeps fun b o e => (e0.bs b o e).1
  have free : s.heap.NoLimit := e0.mod.nolimit.keeps fun b o e => (e0.bs b o e).1
  refine codeAny_call_function room.depth (inK _ _ lk) rfl S.co S.gen rfl (PySem.W.codeRec_of inK hcd) (bound _ _ _ _ ?_)
  have kinds : ∀ y ∈ ps.zip us, (defScope st).names.lookup y.1 = some .local ∨ ((defScope st).names.lookup y.1 = some .cell ∧ ((cellsFrom (s.heap.objs.size + 1) (defScope st).names []).lookup y.1).isSome = true) := by
    rintro ⟨n, v⟩ hy
    exact (S.par n (List.of_mem_zip hy).1).imp id fun q => ⟨q, PySem.W.cellsFrom_some _ _ _ (.inl q)⟩
  refine wpAny_newFunctionEnv_cells S.kind kinds fun env he s1 x => ?_
  cases he
  refine ⟨free.keeps x.toInCall.keep, codeAny_func ?_⟩
  refine wpAny_mono (ht.nox.run [] s1 (start N vs) H _ (inv_start S room.hd e0 many rel x) hq) (fun fl s' hs => ?_) fun e s' hs => hs
  cases fl with
  | ret u =>
    obtain ⟨v, σ', H', J, rv, q⟩ := hs
    exact ⟨v, H', J.os, J.bare, J.base, J.hok, rv, q⟩
  | next =>
    obtain ⟨σ', H', J, q⟩ := hs
    exact ⟨V.non, H', J.os, J.bare, J.base, J.hok, rfl, q⟩
  | brk => exact (hs.choose_spec.choose_spec.2).elim
  | cont => exact (hs.choose_spec.choose_spec.2).elim
section
variable {X : Cx} {k : Nat} {f : Addr} {fd : FuncData} {ps : List Str} {sp : Sp} {x : Str} {p pos : Pos} {e : Expr} {es : List Expr} {t : TA}
theorem pe_callG (F : FnG X.prog X.w X.K X.mg X.base k f fd ps sp) (gd : Qt X.A) (hr : Room k X.A) (hg : Gl X x) (hm : X.mg x = some (.ref f)) (hk : PySem.W.keepIn X.K (.ref f) = true) (hb : Binds X.K fd ps [])
    (ha : PA X (e :: es) t) (hdb : (x == ("__debug__" : Str)) = false := by decide) (he : starEach (e :: es) X.env = (false, eval e X.env) :: starEach es X.env := by rfl) (hpl : (backTo pos (starEach es X.env)).any (·.1) = false := by rfl) :
    PE X (.Call (.Name x p) (e :: es) [] pos) (tCall sp [] E0 t) := by
  refine ⟨fun pins s σ H Q I h => ?_⟩
  refine wpAny_Call_Name_kw (ld_glob I hg hm ?_ hdb)
  refine PySem.W.callWith_K (h₀ := X.base) I.ok.mod.kin hk (thn (ha.run pos pins s σ H _ I h) fun us s1 ⟨vs, H1, I1, r, q⟩ => ⟨I1.kIn, ?_⟩) he hpl
  have q0 : sp vs H1 Q E0 := by simpa using q
  have many : us.length = ps.length := r.length.symm.trans (F.len _ _ _ _ q0)
  have bd : BindsTo s1 fd ⟨us, []⟩ (ps.zip us) := by simpa using hb s1 us I1.kIn (by simpa using many)
  show wpAny _ _ (call (.ref f) us) _ _ _
  refine wpAny_call (codeAny_mono (F.run X.A X.stack s1 H1 ⟨us, []⟩ us vs Q E0 gd hr I1.env0 bd r q0) fun res s' hq => ?_)
  cases res with
  | error er => exact (show False from hq).elim
  | ok fl =>
    cases fl with
    | next => exact False.elim hq
    | brk => exact False.elim hq
    | cont => exact False.elim hq
    | ret u => exact I1.after hq
end

/-! ### repr of data -/
mutual
inductive Ds (K : PySem.W.Frag) (H : Hp) : V → PyData → Prop
  | non : Ds K H .non .none
  | bl (b : Bool) : Ds K H (.bl b) (.bool b)
  | int (i : Int) : Ds K H (.int i) (.int i)
  | str (x : Str) : Ds K H (.str x) (.str x)
  | lst {a : Addr} {xs : List V} {ds : List PyData} : SqL K H a xs → a ≠ sysModules → DsAll K H xs ds → Ds K H (.ref a) (.list ds)
  | tup {a : Addr} {xs : List V} {ds : List PyData} : SqT K H a xs → DsAll K H xs ds → Ds K H (.ref a) (.tuple ds)
  | one {a : Addr} {x : Str} {i : Int} : H a = some (.dK [(.inr x, .int i)]) → Ds K H (.ref a) (.dict [(.str x, .int i)])
  | emp {a : Addr} : H a = some (.dK []) → Ds K H (.ref a) (.dict [])
inductive DsAll (K : PySem.W.Frag) (H : Hp) : List V → List PyData → Prop
  | nil : DsAll K H [] []
  | cons {v : V} {vs : List V} {d : PyData} {ds : List PyData} : Ds K H v d → DsAll K H vs ds → DsAll K H (v :: vs) (d :: ds)
end
section
variable {X : Cx} {pins : List (Addr × Obj)} {σ : St} {H : Hp} {s : Shared}
theorem pairs_one {P : Program} {w : World} {x : Str} {i : Int} {es : List DictEntry} {vs : List (Key × Value)} (hp : Pairs (mixKind P w) es vs) (kv : KV [((Sum.inr x : Key), V.int i)] vs) (h : Heap) :
    ReadsAll h (es.map (·.key)) [.str x] [] ∧ ReadsAll h (es.map (·.val)) [.int i] [] := by
  cases kv with
  | cons k1 k2 =>
    cases k2
    rename_i q
    obtain ⟨k, u⟩ := q
    obtain ⟨e1, e2⟩ := k1
    simp only at e1 e2
    subst e1
    obtain ⟨t, rfl⟩ := e2
    cases hp with
    | cons i1 i2 i3 =>
      rename_i e es'
      cases i3
      rcases keyIs_shape (show keyIs (Sum.inr x) e.key = true from i1) with ⟨j, t', e3, e4⟩ | ⟨y, t', e3, e4⟩
      · cases e3
      · cases e3
        rw [List.map_cons, List.map_nil, e4, List.map_cons, List.map_nil, i2]
        exact ⟨ReadsAll.cons (as := []) (bs := []) (Reads.str x t') ReadsAll.nil, ReadsAll.cons (as := []) (bs := []) (Reads.int i t) ReadsAll.nil⟩
theorem pairs_nil {P : Program} {w : World} {es : List DictEntry} (hp : Pairs (mixKind P w) es ([] : List (Key × Value))) (h : Heap) : ReadsAll h (es.map (·.key)) [] [] ∧ ReadsAll h (es.map (·.val)) [] [] := by
  cases hp
  exact ⟨ReadsAll.nil, ReadsAll.nil⟩
mutual
theorem Ds.reads (I : Inv X pins σ H s) : ∀ (d : PyData) (v : V) (u : Value), Ds X.K H v d → RelV v u → ∃ as, Reads s.heap u d as ∧ sysModules ∉ as
  | .none, _, _, h, r => by
    cases h
    cases r
    exact ⟨_, Reads.none, by simp⟩
  | .bool b, _, _, h, r => by
    cases h
    cases r
    exact ⟨_, Reads.bool b, by simp⟩
  | .int i, _, _, h, r => by
    cases h
    obtain ⟨t, rfl⟩ := r
    exact ⟨_, Reads.int i t, by simp⟩
  | .str x, _, _, h, r => by
    cases h
    obtain ⟨t, rfl⟩ := r
    exact ⟨_, Reads.str x t, by simp⟩
  | .list ds, _, _, h, r => by
    cases h with
    | lst hs hne ha =>
      cases r
      obtain ⟨its, rv, ⟨o, n, ho, hc, _, hd⟩, _⟩ := I.list hs
      obtain ⟨as, hr, hq⟩ := Ds.readsAll I ds _ its ha rv
      exact ⟨_, Reads.list ho hc hd hr, by simp only [List.mem_cons, not_or]; exact ⟨Ne.symm hne, hq⟩⟩
  | .tuple ds, _, _, h, r => by
    cases h with
    | tup hs ha =>
      cases r
      obtain ⟨its, rv, ⟨o, ho, hc, n, hd⟩, _⟩ := I.tuple hs
      obtain ⟨as, hr, hq⟩ := Ds.readsAll I ds _ its ha rv
      exact ⟨_, Reads.tuple ho hc hd hr, hq⟩
  | .dict _, _, _, h, r => by
    cases h with
    | @one a x i h =>
      cases r
      obtain ⟨_, ns, vs, kv, o, es, ep, ho, hx, hd, _, hp, _⟩ := (show ObjOk X.prog X.w H s.heap a (.dK [(.inr x, .int i)]) from I.hok a _ h)
      obtain ⟨r1, r2⟩ := pairs_one hp kv s.heap
      exact ⟨_, Reads.dict ho hx.1 hd r1 r2, by
        simp only [List.append_nil, List.mem_cons, List.not_mem_nil, or_false]
        exact fun z => absurd (beq_iff_eq.mpr z.symm) (by rw [ns]; decide)⟩
    | @emp a h =>
      cases r
      obtain ⟨_, ns, vs, kv, o, es, ep, ho, hx, hd, _, hp, _⟩ := (show ObjOk X.prog X.w H s.heap a (.dK []) from I.hok a _ h)
      cases kv
      obtain ⟨r1, r2⟩ := pairs_nil hp s.heap
      exact ⟨_, Reads.dict ho hx.1 hd r1 r2, by
        simp only [List.append_nil, List.mem_cons, List.not_mem_nil, or_false]
        exact fun z => absurd (beq_iff_eq.mpr z.symm) (by rw [ns]; decide)⟩
theorem Ds.readsAll (I : Inv X pins σ H s) : ∀ (ds : List PyData) (vs : List V) (us : List Value), DsAll X.K H vs ds → Vals vs us → ∃ as, ReadsAll s.heap us ds as ∧ sysModules ∉ as
  | [], _, _, h, r => by
    cases h
    cases r
    exact ⟨_, ReadsAll.nil, by simp⟩
  | d :: ds, _, _, h, r => by
    cases h with
    | cons h1 h2 =>
      cases r with
      | cons r1 r2 =>
        obtain ⟨as, q1, n1⟩ := Ds.reads I d _ _ h1 r1
        obtain ⟨bs, q2, n2⟩ := Ds.readsAll I ds _ _ h2 r2
        exact ⟨_, ReadsAll.cons q1 q2, by rw [List.mem_append]; exact fun z => z.elim n1 n2⟩
end
end
/-- repr(x), x such data -/
def rRepr (K : PySem.W.Frag) : List V → Hp → VK → Prop := fun xs H Q => ∃ (x : V) (d : PyData), xs = [x] ∧ Ds K H x d ∧ d.showable = true ∧ d.depth ≤ 60 ∧ d.shown.length ≤ sizeLine ∧ Q (.str d.shown) H
theorem call_reprD {X : Cx} (gd : Qt X.A) (hu : X.A.units + 64 < cLine) : CallR X (.builtin "repr") (rRepr X.K) := by
  intro pins s σ H xs us Q I r h
  obtain ⟨x, d, rfl, hd, sh, dp, sz, q⟩ := h
  obtain ⟨u, rfl, ru⟩ := vals1 r
  obtain ⟨as, rd, ns⟩ := Ds.reads I d x u hd ru
  cases rd with
  | none => exact PySem.P.repr_of_none ⟨.str _, H, I.tok _, ⟨_, rfl⟩, q⟩
  | bool b => exact PySem.P.repr_of_bool ⟨.str _, H, I.tok _, ⟨_, rfl⟩, q⟩
  | int i t => exact PySem.P.repr_of_int (of_decide_eq_true sh) ⟨.str _, H, I.tok _, ⟨_, rfl⟩, q⟩
  | str z t => exact PySem.P.repr_of_str ⟨.str _, H, I.tok _, ⟨_, rfl⟩, q⟩ sz
  | list h1 h2 h3 h4 => exact repr_of_reads' (Reads.list h1 h2 h3 h4) sh (fun _ => ns) gd (by omega) (fun _ _ z => z) (fun h' u tk k => ⟨.str _, H, I.kept k, ⟨_, rfl⟩, q⟩) sz
  | tuple h1 h2 h3 h4 => exact repr_of_reads' (Reads.tuple h1 h2 h3 h4) sh (fun _ => ns) gd (by omega) (fun _ _ z => z) (fun h' u tk k => ⟨.str _, H, I.kept k, ⟨_, rfl⟩, q⟩) sz
  | dict h1 h2 h3 h4 h5 => exact repr_of_reads' (Reads.dict h1 h2 h3 h4 h5) sh (fun _ => ns) gd (by omega) (fun _ _ z => z) (fun h' u tk k => ⟨.str _, H, I.kept k, ⟨_, rfl⟩, q⟩) sz
/-- a list display, whose place is known not to be the table of modules -/
def tLstS (t : TA) : TE := fun σ H Q => t σ H fun xs H1 => xs.length ≤ sizeLine ∧ ∀ l, H1 l = none → l ≠ sysModules → Q (.ref l) (upd H1 l (.lst xs))
theorem pe_lstS {X : Cx} {es : List Expr} {t : TA} {pos : Pos} (h : PA X es t) : PE X (.List es pos) (tLstS t) := by
  refine ⟨fun pins s σ H Q I hq => ?_⟩
  refine wpAny_List_spliced (thn (h.run pos pins s σ H _ I hq) fun us s1 ⟨xs, H1, I1, r, z, q⟩ => ⟨by rw [← r.length]; exact z, ?_⟩)
  have far : s1.heap.objs.size ≠ sysModules := by
    have z1 : (3 : Nat) < X.base.objs.size := I1.mod.glob.lt
    have z2 := I1.ok.bsz
    have z3 := I1.sz
    show s1.heap.objs.size ≠ 1
    omega
  exact ⟨.ref s1.heap.objs.size, _, I1.laid (t' := s1.toks) (o := .lst xs) (fun b u e => Heap.get?_push_of_some _ e) (Nat.le_refl _) ⟨z, us, 0, r, Heap.get?_push_size _ rfl⟩, rfl, q _ (I1.hok.fresh (Nat.le_refl _)) far⟩
end L2
namespace L2
open PySem PySem.Spec PyProof.Rows
/-! ### the law's end, for a law that is walked where no repr runs -/
/-- the law's end from a heap in which nothing but the script may be tracked -/
theorem lawG_core {P : Program} {w : World} {K : PySem.W.Frag} {mg mb : Str → Option Value} {k : Nat} {fa a : Addr} {fd : FuncData} {x : Str} {sp : Sp} {s : Shared} {vs : List Value} {ns : List Int} {H : Hp}
    (KX : K.In s.heap) (hns : s.heap.Ns mainGlobals mg) (hb : s.heap.Ns builtinsNs mb) (hbb : ∀ x : Str, x ≠ "__name__" → mb x = bootBuiltins x) (hlim : s.heap.NoLimit) (hg : s.gens = #[])
    (ha : s.heap.get? a = some { cls := .type "list", data := .seq vs.toArray }) (hr : Room k callerA)
    (F : ∀ base : Heap, K.In base → base.Ns mainGlobals mg → FnG P w K mg base k fa fd [x] sp) (hbind : ∀ (s : Shared) (u : Value), BindsTo s fd ⟨[u], []⟩ [(x, u)])
    (hO : Only H) (hok : HOk P w H s.heap) (hA : ∀ b, H b ≠ none → b = a) (hK : H a ≠ none → K.lookup a = none)
    (hsp : sp [.ref a] H (fun v _ => v = .bl true) E0) :
    codeAny (model P w) callerA (.call (.ref fa) ⟨[.ref a], []⟩) (fun r s' => r = .ok (.ret (.bool true)) ∧ OldK s.heap s'.heap ∧ s'.os = s.os ∧ AllBare s'.gens) s := by
  have apart : ∀ {b : Addr} {o : Obj}, s.heap.get? b = some o → (b = a → False) → (hidT s.heap H).get? b = some o := fun {b o} e n => hidT_get e (Classical.byContradiction fun z => n (hA b z))
  have space : ∀ {b : Addr} {m : Str → Option Value}, s.heap.Ns b m → (hidT s.heap H).Ns b m := fun {b m} ⟨o, es, ep, e, d, r⟩ => ⟨o, es, ep, apart e fun z => by
    subst z
    rw [ha] at e
    cases e
    exact Data.noConfusion (show Data.seq vs.toArray _ = Data.dict es ep from d), d, r⟩
  have inb : K.In (hidT s.heap H) := fun b o e => hidT_get (KX b o e) (Classical.byContradiction fun z => by
    obtain rfl := hA b z
    rw [hK z] at e
    cases e)
  have world : Mod K mg (hidT s.heap H) := ⟨inb, space hns, ⟨mb, space hb, hbb⟩, hlim.elim fun mc z => ⟨mc, space z.1, z.2⟩⟩
  have start0 : Env0 P w K mg (hidT s.heap H) callerA [] s H := ⟨rfl, world, fun _ _ z => of_hidT z, Nat.le_of_eq (hidT_size _ _), trivial, fun b hb => absurd hb List.not_mem_nil, hok, .of_eq hg⟩
  refine codeAny_mono ((F _ inb (space hns)).run callerA [] s H ⟨[.ref a], []⟩ [.ref a] [.ref a] _ E0 rfl hr start0 (hbind s (.ref a)) (.cons rfl .nil) hsp) fun r s' h => ?_
  cases r with
  | error e => exact (show False from h).elim
  | ok fl =>
    cases fl with
    | next => exact False.elim h
    | brk => exact False.elim h
    | cont => exact False.elim h
    | ret u =>
      obtain ⟨v, H', os, bare, un, hok', r', q⟩ := h
      obtain rfl : v = .bl true := q
      obtain rfl : u = Value.bool true := r'
      refine ⟨rfl, OldK.of_keep fun b o e => ?_, os, bare⟩
      rcases hO b with z | ⟨ob, xs, z⟩
      · exact un.keep b o e z List.not_mem_nil List.not_mem_nil
      · have e1 := (hok b _ z).1
        have e2 := (hok' b _ (un.frzs b ob _ z)).1
        rw [e] at e1
        cases e1
        exact e2
theorem lawG_call {P : Program} {w : World} {K : PySem.W.Frag} {mg mb : Str → Option Value} {k : Nat} {fa a : Addr} {fd : FuncData} {x : Str} {sp : Sp} {s : Shared} {vs : List Value} {ns : List Int}
    (KX : K.In s.heap) (hns : s.heap.Ns mainGlobals mg) (hb : s.heap.Ns builtinsNs mb) (hbb : ∀ x : Str, x ≠ "__name__" → mb x = bootBuiltins x) (hlim : s.heap.NoLimit) (hg : s.gens = #[])
    (ha : s.heap.get? a = some { cls := .type "list", data := .seq vs.toArray }) (hi : IntsAre vs ns) (hl : ns.length ≤ sizeLine) (hr : Room k callerA)
    (F : ∀ base : Heap, K.In base → base.Ns mainGlobals mg → FnG P w K mg base k fa fd [x] sp) (hbind : ∀ (s : Shared) (u : Value), BindsTo s fd ⟨[u], []⟩ [(x, u)])
    (hsp : ∀ H : Hp, Only H → SqL K H a (ns.map V.int) → sp [.ref a] H (fun v _ => v = .bl true) E0) :
    codeAny (model P w) callerA (.call (.ref fa) ⟨[.ref a], []⟩) (fun r s' => r = .ok (.ret (.bool true)) ∧ OldK s.heap s'.heap ∧ s'.os = s.os ∧ AllBare s'.gens) s := by
  have rv := vals_ints hi
  cases hk : K.lookup a with
  | some o =>
    have e := KX a o hk
    rw [ha] at e
    cases e
    have hS : SqL K (fun _ => none) a (ns.map V.int) := .inr ⟨_, vs.toArray, _, hk, rfl, rfl, rfl, by rw [List.size_toArray, hi.length]; exact hl, by simpa using rv⟩
    exact lawG_core (ns := ns) KX hns hb hbb hlim hg ha hr F hbind (fun _ => .inl rfl) (fun b u z => by cases (show (none : Option HO) = some u from z)) (fun b z => absurd rfl z) (fun z => absurd rfl z) (hsp _ (fun _ => .inl rfl) hS)
  | none =>
    let ob : Obj := { cls := .type "list", data := .seq vs.toArray }
    let H : Hp := upd (fun _ => none) a (.frz ob (.lst (ns.map V.int)))
    have hO : Only H := fun b => by
      by_cases z : b = a
      · exact .inr ⟨_, _, by rw [z]; exact upd_same⟩
      · exact .inl (upd_ne z)
    have only : ∀ b, H b ≠ none → b = a := fun b z => Classical.byContradiction fun n => z (upd_ne n)
    refine lawG_core (ns := ns) (H := H) KX hns hb hbb hlim hg ha hr F hbind hO (fun b u z => ?_) only (fun _ => hk) (hsp H hO (.inl (.inr ⟨ob, upd_same⟩)))
    obtain rfl := only b (by rw [z]; simp)
    cases upd_same.symm.trans z
    exact ⟨ha, by rw [List.length_map]; exact hl, vs, _, rv, ha⟩
theorem walkG_of {l : PySem.W.OpenLaw} {n k : Nat} {q : Program} {loose : List Str} {XP : (Str → Option Value) → Heap → Prop} {YP : World → Heap → Prop} {d : DefRec} {K : Params → PySem.W.Frag} {sp : World → Sp} {x : Str}
    (hn : l.most = some n) (hn2 : n ≤ sizeLine) (hdf : d.params.defaults = []) (hr : Room k callerA)
    (hY : ∀ (w : World) (h : Heap), YP w h → (K w.params).In h)
    (F : ∀ (w : World) (mg : Str → Option Value) (fa : Addr) (h : Heap), (K w.params).In h → h.Ns mainGlobals mg → mg d.name = some (.ref fa) →
      ∃ fd : FuncData, (∀ (s : Shared) (u : Value), BindsTo s fd ⟨[u], []⟩ [(x, u)]) ∧ ∀ base : Heap, (K w.params).In base → base.Ns mainGlobals mg → FnG l.prog w (K w.params) mg base k fa fd [x] (sp w))
    (hsp : ∀ (w : World) (H : Hp) (a : Addr) (ns : List Int), ns.length ≤ n → Only H → SqL (K w.params) H a (ns.map V.int) → sp w [.ref a] H (fun v _ => v = .bl true) E0) :
    PySem.W.WalkO q loose XP YP l.row.toRowW d [] (fun f vs => PySem.call f vs) := by
  refine Att.attach_call hn hdf fun w s₀ s₁ mg mb fa o pm cd doc a vs ns G Y ho hd hcd hmg hobj hints hlen hg => ?_
  obtain ⟨fd, hb, hF⟩ := F w mg fa _ (hY w _ Y) G.T.g hmg
  exact lawG_call (hY w _ Y) G.T.g G.T.b G.T.builtins G.T.nolimit hg hobj hints (Nat.le_trans hlen hn2) hr hF hb fun H hO hS => hsp w H a ns hlen hO hS
end L2
/-! the law's end, for a law that is walked where no repr runs and whose defs make code objects -/
namespace L2
open PySem PySem.Spec PyProof.Rows LamX
theorem lawT_core {P : Program} {w : World} {K : PySem.W.Frag} {mg mb : Str → Option Value} {k : Nat} {fa a : Addr} {cs : List (Addr × Addr)} {fd : FuncData} {x : Str} {sp : Sp} {s : Shared} {vs : List Value} {H : Hp}
    (KX : K.In s.heap) (hns : s.heap.Ns mainGlobals mg) (hb : s.heap.Ns builtinsNs mb) (hbb : ∀ x : Str, x ≠ "__name__" → mb x = bootBuiltins x) (hlim : s.heap.NoLimit) (hg : s.gens = #[])
    (hT : ∀ p ∈ cs, s.heap.get? p.2 = some { cls := .none, data := .fields #[] }) (nT : ∀ p ∈ cs, K.lookup p.2 = none) (C : ∀ p ∈ cs, PySem.W.CodeHd s.heap p.1 p.2)
    (hbm : ∃ (bm : Addr) (ob : Obj), mg "__builtins__" = some (.ref bm) ∧ bm ≠ builtinsNs ∧ s.heap.get? bm = some ob ∧ ob.cls = .type "module" ∧ ob.dict = some builtinsNs ∧ ob.data = .plain)
    (ha : s.heap.get? a = some { cls := .type "list", data := .seq vs.toArray }) (hr : Room k callerA)
    (F : ∀ base : Heap, K.In base → base.Ns mainGlobals mg → (∀ p ∈ cs, TabB base mg p.1 p.2) → FnG P w K mg base k fa fd [x] sp) (hbind : ∀ (s : Shared) (u : Value), BindsTo s fd ⟨[u], []⟩ [(x, u)])
    (hH : ∀ p ∈ cs, H p.2 = some (.tbl #[])) (hO : ∀ b, (∃ p ∈ cs, p.2 = b) ∨ H b = none ∨ ∃ o xs, H b = some (.frz o (.lst xs))) (hok : HOk P w H s.heap) (hA : ∀ b, H b ≠ none → b = a ∨ ∃ p ∈ cs, p.2 = b) (hK : H a ≠ none → K.lookup a = none)
    (hsp : sp [.ref a] H (fun v _ => v = .bl true) E0) :
    codeAny (model P w) callerA (.call (.ref fa) ⟨[.ref a], []⟩) (fun r s' => r = .ok (.ret (.bool true)) ∧ OldK s.heap s'.heap ∧ s'.os = s.os ∧ AllBare s'.gens) s := by
  -- what H tells of is the script or an empty table
  have told : ∀ {b : Addr} {o : Obj}, s.heap.get? b = some o → H b ≠ none → o.data = .seq vs.toArray ∨ o.data = .fields #[] := fun {b o} e n => by
    rcases hA b n with z | ⟨p, hp, z⟩
    · rw [z, ha] at e
      cases e
      exact .inl rfl
    · rw [← z, hT p hp] at e
      cases e
      exact .inr rfl
  have apart : ∀ {b : Addr} {o : Obj}, s.heap.get? b = some o → o.data ≠ .seq vs.toArray → o.data ≠ .fields #[] → (hidT s.heap H).get? b = some o := fun {b o} e n1 n2 => hidT_get e (Classical.byContradiction fun z => (told e z).elim n1 n2)
  have space : ∀ {b : Addr} {m : Str → Option Value}, s.heap.Ns b m → (hidT s.heap H).Ns b m := fun {b m} ⟨o, es, ep, e, d, r⟩ => ⟨o, es, ep, apart e (by rw [d]; exact fun z => (nomatch z)) (by rw [d]; exact fun z => (nomatch z)), d, r⟩
  have inb : K.In (hidT s.heap H) := fun b o e => hidT_get (KX b o e) (Classical.byContradiction fun n => by
    rcases hA b n with z | ⟨p, hp, z⟩
    · subst z
      rw [hK n] at e
      cases e
    · rw [← z, nT p hp] at e
      cases e)
  have world : Mod K mg (hidT s.heap H) := ⟨inb, space hns, ⟨mb, space hb, hbb⟩, hlim.elim fun mc z => ⟨mc, space z.1, z.2⟩⟩
  have start0 : Env0 P w K mg (hidT s.heap H) callerA [] s H := ⟨rfl, world, fun _ _ z => of_hidT z, Nat.le_of_eq (hidT_size _ _), trivial, fun b hb => absurd hb List.not_mem_nil, hok, .of_eq hg⟩
  have noDict : ∀ {b : Addr} {m : Str → Option Value} {o : Obj}, s.heap.Ns b m → s.heap.get? b = some o → (∀ es ep, o.data ≠ .dict es ep) → False := fun {b m o} ⟨o', es, ep, e, d, _⟩ e' n => by
    rw [e] at e'
    cases e'
    exact n es ep d
  have tabs : ∀ p ∈ cs, TabB (hidT s.heap H) mg p.1 p.2 := fun p hp => by
    refine ⟨?_, ?_, fun z => noDict hns (by rw [z]; exact hT p hp) fun es ep z => by cases z⟩
    · obtain ⟨o, us, file, tf, flags, tg, inF, text, tt, e1, r1, r2, r3, rest⟩ := C p hp
      refine ⟨o, us, file, tf, flags, tg, inF, text, tt, apart e1 (by rw [r2]; exact fun z => (nomatch z)) (fun z => ?_), r1, r2, r3, rest⟩
      rw [r2] at z
      cases z
      simp at r3
    · obtain ⟨bm, ob, b1, b2, b3, b4, b5, b6⟩ := hbm
      refine ⟨bm, ob, b1, b2, fun z => noDict hns (by rw [← z]; exact b3) fun es ep => by rw [b6]; exact fun z => (nomatch z), fun z => ?_, apart b3 (by rw [b6]; exact fun z => (nomatch z)) (by rw [b6]; exact fun z => (nomatch z)), b4, b5, b6⟩
      rw [z, hT p hp] at b3
      cases b3
      cases b6
  refine codeAny_mono ((F _ inb (space hns) tabs).run callerA [] s H ⟨[.ref a], []⟩ [.ref a] [.ref a] _ E0 rfl hr start0 (hbind s (.ref a)) (.cons rfl .nil) hsp) fun r s' h => ?_
  cases r with
  | error e => exact (show False from h).elim
  | ok fl =>
    cases fl with
    | next => exact False.elim h
    | brk => exact False.elim h
    | cont => exact False.elim h
    | ret u =>
      obtain ⟨v, H', os, bare, un, hok', r', q⟩ := h
      obtain rfl : v = .bl true := q
      obtain rfl : u = Value.bool true := r'
      have grown : ∀ p ∈ cs, ∃ more : Array Value, s'.heap.get? p.2 = some { cls := .none, data := .fields more } := fun p hp => (un.tbls p.2 #[] (hH p hp)).elim fun more z => ⟨_, hok' p.2 _ z⟩
      have same : ∀ b o, (¬ ∃ p ∈ cs, p.2 = b) → s.heap.get? b = some o → s'.heap.get? b = some o := fun b o nb e => by
        rcases hO b with z | z | ⟨ob, xs, z⟩
        · exact absurd z nb
        · exact un.keep b o e z List.not_mem_nil List.not_mem_nil
        · have e1 := (hok b _ z).1
          have e2 := (hok' b _ (un.frzs b ob _ z)).1
          rw [e] at e1
          cases e1
          exact e2
      refine ⟨rfl, ⟨fun b o e => ?_, fun b o e => ?_⟩, os, bare⟩
      · by_cases hc : ∃ p ∈ cs, p.2 = b
        · obtain ⟨p, hp, rfl⟩ := hc
          obtain ⟨more, hm⟩ := grown p hp
          have e' := hT p hp
          rw [e] at e'
          cases e'
          exact .inr (.inl ⟨((C p hp).tab (hT p hp)).isCodeTable, rfl, #[], more, rfl, by rw [Array.empty_append]; exact hm⟩)
        · exact .inl (same b o hc e)
      · by_cases hc : ∃ p ∈ cs, p.2 = b
        · obtain ⟨p, hp, rfl⟩ := hc
          obtain ⟨more, hm⟩ := grown p hp
          exact ⟨_, hm⟩
        · exact ⟨o, same b o hc e⟩
/-- what is known of the law's promise at the head's heap -/
def LawAtG (l : PySem.W.OpenLaw) (w : World) (K : PySem.W.Frag) (k n : Nat) (x : Str) (mg : Str → Option Value) (fa : Addr) (h : Heap) : Prop :=
  ∃ (fd : FuncData) (cs : List (Addr × Addr)) (sp : Sp), (∀ p ∈ cs, h.get? p.2 = some { cls := .none, data := .fields #[] }) ∧ (∀ p ∈ cs, K.lookup p.2 = none) ∧ (∀ p ∈ cs, PySem.W.CodeHd h p.1 p.2) ∧ (∀ (s : Shared) (u : Value), BindsTo s fd ⟨[u], []⟩ [(x, u)]) ∧
    (∀ (H : Hp) (a : Addr) (ns : List Int), ns.length ≤ n → (∀ p ∈ cs, H p.2 = some (.tbl #[])) → SqL K H a (ns.map V.int) → sp [.ref a] H (fun v _ => v = .bl true) E0) ∧
    ∀ base : Heap, K.In base → base.Ns mainGlobals mg → (∀ p ∈ cs, TabB base mg p.1 p.2) → FnG l.prog w K mg base k fa fd [x] sp
theorem lawT_call {P : Program} {w : World} {K : PySem.W.Frag} {mg mb : Str → Option Value} {k : Nat} {fa a : Addr} {cs : List (Addr × Addr)} {fd : FuncData} {x : Str} {sp : Sp} {s : Shared} {vs : List Value} {ns : List Int}
    (KX : K.In s.heap) (hns : s.heap.Ns mainGlobals mg) (hb : s.heap.Ns builtinsNs mb) (hbb : ∀ x : Str, x ≠ "__name__" → mb x = bootBuiltins x) (hlim : s.heap.NoLimit) (hg : s.gens = #[])
    (hT : ∀ p ∈ cs, s.heap.get? p.2 = some { cls := .none, data := .fields #[] }) (nT : ∀ p ∈ cs, K.lookup p.2 = none) (C : ∀ p ∈ cs, PySem.W.CodeHd s.heap p.1 p.2)
    (hbm : ∃ (bm : Addr) (ob : Obj), mg "__builtins__" = some (.ref bm) ∧ bm ≠ builtinsNs ∧ s.heap.get? bm = some ob ∧ ob.cls = .type "module" ∧ ob.dict = some builtinsNs ∧ ob.data = .plain)
    (ha : s.heap.get? a = some { cls := .type "list", data := .seq vs.toArray }) (hi : IntsAre vs ns) (hl : ns.length ≤ sizeLine) (hr : Room k callerA)
    (F : ∀ base : Heap, K.In base → base.Ns mainGlobals mg → (∀ p ∈ cs, TabB base mg p.1 p.2) → FnG P w K mg base k fa fd [x] sp) (hbind : ∀ (s : Shared) (u : Value), BindsTo s fd ⟨[u], []⟩ [(x, u)])
    (hsp : ∀ H : Hp, (∀ p ∈ cs, H p.2 = some (.tbl #[])) → SqL K H a (ns.map V.int) → sp [.ref a] H (fun v _ => v = .bl true) E0) :
    codeAny (model P w) callerA (.call (.ref fa) ⟨[.ref a], []⟩) (fun r s' => r = .ok (.ret (.bool true)) ∧ OldK s.heap s'.heap ∧ s'.os = s.os ∧ AllBare s'.gens) s := by
  classical
  have rv := vals_ints hi
  have nA : ¬ ∃ p ∈ cs, p.2 = a := fun ⟨p, hp, z⟩ => by
    have e := hT p hp
    rw [z, ha] at e
    cases e
  -- the tables alone
  let H0 : Hp := fun b => if ∃ p ∈ cs, p.2 = b then some (.tbl #[]) else none
  have yes : ∀ {b : Addr}, (∃ p ∈ cs, p.2 = b) → H0 b = some (.tbl #[]) := fun z => if_pos z
  have no : ∀ {b : Addr}, (¬ ∃ p ∈ cs, p.2 = b) → H0 b = none := fun z => if_neg z
  have ok0 : HOk P w H0 s.heap := fun b u z => by
    by_cases hc : ∃ p ∈ cs, p.2 = b
    · rw [yes hc] at z
      cases z
      obtain ⟨p, hp, rfl⟩ := hc
      exact hT p hp
    · rw [no hc] at z
      cases z
  cases hk : K.lookup a with
  | some o =>
    have e := KX a o hk
    rw [ha] at e
    cases e
    have hS : SqL K H0 a (ns.map V.int) := .inr ⟨_, vs.toArray, _, hk, rfl, rfl, rfl, by rw [List.size_toArray, hi.length]; exact hl, by simpa using rv⟩
    exact lawT_core KX hns hb hbb hlim hg hT nT C hbm ha hr F hbind (fun p hp => yes ⟨p, hp, rfl⟩) (fun b => (Classical.em _).imp id fun z => .inl (no z)) ok0 (fun b n => .inr (Classical.byContradiction fun z => n (no z))) (fun z => absurd (no nA) z) (hsp _ (fun p hp => yes ⟨p, hp, rfl⟩) hS)
  | none =>
    let ob : Obj := { cls := .type "list", data := .seq vs.toArray }
    let H : Hp := upd H0 a (.frz ob (.lst (ns.map V.int)))
    have off : ∀ {b : Addr}, b ≠ a → H b = H0 b := fun n => upd_ne n
    have hH : ∀ p ∈ cs, H p.2 = some (.tbl #[]) := fun p hp => (off fun z => nA ⟨p, hp, z⟩).trans (yes ⟨p, hp, rfl⟩)
    refine lawT_core (H := H) KX hns hb hbb hlim hg hT nT C hbm ha hr F hbind hH (fun b => ?_) (fun b u z => ?_) (fun b n => ?_) (fun _ => hk) (hsp H hH (.inl (.inr ⟨ob, upd_same⟩)))
    · by_cases z : b = a
      · exact .inr (.inr ⟨_, _, by rw [z]; exact upd_same⟩)
      · rw [off z]
        exact (Classical.em _).imp id fun z => .inl (no z)
    · by_cases q : b = a
      · rw [q] at z ⊢
        cases upd_same.symm.trans z
        exact ⟨ha, by rw [List.length_map]; exact hl, vs, _, rv, ha⟩
      · rw [off q] at z
        have z' := ok0 b u z
        by_cases hc : ∃ p ∈ cs, p.2 = b
        · rw [yes hc] at z
          cases z
          exact z'
        · rw [no hc] at z
          cases z
    · by_cases q : b = a
      · exact .inl q
      · rw [off q] at n
        exact .inr (Classical.byContradiction fun z => n (no z))
/-- the end, for a law whose defs xs make code objects -/
theorem walkT_of {l : PySem.W.OpenLaw} {n k : Nat} {q : Program} {loose : List Str} {XP : (Str → Option Value) → Heap → Prop} {YP : World → Heap → Prop} {d : DefRec} {K : Params → PySem.W.Frag} {x : Str} {xs : List Str}
    (hn : l.most = some n) (hn2 : n ≤ sizeLine) (hdf : d.params.defaults = []) (hr : Room k callerA) (hrec : ∀ y ∈ xs, ((recsOf q).any fun e => e.name == y) = true) (hY : ∀ (w : World) (h : Heap), YP w h → (K w.params).In h)
    (F : ∀ (w : World) (mg : Str → Option Value) (fa : Addr) (h : Heap), YP w h → (K w.params).In h → h.Ns mainGlobals mg → mg d.name = some (.ref fa) → (∀ y, y ∈ xs → ∀ c P, PySem.W.tabIn (K w.params) y = some (c, P) → PySem.W.CodeHd h c P ∧ h.get? P = some { cls := .none, data := .fields #[] }) → LawAtG l w (K w.params) k n x mg fa h) :
    PySem.W.WalkO q loose XP YP l.row.toRowW d [] (fun f vs => PySem.call f vs) := by
  refine Att.attach_callB hn hdf fun w s₀ s₁ mg mb fa o pm cd doc a vs ns G Y ho hd hcd hmg hobj hints hlen hbits hg => ?_
  have KX := hY w _ Y
  obtain ⟨fd, cs, sp, hT, nT, C, hb, hsp, hF⟩ := F w mg fa _ Y KX G.T.g hmg fun y hy c P ht => by
    cases z : (recsOf q).find? (fun e => e.name == y) with
    | none =>
      obtain ⟨dL, hm, hn1⟩ := List.any_eq_true.mp (hrec y hy)
      exact absurd hn1 (List.find?_eq_none.mp z dL hm)
    | some dL => exact PySem.W.tab_of G.T KX z ht
  exact lawT_call KX G.T.g G.T.b G.T.builtins G.T.nolimit hg hT nT C G.T.bmain hobj hints (Nat.le_trans hlen hn2) hr hF hb fun H hH hS => hsp H a ns hlen hH hS
end L2
/-! pure: what is put behind signs, bodies, and letters of bodies, over lists of signs -/
namespace Fr
abbrev L := List Nat
abbrev LP := List (L × L)
/-- the longest ending so far, and its put -/
def best (s : L) : LP → L × L → L × L
  | [], b => b
  | q :: r, b => best s r (if b.1.length < q.1.length ∧ q.1 <:+ s then q else b)
def putL (ps : LP) (s : L) : L := (best s ps ([], [])).2
/-- the last eight -/
def tail8 (s : L) : L := s.drop (s.length - 8)
theorem tail8_len (s : L) : (tail8 s).length = min 8 s.length := by
  unfold tail8
  rw [List.length_drop]
  omega
theorem tail8_le (s : L) : (tail8 s).length ≤ 8 := by rw [tail8_len]; omega
theorem tail8_suf (s : L) : tail8 s <:+ s := List.drop_suffix _ _
theorem suf_tail {w s : L} (h : w.length ≤ 8) : w <:+ tail8 s ↔ w <:+ s := by
  constructor
  · exact fun z => z.trans (tail8_suf s)
  · intro z
    refine List.suffix_of_suffix_length_le z (tail8_suf s) ?_
    have := z.length_le
    rw [tail8_len]
    omega
theorem tail8_app (s t : L) : tail8 (tail8 s ++ t) = tail8 (s ++ t) := by
  by_cases h : s.length ≤ 8
  · have : tail8 s = s := by
      unfold tail8
      rw [show s.length - 8 = 0 by omega, List.drop_zero]
    rw [this]
  · have e : tail8 s ++ t = (s ++ t).drop (s.length - 8) := by
      unfold tail8
      rw [List.drop_append_of_le_length (by omega)]
    unfold tail8
    rw [show s.drop (s.length - 8) ++ t = tail8 s ++ t from rfl, e, List.drop_drop, List.length_drop, List.length_append]
    congr 1
    omega
theorem tail8_same {s s' : L} (h : tail8 s = tail8 s') (t : L) : tail8 (s ++ t) = tail8 (s' ++ t) := by rw [← tail8_app, h, tail8_app]
/-- what watches and puts are: 1 to 8 signs, and one -/
structure Pok (ps : LP) : Prop where
  w1 : ∀ q ∈ ps, 1 ≤ q.1.length
  w8 : ∀ q ∈ ps, q.1.length ≤ 8
  p1 : ∀ q ∈ ps, q.2.length = 1
  sg : ∀ q ∈ ps, ∀ c ∈ q.2, c = 48 ∨ c = 49
theorem best_dep {s s' : L} : ∀ {ps : LP} {b : L × L}, (∀ q ∈ ps, (q.1 <:+ s ↔ q.1 <:+ s')) → best s ps b = best s' ps b
  | [], _, _ => rfl
  | q :: r, b, h => by
    have e : (b.1.length < q.1.length ∧ q.1 <:+ s) = (b.1.length < q.1.length ∧ q.1 <:+ s') := by rw [h q List.mem_cons_self]
    show best s r _ = best s' r _
    simp only [e]
    exact best_dep fun p hp => h p (List.mem_cons_of_mem _ hp)
theorem best_mem {s : L} : ∀ {ps : LP} {b : L × L}, best s ps b = b ∨ best s ps b ∈ ps
  | [], _ => .inl rfl
  | q :: r, b => by
    show best s r _ = b ∨ best s r _ ∈ q :: r
    split
    · rcases best_mem (s := s) (ps := r) (b := q) with h | h
      · exact .inr (by rw [h]; exact List.mem_cons_self)
      · exact .inr (List.mem_cons_of_mem _ h)
    · rcases best_mem (s := s) (ps := r) (b := b) with h | h
      · exact .inl h
      · exact .inr (List.mem_cons_of_mem _ h)
theorem best_snoc {s : L} {q : L × L} : ∀ {ps : LP} {b : L × L}, best s (ps ++ [q]) b = if (best s ps b).1.length < q.1.length ∧ q.1 <:+ s then q else best s ps b
  | [], _ => rfl
  | p :: r, b => best_snoc (ps := r)
section
variable {ps : LP}
theorem put_tail (O : Pok ps) (s : L) : putL ps (tail8 s) = putL ps s := congrArg Prod.snd (best_dep fun q hq => suf_tail (O.w8 q hq))
theorem put_same (O : Pok ps) {s s' : L} (h : tail8 s = tail8 s') : putL ps s = putL ps s' := by rw [← put_tail O s, h, put_tail O]
theorem put_or (O : Pok ps) (s : L) : putL ps s = [] ∨ ∃ c, putL ps s = [c] ∧ (c = 48 ∨ c = 49) := by
  unfold putL
  rcases best_mem (s := s) (ps := ps) (b := ([], [])) with h | h
  · exact .inl (by rw [h])
  · refine .inr ?_
    obtain ⟨c, e⟩ := List.length_eq_one_iff.mp (O.p1 _ h)
    exact ⟨c, e, O.sg _ h c (by rw [e]; exact List.mem_singleton.mpr rfl)⟩
theorem put_nil (O : Pok ps) : putL ps [] = [] := by
  have h : ∀ {qs : LP} {b : L × L}, (∀ q ∈ qs, 1 ≤ q.1.length) → best [] qs b = b := fun {qs} => by
    induction qs with
    | nil => intro b _; rfl
    | cons q r ih =>
      intro b z
      show best [] r _ = b
      rw [if_neg (fun y => by
        have := y.2.length_le
        have := z q List.mem_cons_self
        simp only [List.length_nil] at *
        omega)]
      exact ih fun p hp => z p (List.mem_cons_of_mem _ hp)
  unfold putL
  rw [h O.w1]
/-! ### signs sent until nothing is put in -/
def run (ps : LP) : Nat → L → Option L
  | 0, _ => none
  | n + 1, s => if putL ps s = [] then some s else run ps n (s ++ putL ps s)
def chain (ps : LP) (s : L) : Nat → L
  | 0 => s
  | k + 1 => chain ps s k ++ putL ps (chain ps s k)
theorem run_at {s : L} : ∀ {n k : Nat}, (∀ i, i < k → putL ps (chain ps s i) ≠ []) → run ps (n + k) s = run ps n (chain ps s k) := fun {n k} => by
  induction k generalizing n with
  | zero => intro _; rfl
  | succ k ih =>
    intro h
    have e : n + (k + 1) = (n + 1) + k := by omega
    rw [e, ih fun i hi => h i (by omega)]
    show (if putL ps (chain ps s k) = [] then _ else _) = _
    rw [if_neg (h k (by omega))]
    rfl
theorem run_none {s : L} (h : ∀ i, putL ps (chain ps s i) ≠ []) (n : Nat) : run ps n s = none := by
  have := run_at (ps := ps) (s := s) (n := 0) (k := n) fun i _ => h i
  rw [Nat.zero_add] at this
  rw [this]
  rfl
theorem chain_same (O : Pok ps) {s : L} {j k : Nat} (h : tail8 (chain ps s j) = tail8 (chain ps s k)) : ∀ r, tail8 (chain ps s (j + r)) = tail8 (chain ps s (k + r))
  | 0 => h
  | r + 1 => by
    have ih := chain_same O h r
    show tail8 (chain ps s (j + r) ++ putL ps (chain ps s (j + r))) = tail8 (chain ps s (k + r) ++ putL ps (chain ps s (k + r)))
    rw [put_same O ih]
    exact tail8_same ih _
theorem endless (O : Pok ps) {s : L} {j k : Nat} (hj : j < k) (h : tail8 (chain ps s j) = tail8 (chain ps s k)) (up : ∀ i, i < k → putL ps (chain ps s i) ≠ []) : ∀ i, putL ps (chain ps s i) ≠ [] := by
  intro i
  induction i using Nat.strongRecOn with
  | ind i ih =>
    rcases Nat.lt_or_ge i k with z | z
    · exact up i z
    · have e := put_same O (chain_same O h (i - k))
      rw [show k + (i - k) = i by omega] at e
      rw [← e]
      exact ih _ (by omega)
theorem chain_len (O : Pok ps) {s : L} : ∀ {k : Nat}, (∀ i, i < k → putL ps (chain ps s i) ≠ []) → (chain ps s k).length = s.length + k
  | 0, _ => rfl
  | k + 1, h => by
    have ih := chain_len O (s := s) (k := k) fun i hi => h i (by omega)
    rcases put_or O (chain ps s k) with z | ⟨c, z, _⟩
    · exact absurd z (h k (by omega))
    · show (chain ps s k ++ putL ps (chain ps s k)).length = _
      rw [z, List.length_append, ih]
      rfl
def Sgs (s : L) : Prop := ∀ c ∈ s, c = 48 ∨ c = 49
theorem Sgs.app {s t : L} (h : Sgs s) (h' : Sgs t) : Sgs (s ++ t) := fun c hc => (List.mem_append.mp hc).elim (h c) (h' c)
theorem put_sgs (O : Pok ps) (s : L) : Sgs (putL ps s) := fun c hc => by
  rcases put_or O s with z | ⟨d, z, q⟩
  · rw [z] at hc
    cases hc
  · rw [z, List.mem_singleton] at hc
    rw [hc]
    exact q
theorem chain_sgs (O : Pok ps) {s : L} (h : Sgs s) : ∀ k, Sgs (chain ps s k)
  | 0 => h
  | k + 1 => (chain_sgs O h k).app (put_sgs O _)
end
/-! ### few tails -/
theorem few_of {α : Type} [DecidableEq α] : ∀ (xs ks : List α), ks.Nodup → (∀ k ∈ ks, k ∈ xs) → ks.length ≤ xs.length
  | [], ks, _, h => by
    cases ks with
    | nil => exact Nat.le_refl _
    | cons k ks => exact absurd (h k List.mem_cons_self) (by simp)
  | a :: l, ks, hn, h => by
    have sub : ∀ k ∈ ks.erase a, k ∈ l := fun k hk => by
      obtain ⟨h1, h2⟩ := (List.Nodup.mem_erase_iff hn).mp hk
      exact (List.mem_cons.mp (h k h2)).resolve_left h1
    have r1 := few_of l (ks.erase a) (hn.erase a) sub
    have len : ks.length ≤ (ks.erase a).length + 1 := by
      by_cases m : a ∈ ks
      · rw [List.length_erase_of_mem m]
        omega
      · rw [List.erase_of_not_mem m]
        omega
    rw [List.length_cons]
    omega
def allN : Nat → List L
  | 0 => [[]]
  | n + 1 => (allN n).map (48 :: ·) ++ (allN n).map (49 :: ·)
theorem allN_len : ∀ n, (allN n).length = 2 ^ n
  | 0 => rfl
  | n + 1 => by
    have := allN_len n
    show ((allN n).map _ ++ (allN n).map _).length = _
    rw [List.length_append, List.length_map, List.length_map, this]
    omega
theorem allN_mem : ∀ {s : L}, Sgs s → s ∈ allN s.length
  | [], _ => List.mem_singleton.mpr rfl
  | c :: s, h => by
    have ih := allN_mem (s := s) fun d hd => h d (List.mem_cons_of_mem _ hd)
    show c :: s ∈ (allN s.length).map _ ++ (allN s.length).map _
    rcases h c List.mem_cons_self with e | e
    · exact List.mem_append_left _ (List.mem_map.mpr ⟨s, ih, by rw [e]⟩)
    · exact List.mem_append_right _ (List.mem_map.mpr ⟨s, ih, by rw [e]⟩)
section
variable {ps : LP}
/-- so many different tails at most -/
theorem few_tails (O : Pok ps) {s : L} {k : Nat} (h1 : 1 ≤ s.length) (sg : Sgs s) (up : ∀ i, i < k → putL ps (chain ps s i) ≠ []) (nd : ∀ i j, i < j → j < k → tail8 (chain ps s i) ≠ tail8 (chain ps s j)) : k ≤ 263 := by
  have a := few_of (allN 8) ((List.range (k - 7)).map fun i => tail8 (chain ps s (i + 7))) ?_ ?_
  · rw [allN_len, List.length_map, List.length_range] at a
    omega
  · unfold List.Nodup
    rw [List.pairwise_map]
    refine List.Pairwise.imp_of_mem ?_ (List.pairwise_lt_range (n := k - 7))
    intro i j hi hj hij
    have := List.mem_range.mp hj
    exact nd (i + 7) (j + 7) (by omega) (by omega)
  · intro t ht
    obtain ⟨i, hi, rfl⟩ := List.mem_map.mp ht
    have hi := List.mem_range.mp hi
    have len := chain_len O (s := s) (k := i + 7) fun j hj => up j (by omega)
    have m := allN_mem (s := tail8 (chain ps s (i + 7))) fun c hc => chain_sgs O sg _ c ((tail8_suf _).subset hc)
    rwa [tail8_len, len, show min 8 (s.length + (i + 7)) = 8 by omega] at m
theorem run_up : ∀ {n : Nat} {s t : L}, run ps n s = some t → s <+: t ∧ putL ps t = []
  | 0, _, _, h => by cases h
  | n + 1, s, t, h => by
    have h : (if putL ps s = [] then some s else run ps n (s ++ putL ps s)) = some t := h
    split at h
    · cases h
      rename_i z
      exact ⟨List.prefix_refl _, z⟩
    · have ih := run_up h
      exact ⟨(List.prefix_append _ _).trans ih.1, ih.2⟩
theorem run_len (O : Pok ps) : ∀ {n : Nat} {s t : L}, run ps n s = some t → t.length ≤ s.length + n
  | 0, _, _, h => by cases h
  | n + 1, s, t, h => by
    have h : (if putL ps s = [] then some s else run ps n (s ++ putL ps s)) = some t := h
    split at h
    · cases h
      omega
    · have ih := run_len O h
      rcases put_or O s with z | ⟨c, z, _⟩
      · contradiction
      · rw [z, List.length_append] at ih
        simp only [List.length_singleton] at ih
        omega
theorem run_sgs (O : Pok ps) : ∀ {n : Nat} {s t : L}, Sgs s → run ps n s = some t → Sgs t
  | 0, _, _, _, h => by cases h
  | n + 1, s, t, g, h => by
    have h : (if putL ps s = [] then some s else run ps n (s ++ putL ps s)) = some t := h
    split at h
    · cases h
      exact g
    · exact run_sgs O (g.app (put_sgs O s)) h
/-- the signs behind s that are sent for the sign c, if they have an end -/
def sentL (ps : LP) (s : L) (c : Nat) : Option L := run ps 300 (s ++ [c])
/-- the body of r behind s -/
def bodyL (ps : LP) : L → L → Option L
  | s, [] => some s
  | s, c :: r => match sentL ps s c with
    | none => none
    | some t => bodyL ps t r
theorem body_len (O : Pok ps) : ∀ {r s t : L}, bodyL ps s r = some t → t.length ≤ s.length + 301 * r.length
  | [], s, t, h => by
    cases h
    omega
  | c :: r, s, t, h => by
    unfold bodyL at h
    split at h
    · cases h
    · rename_i u e
      have := body_len O h
      have := run_len O e
      rw [List.length_append, List.length_singleton] at this
      rw [List.length_cons]
      omega
theorem body_sgs (O : Pok ps) : ∀ {r s t : L}, Sgs s → Sgs r → bodyL ps s r = some t → Sgs t
  | [], s, t, g, _, h => by
    cases h
    exact g
  | c :: r, s, t, g, gr, h => by
    unfold bodyL at h
    split at h
    · cases h
    · rename_i u e
      exact body_sgs O (run_sgs O (g.app fun d hd => gr d (by rw [List.mem_singleton.mp hd]; exact List.mem_cons_self)) e) (fun d hd => gr d (List.mem_cons_of_mem _ hd)) h
theorem body_more : ∀ {r s t : L}, bodyL ps s r = some t → s <+: t
  | [], s, t, h => by
    cases h
    exact List.prefix_refl _
  | c :: r, s, t, h => by
    unfold bodyL at h
    split at h
    · cases h
    · rename_i u e
      exact ((List.prefix_append _ _).trans (run_up e).1).trans (body_more h)
theorem body_ge : ∀ {r s t : L}, bodyL ps s r = some t → s.length + r.length ≤ t.length
  | [], s, t, h => by
    cases h
    exact Nat.le_refl _
  | c :: r, s, t, h => by
    unfold bodyL at h
    split at h
    · cases h
    · rename_i u e
      have := body_ge h
      have := (run_up e).1.length_le
      rw [List.length_append, List.length_singleton] at this
      rw [List.length_cons]
      omega
/-! ### letters of bodies -/
/-- the letter of rest, behind done -/
def tkn (ps : LP) : L → L → Option L
  | d, [] => if putL ps d = [] then some [] else none
  | d, c :: r => if putL ps d = [] then (tkn ps (d ++ [c]) r).map (c :: ·) else if [c] = putL ps d then tkn ps (d ++ [c]) r else none
theorem tkn_len : ∀ {r d t : L}, tkn ps d r = some t → t.length ≤ r.length
  | [], d, t, h => by
    unfold tkn at h
    split at h
    · cases h
      exact Nat.le_refl _
    · cases h
  | c :: r, d, t, h => by
    unfold tkn at h
    split at h
    · obtain ⟨u, hu, rfl⟩ := Option.map_eq_some_iff.mp h
      have := tkn_len hu
      simp only [List.length_cons]
      omega
    · split at h
      · have := tkn_len h
        rw [List.length_cons]
        omega
      · cases h
theorem tkn_sgs : ∀ {r d t : L}, Sgs r → tkn ps d r = some t → Sgs t
  | [], d, t, _, h => by
    unfold tkn at h
    split at h
    · cases h
      exact fun c hc => by cases hc
    · cases h
  | c :: r, d, t, g, h => by
    have gr : Sgs r := fun x hx => g x (List.mem_cons_of_mem _ hx)
    unfold tkn at h
    split at h
    · obtain ⟨u, hu, rfl⟩ := Option.map_eq_some_iff.mp h
      exact fun x hx => by
        rcases List.mem_cons.mp hx with e | e
        · rw [e]
          exact g c List.mem_cons_self
        · exact tkn_sgs gr hu x e
    · split at h
      · exact tkn_sgs gr h
      · cases h
end
end Fr
/-! texts in order: one row only -/
namespace StO
open PySem PySem.Spec PyProof.Rows L2
def lt (a b : Str) : Prop := ltCps a.cps.toList b.cps.toList = true
theorem lt_iff {a b : Str} : lt a b ↔ a.cps.toList < b.cps.toList := by
  unfold lt
  rw [ltCps_eq, decide_eq_true_iff]
theorem str_ext {a b : Str} (h : a.cps.toList = b.cps.toList) : a = b := by
  cases a
  cases b
  simp only [Str.mk.injEq]
  exact Array.toList_inj.mp h
theorem lt_irr (a : Str) : ¬ lt a a := fun h => List.lt_irrefl _ (lt_iff.mp h)
theorem lt_tr {a b c : Str} (h : lt a b) (h' : lt b c) : lt a c := lt_iff.mpr (List.lt_trans (lt_iff.mp h) (lt_iff.mp h'))
theorem lt_of_ne {a b : Str} (h : ¬ lt b a) (n : a ≠ b) : lt a b := by
  rw [lt_iff] at h ⊢
  have le : a.cps.toList ≤ b.cps.toList := List.not_lt.mp h
  by_cases z : a.cps.toList < b.cps.toList
  · exact z
  · exact absurd (str_ext (List.le_antisymm le (List.not_lt.mp z))) n
/-- rising, each once -/
theorem chain : ∀ (p : Str) (l : List Str), risingS p l = true → (p :: l).Nodup → (p :: l).Pairwise lt
  | p, [], _, _ => List.pairwise_singleton ..
  | p, x :: r, h, d => by
    have h : (!ltCps x.cps.toList p.cps.toList && risingS x r) = true := h
    obtain ⟨h1, h2⟩ := Bool.and_eq_true_iff.mp h
    obtain ⟨d1, d2⟩ := List.nodup_cons.mp d
    have ih := chain x r h2 d2
    have px : lt p x := lt_of_ne (fun z => by
      have z : ltCps x.cps.toList p.cps.toList = true := z
      rw [z] at h1
      cases h1) fun z => d1 (z ▸ List.mem_cons_self)
    refine List.pairwise_cons.mpr ⟨fun y hy => ?_, ih⟩
    rcases List.mem_cons.mp hy with rfl | hy
    · exact px
    · exact lt_tr px ((List.pairwise_cons.mp ih).1 y hy)
theorem rows {l : List Str} (h : sortedS l = true) (d : l.Nodup) : l.Pairwise lt := by
  cases l with
  | nil => exact List.Pairwise.nil
  | cons x r => exact chain x r h d
theorem one : ∀ {l m : List Str}, l.Pairwise lt → m.Pairwise lt → (∀ z, z ∈ l ↔ z ∈ m) → l = m
  | [], [], _, _, _ => rfl
  | [], y :: m, _, _, h => absurd ((h y).mpr List.mem_cons_self) (by simp)
  | x :: l, [], _, _, h => absurd ((h x).mp List.mem_cons_self) (by simp)
  | x :: l, y :: m, hl, hm, h => by
    obtain ⟨a1, a2⟩ := List.pairwise_cons.mp hl
    obtain ⟨b1, b2⟩ := List.pairwise_cons.mp hm
    have e : x = y := by
      rcases List.mem_cons.mp ((h x).mp List.mem_cons_self) with z | z
      · exact z
      · rcases List.mem_cons.mp ((h y).mpr List.mem_cons_self) with u | u
        · exact u.symm
        · exact absurd (lt_tr (a1 y u) (b1 x z)) (lt_irr x)
    subst e
    refine congrArg (x :: ·) (one a2 b2 fun z => ?_)
    constructor
    · intro hz
      rcases List.mem_cons.mp ((h z).mp (List.mem_cons_of_mem _ hz)) with rfl | q
      · exact absurd (a1 z hz) (lt_irr z)
      · exact q
    · intro hz
      rcases List.mem_cons.mp ((h z).mpr (List.mem_cons_of_mem _ hz)) with rfl | q
      · exact absurd (b1 z hz) (lt_irr z)
      · exact q
end StO
/-! sorted of a tuple of pairs of texts -/
namespace SrtT
open PySem PyProof.Rows SrtO
/-- one text before another -/
def ltB (x y : Str) : Bool := decide (x.cps.toList < y.cps.toList)
theorem ltB_irr (x : Str) : ltB x x = false := decide_eq_false (List.lt_irrefl _)
theorem ltB_tr {x y z : Str} (h : ltB x y = true) (h' : ltB y z = true) : ltB x z = true := decide_eq_true (List.lt_trans (of_decide_eq_true h) (of_decide_eq_true h'))
theorem str_ext {a b : Str} (h : a.cps.toList = b.cps.toList) : a = b := by
  cases a
  cases b
  congr
  exact Array.toList_inj.mp h
theorem ltB_tot {x y : Str} (h : ltB x y = false) (n : x ≠ y) : ltB y x = true := by
  have h1 := of_decide_eq_false h
  refine decide_eq_true ?_
  rcases List.le_iff_lt_or_eq.mp (List.not_lt.mp h1) with z | z
  · exact z
  · exact absurd (str_ext z).symm n
/-- pairs, by their first, then by their second -/
def lexT (p q : Str × Str) : Bool := if p.1 = q.1 then ltB p.2 q.2 else ltB p.1 q.1
theorem lexT_irr (p : Str × Str) : lexT p p = false := by unfold lexT; rw [if_pos rfl]; exact ltB_irr _
theorem lexT_tr {p q r : Str × Str} (h : lexT p q = true) (h' : lexT q r = true) : lexT p r = true := by
  unfold lexT at *
  by_cases a : p.1 = q.1
  · rw [if_pos a] at h
    by_cases b : q.1 = r.1
    · rw [if_pos b] at h'
      rw [if_pos (a.trans b)]
      exact ltB_tr h h'
    · rw [if_neg b] at h'
      rw [if_neg (a ▸ b), a]
      exact h'
  · rw [if_neg a] at h
    by_cases b : q.1 = r.1
    · rw [if_pos b] at h'
      rw [if_neg (b ▸ a), ← b]
      exact h
    · rw [if_neg b] at h'
      have c := ltB_tr h h'
      rw [if_neg (fun z => by
        rw [z, ltB_irr] at c
        cases c)]
      exact c
theorem lexT_tot {p q : Str × Str} (h : lexT p q = false) (n : p ≠ q) : lexT q p = true := by
  unfold lexT at *
  by_cases a : p.1 = q.1
  · rw [if_pos a] at h
    rw [if_pos a.symm]
    exact ltB_tot h fun z => n (Prod.ext a z)
  · rw [if_neg a] at h
    rw [if_neg (fun z => a z.symm)]
    exact ltB_tot h a
theorem swo_lexT {α : Type} (k : α → Str × Str) : Swo fun v u => lexT (k v) (k u) := by
  refine ⟨fun x y h => ?_, fun x y z h1 h2 => ?_⟩
  · cases c : lexT (k y) (k x) with
    | false => rfl
    | true =>
      have := lexT_tr h c
      rw [lexT_irr] at this
      cases this
  · cases c : lexT (k z) (k x) with
    | false => rfl
    | true =>
      by_cases e : k y = k x
      · rw [e] at h2
        rw [c] at h2
        cases h2
      · have a := lexT_tot h1 e
        have b := lexT_tr c a
        rw [b] at h2
        cases h2
def IsPairT (h : Heap) (v : Value) (p : Str × Str) : Prop := ∃ a o t u n, v = .ref a ∧ h.get? a = some o ∧ o.cls = .type "tuple" ∧ o.data = .seq #[.str p.1 t, .str p.2 u] n
theorem IsPairT.keeps {h h' : Heap} {v : Value} {p : Str × Str} (q : IsPairT h v p) (k : ∀ b o, h.get? b = some o → o.cls = .type "tuple" → h'.get? b = some o) : IsPairT h' v p := by
  obtain ⟨a, o, t, u, n, e, ho, hc, hd⟩ := q
  exact ⟨a, o, t, u, n, e, k _ _ ho hc, hc, hd⟩
theorem firsts_of {h : Heap} {k : Value → Str × Str} : ∀ {vs : List Value}, (∀ v ∈ vs, IsPairT h v (k v)) → ∃ fs : List Value, PySem.W.KatTups h vs fs ∧ fs.length = vs.length ∧ ∀ f ∈ fs, ∃ x t, f = Value.str x t
  | [], _ => ⟨[], PySem.W.KatTups.nil, rfl, fun _ hm => by simp at hm⟩
  | v :: vs, hp => by
    obtain ⟨fs, h1, h2, h3⟩ := firsts_of (k := k) (vs := vs) fun v' hm => hp v' (List.mem_cons_of_mem _ hm)
    obtain ⟨a, o, t, u, n, e, ho, hc, hd⟩ := hp v (List.mem_cons_self ..)
    subst e
    refine ⟨.str _ t :: fs, PySem.W.KatTups.cons ho hc hd rfl h1, by rw [List.length_cons, List.length_cons, h2], fun f hm => ?_⟩
    rcases List.mem_cons.mp hm with rfl | hm
    · exact ⟨_, t, rfl⟩
    · exact h3 f hm
section
variable {prog : Program} {w : World} {A : Around} {E : Value → Shared → Prop} {s : Shared}
theorem pair_cmp {vs : List Value} {k : Value → Str × Str} (hp : ∀ v ∈ vs, IsPairT s.heap v (k v)) : Cmp prog w A s (tuples' true) (fun p => p.1 ∈ vs) (lt2 fun v u => lexT (k v) (k u)) := by
  intro p q hm hm'
  have h1 := hp _ hm
  have h2 := hp _ hm'
  show wpAny (model prog w) A (keyLt' (tuples' true) p.1 q.1) (fun r s' => s' = s ∧ r = lexT (k p.1) (k q.1)) (fun _ _ => False) s
  unfold lexT
  generalize k p.1 = P at h1 ⊢
  generalize k q.1 = P' at h2 ⊢
  obtain ⟨x, y⟩ := P
  obtain ⟨x', y'⟩ := P'
  obtain ⟨a, o, t, u, n, e, ho, hc, hd⟩ := h1
  obtain ⟨a', o', t', u', n', e', ho', hc', hd'⟩ := h2
  rw [e, e']
  refine PySem.W.kat_lt ho hd ho' hd' ?_
  show PySem.W.KatLex prog w A true (decide (2 < 2)) _ [(.str x t, .str x' t'), (.str y u, .str y' u')] 0 s
  refine PySem.W.kat_cons (SeqAt.EqAt.str_str x t x' t' prog w _ _ ?_)
  refine PySem.W.kat_go (fun e1 => ?_) (fun e1 => ?_)
  · have ex : x = x' := by simpa using e1
    refine PySem.W.kat_yes (PySem.W.kat_cons (SeqAt.EqAt.str_str y u y' u' prog w _ _ ?_))
    refine PySem.W.kat_go (fun e2 => ?_) (fun e2 => ?_)
    · have ey : y = y' := by simpa using e2
      have e3 : (if x = x' then ltB y y' else ltB x x') = false := by
        rw [if_pos ex, ey]
        exact ltB_irr _
      exact PySem.W.kat_yes (PySem.W.kat_nil ⟨rfl, e3.symm⟩)
    · have e3 : (if x = x' then ltB y y' else ltB x x') = ltB y y' := if_pos ex
      refine PySem.W.kat_no (PySem.W.kat_one _ _ (PyProof.Rows.lt_str ?_))
      exact (show s = s ∧ ltB y y' = (if x = x' then ltB y y' else ltB x x') from ⟨rfl, e3.symm⟩)
  · have ex : ¬ x = x' := by simpa using e1
    have e3 : (if x = x' then ltB y y' else ltB x x') = ltB x x' := if_neg ex
    exact PySem.W.kat_no (oneLt_str ⟨rfl, e3.symm⟩)
theorem pairs_sortable {a : Addr} {vs : List Value} {k : Value → Str × Str} (h0 : 0 < vs.length) (hp : ∀ v ∈ vs, IsPairT s.heap v (k v)) (ha : ∀ o, s.heap.get? a = some o → o.cls ≠ .type "tuple") : SortableO prog w A s a vs fun v u => lexT (k v) (k u) := by
  intro h' keep
  have hp' : ∀ v ∈ vs, IsPairT h' v (k v) := fun v hm => (hp v hm).keeps fun b o e c => keep b o (fun z => by subst z; exact ha o e c) e
  obtain ⟨fs, h1, h2, h3⟩ := firsts_of hp'
  refine ⟨tuples' true, fun Q E hq => ?_, pair_cmp hp'⟩
  refine PySem.W.kat_kind (T := .type "str") h1 (by omega) (fun f hm => ?_) (by rfl) ?_
  · obtain ⟨x, t, rfl⟩ := h3 f hm
    exact PySem.W.Looks.now
  · have e : (Value.type "str" != Value.type "tuple") = true := by first | decide +kernel | rfl | decide
    rw [e]
    exact hq
/-- what sorted collects of a tuple -/
theorem collect_tup {l : Addr} {vs : List Value} {Q : List Value → Shared → Prop} (hl : s.heap.IsTuple l vs.toArray)
    (h : Q vs { s with heap := (s.heap.push (seqObj "list" #[] 0)).update s.heap.objs.size (Obj.mapSeq (· ++ vs.toArray)) }) (hsz : vs.length ≤ sizeLine) :
    wpAny (model prog w) A (collect (.ref l)) Q E s := by
  obtain ⟨o, ho, hc, n, hd⟩ := id hl
  unfold collect
  refine wpAny_bind (wpAny_runValue (codeAny_builtin entry_proto_collect' ?_))
  show wpAny _ _ (do again (.builtin "list.__iadd__" ⟨[← newList [], .ref l], []⟩)) _ _ s
  refine wpAny_bind (wpAny_newList (wpAny_pure ⟨Code.quiet_builtin _ (by decide +kernel), codeAny_builtin entry_list_iadd' ?_⟩))
  show wpAny _ _ (Builtin.List.listExtendWith (.ref s.heap.objs.size) (.ref l) (.ref s.heap.objs.size)) _ _ { s with heap := s.heap.push (seqObj "list" #[] 0) }
  unfold Builtin.List.listExtendWith
  have ho' : (s.heap.push (seqObj "list" #[] 0)).get? l = some o := Heap.get?_push_of_some _ ho
  refine wpAny_bind (wpAny_typeOf (T := "tuple") ⟨o, ho', hc⟩ ?_)
  have ht : (Value.type "tuple" == Value.type "tuple") = true := by rfl
  rw [if_pos (by rw [ht]; simp)]
  refine wpAny_bind (listItems_at ho' hd ?_)
  refine wpAny_bind (listItems_at (xs := #[]) (n := 0) (Heap.get?_push_size _ rfl) rfl ?_)
  rw [if_neg (by simp)]
  refine wpAny_bind (listUpdate_at (xs := #[]) (n := 0) (Heap.get?_push_size _ rfl) rfl ?_ (Nat.zero_le _) (by show (#[] ++ vs.toArray).size ≤ sizeLine + 1; simp only [Array.size_append, List.size_toArray, List.length_nil]; omega))
  refine wpAny_pure ?_
  show wpAny (model prog w) A (do
      let o ← load s.heap.objs.size
      match o.data with
      | .seq xs _ => pure xs.toList
      | _ => unsupported "internal:collect") Q E { s with heap := (s.heap.push (seqObj "list" #[] 0)).update s.heap.objs.size (Obj.mapSeq (· ++ vs.toArray)) }
  refine wpAny_bind (wpAny_load (get?_update_seq (Heap.get?_push_size _ rfl) _) ?_)
  show wpAny _ _ (pure ((#[] : Array Value) ++ vs.toArray).toList) Q E _
  rw [show ((#[] : Array Value) ++ vs.toArray).toList = vs by simp]
  exact wpAny_pure h
theorem sorted_tup {l : Addr} {vs : List Value} {k : Value → Str × Str} {Q : Value → Shared → Prop} (hl : s.heap.IsTuple l vs.toArray) (hz : vs.length ≤ sizeLine) (hp : ∀ v ∈ vs, IsPairT s.heap v (k v))
    (h : ∀ (h' : Heap) (d : Addr) (out : List Value), Srtd (fun v u => lexT (k v) (k u)) out → Stb (fun v u => lexT (k v) (k u)) out vs → (∀ b o, s.heap.get? b = some o → h'.get? b = some o) → s.heap.objs.size ≤ d → (∃ n, h'.get? d = some (seqObj "list" out.toArray n)) → Q (.ref d) { s with heap := h' }) :
    wpAny (model prog w) A (call (.builtin "sorted") [.ref l]) Q E s := by
  refine Calls.call_function_entry kind_sorted plain_sorted entry_sorted (args_sorted1 _) ?_
  unfold Builtin.«sorted»
  refine wpAny_bind (m := checkCount "sorted" 1 1 _) (wpAny_pure ?_)
  refine wpAny_bind (collect_tup hl ?_ hz)
  refine wpAny_bind (wpAny_newList ?_ hz)
  have hsz : ((s.heap.push (seqObj "list" #[] 0)).update s.heap.objs.size (Obj.mapSeq (· ++ vs.toArray))).objs.size = s.heap.objs.size + 1 := by
    rw [Heap.size_update, size_push']
  have hoL : (((s.heap.push (seqObj "list" #[] 0)).update s.heap.objs.size (Obj.mapSeq (· ++ vs.toArray))).push (seqObj "list" vs.toArray 0)).get? (s.heap.objs.size + 1) = some (seqObj "list" vs.toArray 0) := by
    rw [← hsz]; exact Heap.get?_push_size _ rfl
  have keep : ∀ b o, s.heap.get? b = some o → b ≠ s.heap.objs.size + 1 ∧ (((s.heap.push (seqObj "list" #[] 0)).update s.heap.objs.size (Obj.mapSeq (· ++ vs.toArray))).push (seqObj "list" vs.toArray 0)).get? b = some o := fun b o q => by
    have hlt : b < s.heap.objs.size := Heap.lt_size q
    refine ⟨Nat.ne_of_lt (Nat.lt_succ_of_lt hlt), Heap.get?_push_of_some _ ?_⟩
    rw [Heap.get?_update_ne _ _ _ _ (Nat.ne_of_lt hlt)]
    exact Heap.get?_push_of_some _ q
  show wpAny _ _ _ _ _ { s with heap := ((s.heap.push (seqObj "list" #[] 0)).update s.heap.objs.size (Obj.mapSeq (· ++ vs.toArray))).push (seqObj "list" vs.toArray 0) }
  rw [hsz]
  refine wpAny_bind (wpAny_holding (wpAny_call_entry slot_list_sort ⟨_, hoL, rfl⟩ entry_list_sort (list_sort_ord (swo_lexT k) hoL hz (fun h2 => pairs_sortable (by omega) (fun v hm => (hp v hm).keeps fun b o e _ => (keep b o e).2) fun o e => ?_) fun out hs hb => ⟨_, rfl, ?_⟩) (args_list_sort _)))
  · have e' : some o = some (seqObj "list" vs.toArray 0) := e.symm.trans hoL
    cases e'
    intro c
    exact absurd (Value.type.inj c) (by decide)
  · exact wpAny_pure ⟨_, rfl, h _ _ out hs hb (fun b o e => sortedAll_old e) (Nat.le_succ _) (sortedAll_at s.heap vs out.toArray)⟩
end
end SrtT
namespace L2
open PySem PySem.Spec PyProof.Rows
abbrev ltT (k : V → Str × Str) (x y : V) : Bool := SrtT.lexT (k x) (k y)
/-- sorted(xs), xs a tuple of pairs of texts (k says which): a new list -/
def rSortedTT (K : PySem.W.Frag) : List V → Hp → VK → Prop := fun vs H Q => ∃ (a : Addr) (xs : List V) (k : V → Str × Str), vs = [V.ref a] ∧ SqT K H a xs ∧ (∀ x ∈ xs, ∃ t, x = V.ref t ∧ H t = some (.tup [.str (k x).1, .str (k x).2])) ∧
  ∀ ys p, SrtO.Srtd (ltT k) ys → ys.Perm xs → H p = none → Q (.ref p) (upd H p (.lst ys))
section
variable {X : Cx}
theorem cr_sortedTT : CallR X (.builtin "sorted") (rSortedTT X.K) := by
  intro pins s σ H vs us Q I r h
  obtain ⟨a, xs, k, rfl, hs, hx, q⟩ := h
  obtain ⟨its, rv, hl, hz⟩ := I.tuple hs
  obtain ⟨u, rfl, ru⟩ := vals1 r
  obtain rfl : u = Value.ref a := ru
  obtain ⟨e1, e2⟩ := refs_back rv fun x m => by
    obtain ⟨t, e, _⟩ := hx x m
    exact ⟨t, e⟩
  refine SrtT.sorted_tup (k := fun u => k (backV u)) hl (by rw [← rv.length]; exact hz) (fun v hv => ?_) fun h' d out h1 h2 kp hd hn => ?_
  · obtain ⟨t, rfl⟩ := e2 v hv
    have hm : V.ref t ∈ xs := by rw [e1]; exact List.mem_map.mpr ⟨_, hv, rfl⟩
    obtain ⟨t', e, ht⟩ := hx _ hm
    cases e
    obtain ⟨_, its2, r2, o, ho, hc, n, hd⟩ := I.hok _ _ ht
    obtain ⟨u1, u2, rfl, ri, rj⟩ := vals2 r2
    obtain ⟨t1, rfl⟩ := ri
    obtain ⟨t2, rfl⟩ := rj
    exact ⟨t, o, t1, t2, n, rfl, ho, hc, hd⟩
  · have h3 : ∀ u ∈ out, ∃ a, u = Value.ref a := fun u hu => e2 u (h2.perm.mem_iff.mp hu)
    obtain ⟨n, hn⟩ := hn
    have hb : (out.map backV).Perm xs := by
      rw [e1]
      exact h2.perm.map backV
    refine ⟨.ref d, upd H d (.lst (out.map backV)), I.laid (t' := s.toks) kp hd ⟨?_, out, n, vals_back h3, hn⟩, rfl, q _ d (SrtO.srtd_map h1) hb (I.hok.fresh hd)⟩
    rw [hb.length_eq]
    exact hz
end
end L2
/-! pure: signs, distinct texts, words -/
namespace K09
open PySem L2 Evl SrtT
abbrev oi : Str := "01"
abbrev mt : Str := ""
abbrev colon : Str := ":"
abbrev comma : Str := ","
/-! ### signs -/
theorem tw_all {p : Nat → Bool} : ∀ {l : List Nat}, l.all p = true → l.takeWhile p = l
  | [], _ => rfl
  | a :: l, h => by
    rw [List.all_cons, Bool.and_eq_true] at h
    rw [List.takeWhile_cons, if_pos h.1, tw_all h.2]
theorem tw_lt {p : Nat → Bool} : ∀ {l : List Nat}, l.all p = false → (l.takeWhile p).length < l.length
  | a :: l, h => by
    rw [List.takeWhile_cons]
    by_cases ha : p a = true
    · rw [List.all_cons, ha, Bool.true_and] at h
      rw [if_pos ha]
      have := tw_lt h
      rw [List.length_cons, List.length_cons]
      omega
    · rw [if_neg ha]
      simp
theorem tw_off {p : Nat → Bool} : ∀ {l : List Nat}, l.all p = false → (l.drop (l.takeWhile p).length).all p = false
  | a :: l, h => by
    rw [List.takeWhile_cons]
    by_cases ha : p a = true
    · rw [List.all_cons, ha, Bool.true_and] at h
      rw [if_pos ha]
      exact tw_off h
    · rw [if_neg ha]
      show List.all (a :: l) p = false
      rw [List.all_cons, Bool.eq_false_iff.mpr ha, Bool.false_and]
def isO (c : Nat) : Bool := decide (c = 48 ∨ c = 49)
/-- a text of signs alone -/
def Sg (z : Str) : Bool := (TL.tl z).all isO
def signsB (z : Str) : Bool := decide (V.str (Txt.stripChars z oi) = V.str mt)
theorem goes_is (c : Nat) : oi.cps.contains c = isO c := by
  have e : oi.cps = #[48, 49] := by decide +kernel
  rw [e]
  unfold isO
  by_cases h : c = 48
  · subst h; decide +kernel
  · by_cases h2 : c = 49
    · subst h2; decide +kernel
    · simp [h, h2]
theorem strip_tl (z : Str) : TL.tl (Txt.stripChars z oi) = [] ↔ Sg z = true := by
  unfold Txt.stripChars
  rw [PyProof.Rows.stripBy_eq, TL.tl_strSub]
  have e : oi.cps.contains = isO := funext goes_is
  rw [e]
  have lo : stripLo isO true z = ((TL.tl z).takeWhile isO).length := rfl
  have hi : stripHi isO true z (stripLo isO true z) = z.length - (((TL.tl z).drop (stripLo isO true z)).reverse.takeWhile isO).length := rfl
  rw [hi, lo]
  constructor
  · intro h
    cases q : Sg z with
    | true => rfl
    | false =>
      have q : (TL.tl z).all isO = false := q
      have a := tw_lt q
      have b := tw_off q
      have c : (((TL.tl z).drop ((TL.tl z).takeWhile isO).length).reverse.takeWhile isO).length < ((TL.tl z).drop ((TL.tl z).takeWhile isO).length).reverse.length := tw_lt (by rw [List.all_reverse]; exact b)
      rw [List.length_reverse, List.length_drop, ← TL.len_tl] at c
      have d := congrArg List.length h
      rw [List.length_take, List.length_drop, ← TL.len_tl] at d
      rw [← TL.len_tl] at a
      simp only [List.length_nil] at d
      omega
  · intro h
    have h : (TL.tl z).all isO = true := h
    rw [tw_all h, List.drop_length, List.take_nil]
theorem signs_is (z : Str) : signsB z = Sg z := by
  unfold signsB
  rw [Bool.eq_iff_iff, decide_eq_true_iff, ← strip_tl]
  constructor
  · intro h
    rw [V.str.inj h]
    decide +kernel
  · intro h
    exact congrArg V.str (TL.ext_tl (h.trans (by decide +kernel)))
theorem sg_ok {z : Str} (h : Sg z = true) : PyData.strOk z = true := by
  unfold PyData.strOk
  have h : (TL.tl z).all isO = true := h
  rw [List.all_eq_true] at h
  rw [← Array.all_toList, List.all_eq_true]
  intro c hc
  have := h c hc
  unfold isO at this
  rw [decide_eq_true_iff] at this ⊢
  omega
theorem sg_free {z : Str} {s : Nat} (h : Sg z = true) (hs : s < 48) : s ∉ TL.tl z := fun m => by
  have h : (TL.tl z).all isO = true := h
  have := List.all_eq_true.mp h s m
  unfold isO at this
  rw [decide_eq_true_iff] at this
  omega
/-! ### distinct texts -/
theorem few : ∀ (xs ks : List Str), ks.Nodup → (∀ k ∈ ks, k ∈ xs) → ks.length ≤ xs.length ∧ (¬ xs.Nodup → ks.length < xs.length)
  | [], ks, _, h => by
    cases ks with
    | nil => exact ⟨Nat.le_refl _, fun z => absurd List.nodup_nil z⟩
    | cons k ks => exact absurd (h k List.mem_cons_self) (by simp)
  | a :: l, ks, hn, h => by
    by_cases ha : a ∈ l
    · have := few l ks hn fun k hk => (List.mem_cons.mp (h k hk)).elim (fun e => e ▸ ha) id
      rw [List.length_cons]
      exact ⟨by omega, fun _ => by omega⟩
    · have sub : ∀ k ∈ ks.erase a, k ∈ l := fun k hk => by
        obtain ⟨h1, h2⟩ := (List.Nodup.mem_erase_iff hn).mp hk
        exact (List.mem_cons.mp (h k h2)).resolve_left h1
      obtain ⟨r1, r2⟩ := few l (ks.erase a) (hn.erase a) sub
      have len : ks.length ≤ (ks.erase a).length + 1 := by
        by_cases m : a ∈ ks
        · rw [List.length_erase_of_mem m]
          omega
        · rw [List.erase_of_not_mem m]
          omega
      rw [List.length_cons]
      refine ⟨by omega, fun z => ?_⟩
      have := r2 fun y => z (List.nodup_cons.mpr ⟨ha, y⟩)
      omega
theorem all_there (xs ks : List Str) (hx : xs.Nodup) (h : ∀ k ∈ xs, k ∈ ks) : xs.length ≤ ks.length := (few ks xs hx h).1
/-! ### rows that rise -/
theorem one_row {α : Type} {R : α → α → Prop} (irr : ∀ x, ¬ R x x) (tr : ∀ x y z, R x y → R y z → R x z) : ∀ {l m : List α}, l.Pairwise R → m.Pairwise R → (∀ z, z ∈ l ↔ z ∈ m) → l = m
  | [], [], _, _, _ => rfl
  | [], y :: m, _, _, h => absurd ((h y).mpr List.mem_cons_self) (by simp)
  | x :: l, [], _, _, h => absurd ((h x).mp List.mem_cons_self) (by simp)
  | x :: l, y :: m, hl, hm, h => by
    obtain ⟨a1, a2⟩ := List.pairwise_cons.mp hl
    obtain ⟨b1, b2⟩ := List.pairwise_cons.mp hm
    have e : x = y := by
      rcases List.mem_cons.mp ((h x).mp List.mem_cons_self) with z | z
      · exact z
      · rcases List.mem_cons.mp ((h y).mpr List.mem_cons_self) with u | u
        · exact u.symm
        · exact absurd (tr _ _ _ (a1 y u) (b1 x z)) (irr x)
    subst e
    refine congrArg (x :: ·) (one_row irr tr a2 b2 fun z => ?_)
    constructor
    · intro hz
      rcases List.mem_cons.mp ((h z).mp (List.mem_cons_of_mem _ hz)) with rfl | q
      · exact absurd (a1 z hz) (irr z)
      · exact q
    · intro hz
      rcases List.mem_cons.mp ((h z).mpr (List.mem_cons_of_mem _ hz)) with rfl | q
      · exact absurd (b1 z hz) (irr z)
      · exact q
abbrev Pr := Str × Str
/-- pairs whose watches rise -/
def Rise (l : List Pr) : Prop := l.Pairwise fun p q => ltB p.1 q.1 = true
theorem ltB_ne {x y : Str} (h : ltB x y = true) : x ≠ y := fun e => by
  rw [e, ltB_irr] at h
  cases h
theorem rise_lex {l : List Pr} (h : Rise l) : l.Pairwise fun p q => lexT p q = true := List.Pairwise.imp (fun {p q} z => by
  unfold lexT
  rw [if_neg (ltB_ne z)]
  exact z) h
theorem rise_nodup {l : List Pr} (h : Rise l) : (l.map (·.1)).Nodup := by
  unfold List.Nodup
  rw [List.pairwise_map]
  exact List.Pairwise.imp (fun z => ltB_ne z) h
/-- a sorted row that has the same pairs is the row that rises -/
theorem sort_one {l m : List Pr} (hs : l.Pairwise fun p q => lexT q p = false) (hp : l.Perm m) (hm : Rise m) : l = m := by
  have nd : m.Nodup := List.Pairwise.imp (fun {p q} z e => by
    rw [e, ltB_irr] at z
    cases z) hm
  have nl : l.Pairwise (· ≠ ·) := hp.nodup_iff.mpr nd
  have up : l.Pairwise fun p q => lexT p q = true := by
    have := hs.and nl
    exact this.imp fun {p q} z => lexT_tot z.1 fun e => z.2 e.symm
  exact one_row (R := fun p q => lexT p q = true) (fun x h => by
    rw [lexT_irr] at h
    cases h) (fun _ _ _ => lexT_tr) up (rise_lex hm) fun z => hp.mem_iff
end K09
/-! pure: the words of a rule, and where they go wrong -/
namespace K09
open PySem L2 Evl SrtT
/-! ### texts of words -/
def tx (ws : List Str) : Str := Txt.join " " ws
def Free (ws : List Str) : Prop := ∀ w ∈ ws, 32 ∉ TL.tl w
theorem split_tx {ws : List Str} (h : ws ≠ []) (f : Free ws) : Txt.split (tx ws) " " = ws := TL.split_join (y := " ") (s := 32) (S := []) (by decide +kernel) (by decide +kernel) h f
theorem tl_tx (ws : List Str) : TL.tl (tx ws) = TL.joinL [32] (ws.map TL.tl) := by
  unfold tx
  rw [TL.join_eq, TL.tl_join]
  rfl
theorem glue_len (S : List Nat) : ∀ l : List (List Nat), (TL.joinL S l).length ≤ (l.map (·.length)).sum + S.length * l.length
  | [] => by simp [TL.joinL]
  | [p] => by simp [TL.joinL]
  | p :: q :: r => by
    have ih := glue_len S (q :: r)
    show (p ++ (S ++ TL.joinL S (q :: r))).length ≤ _
    rw [List.length_append, List.length_append, List.map_cons, List.sum_cons, List.length_cons (a := p), Nat.mul_add]
    omega
def wsum (ws : List Str) : Nat := (ws.map (·.length)).sum
theorem tx_len (ws : List Str) : (tx ws).length ≤ wsum ws + ws.length := by
  rw [TL.len_tl, tl_tx]
  have := glue_len [32] (ws.map TL.tl)
  rw [List.map_map, List.length_map, List.length_singleton, Nat.one_mul] at this
  have e : ((List.length (α := Nat)) ∘ TL.tl) = fun w : Str => w.length := funext fun w => (TL.len_tl w).symm
  rw [show (fun x : List Nat => x.length) ∘ TL.tl = fun w : Str => w.length from e] at this
  exact this
/-! ### what may stand at a place -/
def gw (ws : List Str) (i : Nat) : Str := ws.getD i mt
def sgB (z : Str) (lo hi : Int) : Bool := signsB z && (decide (lo ≤ (z.length : Int)) && decide ((z.length : Int) ≤ hi))
theorem sgB_iff {z : Str} {lo hi : Int} : sgB z lo hi = true ↔ Sg z = true ∧ lo ≤ (z.length : Int) ∧ (z.length : Int) ≤ hi := by
  unfold sgB
  rw [signs_is, Bool.and_eq_true, Bool.and_eq_true, decide_eq_true_iff, decide_eq_true_iff]
def standB (ws : List Str) (i : Nat) : Bool :=
  if i = 0 then sgB (gw ws 0) 2 8 else if i = 1 then decide (gw ws 1 = colon)
  else if (i - 2) % 3 = 0 then sgB (gw ws i) 1 8 && (decide ((i - 2) / 3 < 4) && (decide ((i - 2) / 3 = 0) || ltB (gw ws (i - 3)) (gw ws i)))
  else if (i - 2) % 3 = 1 then sgB (gw ws i) 1 1 else decide (gw ws i = comma)
def Odd3 (n : Nat) : Prop := n = 1 ∨ (2 < n ∧ n % 3 ≠ 1)
/-- where the words go wrong, if they do -/
def Due (ws : List Str) : Option Nat → Prop
  | some d => (∀ i, i < d → i < ws.length → standB ws i = true) ∧ d ≤ ws.length ∧ (d < ws.length → standB ws d = false) ∧ (d = ws.length → Odd3 ws.length)
  | none => (∀ i, i < ws.length → standB ws i = true) ∧ ¬ Odd3 ws.length
theorem due_one {ws : List Str} {a b : Option Nat} (ha : Due ws a) (hb : Due ws b) : a = b := by
  have lone : ∀ {d : Nat}, Due ws (some d) → Due ws none → False := fun {d} h g => by
    obtain ⟨h1, h2, h3, h4⟩ := h
    rcases Nat.lt_or_ge d ws.length with z | z
    · have := g.1 d z
      rw [h3 z] at this
      cases this
    · exact g.2 (h4 (by omega))
  cases a with
  | none =>
    cases b with
    | none => rfl
    | some d => exact (lone hb ha).elim
  | some d =>
    cases b with
    | none => exact (lone ha hb).elim
    | some e =>
      obtain ⟨h1, h2, h3, h4⟩ := ha
      obtain ⟨g1, g2, g3, g4⟩ := hb
      rcases Nat.lt_trichotomy d e with z | z | z
      · have := g1 d z (by omega)
        rw [h3 (by omega)] at this
        cases this
      · exact congrArg some z
      · have := h1 e z (by omega)
        rw [g3 (by omega)] at this
        cases this
/-! ### rules -/
def PairOk (p : Pr) : Prop := sgB p.1 1 8 = true ∧ sgB p.2 1 1 = true
structure Good (f : Str) (ps : List Pr) : Prop where
  flag : sgB f 2 8 = true
  ok : ∀ p ∈ ps, PairOk p
  many : ps.length ≤ 4
  rise : Rise ps
def pw : List Pr → List Str
  | [] => []
  | [p] => [p.1, p.2]
  | p :: q :: r => p.1 :: p.2 :: comma :: pw (q :: r)
def rw_ (f : Str) (ps : List Pr) : List Str := f :: colon :: pw ps
theorem pw_len : ∀ (ps : List Pr), ps ≠ [] → (pw ps).length + 1 = 3 * ps.length
  | [], h => absurd rfl h
  | [p], _ => rfl
  | p :: q :: r, _ => by
    have := pw_len (q :: r) (by simp)
    show (pw (q :: r)).length + 3 + 1 = _
    rw [List.length_cons (a := p)]
    omega
theorem pw_at : ∀ (ps : List Pr) (k : Nat) (p : Pr), ps[k]? = some p → (pw ps)[3 * k]? = some p.1 ∧ (pw ps)[3 * k + 1]? = some p.2 ∧ (k + 1 < ps.length → (pw ps)[3 * k + 2]? = some comma)
  | [], k, p, h => by simp at h
  | [q], k, p, h => by
    cases k with
    | zero =>
      obtain rfl : q = p := by simpa using h
      exact ⟨rfl, rfl, fun z => by simp at z⟩
    | succ k => simp at h
  | q :: q2 :: r, k, p, h => by
    cases k with
    | zero =>
      obtain rfl : q = p := by simpa using h
      exact ⟨rfl, rfl, fun _ => rfl⟩
    | succ k =>
      have ih := pw_at (q2 :: r) k p (by simpa using h)
      have e : 3 * (k + 1) = 3 * k + 3 := by omega
      rw [e]
      refine ⟨ih.1, ih.2.1, fun z => ih.2.2 ?_⟩
      rw [List.length_cons] at z
      omega
theorem ltB_chain {g : Nat → Str} {m : Nat} (h : ∀ k, k + 1 < m → ltB (g k) (g (k + 1)) = true) : ∀ j i, i < j → j < m → ltB (g i) (g j) = true
  | 0, i, h1, _ => by omega
  | j + 1, i, h1, h2 => by
    by_cases e : i = j
    · subst e
      exact h i h2
    · exact ltB_tr (ltB_chain h j i (by omega) (by omega)) (h j h2)
theorem gw_get {ws : List Str} {i : Nat} (h : i < ws.length) : ws[i]? = some (gw ws i) := by
  unfold gw
  rw [List.getD_eq_getElem?_getD, List.getElem?_eq_getElem h]
  rfl
/-- the pairs that the words tell -/
def pairsOf (ws : List Str) : List Pr := (List.range ((ws.length - 1) / 3)).map fun k => (gw ws (2 + 3 * k), gw ws (3 + 3 * k))
theorem due_none {ws : List Str} (h0 : ws ≠ []) (h : Due ws none) : Good (gw ws 0) (pairsOf ws) ∧ ws = rw_ (gw ws 0) (pairsOf ws) := by
  obtain ⟨st, n3⟩ := h
  have l0 : 0 < ws.length := List.length_pos_iff.mpr h0
  have l1 : ws.length ≠ 1 := fun z => n3 (.inl z)
  have hm : ws.length = 2 ∨ ws.length % 3 = 1 := by
    by_cases z : 2 < ws.length
    · exact .inr (Classical.byContradiction fun y => n3 (.inr ⟨z, y⟩))
    · omega
  have s0 := st 0 l0
  have s1 := st 1 (by omega)
  have s1 : decide (gw ws 1 = colon) = true := s1
  have len : (pairsOf ws).length = (ws.length - 1) / 3 := by unfold pairsOf; rw [List.length_map, List.length_range]
  have getp : ∀ k, k < (ws.length - 1) / 3 → (pairsOf ws)[k]? = some (gw ws (2 + 3 * k), gw ws (3 + 3 * k)) := fun k hk => by
    unfold pairsOf
    rw [List.getElem?_map, List.getElem?_range hk]
    rfl
  have w0 : ∀ k, k < (ws.length - 1) / 3 → sgB (gw ws (2 + 3 * k)) 1 8 = true ∧ k < 4 ∧ (k = 0 ∨ ltB (gw ws (3 * k - 1)) (gw ws (2 + 3 * k)) = true) := fun k hk => by
    have := st (2 + 3 * k) (by omega)
    unfold standB at this
    rw [if_neg (by omega), if_neg (by omega), if_pos (by omega), show (2 + 3 * k - 2) / 3 = k by omega, show 2 + 3 * k - 3 = 3 * k - 1 by omega] at this
    rw [Bool.and_eq_true, Bool.and_eq_true, Bool.or_eq_true, decide_eq_true_iff, decide_eq_true_iff] at this
    exact ⟨this.1, this.2.1, this.2.2⟩
  have w1 : ∀ k, k < (ws.length - 1) / 3 → sgB (gw ws (3 + 3 * k)) 1 1 = true := fun k hk => by
    have := st (3 + 3 * k) (by omega)
    unfold standB at this
    rw [if_neg (by omega), if_neg (by omega), if_neg (by omega), if_pos (by omega)] at this
    exact this
  have w2 : ∀ k, k + 1 < (ws.length - 1) / 3 → gw ws (4 + 3 * k) = comma := fun k hk => by
    have := st (4 + 3 * k) (by omega)
    unfold standB at this
    rw [if_neg (by omega), if_neg (by omega), if_neg (by omega), if_neg (by omega), decide_eq_true_iff] at this
    exact this
  have many : (ws.length - 1) / 3 ≤ 4 := by
    rcases Nat.lt_or_ge 4 ((ws.length - 1) / 3) with z | z
    · have := (w0 4 z).2.1
      omega
    · exact z
  refine ⟨⟨s0, fun p hp => ?_, by rw [len]; exact many, ?_⟩, ?_⟩
  · obtain ⟨k, hk, rfl⟩ := List.mem_map.mp hp
    have hk := List.mem_range.mp hk
    exact ⟨(w0 k hk).1, w1 k hk⟩
  · unfold Rise pairsOf
    rw [List.pairwise_map, List.pairwise_iff_getElem]
    intro i j hi hj hij
    rw [List.length_range] at hi hj
    rw [List.getElem_range, List.getElem_range]
    exact ltB_chain (g := fun k => gw ws (2 + 3 * k)) (m := (ws.length - 1) / 3) (fun k hk => by
      rcases (w0 (k + 1) hk).2.2 with z | z
      · omega
      · rw [show 3 * (k + 1) - 1 = 2 + 3 * k by omega] at z
        exact z) j i hij hj
  · refine List.ext_getElem? fun i => ?_
    have plen : (rw_ (gw ws 0) (pairsOf ws)).length = ws.length := by
      show (pw (pairsOf ws)).length + 2 = _
      by_cases e : pairsOf ws = []
      · rw [e]
        rw [e] at len
        simp only [List.length_nil] at len
        show 0 + 2 = _
        omega
      · have := pw_len _ e
        rw [len] at this
        have : 0 < (ws.length - 1) / 3 := by rw [← len]; exact List.length_pos_iff.mpr e
        omega
    rcases Nat.lt_or_ge i ws.length with hi | hi
    · rw [gw_get hi]
      match i, hi with
      | 0, _ => rfl
      | 1, _ => exact congrArg some (of_decide_eq_true s1)
      | i + 2, hi =>
        show _ = (pw (pairsOf ws))[i]?
        have hk : i / 3 < (ws.length - 1) / 3 := by omega
        obtain ⟨p1, p2, p3⟩ := pw_at (pairsOf ws) (i / 3) _ (getp _ hk)
        rcases (by omega : i = 3 * (i / 3) ∨ i = 3 * (i / 3) + 1 ∨ i = 3 * (i / 3) + 2) with e | e | e
        · rw [show (pw (pairsOf ws))[i]? = (pw (pairsOf ws))[3 * (i / 3)]? from congrArg (fun z => (pw (pairsOf ws))[z]?) e, p1]
          exact congrArg (fun z => some (gw ws z)) (by omega)
        · rw [show (pw (pairsOf ws))[i]? = (pw (pairsOf ws))[3 * (i / 3) + 1]? from congrArg (fun z => (pw (pairsOf ws))[z]?) e, p2]
          exact congrArg (fun z => some (gw ws z)) (by omega)
        · rw [show (pw (pairsOf ws))[i]? = (pw (pairsOf ws))[3 * (i / 3) + 2]? from congrArg (fun z => (pw (pairsOf ws))[z]?) e, p3 (by rw [len]; omega), ← w2 (i / 3) (by omega)]
          exact congrArg (fun z => some (gw ws z)) (by omega)
    · rw [List.getElem?_eq_none hi, List.getElem?_eq_none (by rw [plen]; exact hi)]
end K09
/-! pure: the words of a good rule stand; its text in other words -/
namespace K09
open PySem L2 Evl SrtT
section
variable {f : Str} {ps : List Pr}
theorem rw_len : (rw_ f ps).length = (pw ps).length + 2 := rfl
theorem pw_size : (pw ps).length = 3 * ps.length - 1 := by
  by_cases e : ps = []
  · subst e; rfl
  · have := pw_len ps e
    omega
theorem gw_rw (j : Nat) : gw (rw_ f ps) (j + 2) = (pw ps).getD j mt := by
  unfold gw rw_
  rw [List.getD_cons_succ, List.getD_cons_succ]
theorem gw_pw {j : Nat} {z : Str} (h : (pw ps)[j]? = some z) : gw (rw_ f ps) (j + 2) = z := by
  rw [gw_rw, List.getD_eq_getElem?_getD, h]
  rfl
theorem rw_odd : ¬ Odd3 (rw_ f ps).length := by
  rw [rw_len, pw_size]
  unfold Odd3
  omega
theorem good_get (k : Nat) (h : k < ps.length) : ∃ p, ps[k]? = some p ∧ p ∈ ps := ⟨ps[k], List.getElem?_eq_getElem h, List.getElem_mem h⟩
theorem good_due (G : Good f ps) : Due (rw_ f ps) none := by
  refine ⟨fun i hi => ?_, rw_odd⟩
  rw [rw_len, pw_size] at hi
  match i, hi with
  | 0, _ => exact G.flag
  | 1, _ => exact decide_eq_true (show colon = colon from rfl)
  | i + 2, hi =>
    have hk : i / 3 < ps.length := by omega
    obtain ⟨p, hp, pm⟩ := good_get (ps := ps) (i / 3) hk
    obtain ⟨p1, p2, p3⟩ := pw_at ps (i / 3) p hp
    obtain ⟨o1, o2⟩ := G.ok p pm
    have := G.many
    unfold standB
    rw [if_neg (by omega), if_neg (by omega), show i + 2 - 2 = i by omega]
    rcases (by omega : i = 3 * (i / 3) ∨ i = 3 * (i / 3) + 1 ∨ i = 3 * (i / 3) + 2) with e | e | e
    · rw [if_pos (by omega)]
      have g1 : gw (rw_ f ps) (i + 2) = p.1 := gw_pw (by rw [show (pw ps)[i]? = (pw ps)[3 * (i / 3)]? from congrArg (fun z => (pw ps)[z]?) e]; exact p1)
      rw [g1, o1, Bool.true_and, Bool.and_eq_true, Bool.or_eq_true, decide_eq_true_iff, decide_eq_true_iff]
      refine ⟨by omega, ?_⟩
      by_cases z : i / 3 = 0
      · exact .inl z
      · obtain ⟨q, hq, _⟩ := good_get (ps := ps) (i / 3 - 1) (by omega)
        obtain ⟨q1, _, _⟩ := pw_at ps (i / 3 - 1) q hq
        have g2 : gw (rw_ f ps) (i + 2 - 3) = q.1 := by
          rw [show i + 2 - 3 = 3 * (i / 3 - 1) + 2 by omega]
          exact gw_pw q1
        rw [g2]
        have r := G.rise
        unfold Rise at r
        rw [List.pairwise_iff_getElem] at r
        have := r (i / 3 - 1) (i / 3) (by omega) hk (by omega)
        rw [List.getElem?_eq_getElem (by omega)] at hq
        rw [List.getElem?_eq_getElem hk] at hp
        rw [Option.some.inj hq, Option.some.inj hp] at this
        exact .inr this
    · rw [if_neg (by omega), if_pos (by omega)]
      rw [gw_pw (show (pw ps)[i]? = some p.2 by rw [show (pw ps)[i]? = (pw ps)[3 * (i / 3) + 1]? from congrArg (fun z => (pw ps)[z]?) e]; exact p2)]
      exact o2
    · rw [if_neg (by omega), if_neg (by omega)]
      rw [gw_pw (show (pw ps)[i]? = some comma by rw [show (pw ps)[i]? = (pw ps)[3 * (i / 3) + 2]? from congrArg (fun z => (pw ps)[z]?) e]; exact p3 (by omega))]
      exact decide_eq_true rfl
theorem pairs_rw : pairsOf (rw_ f ps) = ps := by
  unfold pairsOf
  refine List.ext_getElem? fun k => ?_
  rw [List.getElem?_map, rw_len, pw_size]
  have e : (3 * ps.length - 1 + 2 - 1) / 3 = ps.length := by omega
  rw [e]
  rcases Nat.lt_or_ge k ps.length with h | h
  · obtain ⟨p, hp, _⟩ := good_get (ps := ps) k h
    obtain ⟨p1, p2, _⟩ := pw_at ps k p hp
    rw [List.getElem?_range h, hp]
    show some (gw (rw_ f ps) (2 + 3 * k), gw (rw_ f ps) (3 + 3 * k)) = some p
    rw [show 2 + 3 * k = 3 * k + 2 by omega, show 3 + 3 * k = 3 * k + 1 + 2 by omega, gw_pw p1, gw_pw p2]
  · rw [List.getElem?_eq_none (by rw [List.length_range]; exact h), List.getElem?_eq_none h]
    rfl
theorem sgB_free {z : Str} {lo hi : Int} {s : Nat} (h : sgB z lo hi = true) (hs : s < 48) : s ∉ TL.tl z := sg_free (sgB_iff.mp h).1 hs
theorem colon_free : 32 ∉ TL.tl colon := by
  rw [show TL.tl colon = [58] by decide +kernel]
  decide
theorem comma_free : 32 ∉ TL.tl comma := by
  rw [show TL.tl comma = [44] by decide +kernel]
  decide
theorem pw_mem {z : Str} : ∀ {ps : List Pr}, z ∈ pw ps → z = comma ∨ ∃ p ∈ ps, z = p.1 ∨ z = p.2
  | [], h => by simp [pw] at h
  | [p], h => by
    rcases List.mem_cons.mp h with e | e
    · exact .inr ⟨p, List.mem_cons_self, .inl e⟩
    · exact .inr ⟨p, List.mem_cons_self, .inr (List.mem_singleton.mp e)⟩
  | p :: q :: r, h => by
    have h : z ∈ p.1 :: p.2 :: comma :: pw (q :: r) := h
    rcases List.mem_cons.mp h with e | e
    · exact .inr ⟨p, List.mem_cons_self, .inl e⟩
    · rcases List.mem_cons.mp e with e | e
      · exact .inr ⟨p, List.mem_cons_self, .inr e⟩
      · rcases List.mem_cons.mp e with e | e
        · exact .inl e
        · rcases pw_mem e with e | ⟨p', hp, e⟩
          · exact .inl e
          · exact .inr ⟨p', List.mem_cons_of_mem _ hp, e⟩
theorem good_free (G : Good f ps) : Free (rw_ f ps) := fun z hz => by
  rcases List.mem_cons.mp hz with rfl | hz
  · exact sgB_free G.flag (by decide)
  · rcases List.mem_cons.mp hz with rfl | hz
    · exact colon_free
    · rcases pw_mem hz with rfl | ⟨p, hp, rfl | rfl⟩
      · exact comma_free
      · exact sgB_free (G.ok p hp).1 (by decide)
      · exact sgB_free (G.ok p hp).2 (by decide)
theorem good_short (G : Good f ps) : ∀ z ∈ rw_ f ps, z.length ≤ 8 := fun z hz => by
  rcases List.mem_cons.mp hz with rfl | hz
  · have := sgB_iff.mp G.flag
    omega
  · rcases List.mem_cons.mp hz with rfl | hz
    · decide +kernel
    · rcases pw_mem hz with rfl | ⟨p, hp, rfl | rfl⟩
      · decide +kernel
      · have := sgB_iff.mp (G.ok p hp).1
        omega
      · have := sgB_iff.mp (G.ok p hp).2
        omega
end
/-! ### the text of a rule in the law's words -/
/-- w p , w p , .. -/
def pairTx (p : Pr) : Str := p.1 ++ " " ++ p.2
def toldTx (ps : List Pr) : Str := Txt.join " , " (ps.map pairTx)
def ruleTx (f : Str) (ps : List Pr) : Str := f ++ " :" ++ (if toldTx ps = mt then mt else " " ++ toldTx ps)
theorem tl_sp : TL.tl (" " : Str) = [32] := by decide +kernel
theorem tl_told : ∀ ps : List Pr, TL.tl (toldTx ps) = TL.joinL [32] ((pw ps).map TL.tl)
  | [] => by decide +kernel
  | [p] => by
    show TL.tl (p.1 ++ " " ++ p.2) = TL.tl p.1 ++ ([32] ++ TL.tl p.2)
    rw [TL.tl_append, TL.tl_append, tl_sp, List.append_assoc]
  | p :: q :: r => by
    have ih := tl_told (q :: r)
    have e1 : TL.tl (toldTx (p :: q :: r)) = TL.tl (pairTx p) ++ ([32, 44, 32] ++ TL.tl (toldTx (q :: r))) := by
      unfold toldTx
      rw [TL.join_eq, TL.join_eq, TL.tl_join, TL.tl_join, show TL.tl (" , " : Str) = [32, 44, 32] by decide +kernel]
      rfl
    obtain ⟨a, b, hab⟩ : ∃ a b, (pw (q :: r)).map TL.tl = a :: b := by
      cases r with
      | nil => exact ⟨_, _, rfl⟩
      | cons r1 r2 => exact ⟨_, _, rfl⟩
    have e2 : TL.joinL [32] ((pw (p :: q :: r)).map TL.tl) = TL.tl p.1 ++ ([32] ++ (TL.tl p.2 ++ ([32] ++ (TL.tl comma ++ ([32] ++ TL.joinL [32] ((pw (q :: r)).map TL.tl)))))) := by
      show TL.joinL [32] (TL.tl p.1 :: TL.tl p.2 :: TL.tl comma :: (pw (q :: r)).map TL.tl) = _
      rw [hab]
      rfl
    rw [e1, e2, ← ih, show TL.tl comma = [44] by decide +kernel]
    unfold pairTx
    rw [TL.tl_append, TL.tl_append, tl_sp]
    simp
theorem told_mt (ps : List Pr) (h : ∀ p ∈ ps, p.1.length ≠ 0) : (toldTx ps = mt) ↔ ps = [] := by
  constructor
  · intro e
    cases ps with
    | nil => rfl
    | cons p r =>
      have z := congrArg TL.tl e
      rw [tl_told, show TL.tl mt = [] by decide +kernel] at z
      have l := h p List.mem_cons_self
      rw [TL.len_tl] at l
      cases r with
      | nil =>
        have z : TL.tl p.1 ++ ([32] ++ TL.tl p.2) = [] := z
        simp at z
      | cons q r =>
        have z : TL.joinL [32] (TL.tl p.1 :: TL.tl p.2 :: TL.tl comma :: (pw (q :: r)).map TL.tl) = [] := z
        have z : TL.tl p.1 ++ ([32] ++ TL.joinL [32] (TL.tl p.2 :: TL.tl comma :: (pw (q :: r)).map TL.tl)) = [] := z
        simp at z
  · intro e
    subst e
    decide +kernel
theorem rule_tx {f : Str} {ps : List Pr} (h : ∀ p ∈ ps, p.1.length ≠ 0) : ruleTx f ps = tx (rw_ f ps) := by
  refine TL.ext_tl ?_
  unfold ruleTx
  rw [tl_tx]
  by_cases e : ps = []
  · rw [if_pos ((told_mt ps h).mpr e)]
    subst e
    rw [TL.tl_append, TL.tl_append, show TL.tl (" :" : Str) = [32, 58] by decide +kernel, show TL.tl mt = [] by decide +kernel]
    show TL.tl f ++ [32, 58] ++ [] = TL.tl f ++ ([32] ++ TL.tl colon)
    rw [show TL.tl colon = [58] by decide +kernel]
    simp
  · rw [if_neg (fun z => e ((told_mt ps h).mp z)), TL.tl_append, TL.tl_append, TL.tl_append, tl_told, tl_sp, show TL.tl (" :" : Str) = [32, 58] by decide +kernel]
    obtain ⟨a, b, hab⟩ : ∃ a b, (pw ps).map TL.tl = a :: b := by
      match ps, e with
      | [p], _ => exact ⟨_, _, rfl⟩
      | p :: q :: r, _ => exact ⟨_, _, rfl⟩
    show _ = TL.joinL [32] (TL.tl f :: TL.tl colon :: (pw ps).map TL.tl)
    rw [hab]
    show _ = TL.tl f ++ ([32] ++ (TL.tl colon ++ ([32] ++ TL.joinL [32] (a :: b))))
    rw [show TL.tl colon = [58] by decide +kernel]
    simp
end K09
/-! pure: the same over texts -/
namespace K09
open PySem L2 Evl SrtT Fr
abbrev mk (l : L) : Str := ⟨l.toArray⟩
theorem mk_len (l : L) : (mk l).length = l.length := by rw [TL.len_tl]
theorem mk_eq {z : Str} {l : L} (h : TL.tl z = l) : z = mk l := TL.ext_tl h
theorem mk_inj {l m : L} (h : mk l = mk m) : l = m := congrArg TL.tl h
theorem mk_app (l m : L) : mk l ++ mk m = mk (l ++ m) := mk_eq (TL.tl_append _ _)
def lp (ps : List Pr) : LP := ps.map fun p => (TL.tl p.1, TL.tl p.2)
theorem sgs_iff {z : Str} : Sg z = true ↔ Sgs (TL.tl z) := by
  unfold Sg Sgs
  rw [List.all_eq_true]
  constructor
  · exact fun h c hc => of_decide_eq_true (h c hc)
  · exact fun h c hc => decide_eq_true (h c hc)
theorem sg_mk {l : L} (h : Sgs l) : Sg (mk l) = true := sgs_iff.mpr h
theorem good_pok {f : Str} {ps : List Pr} (g : Good f ps) : Pok (lp ps) := by
  have all : ∀ q ∈ lp ps, ∃ p ∈ ps, q = (TL.tl p.1, TL.tl p.2) ∧ PairOk p := fun q hq => by
    obtain ⟨p, hp, rfl⟩ := List.mem_map.mp hq
    exact ⟨p, hp, rfl, g.ok p hp⟩
  refine ⟨fun q hq => ?_, fun q hq => ?_, fun q hq => ?_, fun q hq => ?_⟩
  all_goals obtain ⟨p, hp, rfl, ok⟩ := all q hq; have h1 := sgB_iff.mp ok.1; have h2 := sgB_iff.mp ok.2; rw [TL.len_tl] at h1 h2
  · show 1 ≤ (TL.tl p.1).length
    omega
  · show (TL.tl p.1).length ≤ 8
    omega
  · show (TL.tl p.2).length = 1
    omega
  · exact sgs_iff.mp h2.1
/-- the longest watch so far, and its put -/
def bestS (z : L) : List Pr → Pr → Pr
  | [], b => b
  | q :: r, b => bestS z r (if b.1.length < q.1.length ∧ TL.tl q.1 <:+ z then q else b)
theorem bestS_snoc {z : L} {q : Pr} : ∀ {ps : List Pr} {b : Pr}, bestS z (ps ++ [q]) b = if (bestS z ps b).1.length < q.1.length ∧ TL.tl q.1 <:+ z then q else bestS z ps b
  | [], _ => rfl
  | p :: r, _ => bestS_snoc (ps := r)
def tlp (p : Pr) : L × L := (TL.tl p.1, TL.tl p.2)
theorem bestS_tl (z : L) : ∀ (ps : List Pr) (b : Pr), tlp (bestS z ps b) = best z (lp ps) (tlp b)
  | [], _ => rfl
  | q :: r, b => by
    show tlp (bestS z r _) = best z (lp r) _
    rw [bestS_tl z r]
    congr 1
    have e : (b.1.length < q.1.length ∧ TL.tl q.1 <:+ z) ↔ ((tlp b).1.length < (TL.tl q.1, TL.tl q.2).1.length ∧ (TL.tl q.1, TL.tl q.2).1 <:+ z) := by
      rw [TL.len_tl, TL.len_tl]
      exact Iff.rfl
    by_cases h : b.1.length < q.1.length ∧ TL.tl q.1 <:+ z
    · rw [if_pos h, if_pos (e.mp h)]
      rfl
    · rw [if_neg h, if_neg fun y => h (e.mpr y)]
theorem bestS_mem {z : L} : ∀ {ps : List Pr} {b : Pr}, bestS z ps b = b ∨ bestS z ps b ∈ ps
  | [], _ => .inl rfl
  | q :: r, b => by
    show bestS z r _ = b ∨ bestS z r _ ∈ q :: r
    split
    · rcases bestS_mem (z := z) (ps := r) (b := q) with h | h
      · exact .inr (by rw [h]; exact List.mem_cons_self)
      · exact .inr (List.mem_cons_of_mem _ h)
    · rcases bestS_mem (z := z) (ps := r) (b := b) with h | h
      · exact .inl h
      · exact .inr (List.mem_cons_of_mem _ h)
def putS (ps : List Pr) (z : L) : Str := (bestS z ps (mt, mt)).2
theorem tl_mt : TL.tl mt = [] := by decide +kernel
theorem tl_putS (ps : List Pr) (z : L) : TL.tl (putS ps z) = putL (lp ps) z := by
  have e := bestS_tl z ps (mt, mt)
  have e0 : tlp (mt, mt) = ([], []) := by
    show (TL.tl mt, TL.tl mt) = _
    rw [tl_mt]
  rw [e0] at e
  exact congrArg Prod.snd e
theorem putS_mk (ps : List Pr) (z : L) : putS ps z = mk (putL (lp ps) z) := mk_eq (tl_putS ps z)
theorem putS_mt (ps : List Pr) (z : L) : putS ps z = mt ↔ putL (lp ps) z = [] := by
  rw [← tl_putS]
  constructor
  · intro h
    rw [h, tl_mt]
  · intro h
    exact TL.ext_tl (h.trans tl_mt.symm)
/-! ### endings and slices -/
theorem suffix_iff {w z : L} : w <:+ z ↔ w.length ≤ z.length ∧ z.drop (z.length - w.length) = w := by
  constructor
  · intro h
    exact ⟨h.length_le, (List.suffix_iff_eq_drop.mp h).symm⟩
  · rintro ⟨_, h⟩
    rw [← h]
    exact List.drop_suffix _ _
theorem ends_is (a b : Str) : Txt.endswith a b = decide (TL.tl b <:+ TL.tl a) := by
  rw [← PyProof.Rows.ends_fact (b := Txt.endswith a b) rfl rfl, PySem.StrLaws.subAt_eq, Bool.eq_iff_iff, Bool.and_eq_true, decide_eq_true_iff, decide_eq_true_iff, beq_iff_eq, suffix_iff, TL.len_tl a, TL.len_tl b, Nat.zero_add]
  constructor
  · rintro ⟨h1, h2⟩
    refine ⟨h1, ?_⟩
    rw [List.take_of_length_le (by rw [List.length_drop]; show (TL.tl a).length - _ ≤ _; omega)] at h2
    exact h2
  · rintro ⟨h1, h2⟩
    refine ⟨h1, ?_⟩
    rw [List.take_of_length_le (by rw [List.length_drop]; show (TL.tl a).length - _ ≤ _; omega)]
    exact h2
theorem tl_cut (z : Str) (lo hi : Option Int) : TL.tl (cutS z lo hi) = ((TL.tl z).drop (HT.sIx z.length 0 lo)).take (HT.sIx z.length z.length hi - HT.sIx z.length 0 lo) := rfl
theorem sIx_neg (n d k : Nat) (hk : 0 < k) : HT.sIx n d (some (-(k : Int))) = n - k := by
  show (if -(k : Int) < 0 then (-(k : Int) + (n : Int)).toNat else min (-(k : Int)).toNat n) = n - k
  rw [if_pos (by omega)]
  omega
/-- z[-k:] -/
theorem tl_last (z : Str) (k : Nat) (hk : 0 < k) : TL.tl (cutS z (some (-(k : Int))) none) = (TL.tl z).drop (z.length - k) := by
  rw [tl_cut, sIx_neg _ _ _ hk, HT.sIx_none]
  exact List.take_of_length_le (by rw [List.length_drop, ← TL.len_tl]; exact Nat.le_refl _)
theorem last8 (z : Str) : TL.tl (cutS z (some (-8)) none) = tail8 (TL.tl z) := by
  have := tl_last z 8 (by decide)
  rw [TL.len_tl] at this
  exact this
theorem last_is {z w : Str} (hw : w.length ≠ 0) : (cutS z (some (-(w.length : Int))) none = w) ↔ TL.tl w <:+ TL.tl z := by
  have e := tl_last z w.length (by omega)
  rw [suffix_iff, ← TL.len_tl, ← TL.len_tl]
  constructor
  · intro h
    rw [h] at e
    have l := congrArg List.length e
    rw [List.length_drop, ← TL.len_tl, ← TL.len_tl] at l
    exact ⟨by omega, e.symm⟩
  · rintro ⟨_, h⟩
    exact TL.ext_tl (e.trans h)
/-- z[:k], z[i:j], z[k:] -/
theorem tl_first (z : Str) (k : Nat) : TL.tl (cutS z none (some (k : Int))) = (TL.tl z).take k := by
  rw [tl_cut, HT.sIx_none, HT.sIx_nat, List.drop_zero, Nat.sub_zero, TL.len_tl]
  rw [List.take_eq_take_iff]
  omega
theorem tl_part (z : Str) (i j : Nat) : TL.tl (cutS z (some (i : Int)) (some (j : Int))) = ((TL.tl z).drop i).take (j - i) := by
  rw [tl_cut, HT.sIx_nat, HT.sIx_nat, TL.len_tl]
  rcases Nat.le_total i (TL.tl z).length with h | h
  · rw [Nat.min_eq_left h, List.take_eq_take_iff, List.length_drop]
    omega
  · rw [Nat.min_eq_right h, List.drop_length, List.drop_of_length_le h, List.take_nil, List.take_nil]
theorem tl_rest (z : Str) (k : Nat) : TL.tl (cutS z (some (k : Int)) none) = (TL.tl z).drop k := by
  rw [tl_cut, HT.sIx_nat, HT.sIx_none, TL.len_tl, List.take_of_length_le (by rw [List.length_drop]; exact Nat.le_refl _)]
  rcases Nat.le_total k (TL.tl z).length with h | h
  · rw [Nat.min_eq_left h]
  · rw [Nat.min_eq_right h, List.drop_length, List.drop_of_length_le h]
end K09
/-! C.m(k = v) of a class method; x(e, ..), x a name of the def that holds a class -/
namespace ClK
open PySem PySem.Spec PyProof.Rows L2 ClX StX
section
variable {X : Cx} {CX : CXT} {k : Nat} {C p g f : Addr} {mc : Value} {fd : FuncData} {ps ks : List Str} {sp : Sp} {E : XK} {o e : Expr} {es : List Expr} {x m : Str} {pos apos p1 : Pos} {ta : TE} {tk t : TA} {pl : Sem Bool} {kws : List Keyword} {gg : List Value → List Value → List Value} {gV : List V → List V → List V} {i : Nat}
/-- C.m(k = v, ..), keywords alone, m a class method -/
theorem pe_cmethK (he : PE X o ta) (r : CRead X.K C mc) (c : CMet X.K C mc m p g) (F : FnOk X.prog X.w X.K X.mg X.base CX k g fd ps sp) (hr : Room k X.A) (hx : Passes CX X E) (hb : KBn X.K fd ps 1 ks gg gV) (hkw : PK X kws tk)
    (some_ : (backToKw pos (keywordEach kws X.env)).all (·.1.isSome) = true := by rfl) (names : (backToKw pos (keywordEach kws X.env)).filterMap (·.1) = ks := by rfl)
    (none_ : ((backTo pos (starEach [] X.env)).any (·.1) || (backToKw pos (keywordEach kws X.env)).any (·.1.isNone)) = false := by rfl)
    (form : eval (.Call (.Attribute o m apos) [] kws pos) X.env = (do let ov ← eval o X.env; standAt apos.atName; let (f, first) ← holding [ov] (getMethod ov m pl); callWith pos f first (backTo pos (starEach [] X.env)) (backToKw pos (keywordEach kws X.env))) := by rfl) :
    PE X (.Call (.Attribute o m apos) [] kws pos) (fun σ H Q => ta σ H fun x H1 => x = .ref C ∧ tk σ H1 fun zs H2 => zs.length = ks.length ∧ sp (gV [.ref C] zs) H2 Q E) := by
  refine ⟨fun pins s σ H Q I h => PySem.W.methodCall_KW (pl := pl) (thn (he.run pins s σ H _ I h) fun u s1 ⟨x, H1, I1, rx, ex, q⟩ => ?_) form⟩
  subst ex
  cases (show u = Value.ref C from rx)
  refine getmethcm_ok I1 r c fun s2 I2 => ?_
  refine PySem.W.callWith_of (P := PySem.W.MethP X.K s1.heap.objs.size g (.ref C)) none_ (PySem.W.keeps_M c.fi) (PyProof.Rows.evalArgs_kw2_nil some_ (thn (hkw.run pos _ s2 σ H1 _ I2 q) fun ws s3 ⟨zs, H2, I3, rz, l2, q2⟩ => ⟨⟨pin_at I3, I3.kIn⟩, ?_⟩))
  rw [names]
  have went : wpAny (model X.prog X.w) X.A (call (.ref s1.heap.objs.size) [] (ks.zip ws)) (EP X ((s1.heap.objs.size, PySem.W.methodObj (.ref g) (.ref C)) :: pins) σ Q) X.xe s3 := by
    refine wpAny_call (PySem.W.method_call (pin_at I3) (codeAny_mono (F.run X.A X.stack s3 H2 ⟨[.ref C], ks.zip ws⟩ (gg [.ref C] ws) (gV [.ref C] zs) Q E hr I3.env0 (hb.to s3 [.ref C] ws I3.kIn rfl (rz.length.symm.trans l2)) (hb.rel (.cons rfl .nil) rz) q2) fun r s' back => ?_))
    match r, back with
    | .error er, z => exact hx _ _ _ _ _ _ I3 z
    | .ok (.ret u), z => exact I3.after z
    | .ok .next, z => exact z.elim
    | .ok .brk, z => exact z.elim
    | .ok .cont, z => exact z.elim
  exact thn went fun _ _ y => unpinE y
/-- x(e, ..), x a name of the def (slot i) that holds the class at C -/
def tMakeL (i : Nat) (C : Addr) (sp : Sp) (E : XK) (t : TA) : TE := fun σ H Q => σ[i]? = some (some (.ref C)) ∧ tMakeR C sp E t σ H Q
theorem pe_makeL (M : Mk X.K C f) (F : FnR X.prog X.w X.K X.mg X.base CX k f sp) (hr : Room (k + 1) X.A) (hN : X.N[i]? = some x) (hv : Vis X.env.scope x) (hx : Passes CX X E) (ha : PA X (e :: es) t)
    (notDebug : (x == ("__debug__" : Str)) = false := by decide) (notDict : (x == ("__classdict__" : Str)) = false := by decide)
    (head : starEach (e :: es) X.env = (false, eval e X.env) :: starEach es X.env := by rfl) (plain : (backTo pos (starEach es X.env)).any (·.1) = false := by rfl) : PE X (.Call (.Name x p1) (e :: es) [] pos) (tMakeL i C sp E t) := by
  refine ⟨fun pins s σ H Q I ⟨hs, h⟩ => ?_⟩
  refine wpAny_Call_Name_kw (thn ((pe_var (pos := p1) (i := i) hN hv notDebug notDict).run pins s σ H (fun v H1 => v = .ref C ∧ H1 = H) I ⟨.ref C, hs, rfl, rfl⟩) fun u s1 ⟨v, H1, I1, r1, ev, eH⟩ => ?_)
  subst ev eH
  cases (show u = Value.ref C from r1)
  exact PySem.W.callWith_K (h₀ := X.base) I1.ok.mod.kin M.kp (thn (ha.run pos pins s1 σ _ _ I1 h) fun us s2 ⟨vs, H2, I2, r, q⟩ => ⟨I2.kIn, run_makeR M F hr hx I2 r q⟩) head plain
end
/-- nothing is let out where nothing is wished -/
theorem passN {P : Program} {w : World} {X : Cx} (hp : X.prog = P) (hw : X.w = w) : Passes (L2.CX P w) X E0 := fun _ _ _ _ _ _ _ ⟨_, _, _, _, _, _, _, _, _, _, _, _, z⟩ => z.elim
end ClK
/-! operators of own classes: an int on the left, +=, in, len, truth, [] -/
namespace OpX
open PySem PySem.Spec PyProof.Rows L2 StX
section
variable {prog : Program} {w : World} {A : Around} {E : Value → Shared → Prop} {s : Shared} {K : PySem.W.Frag} {x C f L : Addr} {h₀ : Heap} {m : Str → Option Value} {ox : Obj} {od : Option Obj} {b tb : Value}
open Builtin in
/-- an int does not know an instance -/
theorem intMul_ref {Q : Value → Shared → Prop} {i : Int} {t : Tok} (ho : s.heap.get? x = some ox) (hd : ox.data = .plain) (h : Q .notImplemented s) : wpAny (model prog w) A (call (.builtin "int.__mul__") [.int i t, .ref x]) Q E s := by
  refine wpAny_call (codeAny_call_builtin PySem.F.slot_int_mul.plain PySem.F.entry_int_mul (PySem.F.slot_int_mul.check _ _ _ _ _ _ _ _ (typeIs_int _ _ _) (PySem.F.args_int_mul_2 _ _) ?_))
  unfold Builtin.«int.__mul__»
  unfold Int.intBinary
  refine wpAny_bind (m := slotArgs "__mul__" 1 _) (wpAny_pure ?_)
  refine wpAny_bind (m := Int.intOfSelf _) (wpAny_bind (m := asInt? _) (wpAny_pure (wpAny_pure ?_)))
  refine wpAny_bind (m := asInt? (.ref x)) (wpAny_bind (wpAny_load ho ?_))
  rw [hd]
  exact wpAny_pure (wpAny_bind (wpAny_rule (wpAny_pure h)))
/-- i * x, x of a class with * on both sides: an int declines, the class's reflected one is asked -/
theorem bin1_rint {i : Int} {t : Tok} {g : Addr} {Q : Value → Shared → Prop} (X : K.In s.heap) (I : PySem.W.InstAt s.heap x ox C od) (hd : ox.data = .plain) (hc : PySem.W.selfFirst K C = true) (hm : PySem.W.findIn K (.ref C) (PySem.dunder "mul") = some (some (.ref g)))
    (hs : PySem.W.findIn K (.ref C) (dunderR "mul") = some (some (.ref f))) (hf : PySem.W.isFn K (.ref f) = true) (hsub : PySem.W.subIn K (.ref C) (.type "int") = some false)
    (h : wpAny (model prog w) A (call (.ref f) [.ref x, .int i t]) (PySem.W.CmpBack Q) E s) : wpAny (model prog w) A (binaryOp1 "mul" (.int i t) (.ref x)) (Told Q) E s := by
  obtain ⟨cd, rest, hcd, hmm⟩ := PySem.W.ksp_first hc
  have mine := PySem.W.fills_K (M := model prog w) X hcd hmm hm
  have apart := PySem.W.looks_subIn (M := model prog w) X hsub
  have plainInt : numberSlotInPython (.type "int") "mul" = pure false := rfl
  have unlike : (Value.type "int" == Value.ref C) = false := by simp
  have answer := PySem.W.ksp_try (name := dunderR "mul") X I hs hf h
  unfold binaryOp1
  refine wpAny_bind (wpAny_typeOf (typeIs_int _ _ _) (wpAny_bind (I.type.here (wpAny_bind (wpAny_of_eq PySem.F.fills_int_mul ?_)))))
  simp only [unlike, Bool.false_eq_true, if_false]
  refine wpAny_bind (mine.here ?_)
  simp only [Bool.and_self, if_true]
  refine wpAny_bind (apart.here ?_)
  simp only [plainInt, Bool.not_false, Bool.and_self, Bool.false_eq_true, if_true, if_false, pure_bind]
  refine wpAny_bind (wpAny_tryMethod_declines (typeIs_int _ _ _) PySem.F.slot_int_mul (intMul_ref I.at_ hd ⟨rfl, ?_⟩))
  simp only [pure_bind]
  exact wpAny_bind (wpAny_mono answer (fun r s' ⟨v, e, q⟩ => by
    subst e
    exact wpAny_bind (wpAny_rule (wpAny_pure ⟨v, rfl, q⟩))) fun _ _ z => z)
/-- x op y, both of one class with an own op -/
theorem bin1_same {nm : String} {y : Addr} {oy : Obj} {od' : Option Obj} {Q : Value → Shared → Prop} (X : K.In s.heap) (I : PySem.W.InstAt s.heap x ox C od) (J : PySem.W.InstAt s.heap y oy C od') (hc : PySem.W.selfFirst K C = true)
    (hs : PySem.W.findIn K (.ref C) (PySem.dunder nm) = some (some (.ref f))) (hf : PySem.W.isFn K (.ref f) = true) (h : wpAny (model prog w) A (call (.ref f) [.ref x, .ref y]) (PySem.W.CmpBack Q) E s) :
    wpAny (model prog w) A (binaryOp1 nm (.ref x) (.ref y)) (Told Q) E s := by
  obtain ⟨cd, rest, hcd, hmm⟩ := PySem.W.ksp_first hc
  have answer := PySem.W.ksp_try (name := PySem.dunder nm) X I hs hf h
  have alike : (Value.ref C == Value.ref C) = true := by simp
  unfold binaryOp1
  refine wpAny_bind (I.type.here (wpAny_bind (J.type.here (wpAny_bind ((PySem.W.fills_K (M := model prog w) X hcd hmm hs).here ?_)))))
  simp only [alike, pure_bind, Bool.and_false, Bool.false_and, Bool.false_eq_true, if_true, if_false]
  exact wpAny_bind (wpAny_mono answer (fun r s' ⟨v, e, q⟩ => by
    subst e
    exact wpAny_pure ⟨v, rfl, q⟩) fun _ _ z => z)
theorem mul_of_bin1 {M : Model} {a b : Value} {Q : Value → Shared → Prop} (h : wpAny M A (binaryOp1 "mul" a b) (Told Q) E s) : wpAny M A (binaryOp .Mult a b) Q E s := by
  unfold binaryOp
  exact wpAny_holding (told_pure (t := binaryOp1 "mul" a b) h fun _ => rfl)
/-- a class of the text whose only base is object, without an own in-place operator -/
structure NoI (K : PySem.W.Frag) (C : Addr) (nm : String) : Prop where
  mro : (PySem.W.clsIn K C).any (fun cd => cd.mro == [.ref C, .type "object"]) = true
  own : PySem.W.findIn K (.ref C) (dunderI nm) = some none
  obj : PySem.W.findIn K (.type "object") (dunderI nm) = some none
theorem fillsI_no {M : Model} {h : Heap} {nm : String} {add : Bool} (X : K.In h) (N : NoI K C nm) : PySem.W.Looks M h (fillsInplaceSlot (.ref C) nm add) false := by
  intro A Q E s k q
  obtain ⟨cd, hc, hm⟩ := PySem.W.any_some N.mro
  have hm' : cd.mro = [.ref C, .type "object"] := beq_iff_eq.mp hm
  unfold fillsInplaceSlot
  refine wpAny_bind ((PySem.W.looks_clsIn X hc).andThen (f := fun cd => pure cd.mro) .now A _ E s k ?_)
  rw [hm', List.anyM_cons]
  refine wpAny_bind (wpAny_bind (PySem.W.looks_findIn X N.own A _ E s k (wpAny_pure ?_)))
  simp only [Bool.false_eq_true, if_false]
  rw [List.anyM_cons]
  refine wpAny_bind (wpAny_bind (PySem.W.looks_findIn X N.obj A _ E s k (wpAny_pure ?_)))
  simp only [Bool.false_eq_true, if_false]
  exact wpAny_pure q
theorem inp_of_bin1 {op : Operator} {b : Value} {Q : Value → Shared → Prop} (X : K.In s.heap) (I : PySem.W.InstAt s.heap x ox C od) (N : NoI K C op.info.2) (h : wpAny (model prog w) A (binaryOp1 op.info.2 (.ref x) b) (Told Q) E s) :
    wpAny (model prog w) A (inplaceOp op (.ref x) b) Q E s := by
  unfold inplaceOp
  refine wpAny_holding (wpAny_bind (I.type.here (wpAny_bind ((fillsI_no X N).here ?_))))
  rw [if_neg Bool.false_ne_true]
  exact told_pure h fun _ => rfl
end
section
variable {X : Cx} {CX : CXT} {n : Nat} {C g g' : Addr} {sp : Sp} {E : XK}
theorem op_rmul (hc : PySem.W.selfFirst X.K C = true) (hm : PySem.W.findIn X.K (.ref C) (PySem.dunder "mul") = some (some (.ref g'))) (h : Has X.K C g (dunderR "mul")) (hsub : PySem.W.subIn X.K (.ref C) (.type "int") = some false)
    (F : FnR X.prog X.w X.K X.mg X.base CX n g sp) (hr : Room n X.A) (hx : Passes CX X E) : OpR X (binaryOp .Mult) (rR X C sp E) := by
  intro pins s σ H x y v u Q I rx ry hq
  obtain ⟨a, i, rfl, rfl, ha, q⟩ := hq
  cases (show u = Value.ref a from ry)
  obtain ⟨t, e⟩ := (show ∃ t, v = Value.int i t from rx)
  subst e
  obtain ⟨ox, od, J, hd⟩ := insC_at I ha
  exact mul_of_bin1 (bin1_rint I.kIn J hd hc hm h.at_ h.fn hsub (run_own (us := [.ref a, .int i t]) (vs := [.ref a, .int i]) F hr hx I (.cons rfl (.cons ⟨t, rfl⟩ .nil)) q))
theorem op_inS {op : Operator} (hc : PySem.W.selfFirst X.K C = true) (N : NoI X.K C op.info.2) (h : Has X.K C g (PySem.dunder op.info.2)) (F : FnR X.prog X.w X.K X.mg X.base CX n g sp) (hr : Room n X.A) (hx : Passes CX X E) :
    OpR X (inplaceOp op) (rS X C sp E) := by
  intro pins s σ H x y v u Q I rx ry hq
  obtain ⟨a, b, rfl, rfl, ha, hb, q⟩ := hq
  cases (show v = Value.ref a from rx)
  cases (show u = Value.ref b from ry)
  obtain ⟨ox, od, J, _⟩ := insC_at I ha
  obtain ⟨ox', od', J', _⟩ := insC_at I hb
  exact inp_of_bin1 I.kIn J N (bin1_same I.kIn J J' hc h.at_ h.fn (run_own (us := [.ref a, .ref b]) (vs := [.ref a, .ref b]) F hr hx I (.cons rfl (.cons rfl .nil)) q))
end
end OpX
/-! a tuple times any number from one on; x(*y), x a name of the def that holds a class; an own object beside a list -/
namespace RdX
open PySem PySem.Spec PyProof.Rows L2 StX OpX
/-- t * 1 is t itself -/
theorem once_mul (l : Addr) (items : Array Value) (n : Nat) (dd : Option Addr) (sl : Array (Option Value)) (u : Tok) : Meets (Builtin.«tuple.__mul__» ⟨[.ref l, .int 1 u], []⟩) (fun _ R s => s.heap.get? l = some { cls := .type "tuple", dict := dd, data := .seq items n, slots := sl } ∧ R (.ok (.ret (.ref l))) s) := Meets.of_wp fun prog w A R s hh => by
  rcases s with ⟨hp, gs, ds, tk, sys⟩
  rcases hh with ⟨at_, goal⟩
  have f1 := AutoSeq1.idx_int
  have c0 : (decide ((1 : Int) < -(2 ^ 63)) || decide ((1 : Int) ≥ 2 ^ 63)) = false := by decide
  have c1 : (items.isEmpty || (1 : Int) == 1) = true := by rw [show ((1 : Int) == 1) = true from rfl, Bool.or_true]
  wp_walk using wpAny_loadPart' at_
  repeat (first
    | (refine wpAny_ite_false (decide_eq_false (by rw [c0]; exact Bool.false_ne_true)) ?_; wp_walk using wpAny_loadPart' at_)
    | (refine wpAny_ite_true (decide_eq_true c1) ?_; wp_walk using wpAny_loadPart' at_))
  exact ⟨_, rfl, goal⟩
def rOnce (K : PySem.W.Frag) : R2 := fun x y H Q => ∃ l xs, x = .ref l ∧ y = .int 1 ∧ SqT K H l xs ∧ Q (.ref l) H
section
variable {X : Cx}
theorem op_once : OpR X (binaryOp .Mult) (rOnce X.K) := by
  intro pins s σ H x y v u Q I rx ry hq
  obtain ⟨l, xs, rfl, rfl, hT, q⟩ := hq
  cases (show v = Value.ref l from rx)
  obtain ⟨t, e⟩ := (show ∃ t, u = Value.int 1 t from ry)
  subst e
  obtain ⟨its, r, ⟨⟨cls, dd, data, sl⟩, ho, hc, n, hd⟩, hs⟩ := I.tuple hT
  simp only at hc hd
  subst hc hd
  have kind : s.TypeIs (.ref l) "tuple" := ⟨_, ho, rfl⟩
  exact wpAny_binaryOp_repeat_ref (T := "tuple") (U := "int") (by decide) kind (fun s' => typeIs_int s' 1 t) noFill_tuple_mul F.fills_int_mul F.slot_int_rmul repeat_tuple F.slot_int_index.lookup
    (call_meets F.slot_int_rmul (typeIs_int s 1 t) F.entry_int_rmul (F.args_int_rmul_2 _ _) (int_rmul_tuple 1 t l its.toArray n dd sl) ⟨ho, rfl, kind, call_meets F.slot_tuple_mul kind F.entry_tuple_mul (F.args_tuple_mul_2 _ _) (once_mul l its.toArray n dd sl t) ⟨ho, ⟨.ref l, H, I, rfl, q⟩⟩⟩)
end
section
variable {X : Cx} {CX : CXT} {k n i : Nat} {f C g : Addr} {sp : Sp} {E : XK} {x : Str} {e : Expr} {te : TE} {p q pos : Pos}
/-- C(*y), C a class of the module -/
def tMakeS (X : Cx) (C : Addr) (sp : Sp) (E : XK) (te : TE) : TE := fun σ H Q => te σ H fun y H1 => ∃ a xs, y = V.ref a ∧ (SqT X.K H1 a xs ∨ SqL X.K H1 a xs) ∧ ∀ x dx, H1 x = Option.none → H1 dx = Option.none → dx ≠ x →
  sp (V.ref x :: xs) (upd (upd H1 dx (.own x)) x (.ins C dx [])) (fun v H2 => v = .non ∧ Q (.ref x) H2) E
theorem pe_makeS1 (M : Mk X.K C f) (F : FnR X.prog X.w X.K X.mg X.base CX k f sp) (hr : Room (k + 1) X.A) (hg : Gl X x) (hm : X.mg x = some (.ref C)) (hx : Passes CX X E) (he : PE X e te) (hd : (x == ("__debug__" : Str)) = false := by decide)
    (hst : starEach [.Starred e q] X.env = [(true, eval e X.env)] := by rfl) : PE X (.Call (.Name x p) [.Starred e q] [] pos) (tMakeS X C sp E te) := by
  refine ⟨fun pins s σ H Q I h => wpAny_Call_Name_kw (ld_glob I hg hm (PySem.W.callWith_S (h₀ := X.base) I.ok.mod.kin M.kp (thn (he.run pins s σ H _ I h) fun v s1 z => ?_) hst) hd)⟩
  obtain ⟨y, H1, J, ry, a, xs, ey, hxs, q⟩ := z
  subst ey
  cases (show v = Value.ref a from ry)
  exact star_any J hxs fun us s2 J2 rv => ⟨J2.kIn, run_makeR M F hr hx J2 rv q⟩
/-- x(*y), x a name of the def (slot i) that holds the class at C -/
def tMakeLS (X : Cx) (i : Nat) (C : Addr) (sp : Sp) (E : XK) (te : TE) : TE := fun σ H Q => σ[i]? = some (some (.ref C)) ∧ tMakeS X C sp E te σ H Q
theorem pe_makeLS (M : Mk X.K C f) (F : FnR X.prog X.w X.K X.mg X.base CX k f sp) (hr : Room (k + 1) X.A) (hN : X.N[i]? = some x) (hv : Vis X.env.scope x) (hx : Passes CX X E) (he : PE X e te) (hd : (x == ("__debug__" : Str)) = false := by decide) (hcd : (x == ("__classdict__" : Str)) = false := by decide)
    (hst : starEach [.Starred e q] X.env = [(true, eval e X.env)] := by rfl) : PE X (.Call (.Name x p) [.Starred e q] [] pos) (tMakeLS X i C sp E te) := by
  refine ⟨fun pins s σ H Q I ⟨hs, h⟩ => wpAny_Call_Name_kw (thn ((pe_var (pos := p) (i := i) hN hv hd hcd).run pins s σ H (fun v H1 => v = .ref C ∧ H1 = H) I ⟨.ref C, hs, rfl, rfl⟩) fun u s1 z => ?_)⟩
  obtain ⟨v, H1, J, r1, ev, eH⟩ := z
  subst ev eH
  cases (show u = Value.ref C from r1)
  refine PySem.W.callWith_S (h₀ := X.base) J.ok.mod.kin M.kp (thn (he.run pins s1 σ _ _ J h) fun v s2 z => ?_) hst
  obtain ⟨y, H2, J2, ry, a, xs, ey, hxs, q⟩ := z
  subst ey
  cases (show v = Value.ref a from ry)
  exact star_any J2 hxs fun us s3 J3 rv => ⟨J3.kIn, run_makeR M F hr hx J3 rv q⟩
/-- x == y: x of the class at C, y a list -/
def rEqL (X : Cx) (C : Addr) (sp : Sp) (E : XK) : R2 := fun x y H Q => ∃ a b ys, x = .ref a ∧ y = .ref b ∧ InsC X H a C ∧ SqL X.K H b ys ∧ PySem.W.notFirst X.K C (.type "list") = true ∧ sp [.ref a, .ref b] H Q E
theorem op_eqL {op : CmpOp} (hop : ∀ a b, compareOp op a b = richCompare op a b) (h : Has X.K C g (cmpInfo op).2.1) (F : FnR X.prog X.w X.K X.mg X.base CX n g sp) (hr : Room n X.A) (hx : Passes CX X E) : OpR X (compareOp op) (rEqL X C sp E) := fun pins s σ H x y v u Q I rx ry hq => by
  obtain ⟨a, b, ys, rfl, rfl, ha, hb, hn, q⟩ := hq
  cases (show v = Value.ref a from rx)
  cases (show u = Value.ref b from ry)
  obtain ⟨ox, od, J, _⟩ := insC_at I ha
  obtain ⟨its, rv, pl, _⟩ := I.list hb
  obtain ⟨o, ho, hc, _⟩ := pl.isList
  obtain ⟨m, hF⟩ := I.fr
  have kind : PySem.W.Looks (model X.prog X.w) s.heap (typeOf (.ref b)) (.type "list") := fun _ _ _ _ k z => wpAny_typeOf_ref (k _ _ ho) (by rw [hc]; exact z)
  rw [hop]
  exact PySem.W.cmp_K (op := op) (tb := .type "list") hr.units0 hF I.ok.mod.kin J kind hn h.at_ h.fn (run_own (us := [.ref a, .ref b]) (vs := [.ref a, .ref b]) F hr hx I (.cons rfl (.cons rfl .nil)) q)
end
end RdX
/-! x(e, .., *y), x a name of the def that holds a class; range(a, b, c), c above nought -/
namespace RdX
open PySem PySem.Spec PyProof.Rows L2 StX OpX ClX ClK
section
variable {X : Cx} {CX : CXT} {k i : Nat} {f C : Addr} {sp : Sp} {E : XK} {x : Str} {e : Expr} {es : List Expr} {t : TA} {p pos : Pos}
theorem pe_makeL2 (M : Mk X.K C f) (F : FnR X.prog X.w X.K X.mg X.base CX k f sp) (hr : Room (k + 1) X.A) (hN : X.N[i]? = some x) (hv : Vis X.env.scope x) (hx : Passes CX X E) (ha : PA X (e :: es) t) (hd : (x == ("__debug__" : Str)) = false := by decide) (hcd : (x == ("__classdict__" : Str)) = false := by decide)
    (head : starEach (e :: es) X.env = (false, eval e X.env) :: starEach es X.env := by rfl) (starred : (backTo pos (starEach es X.env)).any (·.1) = true := by rfl) : PE X (.Call (.Name x p) (e :: es) [] pos) (tMakeL i C sp E t) := by
  refine ⟨fun pins s σ H Q I ⟨hs, h⟩ => wpAny_Call_Name_kw (thn ((pe_var (pos := p) (i := i) hN hv hd hcd).run pins s σ H (fun v H1 => v = .ref C ∧ H1 = H) I ⟨.ref C, hs, rfl, rfl⟩) fun u s1 z => ?_)⟩
  obtain ⟨v, H1, J, r1, ev, eH⟩ := z
  subst ev eH
  cases (show u = Value.ref C from r1)
  refine PySem.W.callWith_S2 (h₀ := X.base) J.ok.mod.kin M.kp (thn (ha.run pos pins s1 σ _ _ J h) fun us s2 z => ?_) head starred
  obtain ⟨vs, H2, J2, r, q⟩ := z
  exact ⟨J2.kIn, run_makeR M F hr hx J2 r q⟩
end
theorem rgc_up {i j c : Int} (hc : 0 < c) (hc2 : c < 1000000) (hi : 0 ≤ i) (hi2 : i < 1000000) (hj : i ≤ j) (hj2 : j < 1000000) : RgC i j c ((j - i + c - 1) / c).toNat := by
  have e : Builtin.Range.rangeSize i j c = (((j - i + c - 1) / c).toNat : Int) := by
    unfold Builtin.Range.rangeSize
    rw [if_pos hc]
    by_cases h : i < j
    · rw [if_pos h, show j - i + c - 1 = (j - i - 1) + c by omega, Int.add_ediv_of_dvd_right (Int.dvd_refl c), Int.ediv_self (by omega)]
      have : 0 ≤ (j - i - 1) / c := Int.ediv_nonneg (by omega) (by omega)
      omega
    · have h2 : i = j := by omega
      subst h2
      rw [if_neg h, Int.ediv_eq_zero_of_lt (by omega) (by omega)]
      rfl
  refine ⟨by omega, by omega, ?_, e⟩
  unfold Builtin.Range.small
  rw [e]
  have b : ((j - i + c - 1) / c) ≤ j - i + c - 1 := Int.ediv_le_self _ (by omega)
  have b0 : 0 ≤ ((j - i + c - 1) / c) := Int.ediv_nonneg (by omega) (by omega)
  rw [Int.toNat_of_nonneg b0]
  generalize (j - i + c - 1) / c = n at b b0 ⊢
  simp only [Builtin.Range.rangeFitsLong, Bool.and_eq_true, Bool.or_eq_true, decide_eq_true_eq, beq_iff_eq, if_pos hc]
  omega
end RdX
/-! enumerate over a tuple -/
namespace EnT
open PySem PySem.Spec PyProof.Rows L2
/-- the iterator of a tuple, as it begins -/
abbrev tupIt (t : Addr) : Obj := { cls := .type "tuple_iterator", data := .fields #[.ref t, .int 0 0] }
/-- the enumeration over the iterator at n, as it begins -/
abbrev enuAt (n : Addr) : Obj := { cls := .type "enumerate", data := .fields #[.none, .bool false, .ref n, rawInt 0, .none, .none] }
set_option maxHeartbeats 2000000 in
theorem new_enumT (t : Addr) (its : Array Value) : Meets (Builtin.«enumerate.__new__» ⟨[.type "enumerate", .ref t], []⟩)
    (fun _ R s => s.heap.IsTuple t its ∧ R (.ok (.ret (.ref (s.heap.push (tupIt t)).objs.size))) { s with heap := (s.heap.push (tupIt t)).push (enuAt s.heap.objs.size) }) := Meets.of_wp fun P w A R s hh => by
  rcases s with ⟨hp, gs, ds, tk, sys⟩
  rcases hh with ⟨hT, goal⟩
  have kind := sub_enumerate
  have begin_ : ∀ {B : Around} {E : Value → Shared → Prop} {Q : Value → Shared → Prop}, Q (.ref hp.objs.size) ⟨hp.push (tupIt t), gs, ds, tk, sys⟩ → wpAny (model P w) B (pyIter (.ref t)) Q E ⟨hp, gs, ds, tk, sys⟩ := fun q => wpAny_pyIter_tuple hT q
  wp_walk using begin_
  refine wpAny_stack_any (fun _ => wpAny_pure ?_)
  split
  next c _ _ _ _ _ => cases (c == Value.type "enumerate") <;> (wp_walk using begin_; exact ⟨_, rfl, goal⟩)
  next => (wp_walk using begin_; exact ⟨_, rfl, goal⟩)
theorem call_enumT {P : Program} {w : World} {A : Around} {E : Value → Shared → Prop} {s : Shared} {t : Addr} {its : Array Value} {Q : Value → Shared → Prop} (hT : s.heap.IsTuple t its)
    (k : ∀ h', IsEnum h' (s.heap.objs.size + 1) s.heap.objs.size 0 .none → h'.IsTupleIter s.heap.objs.size t 0 → (∀ b o, s.heap.get? b = some o → h'.get? b = some o) → Q (.ref (s.heap.objs.size + 1)) { s with heap := h' }) :
    wpAny (model P w) A (call (.type "enumerate") [.ref t]) Q E s := by
  have sz : (s.heap.push (tupIt t)).objs.size = s.heap.objs.size + 1 := Heap.size_push ..
  have at1 : ((s.heap.push (tupIt t)).push (enuAt s.heap.objs.size)).get? (s.heap.objs.size + 1) = some (enuAt s.heap.objs.size) := sz ▸ Heap.get?_push_size (s.heap.push (tupIt t)) rfl
  have at0 : ((s.heap.push (tupIt t)).push (enuAt s.heap.objs.size)).get? s.heap.objs.size = some (tupIt t) := Heap.get?_push_of_some _ (Heap.get?_push_size _ rfl)
  refine callType_new F.called_enumerate (by decide) (F.typeCall_enumerate_1 _) (F.newCall_enumerate_1 _) (fun obj => F.args_object_init_2 obj _) F.entry_enumerate_new (new_enumT t its) ⟨hT, ?_⟩
  show _ ∧ _
  rw [sz]
  exact ⟨⟨_, at1, rfl⟩, k _ at1 ⟨_, at0, rfl, rfl⟩ fun b o e => Heap.get?_push_of_some _ (Heap.get?_push_of_some _ e)⟩
/-- the tuple at a, turn by turn: each item with its place, in a new pair -/
def Itn (K : PySem.W.Frag) (a : Addr) : It where
  go i H := ∃ (ys : List V) (y : V), SqT K H a ys ∧ ys[i]? = some y
  yld i H v H' := ∃ T y, v = .ref T ∧ H T = none ∧ H' = upd H T (.tup [.int (i : Nat), y]) ∧ ∀ ys, SqT K H a ys → ys[i]? = some y
  stop i H := ∃ ys : List V, SqT K H a ys ∧ ys.length = i
theorem turn_enumT {P : Program} {w : World} {K : PySem.W.Frag} {elts : List Expr} {kk : Nat} {tpos : Pos} (a e it : Addr) :
    Turn P w K (.Tuple elts kk tpos) (Itn K a) [e, it] e (fun i h => (∃ old, IsEnum h e it ((i : Nat) : Int) old) ∧ h.IsTupleIter it a i) where
  mem := List.mem_cons_self ..
  obj := fun i h ⟨⟨old, he⟩, o, ho, _, hd⟩ b hb => by
    rcases List.mem_cons.mp hb with rfl | hb
    · exact ⟨_, he, fun v q => nomatch q⟩
    · obtain rfl := List.mem_singleton.mp hb
      exact ⟨o, ho, fun v q => by rw [hd] at q; cases q⟩
  keep := fun i h h' ⟨⟨old, he⟩, hi⟩ k => ⟨⟨old, k e (List.mem_cons_self ..) _ he⟩, hi.at fun o q => k it (by simp) o q⟩
  item := by
    rintro X rfl rfl rfl hc i pins s σ H E I hf ⟨⟨old, he⟩, hit⟩ ⟨ys, y, hq, hy⟩
    obtain ⟨its, rv, p, hz⟩ := I.tuple hq
    have ht : s.heap.IsTuple a its.toArray := p
    obtain ⟨u, hu, ru⟩ := rv.get hy
    have len : i < its.length := (List.getElem?_eq_some_iff.mp hu).1
    have ai : a ≠ it := fun z => by
      obtain ⟨o1, g1, c1, _⟩ := ht
      obtain ⟨o2, g2, c2, _⟩ := id hit
      rw [z, g2] at g1
      rw [← Option.some.inj g1, c2] at c1
      exact absurd c1 (by decide)
    have ei : e ≠ it := fun z => by
      obtain ⟨o2, g2, c2, _⟩ := id hit
      have g1 : s.heap.get? e = _ := he
      rw [z, g2] at g1
      rw [Option.some.inj g1] at c2
      exact absurd (show Value.type "enumerate" = Value.type "tuple_iterator" from c2) (by decide)
    have ea : e ≠ a := fun z => by
      obtain ⟨o2, g2, c2, _⟩ := ht
      have g1 : s.heap.get? e = _ := he
      rw [z, g2] at g1
      rw [Option.some.inj g1] at c2
      exact absurd (show Value.type "enumerate" = Value.type "tuple" from c2) (by decide)
    refine wpAny_pyNext_enum_itemD (Draws.tuple (A := X.A.in1) (I.ok.hd hc) it a ai its.toArray) he ⟨hit, ht⟩ (by simpa using len) ei (by simp [ei, ea]) fun x h' tk hx ho hst hT sz1 hk => ?_
    have xu : x = u := by
      have : its[i]? = some x := by simpa using hx
      rw [hu] at this
      exact (Option.some.inj this).symm
    subst xu
    have hel : e < s.heap.objs.size := Heap.lt_size he
    have hil : it < s.heap.objs.size := by obtain ⟨_, q, _⟩ := hit; exact Heap.lt_size q
    refine ⟨_, rfl, wpAny_letOwnedTupleGo_enum (s := { s with heap := h', toks := tk + 1 }) ho fun h2 he2 sb => ?_⟩
    have pair : h2.get? s.heap.objs.size = some { cls := .type "tuple", data := .seq #[.int i tk, x] } := (sb.2 _ (Nat.ne_of_gt hel)).trans hT
    have new : ObjOk X.prog X.w (upd H s.heap.objs.size (.tup [.int (i : Nat), y])) h2 s.heap.objs.size (.tup [.int (i : Nat), y]) :=
      ⟨by show 2 ≤ sizeLine; decide, [.int i tk, x], .cons ⟨_, rfl⟩ (.cons ru .nil), ⟨_, pair, rfl, _, rfl⟩⟩
    have J : Inv X pins σ (upd H s.heap.objs.size (.tup [.int (i : Nat), y])) { s with heap := h2, toks := tk + 1 } :=
      I.turnedNew (ch := [e, it]) (fun b o hb q => (sb.2 b fun z => hb (by simp [z])).trans (hk b o (fun z => hb (by simp [z])) (fun z => hb (by simp [z])) q)) hf (Nat.le_refl _) new
    refine ⟨.ref s.heap.objs.size, _, J, rfl, ⟨_, y, rfl, I.hok.fresh (Nat.le_refl _), rfl, fun zs hz => by rw [I.tuple_inj hz hq]; exact hy⟩, ⟨⟨x, ?_⟩, hst.1.at fun o q => (sb.2 it (Ne.symm ei)).trans q⟩, fun b hb => ?_⟩
    · have e1 : ((i + 1 : Nat) : Int) = (i : Int) + 1 := rfl
      rw [e1]
      exact he2
    · have lt : b < s.heap.objs.size := by
        rcases List.mem_cons.mp hb with rfl | hb
        · exact hel
        · obtain rfl := List.mem_singleton.mp hb
          exact hil
      rw [upd_ne (Nat.ne_of_lt lt)]
      exact (hf b hb).1
  done := by
    rintro X rfl rfl rfl hc i pins s σ H E I hf ⟨⟨old, he⟩, hit⟩ ⟨ys, hq, hy⟩
    obtain ⟨its, rv, p, hz⟩ := I.tuple hq
    have ht : s.heap.IsTuple a its.toArray := p
    have hl := rv.length
    obtain ⟨f0, f1, f2, f3, f4, f5⟩ := hf it (by simp)
    have ai : a ≠ it := fun z => by
      obtain ⟨o1, g1, c1, _⟩ := ht
      obtain ⟨o2, g2, c2, _⟩ := id hit
      rw [z, g2] at g1
      rw [← Option.some.inj g1, c2] at c1
      exact absurd c1 (by decide)
    have hi : its.toArray.size = i := by rw [List.size_toArray]; omega
    exact wpAny_pyNext_enum_endD (Draws.tuple (A := X.A.in1) (I.ok.hd hc) it a ai its.toArray) he (hi.symm ▸ ⟨hit, ht⟩) fun h' eb => ⟨rfl, I.turned (t' := s.toks) (fun b o hb z => eb b o hb z) f0 f1 f3 f4 f5⟩
  self := fun A i s Q E ⟨⟨_, he⟩, _⟩ h => wpAny_pyIter_enum he h
/-- enumerate(a tuple) -/
def iEnumT (K : PySem.W.Frag) (ta : TA) : TI := fun σ H R => ta σ H fun vs H1 => ∃ a ys, vs = [.ref a] ∧ SqT K H1 a ys ∧ R (Itn K a) H1
theorem pi_enumT {X : Cx} {e : Expr} {ta : TA} {p pos tpos : Pos} {elts : List Expr} {kk : Nat} (hg : Gl X "enumerate") (hm : X.mg "enumerate" = none) (ha : PA X [e] ta)
    (one : starEach [e] X.env = [(false, eval e X.env)] := by rfl) : PI X (.Tuple elts kk tpos) (.Call (.Name "enumerate" p) [e] [] pos) (iEnumT X.K ta) := by
  refine ⟨fun pins s σ H R I h => Call_ (ld_blt I hg hm boot_enumerate (PyProof.Rows.callWith_type1 (thn (ha.run pos pins s σ H _ I h) fun us s1 ⟨vs, H1, J, r1, a, ys, ev, hq, q⟩ => ?_) one rfl))⟩
  subst ev
  rcases r1 with _ | ⟨r, r0⟩
  cases r0
  cases r
  obtain ⟨its, rv, at_, hz⟩ := J.tuple hq
  refine call_enumT (its := its.toArray) at_ fun h' he hit hk => wpAny_pyIter_enum he ?_
  refine ⟨s1.heap.objs.size + 1, [s1.heap.objs.size + 1, s1.heap.objs.size], _, _, H1, rfl, J.kept (t' := s1.toks) hk, turn_enumT a _ _, ⟨⟨.none, he⟩, hit⟩, fun b hb => ?_, q⟩
  have le : s1.heap.objs.size ≤ b := by
    rcases List.mem_cons.mp hb with rfl | hb
    · exact Nat.le_succ _
    · exact Nat.le_of_eq (List.mem_singleton.mp hb).symm
  exact J.fpOk le (J.hok.fresh le)
theorem walk_enumT {K : PySem.W.Frag} {a : Addr} {ys : List V} : Walk (Itn K a) ys.length (fun H => SqT K H a ys) (YPair (fun i => some (.int (i : Nat))) (fun i => ys[i]?)) :=
  ⟨fun i _ hi q => ⟨ys, ys[i], q, List.getElem?_eq_getElem hi⟩, fun _ q => ⟨ys, q, rfl⟩, fun i H v H' _ q ⟨T, y, h1, h2, h3, h4⟩ => ⟨T, .int (i : Nat), y, h1, h2, h3, rfl, h4 ys q⟩⟩
end EnT
/-! set(a list of texts), sorted(it) -/
namespace StS
open PySem PySem.Spec PyProof.Rows L2
/-- the text of a row of a set, and what such a row is -/
def rowT (e : Int × Value) : Str := strOf e.2
def RowT (P : Program) (w : World) (e : Int × Value) : Prop := ∃ k t, e.2 = .str k t ∧ e.1 = (PySem.strKind P w).hash k
/-- at a stands a set of the texts ks, in the order of its rows; its table rises and may be walked -/
def TxS (P : Program) (w : World) (h : Heap) (a : Addr) (ks : List Str) : Prop := ∃ (o : Obj) (es : Array (Int × Value)) (ep : Nat) (t : SetTable), (h.get? a = some o ∧ o.ExactSet ∧ o.data = .set es ep t) ∧
  ((∀ e ∈ es.toList, RowT P w e) ∧ es.toList.map rowT = ks ∧ ks.Nodup) ∧ (es.size < scanBound ∧ t.fits es.size = true) ∧ Ris t.place.toList ∧ (w.params.followText "set-order" = true ∨ t.led = true)
section
variable {P : Program} {w : World} {h h' : Heap} {a : Addr} {ks : List Str}
theorem TxS.at (R : TxS P w h a ks) (k : ∀ o, h.get? a = some o → h'.get? a = some o) : TxS P w h' a ks := by
  obtain ⟨o, es, ep, t, ⟨ho, q⟩, r⟩ := R
  exact ⟨o, es, ep, t, ⟨k o ho, q⟩, r⟩
theorem row_is {e : Int × Value} (r : RowT P w e) (k : Str) : (PySem.strKind P w).is k e.2 = true ↔ rowT e = k := by
  obtain ⟨k0, t, h1, _⟩ := r
  have mine : (PySem.strKind P w).is k0 e.2 = true := by rw [h1]; exact strKind_is P w k0 t
  rw [KeyKind.is_eq_decide mine k, decide_eq_true_iff, show rowT e = k0 by unfold rowT; rw [h1]; rfl]
  exact eq_comm
theorem rows_elems {l : List (Int × Value)} (g : ∀ e ∈ l, RowT P w e) : ElemsOf (PySem.strKind P w) l := fun e he => by
  obtain ⟨k, t, h1, h2⟩ := g e he
  exact ⟨⟨k, by rw [h1]; exact strKind_is P w k t, h2⟩, by rw [h1]; rfl⟩
theorem TxS.len (R : TxS P w h a ks) : ∃ (o : Obj) (es : Array (Int × Value)) (ep : Nat) (t : SetTable), h.get? a = some o ∧ es.size = ks.length := by
  obtain ⟨o, es, ep, t, ⟨ho, _⟩, ⟨_, e, _⟩, _⟩ := R
  exact ⟨o, es, ep, t, ho, by rw [← e, List.length_map, Array.length_toList]⟩
end
section
variable {P : Program} {w : World} {A : Around} {E : Value → Shared → Prop} {s : Shared} {a : Addr} {ks : List Str}
/-- behind the new row: the table may be laid anew -/
theorem settle {g : Bool → Sem Unit} (quiet : ∀ (b : Bool) (s1 : Shared) (Q : Unit → Shared → Prop), Q () s1 → wpAny (model P w) A (g b) Q E s1) {o : Obj} {es es1 : Array (Int × Value)} {ep : Nat} {t t2 : SetTable}
    (ho : s.heap.get? a = some o) (hx : o.ExactSet) (hd : o.data = .set es ep t) (rows : ∀ e ∈ es1.toList, RowT P w e) (once : (es1.toList.map rowT).Nodup) (few : es1.size < scanBound) (fit : t2.fits es1.size = true) (ris : Ris t2.place.toList)
    (led : w.params.followText "set-order" = true ∨ t2.led = true) {old : Bool} {R : Option Bool → Shared → Prop} (out : ∀ h' ks', Heap.SameBut a s.heap h' → ks'.Perm (es1.toList.map rowT) → TxS P w h' a ks' → R (some true) { s with heap := h' }) :
    wpAny (model P w) A (do
        storeSet a es1 t2
        if (!old && t2.tooFull) = true then do
            g (relayAll t2 es1 (SetTable.grown es1.size)).2.2
            storeSet a (relayAll t2 es1 (SetTable.grown es1.size)).1 (relayAll t2 es1 (SetTable.grown es1.size)).2.1
            pure (some true)
          else pure (some true)) R E s := by
  have stored := store_at (es' := es1) (t' := t2) ho hd
  have but1 := Heap.SameBut.update s.heap a (Obj.putSet es1 t2)
  refine wpAny_bind (wpAny_storeSet_of ho hd ?_ (fits_of_scanBound few))
  split
  · have q1 := relayAll_perm t2 es1 (SetTable.grown es1.size)
    have q2 := relayAll_fits t2 es1 (SetTable.grown es1.size)
    have q3 := relayAll_ris t2 es1 (SetTable.grown es1.size)
    have q4 := relayAll_led t2 es1 (SetTable.grown es1.size)
    revert q1 q2 q3 q4
    generalize relayAll t2 es1 (SetTable.grown es1.size) = Z
    obtain ⟨es2, t3, gave⟩ := Z
    dsimp only
    intro q1 q2 q3 q4
    have size : es2.size = es1.size := by rw [← Array.length_toList, q1.length_eq, Array.length_toList]
    have few2 : es2.size < scanBound := size ▸ few
    refine wpAny_bind (quiet _ _ _ (wpAny_bind (wpAny_storeSet_of stored rfl ?_ (fits_of_scanBound few2))))
    exact wpAny_pure (out _ (es2.toList.map rowT) (but1.trans (Heap.SameBut.update _ a _)) (q1.map rowT) ⟨_, es2, _, t3, ⟨store_at stored rfl, hx, rfl⟩, ⟨fun e he => rows e (q1.mem_iff.mp he), rfl, (q1.map rowT).nodup_iff.mpr once⟩, ⟨few2, q2⟩, q3,
      led.imp id fun z => q4.trans z⟩)
  · exact wpAny_pure (out _ _ but1 (List.Perm.refl _) ⟨_, es1, _, t2, ⟨stored, hx, rfl⟩, ⟨rows, rfl, once⟩, ⟨few, fit⟩, ris, led⟩)
/-- a text is added -/
theorem add {k : Str} {tk : Tok} {Q : Bool → Shared → Prop} (R : TxS P w s.heap a ks) (room : ks.length + 1 < scanBound)
    (out : ∀ b h' ks', Heap.SameBut a s.heap h' → (k ∈ ks ∧ ks' = ks ∨ k ∉ ks ∧ ks'.Perm (k :: ks)) → TxS P w h' a ks' → Q b { s with heap := h' }) :
    wpAny (model P w) A (setAddHashed a (.str k tk) ((PySem.strKind P w).hash k)) Q E s := by
  obtain ⟨o, es, ep, t, ⟨ho, hx, hd⟩, ⟨rows, ek, once⟩, ⟨few, fit⟩, ris, led⟩ := id R
  have size : es.size = ks.length := by rw [← ek, List.length_map, Array.length_toList]
  have mine : (PySem.strKind P w).is k (.str k tk) = true := strKind_is P w k tk
  have scan : (Value.str k tk).scannable = true := rfl
  have elems := rows_elems rows
  have within : k ∈ ks ↔ ∃ e ∈ es.toList, (PySem.strKind P w).is k e.2 = true := by
    rw [← ek, List.mem_map]
    exact ⟨fun ⟨e, he, q⟩ => ⟨e, he, (row_is (rows e he) k).mpr q⟩, fun ⟨e, he, q⟩ => ⟨e, he, (row_is (rows e he) k).mp q⟩⟩
  have calm : ∀ (b : Bool) (s1 : Shared) (Q' : Unit → Shared → Prop), Q' () s1 → wpAny (model P w) A (match b with | true => rule "set.scan.the-table-gave-way" | false => pure ()) Q' E s1 := fun b s1 Q' q => by
    cases b
    · exact wpAny_pure q
    · exact wpAny_rule q
  unfold setAddHashed setAddHashedIn
  refine wpAny_holding (wpAny_bind (wpAny_setState_of ho hd fit ?_))
  dsimp only
  rw [byScan_of scan few elems, if_pos rfl]
  unfold setAddByScan
  refine wpAny_bind (wpAny_bind (wpAny_rule (wpAny_bind (wpAny_setScan_of mine ho hd fit elems ?_))))
  cases found : List.findIdx? (fun e => (PySem.strKind P w).is k e.2) es.toList with
  | some j =>
    dsimp only
    obtain ⟨lt, is, _⟩ := List.findIdx?_eq_some_iff_getElem.mp found
    exact wpAny_pure (wpAny_pure (out _ s.heap ks (Heap.SameBut.refl a s.heap) (.inl ⟨within.mpr ⟨_, List.getElem_mem lt, is⟩, rfl⟩) R))
  | none =>
    dsimp only
    have new : k ∉ ks := fun z => by
      obtain ⟨e, he, q⟩ := within.mp z
      have := List.findIdx?_eq_none_iff.mp found e he
      rw [q] at this
      cases this
    have q1 := layNew_perm t es ((PySem.strKind P w).hash k) (.str k tk)
    have q2 := layNew_fits t es ((PySem.strKind P w).hash k) (.str k tk)
    have q3 := layNew_ris t es ((PySem.strKind P w).hash k) (.str k tk) ris
    have q4 := layNew_led t es ((PySem.strKind P w).hash k) (.str k tk)
    revert q1 q2 q3 q4
    generalize layNew t es ((PySem.strKind P w).hash k) (.str k tk) = Z
    obtain ⟨es1, t1, old, gave⟩ := Z
    dsimp only
    intro q1 q2 q3 q4
    have pm : es1.toList.Perm (((PySem.strKind P w).hash k, Value.str k tk) :: es.toList) := by
      rw [Array.toList_push] at q1
      exact q1.trans (List.perm_append_singleton _ _)
    have pk : (es1.toList.map rowT).Perm (k :: ks) := by
      have := pm.map rowT
      rwa [List.map_cons, ek] at this
    have rows1 : ∀ e ∈ es1.toList, RowT P w e := fun e he => by
      rcases List.mem_cons.mp (pm.mem_iff.mp he) with z | z
      · exact z ▸ ⟨k, tk, rfl, rfl⟩
      · exact rows e z
    have few1 : es1.size < scanBound := by
      have := pm.length_eq
      rw [Array.length_toList, List.length_cons, Array.length_toList, size] at this
      omega
    have once1 : (es1.toList.map rowT).Nodup := pk.nodup_iff.mpr (List.nodup_cons.mpr ⟨new, once⟩)
    have led1 : w.params.followText "set-order" = true ∨ t1.led = true := led.imp id fun z => q4.trans z
    refine wpAny_bind (calm _ _ _ ?_)
    split
    · refine wpAny_bind ?_
      rw [hashByValue_scannable 8 scan]
      refine wpAny_pure (settle (fun b s1 Q' q => calm b s1 Q' q) ho hx hd rows1 once1 few1 ?_ ?_ ?_ fun h' ks' sb p r => ?_)
      · first | (split <;> first | exact q2 | exact SetTable.fits_plain_off q2) | exact q2
      · first | (split <;> exact q3) | exact q3
      · first | (split <;> exact led1) | exact led1
      · dsimp only
        exact wpAny_pure (out _ h' ks' sb (.inr ⟨new, p.trans pk⟩) r)
    · refine wpAny_bind (wpAny_pure ?_)
      rw [if_pos rfl]
      refine settle (fun b s1 Q' q => calm b s1 Q' q) ho hx hd rows1 once1 few1 q2 q3 led1 fun h' ks' sb p r => ?_
      dsimp only
      exact wpAny_pure (out _ h' ks' sb (.inr ⟨new, p.trans pk⟩) r)
end
end StS
namespace StS
open PySem PySem.Spec PyProof.Rows L2
section
variable {P : Program} {w : World} {A : Around} {E : Value → Shared → Prop} {s : Shared}
/-- the same texts, each once -/
def Same (ks xs : List Str) : Prop := ks.Nodup ∧ (∀ k, k ∈ ks ↔ k ∈ xs) ∧ ks.length ≤ xs.length
abbrev blank (w : World) : Obj := { cls := .type "set", dict := none, data := .set #[] 0 (.fresh 0 0 (!w.params.followText "set-order")) }
def Done (P : Program) (w : World) (s : Shared) (xs : List Str) (s2 : Shared) : Prop := ∃ hp tk ks, s2 = { s with heap := hp, toks := tk } ∧ TxS P w hp s.heap.objs.size ks ∧ Same ks xs ∧ ∀ b u, s.heap.get? b = some u → hp.get? b = some u
theorem blank_tx {h : Heap} {a : Addr} (e : h.get? a = some (blank w)) : TxS P w h a [] := by
  refine ⟨_, #[], 0, .fresh 0 0 (!w.params.followText "set-order"), ⟨e, ⟨rfl, rfl, rfl⟩, rfl⟩, ⟨fun e he => absurd he (by simp), rfl, List.nodup_nil⟩, ⟨by unfold scanBound; decide, ?_⟩, ?_, ?_⟩
  · rfl
  · exact List.Pairwise.nil
  · cases q : w.params.followText "set-order" with
    | true => exact .inl rfl
    | false => exact .inr rfl
/-- one text after the other -/
theorem goes {I : Addr} {fp wr : List Addr} {G : Array GenState → Array GenState → Prop} {n : Nat} {Pv : Nat → Value → Prop} {St : Nat → Shared → Prop} {R : Result → Shared → Prop} (W : WalksS P w A.in1 I fp wr G n Pv St) (S : Addr) (apart : S ∉ fp) (xs : List Str) (many : n = xs.length)
    (few : xs.length + 1 < scanBound) (tells : ∀ i v, Pv i v → ∃ t, v = .str (xs.getD i Str.empty) t) (left : Nat) : ∀ (i : Nat) (s : Shared) (ks : List Str), n = i + left → St i s → TxS P w s.heap S ks → Same ks (xs.take i) →
      (∀ s' ks', Moved (S :: wr) G s s' → TxS P w s'.heap S ks' → Same ks' xs → R (.ok (.ret .none)) s') → codeAny (model P w) A (.builtin "set.update.loop" ⟨[.ref S, .ref I], []⟩) R s := by
  have off : S ∉ wr := fun z => apart (W.sub _ z)
  have more : ∀ b ∈ wr, b ∈ S :: wr := fun b z => List.mem_cons_of_mem _ z
  induction left with
  | zero =>
    intro i s ks hn st set same out
    have all : xs.take i = xs := List.take_of_length_le (by omega)
    rw [all] at same
    have hin : n = i := hn
    subst hin
    refine codeAny_builtin F.entry_set_update_loop (by
      rw [Around.under_plainId F.plain_set_update_loop _]
      exact wpAny_bind (m := pyNext (.ref I)) (W.done s _ _ st fun s' hm => wpAny_pure (out s' ks (hm.mono more) (set.at fun o e => hm.heap S o off e) same)))
  | succ left ih =>
    intro i s ks hn st set same out
    have lt : i < n := by omega
    refine codeAny_builtin F.entry_set_update_loop (by
      rw [Around.under_plainId F.plain_set_update_loop _]
      refine wpAny_bind (m := pyNext (.ref I)) (W.item i s _ _ lt st fun v s' hP st' hm => ?_)
      obtain ⟨t, rfl⟩ := tells i v hP
      have set' : TxS P w s'.heap S ks := set.at fun o e => hm.heap S o off e
      show wpAny _ A.in1 (holding [Value.str (xs.getD i Str.empty) t] (setAdd S (.str (xs.getD i Str.empty) t)) >>= _) _ _ s'
      have room : ks.length + 1 < scanBound := by
        have := same.2.2
        rw [List.length_take] at this
        omega
      have at_i : xs[i]? = some (xs.getD i Str.empty) := by
        rw [List.getD_eq_getElem?_getD, List.getElem?_eq_getElem (by omega)]
        rfl
      unfold setAdd
      refine wpAny_bind (wpAny_holding (wpAny_holding (wpAny_bind ((PySem.strKind P w).pyHash (k := xs.getD i Str.empty) (strKind_is _ _ _ _) (add (s := { s' with toks := s'.toks + 1 }) set' room fun b h2 ks2 sb which set2 => ?_)))))
      have same2 : Same ks2 (xs.take (i + 1)) := by
        obtain ⟨s1, s2, s3⟩ := same
        rw [List.take_add_one, at_i]
        rcases which with ⟨hin, rfl⟩ | ⟨hout, pm⟩
        · refine ⟨s1, fun k => ?_, by rw [List.length_append]; omega⟩
          rw [List.mem_append]
          refine ⟨fun z => .inl ((s2 k).mp z), fun z => z.elim (s2 k).mpr fun z => ?_⟩
          have e : k = xs.getD i Str.empty := by simpa using z
          rw [e]
          exact hin
        · refine ⟨pm.nodup_iff.mpr (List.nodup_cons.mpr ⟨hout, s1⟩), fun k => ?_, ?_⟩
          · rw [pm.mem_iff, List.mem_cons, List.mem_append, s2 k]
            simp only [Option.toList_some, List.mem_singleton]
            exact Or.comm
          · rw [pm.length_eq, List.length_cons, List.length_append]
            simpa using s3
      refine wpAny_pure ⟨plainId_quiet F.plain_set_update_loop _, ih (i + 1) _ ks2 (by omega) (W.frame _ s' _ _ st' (Nat.le_succ _) fun b hb o e => ?_) set2 same2 fun s3 ks3 mv set3 same3 => ?_⟩
      · exact (sb.2 b fun z => apart (z ▸ hb)).trans e
      · exact out s3 ks3 (Moved.trans W.gtrans ((hm.mono more).then_heap (Nat.le_succ _) fun b o hb e => (sb.2 b fun z => hb (z ▸ List.mem_cons_self)).trans e) mv) set3 same3)
theorem tells_at : ∀ {vs : List Value} {xs : List Str}, StrsAre vs xs → ∀ (i : Nat) (v : Value), vs[i]? = some v → ∃ t, v = .str (xs.getD i Str.empty) t
  | _, _, .nil, i, v, e => by cases e
  | _, _, .cons y t r, 0, v, e => ⟨t, (Option.some.inj e).symm⟩
  | _, _, .cons y t r, i + 1, v, e => tells_at r i v e
theorem blank_at : (s.heap.push (blank w)).get? s.heap.objs.size = some (blank w) := Heap.get?_push_size _ rfl
theorem runs {l : Addr} {its : Array Value} {xs : List Str} (quiet : A.in1.handled = none) (here : s.heap.IsList l its) (are : StrsAre its.toList xs) (few : xs.length + 1 < scanBound) {R : Result → Shared → Prop} (out : ∀ s2, Done P w s xs s2 → R (.ok (.ret .none)) s2) :
    codeAny (model P w) A (.builtin "set.update.loop" ⟨[.ref s.heap.objs.size, .ref (s.heap.objs.size + 1)], []⟩) R { s with heap := (s.heap.push (blank w)).push { cls := .type "list_iterator", data := .fields #[.ref l, .int 0 0] } } := by
  have low : l < s.heap.objs.size := by
    obtain ⟨u, hu, _⟩ := here
    exact Heap.lt_size hu
  have wide : (s.heap.push (blank w)).objs.size = s.heap.objs.size + 1 := Heap.size_push ..
  have many : its.size = xs.length := (Array.length_toList ..).symm.trans are.len_eq
  have apart : s.heap.objs.size ∉ [s.heap.objs.size + 1, l] := fun z => by
    rcases List.mem_cons.mp z with z | z
    · exact absurd z (Nat.ne_of_lt (Nat.lt_succ_self _))
    · exact absurd (List.mem_singleton.mp z) (Nat.ne_of_gt low)
  have old : ∀ b u, s.heap.get? b = some u → ((s.heap.push (blank w)).push { cls := .type "list_iterator", data := .fields #[.ref l, .int 0 0] }).get? b = some u := fun b u e => Heap.get?_push_of_some _ (Heap.get?_push_of_some _ e)
  have iter : ((s.heap.push (blank w)).push { cls := .type "list_iterator", data := .fields #[.ref l, .int 0 0] }).get? (s.heap.objs.size + 1) = some { cls := .type "list_iterator", data := .fields #[.ref l, .int 0 0] } := by
    rw [← wide]
    exact Heap.get?_push_size _ rfl
  refine goes (Walks.list (prog := P) (w := w) quiet (s.heap.objs.size + 1) l (Nat.ne_of_lt (Nat.lt_succ_of_lt low)) its).toS s.heap.objs.size apart xs many few (fun i v hv => tells_at are i v (by rw [Array.getElem?_toList]; exact hv)) its.size 0 _ [] (by omega)
    ⟨⟨_, iter, rfl, rfl⟩, (here.push _).push _⟩ (blank_tx (Heap.get?_push_of_some _ blank_at)) ⟨List.nodup_nil, fun k => by simp, Nat.zero_le _⟩ fun s2 ks moved set same => ?_
  refine out s2 ⟨s2.heap, s2.toks, ks, ?_, set, same, fun b u e => moved.heap b u (fun z => ?_) (old b u e)⟩
  · have a1 := moved.gens
    have a2 := moved.drawn
    have a3 := moved.os
    cases s2
    cases s
    simp only at a1 a2 a3
    subst a1 a2 a3
    rfl
  · have lt := Heap.lt_size e
    rcases List.mem_cons.mp z with z | z
    · exact absurd z (Nat.ne_of_lt lt)
    · exact absurd (List.mem_singleton.mp z) (Nat.ne_of_lt (Nat.lt_succ_of_lt lt))
/-- a new set, told the list's texts -/
theorem fills {l : Addr} {its : Array Value} {xs : List Str} (quiet : A.handled = none) (here : s.heap.IsList l its) (are : StrsAre its.toList xs) (few : xs.length + 1 < scanBound) {B : Around} {R : Result → Shared → Prop} (out : ∀ s2, Done P w s xs s2 → R (.ok (.ret .none)) s2) :
    wpAny (model P w) A (Builtin.«set.__init__» ⟨[.ref s.heap.objs.size, .ref l], []⟩) (fun fin s2 => match fin with | .done f => R (.ok f) s2 | .again c => c.quiet = true ∧ codeAny (model P w) B c R s2) E { s with heap := s.heap.push (blank w) } := by
  have listed : (s.heap.push (blank w)).IsList l its := here.push _
  obtain ⟨⟨ucls, udict, udata, uslots⟩, hu, hc, k, hd⟩ := listed
  simp only at hc hd
  subst hc hd
  have b1 := F.sub_list_set
  have b2 := F.sub_list_frozenset
  have b3 : (Value.type "list" == Value.type "dict") = false := by decide
  have b4 := blank_at (w := w) (s := s)
  unfold Builtin.«set.__init__» noKeywords Builtin.Frozenset.updateFrom
  generalize name : pyIter = walk
  wp_walk
  subst name
  have wide : (s.heap.push (blank w)).objs.size = s.heap.objs.size + 1 := Heap.size_push ..
  refine wpAny_pyIter_list (here.push _) (wpAny_bind (wpAny_runValue ?_))
  rw [wide]
  exact runs (by simp [quiet]) here are few fun s2 z => wpAny_pure (wpAny_pure (out s2 z))
/-- set(xs) -/
theorem makes {l : Addr} {its : Array Value} {xs : List Str} {Q : Value → Shared → Prop} (quiet : A.handled = none) (here : s.heap.IsList l its) (are : StrsAre its.toList xs) (few : xs.length + 1 < scanBound)
    (out : ∀ s2, Done P w s xs s2 → Q (.ref s.heap.objs.size) s2) : wpAny (model P w) A (call (.type "set") [.ref l]) Q E s := by
  have all := F.called_set
  obtain ⟨c0, c1, c2⟩ := all.mro
  have d1 := all.made
  have d2 := all.sub
  have d3 := all.notType
  have d4 := all.canCreate
  have d5 := F.typeCall_set_1 (.ref l)
  refine wpAny_call (codeAny_of_tree ?_)
  show wpAny _ _ (callAny (.type "set") ⟨[.ref l], []⟩) _ _ _
  refine wpAny_pure ⟨Code.quiet_builtin _ (by decide +kernel), codeAny_builtin F.entry_type_call ?_⟩
  rw [Around.under_plain (weight_type_call_type "set" [.ref l] []) rfl]
  repeat (any_goals (first | assumption | wp_step))
  refine codeAny_mono (code_set_led1 (.ref l) (E := E) (Q₁ := fun v s1 => v = .ref s.heap.objs.size ∧ s1 = { s with heap := s.heap.push (blank w) }) ⟨rfl, rfl⟩) fun r s1 h1 => ?_
  cases r with
  | error e => exact h1
  | ok f =>
    cases f with
    | next => exact h1.elim
    | brk => exact h1.elim
    | cont => exact h1.elim
    | ret v =>
      obtain ⟨rfl, rfl⟩ := h1
      have e0 := blank_at (w := w) (s := s)
      have e1 : Shared.TypeIs { s with heap := s.heap.push (blank w) } (.ref s.heap.objs.size) "set" := ⟨_, e0, rfl⟩
      have e2 := all.init.lookup
      have e3 := all.init.bind (.ref s.heap.objs.size)
      repeat (any_goals (first | assumption | wp_step))
      refine codeAny_mono (codeAny_call_builtin (R := wants (fun v s2 => v = .none ∧ Done P w s xs s2) E) all.init.plain F.entry_set_init (check_set_init_1 e1 (fills (by simp [quiet]) here are few fun s2 z => ⟨rfl, z⟩))) fun r s2 h2 => ?_
      cases r with
      | error e => exact h2
      | ok f =>
        cases f with
        | next => exact h2.elim
        | brk => exact h2.elim
        | cont => exact h2.elim
        | ret v =>
          obtain ⟨rfl, z⟩ := h2
          repeat (any_goals (first | assumption | wp_step))
          exact out s2 z
/-- sorted(a set of texts) -/
theorem sorts {a : Addr} {ks : List Str} {Q : Value → Shared → Prop} (R : TxS P w s.heap a ks) (quiet : A.handled = none) (few64 : ks.length < 64)
    (out : ∀ s' p (row : Array Value) (c : Nat) (ys : List Str), (∀ b o, s.heap.get? b = some o → s'.heap.get? b = some o) → s'.gens = s.gens → s'.os = s.os → s.heap.objs.size ≤ p → s'.heap.get? p = some (seqObj "list" row c) → StrsAre row.toList ys → ys.Perm ks → sortedS ys = true → Q (.ref p) s') :
    wpAny (model P w) A (call (.builtin "sorted") [.ref a]) Q E s := by
  obtain ⟨o, es, ep, t, ⟨ho, hx, hd⟩, ⟨rows, ek, once⟩, ⟨few, fit⟩, ris, led⟩ := R
  have size : es.toList.length = ks.length := by rw [← ek, List.length_map]
  refine Calls.call_function_entry kind_sorted plain_sorted entry_sorted (args_sorted1 (.ref a)) (by
    unfold Builtin.«sorted»
    refine wpAny_bind (m := checkCount "sorted" 1 1 _) (wpAny_pure (wpAny_bind (collect_set (A := A.in1) quiet ⟨o, ho, hx.1, hd⟩ fit few ris led fun s1 vs keep lt gens os pm => ?_)))
    have many : vs.length < 64 := by
      rw [pm.length_eq, List.length_map, size]
      exact few64
    have are : StrsAre vs (vs.map strOf) := strsAre_map vs fun v hv => by
      obtain ⟨e, he, q⟩ := List.mem_map.mp (pm.mem_iff.mp hv)
      obtain ⟨k, tk, h1, _⟩ := rows e he
      exact ⟨k, tk, q ▸ h1⟩
    have perm : (vs.map strOf).Perm ks := by
      have := pm.map strOf
      rw [List.map_map] at this
      rw [← ek]
      exact this
    refine wpAny_bind (wpAny_newList ?_ (by rw [sizeLine_eq]; omega))
    have hoL : (s1.heap.push (seqObj "list" vs.toArray 0)).get? s1.heap.objs.size = some (seqObj "list" vs.toArray 0) := Heap.get?_push_size _ rfl
    refine wpAny_bind (wpAny_holding (wpAny_call_entry slot_list_sort ⟨_, hoL, rfl⟩ entry_list_sort (list_sort_treeK strKind_oneLt hoL are.keysOf (fun v₁ v₂ rest e => keyKind_strs (by rw [← e]; exact are)) many fun st' hp hs => ⟨_, rfl, ?_⟩) (args_list_sort _)))
    obtain ⟨ys, y1, y2, y3⟩ := sorted_out_str are hp hs
    obtain ⟨c, hc⟩ := sortedHeap_at (vs := vs) (out := (arrOf st').map (·.2)) hoL
    refine wpAny_pure ⟨_, rfl, out _ s1.heap.objs.size _ c ys (fun b u e => ?_) gens os lt hc y1 (y2.trans perm) y3⟩
    have q := keep b u e
    have small := Heap.lt_size q
    have same : (sortedHeap (s1.heap.push (seqObj "list" vs.toArray 0)) s1.heap.objs.size vs ((arrOf st').map (·.2))).get? b = (s1.heap.push (seqObj "list" vs.toArray 0)).get? b := sortedHeap_old (Nat.ne_of_lt small) (by rw [size_push']; exact Nat.lt_succ_of_lt small)
    exact same.trans (Heap.get?_push_of_some _ q))
end
/-- the set of texts at a, tracked -/
def SetT (P : Program) (w : World) (a : Addr) (ks : List Str) : HO := .ext fun h => TxS P w h a ks
section
variable {X : Cx}
theorem setT_ok {P : Program} {w : World} {H : Hp} {h : Heap} {a : Addr} {ks : List Str} (R : TxS P w h a ks) : ObjOk P w H h a (SetT P w a ks) := by
  obtain ⟨o, es, ep, t, ho, _⟩ := R.len
  exact ⟨R, ⟨o, ho⟩, fun _ _ q k => q.at k⟩
def rSetT (X : Cx) : List V → Hp → VK → Prop := fun vs H Q => ∃ l xs, vs = [.ref l] ∧ SqL X.K H l (xs.map V.str) ∧ xs.length < 1000 ∧ ∀ a ks, H a = none → Same ks xs → Q (.ref a) (upd H a (SetT X.prog X.w a ks))
theorem cr_setT (hc : X.calm = true) : CallR X (.type "set") (rSetT X) := by
  intro pins s σ H vs us Q I r hq
  obtain ⟨l, xs, rfl, hl, hz, q⟩ := hq
  rw [Vals.ref1 r]
  obtain ⟨its, rv, here, _⟩ := I.list hl
  refine makes (I.ok.hd hc) here.isList (xs := xs) (by simpa using rv.strs) (by unfold scanBound; omega) fun s2 z => ?_
  obtain ⟨hp, tk, ks, rfl, R, same, keep⟩ := z
  exact ⟨.ref s.heap.objs.size, _, I.laid (t' := tk) keep (Nat.le_refl _) (setT_ok R), rfl, q _ ks (I.hok.fresh (Nat.le_refl _)) same⟩
def rSortT (X : Cx) : List V → Hp → VK → Prop := fun vs H Q => ∃ a ks, vs = [.ref a] ∧ H a = some (SetT X.prog X.w a ks) ∧ ks.length < 64 ∧ ∀ ys p, ys.Perm ks → sortedS ys = true → H p = none → Q (.ref p) (upd H p (.lst (ys.map V.str)))
theorem cr_sortT (hc : X.calm = true) : CallR X (.builtin "sorted") (rSortT X) := by
  intro pins s σ H vs us Q I r hq
  obtain ⟨a, ks, rfl, ha, hz, q⟩ := hq
  rw [Vals.ref1 r]
  refine sorts ((I.hok a _ ha).1) (I.ok.hd hc) hz fun s' p row c ys keep gens os le at_ are perm srt => ?_
  have new : H p = none := I.hok.fresh le
  have short : (ys.map V.str).length ≤ sizeLine := by rw [List.length_map, perm.length_eq, sizeLine_eq]; omega
  have J : Inv X pins σ (upd H p (.lst (ys.map V.str))) { s with heap := s'.heap, gens := s'.gens, drawn := s'.drawn, toks := s'.toks } :=
    I.call (ch := []) (Un.laid keep le new) (I.hok.laid keep le ⟨short, row.toList, c, vals_of_strs are, at_⟩) (by rw [gens]; exact I.bare) (fun _ z => absurd z (by simp))
  have same : s' = { s with heap := s'.heap, gens := s'.gens, drawn := s'.drawn, toks := s'.toks } := by
    cases s'
    cases s
    cases os
    rfl
  rw [same]
  exact ⟨.ref p, _, J, rfl, q ys p perm srt new⟩
end
end StS
/-! len of a set of texts -/
namespace StS
open PySem PySem.Spec PyProof.Rows L2
section
variable {X : Cx}
def rLenS (X : Cx) : List V → Hp → VK → Prop := fun vs H Q => ∃ a ks, vs = [.ref a] ∧ H a = some (SetT X.prog X.w a ks) ∧ ks.length < 1000 ∧ Q (.int (ks.length : Int)) H
theorem cr_lenS : CallR X (.builtin "len") (rLenS X) := by
  intro pins s σ H vs us Q I r hq
  obtain ⟨a, ks, rfl, ha, hz, q⟩ := hq
  rw [Vals.ref1 r]
  obtain ⟨o, es, ep, t, ⟨ho, hx, hd⟩, ⟨_, ek, _⟩, ⟨_, fit⟩, _⟩ := (I.hok a _ ha).1
  have size : es.size = ks.length := by rw [← ek, List.length_map, Array.length_toList]
  exact call_len_set ho hx hd fit (by rw [size]; omega) ⟨.int ks.length, H, I.tok _, ⟨_, by rw [size]⟩, q⟩
end
end StS
/-! sequences that come round: periods, borders of a row, the least period, the normal form of a growth -/
namespace Gr
/-! ### periods of a sequence -/
def Pd {α : Type} (d : Nat → α) (q : Nat) : Prop := ∀ k, d (k + q) = d k
section
variable {α : Type} {d : Nat → α} {p q n : Nat}
theorem Pd.zero : Pd d 0 := fun _ => rfl
theorem Pd.mul (h : Pd d q) : ∀ j k, d (k + j * q) = d k
  | 0, k => by rw [Nat.zero_mul, Nat.add_zero]
  | j + 1, k => by rw [Nat.succ_mul, ← Nat.add_assoc, h, Pd.mul h j]
theorem Pd.mod (h : Pd d q) (k : Nat) : d (k % q) = d k := by
  have e := Nat.mod_add_div k q
  rw [Nat.mul_comm] at e
  have := Pd.mul h (k / q) (k % q)
  rw [e] at this
  exact this.symm
theorem Pd.sub (hp : Pd d p) (hq : Pd d q) (h : p ≤ q) : Pd d (q - p) := fun k => by
  have e : k + (q - p) + p = k + q := by omega
  rw [← hp (k + (q - p)), e, hq]
theorem Pd.rem (hp : Pd d p) (hq : Pd d q) : Pd d (q % p) := fun k => by
  have e : k + q % p + q / p * p = k + q := by
    have := Nat.mod_add_div q p
    rw [Nat.mul_comm] at this
    omega
  rw [← Pd.mul hp (q / p) (k + q % p), e, hq]
theorem Pd.gcd : ∀ (p q : Nat), Pd d p → Pd d q → Pd d (Nat.gcd p q) := by
  intro p
  induction p using Nat.strongRecOn with
  | ind p ih =>
    intro q hp hq
    rcases Nat.eq_zero_or_pos p with h | h
    · rw [h, Nat.gcd_zero_left]
      exact hq
    · rw [Nat.gcd_rec]
      exact ih (q % p) (Nat.mod_lt _ h) p (hp.rem hq) hp
/-- the least one -/
structure Least (d : Nat → α) (p : Nat) : Prop where
  pos : 0 < p
  pd : Pd d p
  le : ∀ q, 0 < q → Pd d q → p ≤ q
end
/-! ### rows -/
def at' (g : List Int) (i : Nat) : Int := g.getD i 0
/-- the row, again and again -/
def dif (g : List Int) (k : Nat) : Int := at' g (k % g.length)
/-- within the row what stands p further on is the same -/
def Per (g : List Int) (p : Nat) : Prop := ∀ i, i + p < g.length → at' g (i + p) = at' g i
section
variable {g : List Int} {p q : Nat}
theorem dif_pd : Pd (dif g) g.length := fun k => by unfold dif; rw [Nat.add_mod_right]
theorem dif_lt {k : Nat} (h : k < g.length) : dif g k = at' g k := by unfold dif; rw [Nat.mod_eq_of_lt h]
theorem Pd.per (h : Pd (dif g) p) : Per g p := fun i hi => by
  have := h i
  rwa [dif_lt hi, dif_lt (by omega)] at this
theorem Per.mul (h : Per g p) : ∀ j i, i + j * p < g.length → at' g (i + j * p) = at' g i
  | 0, i, _ => by rw [Nat.zero_mul, Nat.add_zero]
  | j + 1, i, hi => by
    rw [Nat.succ_mul, ← Nat.add_assoc] at hi ⊢
    rw [h _ hi, Per.mul h j i (by omega)]
theorem Per.pd (h : Per g p) (hp : 0 < p) (hd : p ∣ g.length) (hn : 0 < g.length) : Pd (dif g) p := fun k => by
  obtain ⟨c, hc⟩ := hd
  have hr : k % g.length < g.length := Nat.mod_lt _ hn
  unfold dif
  rw [Nat.add_mod]
  generalize k % g.length = r at hr
  have hpn : p ≤ g.length := by
    rcases c with _ | c
    · rw [Nat.mul_zero] at hc; omega
    · rw [hc]; exact Nat.le_mul_of_pos_right p (Nat.succ_pos c)
  rcases Nat.lt_or_ge p g.length with h1 | h1
  · rw [Nat.mod_eq_of_lt h1]
    rcases Nat.lt_or_ge (r + p) g.length with h2 | h2
    · rw [Nat.mod_eq_of_lt h2]
      exact h r h2
    · rw [Nat.mod_eq_sub_mod h2, Nat.mod_eq_of_lt (by omega)]
      rcases c with _ | c
      · rw [Nat.mul_zero] at hc; omega
      have e : r + p - g.length + c * p = r := by
        have : p * (c + 1) = c * p + p := by rw [Nat.mul_comm, Nat.succ_mul]
        omega
      have z := h.mul c (r + p - g.length) (by rw [e]; exact hr)
      rw [e] at z
      exact z.symm
  · have e : p = g.length := Nat.le_antisymm hpn h1
    rw [e, Nat.mod_self, Nat.add_zero, Nat.mod_eq_of_lt hr]
end
/-! ### borders: the longest one of each beginning -/
/-- w signs at the end of the first m are the first w -/
def Bd (g : List Int) (m w : Nat) : Prop := w < m ∧ ∀ i, i < w → at' g (m - w + i) = at' g i
structure Lb (g : List Int) (m w : Nat) : Prop where
  bd : Bd g m w
  top : ∀ v, Bd g m v → v ≤ w
section
variable {g : List Int} {m w v : Nat}
theorem bd_zero (h : 0 < m) : Bd g m 0 := ⟨h, fun i hi => absurd hi (Nat.not_lt_zero i)⟩
theorem lb_one : Lb g 1 0 := ⟨bd_zero Nat.one_pos, fun v h => by have := h.1; omega⟩
theorem bd_succ : Bd g (m + 1) (v + 1) ↔ Bd g m v ∧ at' g m = at' g v := by
  constructor
  · rintro ⟨h, a⟩
    have hv : v < m := by omega
    refine ⟨⟨hv, fun i hi => ?_⟩, ?_⟩
    · have := a i (by omega)
      rwa [show m + 1 - (v + 1) + i = m - v + i by omega] at this
    · have := a v (by omega)
      rwa [show m + 1 - (v + 1) + v = m by omega] at this
  · rintro ⟨⟨h, a⟩, e⟩
    refine ⟨by omega, fun i hi => ?_⟩
    rw [show m + 1 - (v + 1) + i = m - v + i by omega]
    rcases Nat.lt_or_ge i v with h1 | h1
    · exact a i h1
    · have : i = v := by omega
      subst this
      rw [show m - i + i = m by omega]
      exact e
/-- a border of a border, and the other way round -/
theorem bd_trans (h : Bd g m w) (h2 : Bd g w v) : Bd g m v := by
  refine ⟨Nat.lt_trans h2.1 h.1, fun i hi => ?_⟩
  have := h.2 (w - v + i) (by have := h2.1; omega)
  rw [show m - w + (w - v + i) = m - v + i by have := h.1; have := h2.1; omega] at this
  rw [this]
  exact h2.2 i hi
theorem bd_down (h : Bd g m w) (h2 : Bd g m v) (hv : v < w) : Bd g w v := by
  refine ⟨hv, fun i hi => ?_⟩
  have a := h.2 (w - v + i) (by omega)
  rw [show m - w + (w - v + i) = m - v + i by have := h.1; omega] at a
  rw [← a]
  exact h2.2 i hi
/-- what the search for the next border keeps: a border, and none that goes on is longer -/
def Srch (g : List Int) (m w : Nat) : Prop := Bd g m w ∧ ∀ v, Bd g m v → at' g m = at' g v → v ≤ w
theorem srch_start (h : Lb g m w) : Srch g m w := ⟨h.bd, fun v b _ => h.top v b⟩
theorem srch_step (h : Srch g m w) (hw : 0 < w) (hne : at' g m ≠ at' g w) {w' : Nat} (b : Lb g w w') : Srch g m w' ∧ w' < w :=
  ⟨⟨bd_trans h.1 b.bd, fun v hv e => by
    have h1 := h.2 v hv e
    have h2 : v ≠ w := fun z => hne (z ▸ e)
    exact b.top v (bd_down h.1 hv (by omega))⟩, b.bd.1⟩
theorem srch_yes (h : Srch g m w) (e : at' g m = at' g w) : Lb g (m + 1) (w + 1) := by
  refine ⟨bd_succ.mpr ⟨h.1, e⟩, fun v hv => ?_⟩
  rcases v with _ | v
  · exact Nat.zero_le _
  · obtain ⟨a, b⟩ := bd_succ.mp hv
    exact Nat.succ_le_succ (h.2 v a b)
theorem srch_no (h : Srch g m 0) (e : at' g m ≠ at' g 0) : Lb g (m + 1) 0 := by
  refine ⟨bd_zero (Nat.succ_pos m), fun v hv => ?_⟩
  rcases v with _ | v
  · exact Nat.le_refl _
  · obtain ⟨a, b⟩ := bd_succ.mp hv
    have : v = 0 := Nat.le_zero.mp (h.2 v a b)
    subst this
    exact absurd b e
end
/-! ### the least period of a row, by its longest border -/
section
variable {g : List Int} {b : Nat}
theorem Per.bd {p : Nat} (h : Per g p) (hp : 0 < p) (hn : p ≤ g.length) : Bd g g.length (g.length - p) := by
  refine ⟨by omega, fun i hi => ?_⟩
  have := h i (by omega)
  rw [show g.length - (g.length - p) + i = i + p by omega]
  exact this
theorem Bd.per (h : Bd g g.length b) : Per g (g.length - b) := fun i hi => by
  have := h.2 i (by have := h.1; omega)
  rwa [Nat.add_comm] at this
theorem least_of (hn : 0 < g.length) (h : Lb g g.length b) : Least (dif g) (if g.length % (g.length - b) = 0 then g.length - b else g.length) := by
  have hb := h.bd.1
  have hq : 0 < g.length - b := by omega
  have per := h.bd.per
  have top : ∀ p, 0 < p → p ≤ g.length → Per g p → g.length - b ≤ p := fun p hp hpn pp => by
    have := h.top _ (pp.bd hp hpn)
    omega
  -- each period of the endless row has a divisor of the length below it that is one too
  have down : ∀ q, 0 < q → Pd (dif g) q → ∃ c, 0 < c ∧ c ∣ g.length ∧ c ≤ q ∧ c ≤ g.length ∧ Pd (dif g) c := fun q hq0 hqd =>
    ⟨Nat.gcd q g.length, Nat.gcd_pos_of_pos_left _ hq0, Nat.gcd_dvd_right _ _, Nat.gcd_le_left _ hq0, Nat.gcd_le_right _ hn, Pd.gcd q g.length hqd dif_pd⟩
  by_cases e : g.length % (g.length - b) = 0
  · rw [if_pos e]
    refine ⟨hq, per.pd hq (Nat.dvd_of_mod_eq_zero e) hn, fun q hq0 hqd => ?_⟩
    obtain ⟨c, c0, _, cq, cn, cd⟩ := down q hq0 hqd
    exact Nat.le_trans (top c c0 cn cd.per) cq
  · rw [if_neg e]
    refine ⟨hn, dif_pd, fun q hq0 hqd => ?_⟩
    obtain ⟨c, c0, cv, cq, cn, cd⟩ := down q hq0 hqd
    rcases Nat.lt_or_ge c g.length with h1 | h1
    · exfalso
      have h2 : g.length - b ≤ c := top c c0 cn cd.per
      obtain ⟨z, hz⟩ := cv
      have h3 : c + c ≤ g.length := by
        rcases z with _ | _ | z
        · rw [Nat.mul_zero] at hz; omega
        · rw [Nat.mul_one] at hz; omega
        · rw [hz, show z + 1 + 1 = z + 2 from rfl, Nat.mul_add, Nat.mul_two]; omega
      have pd : Pd (dif g) (g.length - b) := fun k => by
        have r : k % c < c := Nat.mod_lt _ c0
        have a : dif g (k % c) = dif g k := cd.mod k
        have a2 : dif g (k + (g.length - b)) = dif g (k % c + (g.length - b)) := by
          have e1 := Nat.mod_add_div k c
          rw [Nat.mul_comm] at e1
          have := cd.mul (k / c) (k % c + (g.length - b))
          rw [show k % c + (g.length - b) + k / c * c = k + (g.length - b) by omega] at this
          exact this
        rw [a2, ← a, dif_lt (by omega), dif_lt (by omega)]
        exact per _ (by omega)
      have q2 := Pd.gcd (g.length - b) g.length pd dif_pd
      have g0 : 0 < Nat.gcd (g.length - b) g.length := Nat.gcd_pos_of_pos_left _ hq
      have l1 := top _ g0 (Nat.gcd_le_right _ hn) q2.per
      have l2 := Nat.gcd_le_left (g.length) hq
      have e2 : Nat.gcd (g.length - b) g.length = g.length - b := Nat.le_antisymm l2 l1
      exact e (Nat.mod_eq_zero_of_dvd (e2 ▸ Nat.gcd_dvd_right (g.length - b) g.length))
    · exact Nat.le_trans h1 cq
end
end Gr
namespace Gr
/-! ### sums of beginnings -/
def acc (d : Nat → Int) : Nat → Int
  | 0 => 0
  | n + 1 => acc d n + d n
theorem acc_add (d : Nat → Int) (m : Nat) : ∀ n, acc d (m + n) = acc d m + acc (fun k => d (m + k)) n
  | 0 => by rw [Nat.add_zero]; exact (Int.add_zero _).symm
  | n + 1 => by
    rw [← Nat.add_assoc]
    show acc d (m + n) + d (m + n) = acc d m + (acc _ n + d (m + n))
    rw [acc_add d m n, Int.add_assoc]
theorem acc_congr {d e : Nat → Int} : ∀ n, (∀ k, k < n → d k = e k) → acc d n = acc e n
  | 0, _ => rfl
  | n + 1, h => by
    show acc d n + d n = acc e n + e n
    rw [acc_congr n fun k hk => h k (by omega), h n (Nat.lt_succ_self n)]
theorem acc_mul {d : Nat → Int} {p : Nat} (h : Pd d p) : ∀ j r, acc d (j * p + r) = j * acc d p + acc d r
  | 0, r => by rw [Nat.zero_mul, Nat.zero_add]; show acc d r = ((0 : Nat) : Int) * _ + _; rw [Int.natCast_zero, Int.zero_mul, Int.zero_add]
  | j + 1, r => by
    rw [Nat.succ_mul, show j * p + p + r = p + (j * p + r) by omega, acc_add]
    rw [acc_congr (e := d) (j * p + r) fun k _ => by rw [Nat.add_comm p k]; exact h k]
    rw [acc_mul h j r]
    rw [show ((j + 1 : Nat) : Int) = (j : Int) + 1 from rfl, Int.add_mul, Int.one_mul]
    omega
/-! ### growths -/
/-- the last one of a row -/
def lst (t : List Int) : Int := at' t (t.length - 1)
/-- the value at a number, by told values and gains -/
def val (t g : List Int) (n : Nat) : Int := if n < t.length then at' t n else lst t + acc (dif g) (n - t.length + 1)
section
variable {t t' g g' : List Int} {n : Nat}
theorem val_lt (h : n < t.length) : val t g n = at' t n := if_pos h
/-- from the last told value on -/
theorem val_ge (h0 : 0 < t.length) (k : Nat) : val t g (t.length - 1 + k) = lst t + acc (dif g) k := by
  unfold val
  rcases Nat.eq_zero_or_pos k with h | h
  · subst h
    rw [if_pos (by omega)]
    show at' t (t.length - 1 + 0) = lst t + 0
    rw [Int.add_zero]
    rfl
  · rw [if_neg (by omega), show t.length - 1 + k - t.length + 1 = k by omega]
theorem val_step (h0 : 0 < t.length) (k : Nat) : val t g (t.length - 1 + k + 1) - val t g (t.length - 1 + k) = dif g k := by
  rw [Nat.add_assoc, val_ge h0, val_ge h0]
  show lst t + (acc (dif g) k + dif g k) - (lst t + acc (dif g) k) = dif g k
  omega
/-- the rounds taken at once -/
theorem val_far (h0 : 0 < t.length) (hn : t.length ≤ n) : val t g n = lst t + ((n - t.length + 1) / g.length : Nat) * acc (dif g) g.length + acc (dif g) ((n - t.length + 1) % g.length) := by
  unfold val
  rw [if_neg (by omega)]
  have e := Nat.mod_add_div (n - t.length + 1) g.length
  rw [Nat.mul_comm, Nat.add_comm] at e
  rw [← e, acc_mul dif_pd, e, Int.add_assoc]
/-- the normal form -/
structure NF (t g : List Int) : Prop where
  told : 0 < t.length
  gains : 0 < g.length
  least : Least (dif g) g.length
  few : t.length = 1 ∨ at' t (t.length - 1) - at' t (t.length - 2) ≠ lst g
/-- by how much the values rise -/
def rise (t g : List Int) (n : Nat) : Int := val t g (n + 1) - val t g n
theorem rise_ge (h0 : 0 < t.length) (h : t.length - 1 ≤ n) : rise t g n = dif g (n - (t.length - 1)) := by
  have := val_step (g := g) h0 (n - (t.length - 1))
  rwa [show t.length - 1 + (n - (t.length - 1)) = n by omega] at this
/-- the number of gains is the least number by which the rises come round at last -/
theorem least_end (h : NF t g) {q : Nat} (hq : 0 < q) {m : Nat} (hm : ∀ n, m ≤ n → rise t g (n + q) = rise t g n) : g.length ≤ q := by
  refine h.least.le q hq fun k => ?_
  have a := hm (t.length - 1 + (k + m * g.length)) (by have : m ≤ m * g.length := Nat.le_mul_of_pos_right m h.gains; omega)
  rw [rise_ge h.told (by omega), rise_ge h.told (by omega)] at a
  rw [show t.length - 1 + (k + m * g.length) + q - (t.length - 1) = k + q + m * g.length by omega, show t.length - 1 + (k + m * g.length) - (t.length - 1) = k + m * g.length by omega] at a
  rwa [dif_pd.mul, dif_pd.mul] at a
theorem end_pd (h : NF t g) (n : Nat) (hn : t.length - 1 ≤ n) : rise t g (n + g.length) = rise t g n := by
  rw [rise_ge h.told (by omega), rise_ge h.told hn, show n + g.length - (t.length - 1) = n - (t.length - 1) + g.length by omega]
  exact dif_pd _
theorem at_eq_of {a b : List Int} (hl : a.length = b.length) (h : ∀ i, i < a.length → at' a i = at' b i) : a = b := by
  refine List.ext_getElem? fun i => ?_
  rcases Nat.lt_or_ge i a.length with h1 | h1
  · have := h i h1
    unfold at' at this
    rw [List.getD_eq_getElem?_getD, List.getD_eq_getElem?_getD] at this
    rw [List.getElem?_eq_getElem h1, List.getElem?_eq_getElem (hl ▸ h1)] at this ⊢
    exact congrArg some this
  · rw [List.getElem?_eq_none h1, List.getElem?_eq_none (hl ▸ h1)]
theorem told_le (h : NF t g) (h' : NF t' g') (e : ∀ n, val t g n = val t' g' n) (eg : g.length = g'.length) : t'.length ≤ t.length := by
  rcases Nat.lt_or_ge t.length t'.length with hl | hl
  · exfalso
    have re : ∀ n, rise t g n = rise t' g' n := fun n => by unfold rise; rw [e, e]
    rcases h'.few with z | z
    · have := h.told; omega
    · apply z
      have t0 := h.told
      have a : rise t' g' (t'.length - 2) = at' t' (t'.length - 1) - at' t' (t'.length - 2) := by
        unfold rise
        rw [show t'.length - 2 + 1 = t'.length - 1 by omega, val_lt (by omega), val_lt (by omega)]
      have b : rise t' g' (t'.length - 2 + g.length) = lst g' := by
        have g0 := h.gains
        rw [rise_ge h'.told (by omega), show t'.length - 2 + g.length - (t'.length - 1) = g'.length - 1 by omega, dif_lt (by omega)]
        rfl
      rw [← a, ← b, ← re, ← re]
      exact (end_pd h _ (by omega)).symm
  · exact hl
/-- one normal form -/
theorem nf_one (h : NF t g) (h' : NF t' g') (e : ∀ n, val t g n = val t' g' n) : t = t' ∧ g = g' := by
  have re : ∀ n, rise t g n = rise t' g' n := fun n => by unfold rise; rw [e, e]
  have l1 : g.length ≤ g'.length := least_end h h'.gains (m := t'.length - 1) fun n hn => by rw [re, re]; exact end_pd h' n hn
  have l2 : g'.length ≤ g.length := least_end h' h.gains (m := t.length - 1) fun n hn => by rw [← re, ← re]; exact end_pd h n hn
  have eg : g.length = g'.length := Nat.le_antisymm l1 l2
  have et : t.length = t'.length := Nat.le_antisymm (told_le h' h (fun n => (e n).symm) eg.symm) (told_le h h' e eg)
  refine ⟨at_eq_of et fun i hi => ?_, at_eq_of eg fun i hi => ?_⟩
  · have := e i
    rwa [val_lt hi, val_lt (et ▸ hi)] at this
  · have a := rise_ge (g := g) h.told (n := t.length - 1 + i) (by omega)
    have b := rise_ge (g := g') h'.told (n := t.length - 1 + i) (by omega)
    rw [re, b, show t.length - 1 + i - (t.length - 1) = i by omega, show t.length - 1 + i - (t'.length - 1) = i by omega, dif_lt hi, dif_lt (eg ▸ hi)] at a
    exact a.symm
end
/-! ### told values that the gains give anyway -/
section
variable {t g : List Int} {s : Nat}
/-- the gain that would be i steps ahead of the first one -/
def back (g : List Int) (s : Nat) : Int := at' g (g.length - 1 - s % g.length)
/-- the last s told values are those that the gains give -/
def Spr (t g : List Int) (s : Nat) : Prop := s < t.length ∧ ∀ i, i < s → at' t (t.length - 1 - i) - at' t (t.length - 1 - i - 1) = back g i
theorem spr_zero (h : 0 < t.length) : Spr t g 0 := ⟨h, fun i hi => absurd hi (Nat.not_lt_zero i)⟩
theorem spr_step (h : Spr t g s) (hs : s < t.length - 1) (e : at' t (t.length - 1 - s) - at' t (t.length - 1 - s - 1) = back g s) : Spr t g (s + 1) :=
  ⟨by omega, fun i hi => by
    rcases Nat.lt_or_ge i s with z | z
    · exact h.2 i z
    · rw [show i = s by omega]
      exact e⟩
/-- told values and gains without the last s told values -/
def cutT (t : List Int) (s : Nat) : List Int := t.take (t.length - s)
def cutG (g : List Int) (s : Nat) : List Int := g.drop (g.length - s % g.length) ++ g.take (g.length - s % g.length)
theorem cutT_len (hs : s < t.length) : (cutT t s).length = t.length - s := by
  unfold cutT
  rw [List.length_take]
  omega
theorem cutG_len : (cutG g s).length = g.length := by
  unfold cutG
  rw [List.length_append, List.length_drop, List.length_take]
  omega
theorem at_take {l : List Int} {n i : Nat} (h : i < n) : at' (l.take n) i = at' l i := by
  unfold at'
  rw [List.getD_eq_getElem?_getD, List.getD_eq_getElem?_getD, List.getElem?_take_of_lt h]
theorem at_drop {l : List Int} {n i : Nat} : at' (l.drop n) i = at' l (n + i) := by
  unfold at'
  rw [List.getD_eq_getElem?_getD, List.getD_eq_getElem?_getD, List.getElem?_drop]
theorem at_app {a b : List Int} {i : Nat} : at' (a ++ b) i = if i < a.length then at' a i else at' b (i - a.length) := by
  unfold at'
  rw [List.getD_eq_getElem?_getD, List.getD_eq_getElem?_getD, List.getD_eq_getElem?_getD]
  by_cases h : i < a.length
  · rw [if_pos h, List.getElem?_append_left h]
  · rw [if_neg h, List.getElem?_append_right (by omega)]
/-- the gains turned: each one s places later -/
theorem dif_cut (hg : 0 < g.length) (k : Nat) : dif (cutG g s) (k + s) = dif g k := by
  have hr : s % g.length < g.length := Nat.mod_lt _ hg
  have hk : k % g.length < g.length := Nat.mod_lt _ hg
  unfold dif
  rw [cutG_len, Nat.add_mod]
  unfold cutG
  generalize s % g.length = r at hr ⊢
  generalize k % g.length = q at hk ⊢
  rw [at_app, List.length_drop, show g.length - (g.length - r) = r by omega]
  rcases Nat.lt_or_ge (q + r) g.length with h | h
  · rw [Nat.mod_eq_of_lt h, if_neg (by omega), at_take (by omega), show q + r - r = q by omega]
  · rw [Nat.mod_eq_sub_mod h, Nat.mod_eq_of_lt (by omega), if_pos (by omega), at_drop, show g.length - r + (q + r - g.length) = q by omega]
theorem dif_cut' (hg : 0 < g.length) {k : Nat} (h : s ≤ k) : dif (cutG g s) k = dif g (k - s) := by
  have := dif_cut (s := s) hg (k - s)
  rwa [show k - s + s = k by omega] at this
/-- the gain i places ahead of the first one, told of the turned ones -/
theorem back_cut (hg : 0 < g.length) {i : Nat} (hi : i < s) : dif (cutG g s) (s - 1 - i) = back g i := by
  have p := (dif_pd (g := cutG g s)).mul (i + 1) (s - 1 - i)
  rw [cutG_len] at p
  rw [← p, dif_cut' hg (by have : i + 1 ≤ (i + 1) * g.length := Nat.le_mul_of_pos_right _ hg; omega)]
  unfold dif back
  congr 1
  have hr : i % g.length < g.length := Nat.mod_lt _ hg
  have e := Nat.mod_add_div i g.length
  generalize i % g.length = r at hr e ⊢
  generalize i / g.length = c at e
  have e3 : (i + 1) * g.length = i * g.length + g.length := by rw [Nat.add_mul, Nat.one_mul]
  have e5 : c * g.length = g.length * c := Nat.mul_comm _ _
  have i0 : i ≤ i * g.length := Nat.le_mul_of_pos_right _ hg
  have cl : c ≤ i := by
    have := Nat.le_mul_of_pos_left c hg
    omega
  -- the number of whole rounds left
  have e4 : s - 1 - i + (i + 1) * g.length - s = g.length - 1 - r + (i - c) * g.length := by
    have : (i - c) * g.length = i * g.length - c * g.length := Nat.sub_mul _ _ _
    have le2 : c * g.length ≤ i * g.length := Nat.mul_le_mul_right _ cl
    omega
  rw [e4, Nat.add_mul_mod_self_right, Nat.mod_eq_of_lt (by omega)]
theorem back_zero (hg : 0 < g.length) : back g 0 = lst g := by
  unfold back lst
  rw [Nat.zero_mod, Nat.sub_zero]
/-- what stands s places ahead of the last told value, by the gains -/
theorem spr_told (h : Spr t g s) : ∀ i, i ≤ s → at' t (t.length - 1 - s + i) = lst (cutT t s) + acc (fun k => back g (s - 1 - k)) i
  | 0, _ => by
    have := h.1
    show _ = lst (cutT t s) + 0
    unfold lst
    rw [cutT_len h.1, Int.add_zero]
    unfold cutT
    rw [at_take (by omega), Nat.add_zero, show t.length - s - 1 = t.length - 1 - s by omega]
  | i + 1, hi => by
    have h1 := h.1
    have a := spr_told h i (by omega)
    have b := h.2 (s - 1 - i) (by omega)
    rw [show t.length - 1 - (s - 1 - i) = t.length - 1 - s + (i + 1) by omega, show t.length - 1 - s + (i + 1) - 1 = t.length - 1 - s + i by omega, a] at b
    show _ = lst (cutT t s) + (acc _ i + back g (s - 1 - i))
    omega
/-- the same values -/
theorem val_cut (hg : 0 < g.length) (h : Spr t g s) (n : Nat) : val (cutT t s) (cutG g s) n = val t g n := by
  have h1 := h.1
  have len := cutT_len (t := t) h1
  rcases Nat.lt_or_ge n (t.length - s) with a | a
  · rw [val_lt (by omega), val_lt (by omega)]
    unfold cutT
    rw [at_take a]
  · obtain ⟨k, rfl⟩ : ∃ k, n = t.length - s - 1 + k := ⟨n - (t.length - s - 1), by omega⟩
    have v := val_ge (g := cutG g s) (t := cutT t s) (by omega) k
    rw [len] at v
    rw [v]
    have b : ∀ i, i < s → dif (cutG g s) i = back g (s - 1 - i) := fun i hi => by
      have := back_cut (g := g) (s := s) hg (i := s - 1 - i) (by omega)
      rwa [show s - 1 - (s - 1 - i) = i by omega] at this
    rcases Nat.lt_or_ge k (s + 1) with c | c
    · rw [val_lt (by omega), show t.length - s - 1 + k = t.length - 1 - s + k by omega, spr_told h k (by omega), acc_congr k fun i hi => b i (by omega)]
    · obtain ⟨j, rfl⟩ : ∃ j, k = s + j := ⟨k - s, by omega⟩
      rw [acc_add, acc_congr s b, acc_congr (e := dif g) j fun i _ => by rw [Nat.add_comm s i]; exact dif_cut hg i]
      have l := spr_told h s (Nat.le_refl s)
      rw [show t.length - 1 - s + s = t.length - 1 by omega] at l
      rw [show t.length - s - 1 + (s + j) = t.length - 1 + j by omega, val_ge (by omega)]
      unfold lst at l ⊢
      rw [l]
      omega
theorem least_cut (hg : 0 < g.length) (h : Least (dif g) g.length) : Least (dif (cutG g s)) (cutG g s).length := by
  refine ⟨by rw [cutG_len]; exact hg, dif_pd, fun q hq hp => ?_⟩
  rw [cutG_len]
  refine h.le q hq fun k => ?_
  have := hp (k + s)
  rw [show k + s + q = k + q + s by omega, dif_cut hg, dif_cut hg] at this
  exact this
/-- the search of told values has come to its end: the normal form -/
theorem nf_cut (hg : 0 < g.length) (l : Least (dif g) g.length) (h : Spr t g s) (e : s = t.length - 1 ∨ at' t (t.length - 1 - s) - at' t (t.length - 1 - s - 1) ≠ back g s) : NF (cutT t s) (cutG g s) := by
  have h1 := h.1
  have len := cutT_len (t := t) h1
  refine ⟨by omega, by rw [cutG_len]; exact hg, least_cut hg l, ?_⟩
  rcases e with e | e
  · left
    omega
  · by_cases z : t.length - s = 1
    · left
      omega
    · right
      rw [len]
      unfold cutT
      rw [at_take (by omega), at_take (by omega), show t.length - s - 1 = t.length - 1 - s by omega, show t.length - s - 2 = t.length - 1 - s - 1 by omega]
      have q : lst (cutG g s) = back g s := by
        have a := back_cut (g := g) (s := s + 1) hg (i := s) (Nat.lt_succ_self s)
        have r : dif (cutG g (s + 1)) (s + 1 - 1 - s) = dif (cutG g s) (g.length - 1) := by
          rw [show s + 1 - 1 - s = 0 by omega]
          have p := (dif_pd (g := cutG g (s + 1))).mul (s + 1) 0
          rw [cutG_len] at p
          have m : s + 1 ≤ (s + 1) * g.length := Nat.le_mul_of_pos_right _ hg
          rw [← p, dif_cut' hg (by omega)]
          have p2 := (dif_pd (g := cutG g s)).mul s (g.length - 1)
          rw [cutG_len] at p2
          have m2 : s ≤ s * g.length := Nat.le_mul_of_pos_right _ hg
          have e3 : (s + 1) * g.length = s * g.length + g.length := by rw [Nat.add_mul, Nat.one_mul]
          rw [← p2, dif_cut' hg (by omega)]
          congr 1
          omega
        rw [r, dif_lt (by rw [cutG_len]; omega)] at a
        unfold lst
        rw [cutG_len]
        exact a
      rw [q]
      exact e
end
end Gr
namespace Gr
/-! ### told values and gains of a sequence that rises in rounds at last -/
section
variable {f : Nat → Int} {b l : Nat}
def pT (f : Nat → Int) (b : Nat) : List Int := (List.range b).map f
def pG (f : Nat → Int) (b l : Nat) : List Int := (List.range l).map fun k => f (b + k) - f (b + k - 1)
theorem pT_len : (pT f b).length = b := by unfold pT; rw [List.length_map, List.length_range]
theorem pG_len : (pG f b l).length = l := by unfold pG; rw [List.length_map, List.length_range]
theorem at_map_range {h : Nat → Int} {n i : Nat} (hi : i < n) : at' ((List.range n).map h) i = h i := by
  unfold at'
  rw [List.getD_eq_getElem?_getD, List.getElem?_map, List.getElem?_range hi]
  rfl
theorem val_parted (hb : 0 < b) (hl : 0 < l) (h : ∀ n, b - 1 ≤ n → f (n + l + 1) - f (n + l) = f (n + 1) - f n) (n : Nat) : val (pT f b) (pG f b l) n = f n := by
  have lt := pT_len (f := f) (b := b)
  have lg := pG_len (f := f) (b := b) (l := l)
  rcases Nat.lt_or_ge n b with a | a
  · rw [val_lt (by omega)]
    exact at_map_range a
  · obtain ⟨k, rfl⟩ : ∃ k, n = b - 1 + k := ⟨n - (b - 1), by omega⟩
    have v := val_ge (t := pT f b) (g := pG f b l) (by omega) k
    rw [lt] at v
    rw [v]
    have d : ∀ i, dif (pG f b l) i = f (b - 1 + i + 1) - f (b - 1 + i) := fun i => by
      unfold dif
      rw [lg]
      have hi : i % l < l := Nat.mod_lt _ hl
      have e : at' (pG f b l) (i % l) = f (b + i % l) - f (b + i % l - 1) := at_map_range hi
      rw [e, show b + i % l = b - 1 + i % l + 1 by omega, Nat.add_sub_cancel]
      have p : Pd (fun i => f (b - 1 + i + 1) - f (b - 1 + i)) l := fun i => by
        have := h (b - 1 + i) (by omega)
        rw [show b - 1 + i + l = b - 1 + (i + l) by omega] at this
        exact this
      exact p.mod i
    have la : lst (pT f b) = f (b - 1) := by
      unfold lst
      rw [lt]
      exact at_map_range (by omega)
    rw [la]
    clear v
    induction k with
    | zero => show f (b - 1) + 0 = f (b - 1 + 0); rw [Int.add_zero, Nat.add_zero]
    | succ k ih =>
      show f (b - 1) + (acc _ k + dif (pG f b l) k) = f (b - 1 + (k + 1))
      have ih' : f (b - 1) + acc (dif (pG f b l)) k = f (b - 1 + k) := by
        rcases Nat.lt_or_ge (b - 1 + k) b with c | c
        · have : k = 0 := by omega
          subst this
          show f (b - 1) + 0 = f (b - 1 + 0)
          rw [Int.add_zero, Nat.add_zero]
        · exact ih c
      rw [d k, ← Int.add_assoc, ih', ← Nat.add_assoc]
      omega
end
/-! ### sums -/
section
variable {t g t' g' : List Int}
/-- rises of a growth come round behind its told values, by each number of which its gains are a divisor -/
theorem rise_pd (h0 : 0 < t.length) {l n : Nat} (hd : g.length ∣ l) (hn : t.length - 1 ≤ n) : val t g (n + l + 1) - val t g (n + l) = val t g (n + 1) - val t g n := by
  have a := rise_ge (g := g) h0 (n := n + l) (by omega)
  have b := rise_ge (g := g) h0 hn
  unfold rise at a b
  rw [a, b, show n + l - (t.length - 1) = n - (t.length - 1) + l by omega]
  obtain ⟨c, rfl⟩ := hd
  rw [Nat.mul_comm]
  exact dif_pd.mul c _
theorem val_sum (h0 : 0 < t.length) (h0' : 0 < t'.length) {b l : Nat} (hb : t.length ≤ b) (hb' : t'.length ≤ b) (hl : 0 < l) (hd : g.length ∣ l) (hd' : g'.length ∣ l) (n : Nat) :
    val (pT (fun n => val t g n + val t' g' n) b) (pG (fun n => val t g n + val t' g' n) b l) n = val t g n + val t' g' n := by
  refine val_parted (by omega) hl (fun n hn => ?_) n
  have a := rise_pd (g := g) h0 (l := l) (n := n) hd (by omega)
  have c := rise_pd (g := g') h0' (l := l) (n := n) hd' (by omega)
  omega
/-! ### each value so many times -/
def sc (k : Int) (l : List Int) : List Int := l.map fun x => k * x
theorem sc_len {k : Int} {l : List Int} : (sc k l).length = l.length := List.length_map _
theorem sc_at {k : Int} {l : List Int} {i : Nat} : at' (sc k l) i = k * at' l i := by
  unfold at' sc
  rw [List.getD_eq_getElem?_getD, List.getD_eq_getElem?_getD, List.getElem?_map]
  cases l[i]? with
  | none => show (0 : Int) = k * 0; rw [Int.mul_zero]
  | some x => rfl
theorem acc_sc {k : Int} {d : Nat → Int} : ∀ n, acc (fun i => k * d i) n = k * acc d n
  | 0 => (Int.mul_zero k).symm
  | n + 1 => by
    show acc _ n + k * d n = k * (acc d n + d n)
    rw [acc_sc n, Int.mul_add]
theorem val_sc {k : Int} {n : Nat} : val (sc k t) (sc k g) n = k * val t g n := by
  have d : dif (sc k g) = fun i => k * dif g i := funext fun i => by unfold dif; rw [sc_len, sc_at]
  unfold val
  rw [sc_len]
  by_cases h : n < t.length
  · rw [if_pos h, if_pos h, sc_at]
  · rw [if_neg h, if_neg h, d, acc_sc, Int.mul_add]
    unfold lst
    rw [sc_len, sc_at]
/-! ### begun later -/
/-- the gains turned the other way -/
def rot (g : List Int) (r : Nat) : List Int := g.drop r ++ g.take r
theorem rot_len {r : Nat} (h : r ≤ g.length) : (rot g r).length = g.length := by
  unfold rot
  rw [List.length_append, List.length_drop, List.length_take]
  omega
theorem dif_rot {r : Nat} (h : r < g.length) (k : Nat) : dif (rot g r) k = dif g (k + r) := by
  unfold dif
  rw [rot_len (Nat.le_of_lt h), Nat.add_mod, Nat.mod_eq_of_lt h]
  have hk : k % g.length < g.length := Nat.mod_lt _ (by omega)
  generalize k % g.length = q at hk ⊢
  unfold rot
  rw [at_app, List.length_drop]
  rcases Nat.lt_or_ge (q + r) g.length with c | c
  · rw [Nat.mod_eq_of_lt c, if_pos (by omega), at_drop, Nat.add_comm]
  · rw [Nat.mod_eq_sub_mod c, Nat.mod_eq_of_lt (by omega), if_neg (by omega), at_take (by omega)]
    congr 1
    omega
/-- still within the told values -/
theorem val_shift1 {m : Nat} (hm : m < t.length) (n : Nat) : val (t.drop m) g n = val t g (n + m) := by
  have l : (t.drop m).length = t.length - m := List.length_drop
  rcases Nat.lt_or_ge n (t.length - m) with a | a
  · rw [val_lt (by omega), val_lt (by omega), at_drop, Nat.add_comm]
  · obtain ⟨k, rfl⟩ : ∃ k, n = t.length - m - 1 + k := ⟨n - (t.length - m - 1), by omega⟩
    have v := val_ge (t := t.drop m) (g := g) (by omega) k
    rw [l] at v
    rw [v, show t.length - m - 1 + k + m = t.length - 1 + k by omega, val_ge (by omega)]
    unfold lst
    rw [l, at_drop, show m + (t.length - m - 1) = t.length - 1 by omega]
/-- behind them -/
theorem val_shift2 {m : Nat} (h0 : 0 < t.length) (hg : 0 < g.length) (hm : t.length ≤ m) (n : Nat) : val [val t g m] (rot g ((m - t.length + 1) % g.length)) n = val t g (n + m) := by
  have hr : (m - t.length + 1) % g.length < g.length := Nat.mod_lt _ hg
  have v := val_ge (t := [val t g m]) (g := rot g ((m - t.length + 1) % g.length)) Nat.one_pos n
  rw [show [val t g m].length - 1 + n = n from Nat.zero_add n] at v
  rw [v, show n + m = t.length - 1 + (m - t.length + 1 + n) by omega, val_ge h0, acc_add]
  have e : lst [val t g m] = lst t + acc (dif g) (m - t.length + 1) := by
    show val t g m = _
    have := val_ge (g := g) h0 (m - t.length + 1)
    rwa [show t.length - 1 + (m - t.length + 1) = m by omega] at this
  rw [e, Int.add_assoc]
  congr 2
  refine acc_congr n fun k _ => ?_
  rw [dif_rot hr]
  have p := (dif_pd (g := g)).mul ((m - t.length + 1) / g.length) (k + (m - t.length + 1) % g.length)
  have q := Nat.mod_add_div (m - t.length + 1) g.length
  rw [Nat.mul_comm] at q
  rw [← p]
  congr 1
  omega
end
end Gr
namespace K09
open PySem L2 Evl
def top (i : Nat) : Stmt := PySem.Challenge.pw_layerpost_k09_letters_framed_and_read_ba.main.body.getD i (.Pass ⟨0, 0, 0, 0⟩)
abbrev sPen : Stmt := top 28
abbrev sDraw : Stmt := top 29
abbrev sPick : Stmt := top 30
/-! ### the pen: a list of the cells, the place, the rest -/
def PenAt (H : Hp) (p l : Addr) (cells : List Int) (m : Nat) : Prop :=
  ∃ (k : Nat) (r : Int), H p = some (.lst [.ref l, .int (k : Int), .int r]) ∧ H l = some (.lst (cells.map V.int)) ∧ k ≤ m
/-- all but p is as it was -/
def Keep (p : Addr) (H H' : Hp) : Prop := ∀ b o, H b = some o → b ≠ p → H' b = some o
theorem Keep.of_ex {p : Addr} {H H' : Hp} (e : Ex H H') : Keep p H H' := fun b o h _ => e b o h
theorem Keep.trans {p : Addr} {H H1 H2 : Hp} (a : Keep p H H1) (b : Keep p H1 H2) : Keep p H H2 := fun c o h n => b c o (a c o h n) n
theorem Keep.upd {p : Addr} {H : Hp} {o : HO} : Keep p H (upd H p o) := fun b u h n => by rw [upd_ne n]; exact h
theorem PenAt.mono {H H' : Hp} {p l : Addr} {cells : List Int} {m n : Nat} (h : PenAt H p l cells m) (e : Ex H H') (hm : m ≤ n) : PenAt H' p l cells n := by
  obtain ⟨k, r, h1, h2, h3⟩ := h
  exact ⟨k, r, e _ _ h1, e _ _ h2, by omega⟩
theorem PenAt.ne {H : Hp} {p l : Addr} {cells : List Int} {m : Nat} (h : PenAt H p l cells m) : l ≠ p := by
  obtain ⟨k, r, h1, h2, _⟩ := h
  refine ne_of h2 h1 ?_
  intro z
  have z2 := HO.lst.inj z
  cases cells with
  | nil => exact absurd z2 (by simp)
  | cons c cs => exact absurd (List.cons.inj z2).1 (by intro q; cases q)
structure Glb (mg : Str → Option Value) : Prop where
  int : mg "int" = none
  abs : mg "abs" = none
  len : mg "len" = none
  list : mg "list" = none
def spDraw : Sp := fun vs H Q _ => ∃ (p l : Addr) (cells : List Int) (m : Nat) (many : Int), vs = [.ref p, .int many] ∧ PenAt H p l cells m ∧ m ≤ 50000 ∧ cells.length ≤ 63 ∧ 0 < many ∧ many ≤ 1000000000 ∧
  ∀ d H', 0 ≤ d → d < many → PenAt H' p l cells (m + 1) → Keep p H H' → Q (.int d) H'
theorem scDraw : FnScope ["_law_pen_here", "_law_many", "_law_digit", "_law_begun", "_law_cell", "_law_great", "_law_mixed"] ["_law_pen_here", "_law_many"] (defScope sDraw) := ⟨rfl, rfl, rfl, by decide +kernel, rfl, by decide +kernel, by decide +kernel⟩
theorem rc_int {i : Int} {H : Hp} : RC (fun xs H Q => (∃ i, xs = [V.int i] ∧ Q (.int i) H) ∨ ∃ k, xs = [V.bl k] ∧ Q (.int (if k then 1 else 0)) H) [.int i] H (.int i) := fun H1 _ _ q => .inl ⟨i, rfl, q H1 (Ex.refl H1)⟩
theorem rc_intB {b : Bool} {H : Hp} : RC (fun xs H Q => (∃ i, xs = [V.int i] ∧ Q (.int i) H) ∨ ∃ k, xs = [V.bl k] ∧ Q (.int (if k then 1 else 0)) H) [.bl b] H (.int (if b then 1 else 0)) := fun H1 _ _ q => .inr ⟨b, rfl, q H1 (Ex.refl H1)⟩
theorem rc_abs {i : Int} {H : Hp} : RC (fun xs H Q => ∃ i, xs = [V.int i] ∧ Q (.int (if i < 0 then -i else i)) H) [.int i] H (.int (if i < 0 then -i else i)) := fun H1 _ _ q => ⟨i, rfl, q H1 (Ex.refl H1)⟩
theorem rc_len {K : PySem.W.Frag} {p : Addr} {xs : List V} {H : Hp} (h : SqL K H p xs) : RC (fun xs H Q => ∃ p ys, xs = [V.ref p] ∧ (SqL K H p ys ∨ SqT K H p ys) ∧ Q (.int ys.length) H) [.ref p] H (.int (xs.length : Int)) := fun H1 e _ q => ⟨p, xs, rfl, .inl (ex_l e h), q H1 (Ex.refl H1)⟩
theorem dpAll_ints {K : PySem.W.Frag} {H : Hp} : ∀ (ns : List Int), DpAll K H (ns.map V.int) (ns.map PyData.int)
  | [] => .nil
  | n :: ns => .cons (.int n) (dpAll_ints ns)
section
variable {P : Program} {w : World} {K : PySem.W.Frag} {mg : Str → Option Value} {base : Heap}
theorem shaped_nil : SeqAt.shaped (.list []) = true := by decide +kernel
theorem canLay_ints : ∀ (ns : List Int), PyData.canLayAll0 (ns.map PyData.int) = true
  | [] => by simp [PyData.canLayAll0]
  | n :: ns => by simp [PyData.canLayAll0, PyData.canLay0, canLay_ints ns]
theorem depth_ints : ∀ (ns : List Int), PyData.depthAll (ns.map PyData.int) = 0
  | [] => rfl
  | n :: ns => by simp [PyData.depthAll, PyData.depth, depth_ints ns]
theorem shaped_ints (ns : List Int) : SeqAt.shaped (.list (ns.map PyData.int)) = true := by
  unfold SeqAt.shaped
  simp [PyData.canLay0, canLay_ints, PyData.depth, depth_ints]
/-- xs != [], xs a list of ints -/
theorem ev_neNil {σ : L2.St} {H : Hp} {ta : TE} {l : Addr} {cells : List Int} (ha : Ev ta σ H (.ref l)) (h : SqL K H l (cells.map V.int)) :
    ∃ b : Bool, Ev (tOp (rNeD K) ta (tLst tNil)) σ H (.bl b) ∧ (b = true → cells ≠ []) := by
  refine ⟨!(PyData.eqv (.list (cells.map PyData.int)) (.list [])), ev_opL (xs := []) ha (el_lst ea_nil (by decide)) (fun p H1 h1 e => ?_), ?_⟩
  · exact fun H2 e2 Q q => ⟨_, _, .lst (ex_l (e.trans e2) h) (dpAll_ints cells), .lst (sq_of (e2 _ _ h1)) .nil, shaped_ints cells, shaped_nil, q H2 (Ex.refl H2)⟩
  · intro hb hc
    subst hc
    exact absurd hb (by decide +kernel)
end
end K09
namespace K09
open PySem L2 Evl
section
variable {P : Program} {w : World} {K : PySem.W.Frag} {mg : Str → Option Value} {base : Heap}
theorem emod_bd (a b : Int) (h : 0 < b) : 0 ≤ a % b ∧ a % b < b := ⟨Int.emod_nonneg a (by omega), Int.emod_lt_of_pos a h⟩
theorem mul_bd {a b A B : Int} (a0 : 0 ≤ a) (aA : a ≤ A) (b0 : 0 ≤ b) (bB : b ≤ B) : 0 ≤ a * b ∧ a * b ≤ A * B := ⟨Int.mul_nonneg a0 b0, Int.mul_le_mul aA bB b0 (by omega)⟩
/-- the last part of a draw: the mixing -/
theorem ok_draw {f : Addr} {fd : FuncData} (F : Fun K "_law_draw" "_law_draw" sDraw f fd) (T : Glb mg) : FnOk P w K mg base CX0 1 f fd ["_law_pen_here", "_law_many"] spDraw := by
  refine F.ok scDraw (fun vs H Q E h => ?_) (fun cdv A outer s H vs Q E hr h => ?_)
  · obtain ⟨p, l, cells, m, many, rfl, _⟩ := h
    rfl
  · obtain ⟨p, l, cells, m, many, rfl, hp, hm, h63, hm0, hm1, k⟩ := h
    refine ⟨_, pss_cons (ps_if (pt_cmpR op_gt (pe_ix ix_list (pv 0) pe_int (fun _ _ => rfl)) pe_int (nomark _)) (pss_cons (ps_set (i := 2) scDraw.nd rfl (.inl rfl) (pe_op op_mod (pe_callTy call_int1 (by rfl) T.int (by decide +kernel) (pa_cons (pe_ix ix_list (pv 0) pe_int (fun _ _ => rfl)) pa_nil)) (pv 1)))
      (pss_cons (ps_asg (pe_op op_fdiv (pe_callTy call_int1 (by rfl) T.int (by decide +kernel) (pa_cons (pe_ix ix_list (pv 0) pe_int (fun _ _ => rfl)) pa_nil)) (pv 1)) (pg_sub (pv 0) pe_int set_list))
      (pss_one (ps_ret (pv 2))))) pss_nil)
      (pss_cons (ps_set (i := 3) scDraw.nd rfl (.inl rfl) (pe_ix ix_list (pv 0) pe_int (fun _ _ => rfl)))
      (pss_cons (ps_asg (pe_op op_add (pv 3) pe_int) (pg_sub (pv 0) pe_int set_list))
      (pss_cons (ps_set (i := 4) scDraw.nd rfl (.inl rfl) (pe_op op_add (pe_op op_mul pe_int (pv 3)) pe_int))
      (pss_cut (ps_if (pt_cmpR (op_neD hr.units) (pe_ix ix_list (pv 0) pe_int (fun _ _ => rfl)) (pe_lst pa_nil) (nomark _)) (pss_one (ps_set (i := 4) scDraw.nd rfl (.inl rfl) (pe_ix ix_list (pe_ix ix_list (pv 0) pe_int (fun _ _ => rfl)) (pe_op op_mod (pe_callTy call_int1 (by rfl) T.int (by decide +kernel) (pa_cons (pv 3) pa_nil)) (pe_callB call_len_seq (by rfl) T.len PySem.boot_len (pa_cons (pe_ix ix_list (pv 0) pe_int (fun _ _ => rfl)) pa_nil))) (fun _ _ => rfl)))) pss_nil)
      (pss_cons (ps_if (PW.pt (pw_and (pt_cmpR op_lt (pv 3) (pe_callB call_len_seq (by rfl) T.len PySem.boot_len (pa_cons (pe_ix ix_list (pv 0) pe_int (fun _ _ => rfl)) pa_nil)) (nomark _)) (pw_and1 (pt_cmpR op_ge (pe_callB call_abs (by rfl) T.abs (by decide +kernel) (pa_cons (pv 4) pa_nil)) (pe_op op_pow pe_int pe_int) (nomark _))))) (pss_cons (ps_set (i := 5) scDraw.nd rfl (.inl rfl) (pe_op op_add (pe_op op_mul pe_int (pe_op op_sub (pe_callB call_abs (by rfl) T.abs (by decide +kernel) (pa_cons (pv 4) pa_nil)) (pe_op op_pow pe_int pe_int))) (pe_callTy call_int1 (by rfl) T.int (by decide +kernel) (pa_cons (pe_cmpR op_lt (pv 4) pe_int (nomark _)) pa_nil))))
      (pss_cons (ps_asg (pe_op op_fdiv (pe_callTy call_int1 (by rfl) T.int (by decide +kernel) (pa_cons (pv 5) pa_nil)) (pv 1)) (pg_sub (pv 0) pe_int set_list))
      (pss_one (ps_ret (pe_op op_mod (pe_callTy call_int1 (by rfl) T.int (by decide +kernel) (pa_cons (pv 5) pa_nil)) (pv 1)))))) pss_nil)
      (pss_cons (ps_set (i := 6) scDraw.nd rfl (.inl rfl) (pe_op op_mod (pe_callTy call_int1 (by rfl) T.int (by decide +kernel) (pa_cons (pe_op op_pow (pe_op op_add (pe_op op_add (pe_op op_mod (pe_callTy call_int1 (by rfl) T.int (by decide +kernel) (pa_cons (pv 4) pa_nil)) pe_int) (pe_op op_mul pe_int (pv 3))) pe_int) pe_int) pa_nil)) pe_int))
      (pss_cons (ps_set (i := 6) scDraw.nd rfl (.inl rfl) (pe_op op_add (pe_op op_add (pe_op op_mul (pv 6) (pe_op op_add (pe_op op_mul pe_int (pv 3)) pe_int)) (pe_op op_mul (pe_op op_mul pe_int (pv 3)) (pv 3))) pe_int))
      (pss_one (ps_ret (pe_op op_mod (pe_callTy call_int1 (by rfl) T.int (by decide +kernel) (pa_cons (pe_op op_fdiv (pe_op op_mod (pe_callTy call_int1 (by rfl) T.int (by decide +kernel) (pa_cons (pe_op op_pow (pv 6) pe_int) pa_nil)) pe_int) pe_int) pa_nil)) (pv 1))))))))))), ?_⟩
    have hpl := hp.ne
    obtain ⟨n, r, h1, h2, hn⟩ := hp
    have many1 : many < 1073741824 := by omega
    refine q_when (et_test (ev_op (ev_op (ev_var rfl) ev_c (rv_ixL (sq_of h1) (atI_nat (j := 2) rfl))) ev_c rv_I0)) (fun hb H1 e1 => ?_) (fun hb H1 e1 => ?_)
    · -- the rest gives a digit
      have r0 : 0 < r := of_decide_eq_true hb
      have g1 := e1 _ _ h1
      refine q_asg (ev_op (ev_cb (ea_cons (ev_op (ev_var rfl) ev_c (rv_ixL (sq_of g1) (atI_nat (j := 2) rfl))) ea_nil) rc_int) (ev_var rfl) (rv_I hm0)) fun H2 e2 => ?_
      have g2 := e2 _ _ g1
      refine q_setL (j := 2) g2 (ev_op (ev_cb (ea_cons (ev_op (ev_var rfl) ev_c (rv_ixL (sq_of g2) (atI_nat (j := 2) rfl))) ea_nil) rc_int) (ev_var rfl) (rv_I ⟨hm0, many1⟩)) (ev_var rfl) ev_c (by show 2 < 3; decide) fun H3 e3 => ?_
      refine s_ret (ev_var rfl) fun H4 e4 => ?_
      have key : ∀ b o, H b = some o → b ≠ p → H4 b = some o := fun b o hb hbp => e4 b o (by rw [upd_ne hbp]; exact e3 _ _ (e2 _ _ (e1 _ _ hb)))
      exact k _ H4 (emod_bd _ _ hm0).1 (emod_bd _ _ hm0).2 ⟨n, _, e4 _ _ upd_same, key _ _ h2 hpl, by omega⟩ key
    · -- at = pen[1]; pen[1] = at + 1
      have g1 := e1 _ _ h1
      refine q_asg (ev_op (ev_var rfl) ev_c (rv_ixL (sq_of g1) (atI_nat (j := 1) rfl))) fun H2 e2 => ?_
      have g2 := e2 _ _ g1
      refine q_setL (j := 1) g2 (ev_op (ev_var rfl) ev_c rv_I0) (ev_var rfl) ev_c (by show 1 < 3; decide) fun H3 e3 => ?_
      have g3 := e3 _ _ g2
      have hl3 : H3 l = some (.lst (cells.map V.int)) := e3 _ _ (e2 _ _ (e1 _ _ h2))
      have kp3 : ∀ b o, H b = some o → b ≠ p → (upd H3 p (.lst ([V.ref l, V.int (n : Int), V.int r].set 1 (V.int ((n : Int) + 1))))) b = some o := fun b o hb hbp => by
        rw [upd_ne hbp]; exact e3 _ _ (e2 _ _ (e1 _ _ hb))
      generalize hH : upd H3 p (.lst ([V.ref l, V.int (n : Int), V.int r].set 1 (V.int ((n : Int) + 1)))) = J at kp3
      have j1 : J p = some (.lst [V.ref l, V.int ((n + 1 : Nat) : Int), V.int r]) := by
        rw [← hH, upd_same]
        rfl
      have j2 : J l = some (.lst (cells.map V.int)) := kp3 _ _ h2 hpl
      have hn0 : (0 : Int) ≤ (n : Int) ∧ (n : Int) ≤ 50000 := ⟨by omega, by omega⟩
      -- cell = 53791 * at + 4325
      refine q_asg (ev_op (ev_op ev_c (ev_var rfl) (rv_I (.inl ⟨by decide, by decide⟩))) ev_c rv_I0) fun H4 e4 => ?_
      have j41 := e4 _ _ j1
      have j42 := e4 _ _ j2
      -- if pen[0] != []: cell = ..
      obtain ⟨bn, evn, hne⟩ := ev_neNil (K := K) (σ := [some (V.ref p), some (V.int many), none, some (V.int (n : Int)), some (V.int (78176 * (n : Int) + 1238)), none, none]) (H := H4) (cells := cells) (l := l)
        (ta := tOp (rIxL K) (tVar 0) (tC (V.int 0))) (ev_op (ev_var rfl) ev_c (rv_ixL (sq_of j41) (atI_nat (j := 0) rfl))) (sq_of j42)
      refine q_cut (M := fun σ' H' => ∃ c : Int, σ' = [some (V.ref p), some (V.int many), none, some (V.int (n : Int)), some (V.int c), none, none] ∧ Ex H4 H') (s_when (et_test evn) (fun hb H5 e5 => ?_) (fun hb H5 e5 => ⟨_, rfl, e5⟩)) ?_
      · have hlen : 0 < cells.length := List.length_pos_iff.mpr (hne hb)
        have hi : 0 ≤ (n : Int) % (cells.length : Int) ∧ (n : Int) % (cells.length : Int) < (cells.length : Int) := emod_bd _ _ (by omega)
        obtain ⟨i, ei⟩ := Int.eq_ofNat_of_zero_le hi.1
        have il : i < cells.length := by have := hi.2; omega
        have lm : ((cells.map V.int).length : Int) = (cells.length : Int) := by rw [List.length_map]
        refine s_asg (v := V.int (cells[i])) (ev_op (y := V.int (i : Int)) (ev_op (ev_var rfl) ev_c (rv_ixL (sq_of (e5 _ _ j41)) (atI_nat (j := 0) rfl)))
          (ev_is (ev_op (ev_cb (ea_cons (ev_var rfl) ea_nil) rc_int) (ev_cb (ea_cons (ev_op (ev_var rfl) ev_c (rv_ixL (sq_of (e5 _ _ j41)) (atI_nat (j := 0) rfl))) ea_nil) (rc_len (sq_of (e5 _ _ j42)))) (rv_I (by rw [lm]; omega))) (by show V.int ((n : Int) % ((cells.map V.int).length : Int)) = _; rw [lm, ei]))
          (rv_ixL (sq_of (e5 _ _ j42)) (atI_nat (by rw [List.getElem?_map, List.getElem?_eq_getElem il]; rfl)))) fun H6 e6 => ⟨_, rfl, e5.trans e6⟩
      rintro σ' H5 ⟨c, rfl, e5⟩
      have k1 := e5 _ _ j41
      have k2 := e5 _ _ j42
      have kp5 : ∀ b o, H b = some o → b ≠ p → H5 b = some o := fun b o hb hbp => e5 _ _ (e4 _ _ (kp3 _ _ hb hbp))
      have lm : ((cells.map V.int).length : Int) = (cells.length : Int) := by rw [List.length_map]
      refine q_when (et_and (et_test (ev_op (ev_var rfl) (ev_cb (ea_cons (ev_op (ev_var rfl) ev_c (rv_ixL (sq_of k1) (atI_nat (j := 0) rfl))) ea_nil) (rc_len (sq_of k2))) rv_I0))
        (fun _ => et_test (ev_op (ev_cb (ea_cons (ev_var rfl) ea_nil) rc_abs) (ev_op ev_c ev_c (rv_I ⟨by decide, by decide, by decide⟩)) rv_I0))) (fun hb H6 e6 => ?_) (fun hb H6 e6 => ?_)
      · -- a great cell
        refine q_asg (ev_op (ev_op ev_c (ev_op (ev_cb (ea_cons (ev_var rfl) ea_nil) rc_abs) (ev_op ev_c ev_c (rv_I ⟨by decide, by decide, by decide⟩)) rv_I0) (rv_I (.inl ⟨by decide, by decide⟩))) (ev_cb (ea_cons (ev_op (ev_var rfl) ev_c rv_I0) ea_nil) rc_intB) rv_I0) fun H7 e7 => ?_
        have k7 := e7 _ _ (e6 _ _ k1)
        refine q_setL (j := 2) k7 (ev_op (ev_cb (ea_cons (ev_var rfl) ea_nil) rc_int) (ev_var rfl) (rv_I ⟨hm0, many1⟩)) (ev_var rfl) ev_c (by show 2 < 3; decide) fun H8 e8 => ?_
        refine s_ret (ev_op (ev_cb (ea_cons (ev_var rfl) ea_nil) rc_int) (ev_var rfl) (rv_I hm0)) fun H9 e9 => ?_
        have key : ∀ b o, H b = some o → b ≠ p → H9 b = some o := fun b o hb hbp => e9 _ _ (by rw [upd_ne hbp]; exact e8 _ _ (e7 _ _ (e6 _ _ (kp5 _ _ hb hbp))))
        exact k _ H9 (emod_bd _ _ hm0).1 (emod_bd _ _ hm0).2 ⟨n + 1, _, e9 _ _ upd_same, key _ _ h2 hpl, by omega⟩ key
      · -- mixed
        have b1 := emod_bd c 2147483587 (by decide)
        refine q_asg (ev_op (ev_cb (ea_cons (ev_op (ev_op (ev_op (ev_op (ev_cb (ea_cons (ev_var rfl) ea_nil) rc_int) ev_c (rv_I (by decide))) (ev_op ev_c (ev_var rfl) (rv_I (.inl ⟨by decide, by decide⟩))) rv_I0) ev_c rv_I0) ev_c
          (rv_I ⟨by decide, by decide, by omega⟩)) ea_nil) rc_int) ev_c (rv_I (by decide))) fun H7 e7 => ?_
        generalize hx : (c % 2147483587 + 82600 * (n : Int) + 1238) ^ (5 : Int).toNat % 2147483629 = x
        have b2 : 0 ≤ x ∧ x < 2147483629 := by rw [← hx]; exact emod_bd _ _ (by decide)
        have b3 := mul_bd b2.1 (by omega : x ≤ 2147483629) (by omega : 0 ≤ 2 * (n : Int) + 328) (by omega : 2 * (n : Int) + 328 ≤ 100328)
        have b4 := mul_bd (by omega : 0 ≤ 78176 * (n : Int)) (by omega : 78176 * (n : Int) ≤ 3908800000) hn0.1 hn0.2
        refine q_asg (ev_op (ev_op (ev_op (ev_var rfl) (ev_op (ev_op ev_c (ev_var rfl) (rv_I (.inl ⟨by decide, by decide⟩))) ev_c rv_I0) (rv_I (.inl ⟨by omega, by omega⟩)))
            (ev_op (ev_op ev_c (ev_var rfl) (rv_I (.inl ⟨by decide, by decide⟩))) (ev_var rfl) (rv_I (.inl ⟨by omega, by omega⟩))) rv_I0) ev_c rv_I0) fun H8 e8 => ?_
        refine s_ret (ev_op (ev_cb (ea_cons (ev_op (ev_op (ev_cb (ea_cons (ev_op (ev_var rfl) ev_c (rv_I ⟨by decide, by decide, by omega⟩)) ea_nil) rc_int) ev_c (rv_I (by decide))) ev_c (rv_I ⟨by decide, by decide⟩)) ea_nil) rc_int) (ev_var rfl) (rv_I hm0)) fun H9 e9 => ?_
        have k9 := e9 _ _ (e8 _ _ (e7 _ _ (e6 _ _ k1)))
        have key : ∀ b o, H b = some o → b ≠ p → H9 b = some o := fun b o hb hbp => e9 _ _ (e8 _ _ (e7 _ _ (e6 _ _ (kp5 _ _ hb hbp))))
        exact k _ H9 (emod_bd _ _ hm0).1 (emod_bd _ _ hm0).2 ⟨n + 1, _, k9, key _ _ h2 hpl, by omega⟩ key
end
end K09
namespace K09
open PySem L2 Evl
section
variable {P : Program} {w : World} {K : PySem.W.Frag} {mg : Str → Option Value} {base : Heap}
/-! ### _law_pen -/
def spPen (K : PySem.W.Frag) : Sp := fun vs H Q _ => ∃ (a : Addr) (ns : List Int), vs = [.ref a] ∧ SqL K H a (ns.map V.int) ∧ ns.length ≤ 63 ∧
  ∀ p l H', H p = none → H l = none → Ex H H' → PenAt H' p l ns 0 → Q (.ref p) H'
theorem scPen : FnScope ["_law_script"] ["_law_script"] (defScope sPen) := ⟨rfl, rfl, rfl, by decide +kernel, rfl, by decide +kernel, by decide +kernel⟩
theorem cut63 (xs : List V) (h : xs.length ≤ 63) : cutV xs none (some 63) = xs := by
  have e1 : HT.sIx xs.length 0 none = 0 := rfl
  have e2 : HT.sIx xs.length xs.length (some 63) = min 63 xs.length := rfl
  unfold cutV
  rw [e1, e2, List.drop_zero, Nat.sub_zero, Nat.min_eq_right h, List.take_length]
theorem ok_pen {f : Addr} {fd : FuncData} (F : Fun K "_law_pen" "_law_pen" sPen f fd) (T : Glb mg) : FnOk P w K mg base CX0 1 f fd ["_law_script"] (spPen K) := by
  refine F.ok scPen (fun vs H Q E h => ?_) (fun cdv A outer s H vs Q E hr h => ?_)
  · obtain ⟨a, ns, rfl, _⟩ := h
    rfl
  · obtain ⟨a, ns, rfl, hS, hl, k⟩ := h
    refine ⟨_, pss_one (ps_ret (pe_lst (pa_cons (pe_callTy call_list_of (by rfl) T.list (by decide +kernel) (pa_cons (pe_slice sl_list (pv 0) po_none (po_some pe_int)) pa_nil)) (pa_cons pe_int (pa_cons pe_int pa_nil))))), ?_⟩
    have ev := el_sl (K := K) (σ := [some (V.ref a)]) (H := H) (tl := tNoPart) (th := tPart (tC (.int 63))) (ev_var (i := 0) rfl) eo_none (eo_some ev_c) hS
    rw [cut63 _ (by rw [List.length_map]; exact hl)] at ev
    refine ev H (Ex.refl H) _ fun q H1 hq e1 h1 => ?_
    refine ⟨q, _, rfl, .inl (sq_of h1), fun l hl1 => ?_⟩
    refine ⟨by show 3 ≤ sizeLine; decide, fun p hp => ?_⟩
    have hp1 : p ≠ l := fun z => by
      rw [z, upd_same] at hp
      cases hp
    have hpn : H1 p = none := by rw [upd_ne hp1] at hp; exact hp
    exact k p l _ (fresh_back e1 hpn) (fresh_back e1 hl1) ((e1.trans (Ex.new hl1)).trans (Ex.new hp)) ⟨0, 0, upd_same, by rw [upd_ne hp1.symm, upd_same], Nat.le_refl _⟩
/-! ### _law_pick -/
def spPick : Sp := fun vs H Q _ => ∃ (p l a : Addr) (cells : List Int) (m : Nat) (xs : List V), vs = [.ref p, .ref a] ∧ PenAt H p l cells m ∧ m ≤ 50000 ∧ cells.length ≤ 63 ∧ H a = some (.lst xs) ∧ a ≠ p ∧ 0 < xs.length ∧ xs.length ≤ 1000000 ∧
  ∀ (i : Nat) x H', xs[i]? = some x → PenAt H' p l cells (m + 1) → Keep p H H' → Q x H'
theorem scPick : FnScope ["_law_pen_here", "_law_some"] ["_law_pen_here", "_law_some"] (defScope sPick) := ⟨rfl, rfl, rfl, by decide +kernel, rfl, by decide +kernel, by decide +kernel⟩
theorem ok_pick {f fD : Addr} {fd fdD : FuncData} (F : Fun K "_law_pick" "_law_pick" sPick f fd) (T : Glb mg) (FD : Fun K "_law_draw" "_law_draw" sDraw fD fdD) (bD : Binds K fdD ["_law_pen_here", "_law_many"] []) (gD : mg "_law_draw" = some (.ref fD)) :
    FnOk P w K mg base CX0 2 f fd ["_law_pen_here", "_law_some"] spPick := by
  have GD : FnOk P w K mg base CX0 1 fD fdD ["_law_pen_here", "_law_many"] spDraw := ok_draw FD T
  refine F.ok scPick (fun vs H Q E h => ?_) (fun cdv A outer s H vs Q E hr h => ?_)
  · obtain ⟨p, l, a, cells, m, xs, rfl, _⟩ := h
    rfl
  · obtain ⟨p, l, a, cells, m, xs, rfl, hp, hm, h63, ha, hap, hx0, hx1, k⟩ := h
    refine ⟨_, pss_one (ps_ret (pe_ix ix_list (pv 1) (pe_call GD hr (by rfl) gD FD.kp bD .nil pass0 (pa_cons (pv 0) (pa_cons (pe_callB call_len_seq (by rfl) T.len PySem.boot_len (pa_cons (pv 1) pa_nil)) pa_nil))) (fun _ _ => rfl))), ?_⟩
    refine ⟨_, rfl, _, rfl, _, rfl, a, xs, rfl, .inl (sq_of ha), p, l, cells, m, (xs.length : Int), rfl, hp, hm, h63, by omega, by omega, fun d H' d0 d1 hp' kp => ?_⟩
    obtain ⟨i, rfl⟩ := Int.eq_ofNat_of_zero_le d0
    have hi : i < xs.length := by omega
    have ei : xs[i]? = some xs[i] := List.getElem?_eq_getElem hi
    exact ⟨a, xs, (i : Int), xs[i], rfl, rfl, sq_of (kp _ _ ha hap), atI_nat ei, k i _ H' ei hp' kp⟩
end
end K09
namespace L2
open PySem PySem.Spec PyProof.Rows
section
variable {X : Cx} {k : Nat} {f : Addr} {fd : FuncData} {ps ks : List Str} {sp : Sp} {x : Str} {p pos : Pos} {kws : List Keyword} {tk : TA} {g : List Value → List Value → List Value} {gV : List V → List V → List V}
/-- f(k = v, ..), keywords alone -/
theorem pe_callK0 (F : FnOk X.prog X.w X.K X.mg X.base CX0 k f fd ps sp) (hr : Room k X.A) (hg : Gl X x) (hm : X.mg x = some (.ref f)) (hk : PySem.W.keepIn X.K (.ref f) = true) (hb : KBn X.K fd ps 0 ks g gV) (hkw : PK X kws tk)
    (hall : (backToKw pos (keywordEach kws X.env)).all (·.1.isSome) = true := by rfl) (hks : (backToKw pos (keywordEach kws X.env)).filterMap (·.1) = ks := by rfl) (hdb : (x == ("__debug__" : Str)) = false := by decide)
    (hpl : ((backTo pos (starEach [] X.env)).any (·.1) || (backToKw pos (keywordEach kws X.env)).any (·.1.isNone)) = false := by rfl) :
    PE X (.Call (.Name x p) [] kws pos) (tCallN 0 ks.length sp gV E0 tNil tk) := by
  refine ⟨fun pins s σ H Q I h => ?_⟩
  refine wpAny_Call_Name_kw (ld_glob I hg hm ?_ hdb)
  refine PySem.W.callWith_KW0 (h₀ := X.base) I.ok.mod.kin hk hall ?_ hpl
  refine thn (hkw.run pos pins s σ H _ I h) fun ws s2 ⟨zs, H2, I2, rz, l1, l2, q2⟩ => ⟨I2.kIn, ?_⟩
  rw [hks]
  exact run_fnN (us := []) (vs := []) F hr hb pass0 I2 .nil rz rfl l2 q2
/-- how a def without defaults binds keywords alone -/
theorem Fun.kb {K : PySem.W.Frag} {x qual : Str} {st : Stmt} {f : Addr} {fd : FuncData} {ps ks : List Str} (F : Fun K x qual st f fd) (n : Nat) (g : {α : Type} → List α → List α → List α)
    (hrel : ∀ {vs zs : List V} {us ws : List Value}, Vals vs us → Vals zs ws → Vals (g vs zs) (g us ws))
    (h : ∀ (kV doc pm : Value) (an : Option Addr) (cdv ct : Value) (us ws : List Value), us.length = n → ws.length = ks.length → bindArgs (PySem.W.fnOf x qual (defArgs st) (defBody st) (defScope st) .none kV doc pm an cdv ct) ⟨us, ks.zip ws⟩ = pure (ps.zip (g us ws))) :
    KBn K fd ps n ks (fun us ws => g us ws) (fun vs zs => g vs zs) := by
  obtain ⟨oc, od, kV, doc, pm, an, cdv, ct, osl, rfl, lk, hcd⟩ := F.ex
  exact ⟨fun s us ws _ l1 l2 => .of_eq (h kV doc pm an cdv ct us ws l1 l2), fun r1 r2 => hrel r1 r2⟩
end
end L2
namespace K09
open PySem L2 Evl
structure GlbT (mg : Str → Option Value) : Prop where
  inst : mg "isinstance" = none
  int : mg "int" = none
  bool : mg "bool" = none
  str : mg "str" = none
  len : mg "len" = none
theorem tyx_mono {K : PySem.W.Frag} {H H' : Hp} {x : V} {t : Value} (e : Ex H H') (h : TyX K H x t) : TyX K H' x t := by
  cases h with
  | base b =>
    refine .base ?_
    cases b with
    | non => exact .non
    | bl b => exact .bl b
    | int i => exact .int i
    | str x => exact .str x
    | flt x => exact .flt x
    | lst q => exact .lst (e _ _ q)
    | frz q => exact .frz (e _ _ q)
    | tup q => exact .tup (e _ _ q)
    | dK q => exact .dK (e _ _ q)
    | dT q => exact .dT (e _ _ q)
    | ins q a b c d f => exact .ins (e _ _ q) a b c d f
  | byt b => exact .byt b
  | set q => exact .set (e _ _ q)
  | kList q c => exact .kList q c
  | kTuple q c => exact .kTuple q c
  | kDict q c => exact .kDict q c
  | fTuple q => exact .fTuple (e _ _ q)
  | fDict q => exact .fDict (e _ _ q)
theorem rc_isi {K : PySem.W.Frag} {H : Hp} {x : V} {a b : String} {r : Bool} (h : TyX K H x (.type a)) (hk : kitB a b = some r) : RC (rIsi K) [x, .ty b] H (.bl r) := fun H1 e _ q => ⟨x, .ty b, .type a, .type b, r, rfl, .ty b, tyx_mono e h, kit_ty hk, q H1 (Ex.refl H1)⟩
section
variable {P : Program} {w : World} {K : PySem.W.Frag} {mg : Str → Option Value} {base : Heap}
theorem kit_int_int : kitB "int" "int" = some true := by decide +kernel
theorem kit_int_bool : kitB "int" "bool" = some false := by decide +kernel
theorem ev_chain {σ : L2.St} {H : Hp} {ta tb tc : TE} {i j l : Int} {f g : Int → Int → Bool} (ha : Ev ta σ H (.int i)) (hb : Ev tb σ H (.int j)) (hc : Ev tc σ H (.int l)) :
    Ev (tChain (rI0 fun i j => .bl (f i j)) (rI0 fun i j => .bl (g i j)) ta tb tc) σ H (.bl (f i j && g j l)) := fun H1 e Q q =>
  ha H1 e _ fun H2 e2 => hb H2 (e.trans e2) _ fun H3 e3 => ⟨i, j, rfl, rfl, f i j, rfl, by
    cases h : f i j with
    | true =>
      simp only [h, Bool.true_and] at q
      exact hc H3 ((e.trans e2).trans e3) _ fun H4 e4 => ⟨j, l, rfl, rfl, q H4 ((e2.trans e3).trans e4)⟩
    | false =>
      simp only [h, Bool.false_and] at q
      exact q H3 (e2.trans e3)⟩
end
end K09
namespace L2
open PySem PySem.Spec PyProof.Rows
section
variable {X : Cx}
def tNo : TS := fun _ _ _ => False
theorem ps_no {st : Stmt} : PS X st tNo := ⟨fun _ _ _ _ _ _ h => h.elim⟩
end
theorem PI.or {X : Cx} {tg e : Expr} {w1 w2 : TI} (h1 : PI X tg e w1) (h2 : PI X tg e w2) : PI X tg e (fun σ H R => w1 σ H R ∨ w2 σ H R) := ⟨fun pins s σ H R I h => h.elim (h1.run pins s σ H R I) (h2.run pins s σ H R I)⟩
end L2
namespace K09
open PySem L2 Evl Gr
def Sq (K : PySem.W.Frag) (H : Hp) (a : Addr) (xs : List V) : Prop := SqL K H a xs ∨ SqT K H a xs
theorem Sq.mono {K : PySem.W.Frag} {H H' : Hp} {a : Addr} {xs : List V} (e : Ex H H') (h : Sq K H a xs) : Sq K H' a xs := h.elim (fun h => .inl (ex_l e h)) fun h => .inr (ex_t e h)
def vI (g : List Int) : List V := g.map V.int
theorem vI_len {g : List Int} : (vI g).length = g.length := List.length_map _
theorem vI_get {g : List Int} {i : Nat} (h : i < g.length) : (vI g)[i]? = some (V.int (at' g i)) := by
  unfold vI at'
  rw [List.getElem?_map, List.getD_eq_getElem?_getD, List.getElem?_eq_getElem h]
  rfl
theorem rv_ix {K : PySem.W.Frag} {H : Hp} {p : Addr} {xs : List V} {i : Int} {v : V} (h : Sq K H p xs) (ha : atI xs i = some v) : RV (rIx K) (.ref p) (.int i) H v := fun H1 e Q q => by
  rcases h with h | h
  · exact .inl ⟨p, xs, i, v, rfl, rfl, ex_l e h, ha, q H1 (Ex.refl H1)⟩
  · exact .inr (.inl ⟨p, xs, i, v, rfl, rfl, ex_t e h, ha, q H1 (Ex.refl H1)⟩)
theorem rc_lenQ {K : PySem.W.Frag} {p : Addr} {xs : List V} {H : Hp} (h : Sq K H p xs) : RC (fun xs H Q => ∃ p ys, xs = [V.ref p] ∧ (SqL K H p ys ∨ SqT K H p ys) ∧ Q (.int ys.length) H) [.ref p] H (.int (xs.length : Int)) := fun H1 e _ q => ⟨p, xs, rfl, h.mono e, q H1 (Ex.refl H1)⟩
theorem st_asI {K : PySem.W.Frag} {H : Hp} {a : Addr} {g : List Int} (h : H a = some (.lst (vI g))) : Sq K H a (vI g) := .inl (sq_of h)
theorem atI_vI {g : List Int} {i : Nat} (h : i < g.length) : atI (vI g) (i : Int) = some (V.int (at' g i)) := atI_nat (vI_get h)
theorem atI_vlast {g : List Int} (h : 0 < g.length) : atI (vI g) (-1) = some (V.int (at' g (g.length - 1))) := by
  have e : ixN (vI g).length (-1) = some (g.length - 1) := by
    unfold ixN
    rw [vI_len, if_neg (by decide), if_pos (by omega)]
    congr 1
    omega
  unfold atI
  rw [e]
  exact vI_get (by omega)
theorem vI_app {g : List Int} {x : Int} : vI g ++ [V.int x] = vI (g ++ [x]) := by unfold vI; rw [List.map_append]; rfl
theorem vint_inj {x y : Int} : decide (V.int x = V.int y) = decide (x = y) := by
  by_cases h : x = y
  · rw [decide_eq_true h, decide_eq_true (congrArg V.int h)]
  · rw [decide_eq_false h, decide_eq_false fun z => h (V.int.inj z)]
structure GlbS (mg : Str → Option Value) : Prop where
  len : mg "len" = none
  range : mg "range" = none
  tuple : mg "tuple" = none
  list : mg "list" = none
def EvTu (K : PySem.W.Frag) (te : TE) (σ : L2.St) (H : Hp) (xs : List V) : Prop := ∀ H1, Ex H H1 → ∀ Q : VK, (∀ p H2, Ex H1 H2 → SqT K H2 p xs → Q (.ref p) H2) → te σ H1 Q
def rSlQ (K : PySem.W.Frag) : V → Option Int → Option Int → Hp → VK → Prop := fun x lo hi H Q => rSlL K x lo hi H Q ∨ rSlA K x lo hi H Q
theorem sl_seq {X : Cx} : SlR X (rSlQ X.K) := sl_list.or sl_tupA
section
variable {K : PySem.W.Frag} {σ : L2.St} {H : Hp} {te ta tb : TE} {tl th : TO} {a : Addr} {xs ys : List V} {lo hi : Option Int}
theorem cutV_all {n : Nat} (h1 : HT.sIx xs.length 0 lo = 0) (h2 : HT.sIx xs.length xs.length hi = xs.length) : cutV xs lo hi = xs := by
  unfold cutV
  rw [h1, h2, List.drop_zero, Nat.sub_zero, List.take_length]
theorem etu_cut (h : Ev te σ H (.ref a)) (h1 : EvO tl σ H lo) (h2 : EvO th σ H hi) (hs : SqT K H a xs) : EvTu K (tSl (rSlA K) te tl th) σ H (cutV xs lo hi) := fun H1 e Q q =>
  h H1 e _ fun H2 e2 => h1 H2 (e.trans e2) _ fun H3 e3 => h2 H3 ((e.trans e2).trans e3) _ fun H4 e4 =>
    ⟨a, xs, rfl, ex_t (((e.trans e2).trans e3).trans e4) hs, fun z => q a H4 ((e2.trans e3).trans e4) (by rw [cutV_all (n := 0) z.1 z.2]; exact ex_t (((e.trans e2).trans e3).trans e4) hs),
      fun _ p hp => q p _ (((e2.trans e3).trans e4).trans (Ex.new hp)) (st_of upd_same)⟩
theorem etu_cat (h1 : EvTu K ta σ H xs) (h2 : EvTu K tb σ H ys) (hz : xs.length + ys.length ≤ 100000) : EvTu K (tOp (rCatA K) ta tb) σ H (xs ++ ys) := fun H1 e Q q =>
  h1 H1 e _ fun p H2 e2 hp => h2 H2 (e.trans e2) _ fun r H3 e3 hr =>
    ⟨p, r, xs, ys, rfl, rfl, ex_t e3 hp, hr, sz_of hz, fun z => q r H3 (e2.trans e3) (by rw [z]; exact hr), fun _ z => q p H3 (e2.trans e3) (by rw [z, List.append_nil]; exact ex_t e3 hp),
      fun _ _ b hb => q b _ ((e2.trans e3).trans (Ex.new hb)) (st_of upd_same)⟩
theorem etu_of (h : Ev te σ H (.ref a)) (h1 : EvO tl σ H lo) (h2 : EvO th σ H hi) (hs : Sq K H a xs) : EvTu K (tThen (tSl (rSlQ K) te tl th) (kTup K)) σ H (cutV xs lo hi) := fun H1 e Q q =>
  h H1 e _ fun H2 e2 => h1 H2 (e.trans e2) _ fun H3 e3 => h2 H3 ((e.trans e2).trans e3) _ fun H4 e4 => by
    have E := ((e.trans e2).trans e3).trans e4
    have E1 := (e2.trans e3).trans e4
    rcases hs.mono E with z | z
    · exact .inl ⟨a, xs, rfl, z, fun p hp => .inl ⟨p, _, rfl, sq_of upd_same, fun r hr => q r _ ((E1.trans (Ex.new hp)).trans (Ex.new hr)) (st_of upd_same)⟩⟩
    · exact .inr ⟨a, xs, rfl, z, fun c => .inr ⟨a, _, rfl, z, q a H4 E1 (by rw [cutV_all (n := 0) c.1 c.2]; exact z)⟩, fun _ p hp => .inr ⟨p, _, rfl, st_of upd_same, q p _ (E1.trans (Ex.new hp)) (st_of upd_same)⟩⟩
theorem q_asgT {i : Nat} {tz : TS} {D : Ends} (h : EvTu K te σ H xs) (k : ∀ p H1, Ex H H1 → SqT K H1 p xs → tz D (σ.set i (some (.ref p))) H1) : tSeq (tAsg te (gName i)) tz D σ H := h H (Ex.refl H) _ fun p H1 e s => k p H1 e s
end
theorem cut_take {g : List Int} {n : Nat} (h : n ≤ g.length) : cutV (vI g) none (some (n : Int)) = vI (g.take n) := by
  unfold cutV vI
  rw [show HT.sIx (g.map V.int).length 0 none = 0 from rfl, HT.sIx_nat, List.drop_zero, Nat.sub_zero, List.length_map, Nat.min_eq_left h, List.map_take]
theorem cut_drop {g : List Int} {n : Nat} (h : n ≤ g.length) : cutV (vI g) (some (n : Int)) none = vI (g.drop n) := by
  unfold cutV vI
  rw [HT.sIx_none, HT.sIx_nat, List.length_map, Nat.min_eq_left h, List.take_of_length_le (by rw [List.length_drop, List.length_map]; exact Nat.le_refl _), List.map_drop]
theorem ev_fld {K : PySem.W.Frag} {σ : L2.St} {H : Hp} {ta : TE} {o C dx : Addr} {fs : List (Str × V)} {v : V} {f : Str} (ha : Ev ta σ H (.ref o)) (ho : H o = some (.ins C dx fs)) (c : Cls K C) (n : NoAttr K C f) (hf : fs.lookup f = some v) :
    Ev (tFld K ta f) σ H v := fun H1 e Q q => ha H1 e _ fun H2 e2 => ⟨o, C, dx, fs, v, rfl, e2 _ _ (e _ _ ho), c, n, hf, q H2 e2⟩
section
variable {K : PySem.W.Frag} {σ : L2.St} {H H' : Hp} {te ta tb tl : TE} {t : TT} {xs : List V} {p l : Addr} {cells : List Int} {m : Nat} {i : Nat} {D : Ends}
theorem el_ofT (h : EvTu K te σ H xs) : EvL (tCB (rListS K) (tCons te tNil)) σ H xs := fun H1 e Q q =>
  h H1 e _ fun p H2 e2 hp => ⟨p, xs, rfl, .inr hp, fun l hl => q l _ (fresh_back e2 hl) (e2.trans (Ex.new hl)) upd_same⟩
theorem el_lcR2 {ta : TA} {j : Nat} {vs : List Nat} {lo n : Int} (f : Nat → Bool) (v : Nat → V) (h : EvA ta σ H [.int lo, .int n]) (hn : 0 ≤ lo ∧ lo ≤ n ∧ n ≤ 40000) (hw : ∀ x, wipe ((wipe σ vs).set j (some x)) vs = wipe σ vs)
    (ht : ∀ (i : Nat) H1, Ex H H1 → lo + (i : Int) < n → EvT t ((wipe σ vs).set j (some (.int (lo + (i : Int))))) H1 (f i)) (he : ∀ (i : Nat) H1, Ex H H1 → lo + (i : Int) < n → f i = true → Ev te ((wipe σ vs).set j (some (.int (lo + (i : Int))))) H1 (v i)) :
    EvL (tLc (iRng2 ta) (gName j) t te vs) σ H (given (n - lo).toNat f v) := fun H0 e Q q => h H0 e _ fun H1 e1 => ⟨lo, n, rfl, ⟨by omega, by omega, by omega, by omega⟩, fun Dl hD =>
  lc_range (lo := lo) (n := (n - lo).toNat) (Cw H1 f v Dl) ⟨hD, Ex.new hD, upd_same⟩ (fun i H' hi p =>
    ⟨hw _, cw_turn p (by omega) (ht i H1 (e.trans e1) (by omega)) (fun hf => he i H1 (e.trans e1) (by omega) hf)⟩) (fun H' p => q Dl H' (fresh_back e1 p.1) (e1.trans p.2.1) p.2.2)⟩
theorem given_all {n : Nat} {v : Nat → V} : given n (fun _ => true) v = (List.range n).map v := by
  unfold given
  rw [List.filter_eq_self.mpr fun _ _ => rfl]
theorem et_none : EvT (fun σ H Q => Q true H) σ H true := fun H1 _ _ q => q H1 (Ex.refl H1)
def iQ (K : PySem.W.Frag) (tl : TE) : TI := fun σ H R => iList K tl σ H R ∨ iTup K tl σ H R
theorem pi_seq {X : Cx} {tg e : Expr} {tl : TE} (h : PE X e tl) : PI X tg e (iQ X.K tl) := (pi_list h).or (pi_tup h)
theorem el_lcQ {a : Addr} {xs : List V} {tl : TE} {j : Nat} {vs : List Nat} (v : Nat → V) (h : Ev tl σ H (.ref a)) (hx : Sq K H a xs) (hz : xs.length ≤ 40000) (hw : ∀ x, wipe ((wipe σ vs).set j (some x)) vs = wipe σ vs)
    (he : ∀ (i : Nat) (x : V) H1, Ex H H1 → xs[i]? = some x → Ev te ((wipe σ vs).set j (some x)) H1 (v i)) : EvL (tLc (iQ K tl) (gName j) tYes te vs) σ H ((List.range xs.length).map v) := fun H0 e Q q => by
  rcases hx with hx | hx
  · exact .inl (h H0 e _ fun H1 e1 => ⟨a, rfl, ⟨xs, ex_l (e.trans e1) hx⟩, fun Dl hD => lc_it (n := xs.length) (walk_list (xs := xs)) (Cw H1 (fun _ => true) v Dl) ⟨hD, Ex.new hD, upd_same⟩ (fun _ H' _ p => ex_l ((e.trans e1).trans p.2.1) hx)
      (fun k x H' H'' hk p y => by
        obtain ⟨rfl, hx'⟩ := y
        exact ⟨hw _, cw_turn p (by omega) et_none (fun _ => he k x H1 (e.trans e1) hx')⟩)
      (fun H' p => q Dl H' (fresh_back e1 p.1) (e1.trans p.2.1) (by rw [← given_all]; exact p.2.2))⟩)
  · exact .inr (h H0 e _ fun H1 e1 => ⟨a, rfl, ⟨xs, ex_t (e.trans e1) hx⟩, fun Dl hD => lc_it (n := xs.length) (walk_tup (xs := xs)) (Cw H1 (fun _ => true) v Dl) ⟨hD, Ex.new hD, upd_same⟩ (fun _ H' _ p => ex_t ((e.trans e1).trans p.2.1) hx)
      (fun k x H' H'' hk p y => by
        obtain ⟨rfl, hx'⟩ := y
        exact ⟨hw _, cw_turn p (by omega) et_none (fun _ => he k x H1 (e.trans e1) hx')⟩)
      (fun H' p => q Dl H' (fresh_back e1 p.1) (e1.trans p.2.1) (by rw [← given_all]; exact p.2.2))⟩)
theorem sq_ty {a : Addr} {xs : List V} (h : Sq K H a xs) : ∃ T : String, TyX K H (.ref a) (.type T) ∧ (T = "list" ∨ T = "tuple") := by
  rcases h with (h | h) | (h | h)
  · rcases h with h | ⟨o, h⟩
    · exact ⟨"list", .base (.lst h), .inl rfl⟩
    · exact ⟨"list", .base (.frz h), .inl rfl⟩
  · obtain ⟨o, its, n, lk, hc, _⟩ := h
    exact ⟨"list", .kList lk hc, .inl rfl⟩
  · rcases h with h | ⟨o, h⟩
    · exact ⟨"tuple", .base (.tup h), .inr rfl⟩
    · exact ⟨"tuple", .fTuple h, .inr rfl⟩
  · obtain ⟨o, its, n, lk, hc, _⟩ := h
    exact ⟨"tuple", .kTuple lk hc, .inr rfl⟩
theorem sqT_upd {K : PySem.W.Frag} {H : Hp} {o p C dx : Addr} {fs : List (Str × V)} {u : HO} {xs : List V} (h : SqT K H p xs) (ho : H o = some (.ins C dx fs)) : SqT K (upd H o u) p xs := by
  rcases h with (h | ⟨o', h⟩) | h
  · exact .inl (.inl (by rw [upd_ne (fun z => by rw [z, ho] at h; cases h)]; exact h))
  · exact .inl (.inr ⟨o', by rw [upd_ne (fun z => by rw [z, ho] at h; cases h)]; exact h⟩)
  · exact .inr h
theorem eqv_ints : ∀ xs ys : List Int, PyData.eqvAll (xs.map PyData.int) (ys.map PyData.int) = decide (xs = ys)
  | [], [] => by simp [PyData.eqvAll]
  | [], y :: ys => by simp [PyData.eqvAll]
  | x :: xs, [] => by simp [PyData.eqvAll]
  | x :: xs, y :: ys => by
    have ih := eqv_ints xs ys
    simp only [List.map_cons, PyData.eqvAll, PyData.eqv, ih]
    by_cases h : x = y <;> by_cases h2 : xs = ys <;> simp [h, h2]
theorem shaped_tup (ns : List Int) : SeqAt.shaped (.tuple (ns.map PyData.int)) = true := by
  unfold SeqAt.shaped
  simp [PyData.canLay0, canLay_ints, PyData.depth, depth_ints]
theorem ev_eqT {p q : Addr} {xs ys : List Int} (ha : Ev ta σ H (.ref p)) (hb : Ev tb σ H (.ref q)) (hp : SqT K H p (vI xs)) (hq : SqT K H q (vI ys)) : Ev (tOp (rEqD K) ta tb) σ H (.bl (decide (xs = ys))) :=
  ev_op ha hb fun H1 e Q q' => ⟨.tuple (xs.map PyData.int), .tuple (ys.map PyData.int), .tup (ex_t e hp) (dpAll_ints xs), .tup (ex_t e hq) (dpAll_ints ys), shaped_tup xs, shaped_tup ys, by
    have e2 : PyData.eqv (.tuple (xs.map PyData.int)) (.tuple (ys.map PyData.int)) = decide (xs = ys) := by
      rw [← eqv_ints]
      simp [PyData.eqv]
    rw [e2]
    exact q' H1 (Ex.refl H1)⟩
def EvW (p l : Addr) (cells : List Int) (n : Nat) (te : TE) (σ : L2.St) (H : Hp) (R : V → Prop) : Prop := ∀ m H1, Keep p H H1 → PenAt H1 p l cells m → m + n ≤ 50000 → ∀ Q : VK, (∀ v H2, R v → PenAt H2 p l cells (m + n) → Keep p H1 H2 → Q v H2) → te σ H1 Q
theorem w_draw {i : Nat} {tb : TE} {many : Int} (hi : σ[i]? = some (some (.ref p))) (hb : ∀ H1, Keep p H H1 → Ev tb σ H1 (.int many)) (h0 : 0 < many) (h1 : many ≤ 1000000000) (h63 : cells.length ≤ 63) :
    EvW p l cells 1 (tCall spDraw [] E0 (tCons (tVar i) (tCons tb tNil))) σ H (fun v => ∃ d : Nat, v = .int (d : Int) ∧ (d : Int) < many) := fun m H1 kp hP hm Q q =>
  ⟨_, hi, hb H1 kp H1 (Ex.refl H1) _ fun H2 e2 => ⟨p, l, cells, m, many, rfl, hP.mono e2 (Nat.le_refl m), by omega, h63, h0, h1, fun d H3 d0 d1 hP3 k3 => by
    obtain ⟨n, rfl⟩ := Int.eq_ofNat_of_zero_le d0
    exact q _ H3 ⟨n, rfl, d1⟩ hP3 ((Keep.of_ex e2).trans k3)⟩⟩
theorem PenAt.upd' {H : Hp} {p l a : Addr} {cells : List Int} {m : Nat} {o : HO} (h : PenAt H p l cells m) (h1 : a ≠ p) (h2 : a ≠ l) : PenAt (upd H a o) p l cells m := by
  obtain ⟨k, r, q1, q2, q3⟩ := h
  exact ⟨k, r, by rw [upd_ne h1.symm]; exact q1, by rw [upd_ne h2.symm]; exact q2, q3⟩
theorem PenAt.le {H : Hp} {p l : Addr} {cells : List Int} {m n : Nat} (h : PenAt H p l cells m) (hm : m ≤ n) : PenAt H p l cells n := h.mono (Ex.refl H) hm
theorem Keep.mut {p a : Addr} {H H' : Hp} {o : HO} (h : Keep p H H') (ha : H a = none) : Keep p H (L2.upd H' a o) := fun b u hb hn => by
  have : b ≠ a := fun z => by rw [z, ha] at hb; cases hb
  rw [upd_ne this]
  exact h b u hb hn
theorem q_asgR {σ : L2.St} {H : Hp} {te : TE} {i : Nat} {tz : TS} {D : Ends} (h : te σ H fun x H1 => tz D (σ.set i (some x)) H1) : tSeq (tAsg te (gName i)) tz D σ H := h
theorem q_call {σ : L2.St} {H : Hp} {sp : Sp} {dvs vs : List V} {E : XK} {ta : TA} {i : Nat} {tz : TS} {D : Ends} (h : EvA ta σ H vs) (k : ∀ H1, Ex H H1 → sp (vs ++ dvs) H1 (fun v H2 => tz D (σ.set i (some v)) H2) E) :
    tSeq (tAsg (tCall sp dvs E ta) (gName i)) tz D σ H := h H (Ex.refl H) _ k
theorem lst_i {t : TA} {Q : VK} {σ : L2.St} {H : Hp} (h : t σ H fun xs H1 => xs.length ≤ sizeLine ∧ ∀ l, H1 l = none → Q (.ref l) (upd H1 l (.lst xs))) : tLst t σ H Q := h
theorem cons_i {te : TE} {tr : TA} {σ : L2.St} {H : Hp} {Q : List V → Hp → Prop} (h : te σ H fun x H1 => tr σ H1 fun xs H2 => Q (x :: xs) H2) : tCons te tr σ H Q := h
theorem op_i {r : R2} {ta tb : TE} {σ : L2.St} {H : Hp} {Q : VK} (h : ta σ H fun x H1 => tb σ H1 fun y H2 => r x y H2 Q) : tOp r ta tb σ H Q := h
theorem fnR0 {P : Program} {w : World} {K : PySem.W.Frag} {mg : Str → Option Value} {base : Heap} {CX : CXT} {k : Nat} {f : Addr} {fd : FuncData} {ps : List Str} {sp : Sp} (F : FnOk P w K mg base CX k f fd ps sp) (b : Binds K fd ps []) : FnR P w K mg base CX k f sp :=
  (F.raw b .nil).imp fun vs H Q E h => by rw [List.append_nil]; exact h
theorem c_i {x : V} {Q : VK} (h : Q x H) : tC x σ H Q := h
theorem q_par {ta : TA} {i j : Nat} {tz : TS} {D : Ends} (h : ta σ H fun vs H1 => ∃ u v, vs = [u, v] ∧ tz D ((σ.set i (some u)).set j (some v)) H1) : tSeq (tPar i j ta) tz D σ H := h
theorem etu_tuple {K : PySem.W.Frag} {te : TE} {xs : List V} (h : EvL te σ H xs) : EvTu K (tThen te (kTup K)) σ H xs := fun H1 e Q q =>
  h H1 e _ fun p H2 _ e2 h2 => .inl ⟨p, xs, rfl, sq_of h2, fun r hr => q r _ (e2.trans (Ex.new hr)) (st_of upd_same)⟩
def Gfn (P : Program) (w : World) (K : PySem.W.Frag) (mg : Str → Option Value) (base : Heap) (k : Nat) (name : Str) (ps : List Str) (sp : Sp) : Prop :=
  ∃ f fd, FnOk P w K mg base CX0 k f fd ps sp ∧ PySem.W.keepIn K (.ref f) = true ∧ Binds K fd ps [] ∧ mg name = some (.ref f)
theorem sqt_keep {q : Addr} {xs : List V} (hP : PenAt H p l cells m) (kp : Keep p H H') (h : SqT K H q xs) : SqT K H' q xs := by
  obtain ⟨_, _, hp, _⟩ := hP
  rcases h with (h | ⟨o, h⟩) | h
  · exact .inl (.inl (kp _ _ h fun z => by rw [z, hp] at h; cases h))
  · exact .inl (.inr ⟨o, kp _ _ h fun z => by rw [z, hp] at h; cases h⟩)
  · exact .inr h
theorem sql_keep {q : Addr} {xs : List Int} (hP : PenAt H p l cells m) (kp : Keep p H H') (h : SqL K H q (vI xs)) : SqL K H' q (vI xs) := by
  obtain ⟨_, _, hp, _⟩ := hP
  have no : ∀ {k r : Int}, ¬ [V.ref l, V.int k, V.int r] = vI xs := fun e => by
    cases xs with
    | nil => cases e
    | cons x xs => cases e
  rcases h with (h | ⟨o, h⟩) | h
  · exact .inl (.inl (kp _ _ h fun z => by rw [z, hp] at h; exact no (HO.lst.inj (Option.some.inj h))))
  · exact .inl (.inr ⟨o, kp _ _ h fun z => by rw [z, hp] at h; cases h⟩)
  · exact .inr h
theorem yes_i {σ : L2.St} {H : Hp} {A B : Hp → Prop} (h : A H) : tYes σ H (fun b H3 => if b = true then A H3 else B H3) := iteT (A := A H) (B := B H) h
theorem given_none {n : Nat} {v : Nat → V} : given n (fun _ => false) v = vI [] := by
  unfold given
  have f : ∀ l : List Nat, l.filter (fun _ => false) = [] := fun l => by induction l with | nil => rfl | cons a l ih => exact ih
  rw [f]
  rfl
theorem el_noneN {t : TT} {j : Nat} {xs : List V} (hl : EvL tl σ H xs) (h4 : xs.length ≤ 40000) (hw : ∀ x, wipe ((wipe σ [j]).set j (some x)) [j] = wipe σ [j])
    (ht : ∀ (i : Nat) (x : V) H1, Ex H H1 → xs[i]? = some x → EvT t ((wipe σ [j]).set j (some x)) H1 false) : EvL (tLc (iList K tl) (gName j) t (tVar j) [j]) σ H (vI []) := by
  have c := el_lcNL (K := K) (σ := σ) (H := H) (t := t) (te := tVar j) (j := j) (vs := [j]) (fun _ => false) (fun _ => V.non) hl h4 hw ht (fun i x H1 e hi hf => by cases hf)
  rw [given_none] at c
  exact c
theorem el_nil : EvL (tLst tNil) σ H (vI []) := el_lst ea_nil (by decide)
theorem eqv_lists (xs ys : List Int) : PyData.eqv (.list (xs.map PyData.int)) (.list (ys.map PyData.int)) = decide (xs = ys) := by
  have := eqv_ints xs ys
  simpa [PyData.eqv] using this
theorem ev_eqL {xs ys : List Int} (ha : EvL ta σ H (vI xs)) (hb : EvL tb σ H (vI ys)) : Ev (tOp (rEqD K) ta tb) σ H (.bl (decide (xs = ys))) := fun H1 e Q q =>
  ha H1 e _ fun p H2 _ e2 hp => hb H2 (e.trans e2) _ fun r H3 _ e3 hr => ⟨.list (xs.map PyData.int), .list (ys.map PyData.int), .lst (sq_of (e3 _ _ hp)) (dpAll_ints xs), .lst (sq_of hr) (dpAll_ints ys), shaped_ints xs, shaped_ints ys, by rw [eqv_lists]; exact q H3 (e2.trans e3)⟩
theorem eqv_tups (xs ys : List Int) : PyData.eqv (.tuple (xs.map PyData.int)) (.tuple (ys.map PyData.int)) = decide (xs = ys) := by
  have := eqv_ints xs ys
  simpa [PyData.eqv] using this
theorem ev_neTu {xs ys : List Int} (ha : EvTu K ta σ H (vI xs)) (hb : EvTu K tb σ H (vI ys)) : Ev (tOp (rNeD K) ta tb) σ H (.bl (!decide (xs = ys))) := fun H1 e Q q =>
  ha H1 e _ fun p H2 e2 hp => hb H2 (e.trans e2) _ fun r H3 e3 hr => ⟨.tuple (xs.map PyData.int), .tuple (ys.map PyData.int), .tup (ex_t e3 hp) (dpAll_ints xs), .tup hr (dpAll_ints ys), shaped_tup xs, shaped_tup ys, by rw [eqv_tups]; exact q H3 (e2.trans e3)⟩
theorem ev_eqTuG {xs ys : List Int} (ha : EvTu K ta σ H (vI xs)) (hb : EvTu K tb σ H (vI ys)) : Ev (tOp (rEqD K) ta tb) σ H (.bl (decide (xs = ys))) := fun H1 e Q q =>
  ha H1 e _ fun p H2 e2 hp => hb H2 (e.trans e2) _ fun r H3 e3 hr => ⟨.tuple (xs.map PyData.int), .tuple (ys.map PyData.int), .tup (ex_t e3 hp) (dpAll_ints xs), .tup hr (dpAll_ints ys), shaped_tup xs, shaped_tup ys, by rw [eqv_tups]; exact q H3 (e2.trans e3)⟩
theorem ev_lenL {p : Addr} {g : List Int} (h : Ev ta σ H (.ref p)) (hs : SqL K H p (vI g)) : Ev (tCB (fun xs H Q => ∃ p ys, xs = [V.ref p] ∧ (SqL K H p ys ∨ SqT K H p ys) ∧ Q (.int ys.length) H) (tCons ta tNil)) σ H (.int (g.length : Int)) := ev_is (ev_cb (ea_cons h ea_nil) (rc_lenQ (.inl hs))) (by rw [vI_len])
theorem el_listL {p : Addr} {xs : List V} (h : Ev te σ H (.ref p)) (hs : SqL K H p xs) : EvL (tCB (rListS K) (tCons te tNil)) σ H xs := fun H1 e Q q =>
  h H1 e _ fun H2 e2 => ⟨p, xs, rfl, .inl (ex_l (e.trans e2) hs), fun l hl => q l _ (fresh_back e2 hl) (e2.trans (Ex.new hl)) upd_same⟩
theorem etu_tupleP {p : Addr} {xs : List V} (h : Ev te σ H (.ref p)) (hs : SqL K H p xs) : EvTu K (tThen te (kTup K)) σ H xs := fun H1 e Q q =>
  h H1 e _ fun H2 e2 => .inl ⟨p, xs, rfl, ex_l (e.trans e2) hs, fun r hr => q r _ (e2.trans (Ex.new hr)) (st_of upd_same)⟩
theorem el_catN {xs ys : List Int} (ha : EvL ta σ H (vI xs)) (hb : EvL tb σ H (vI ys)) (hz : xs.length + ys.length ≤ 100000) : EvL (tOp rCat ta tb) σ H (vI (xs ++ ys)) := fun H1 e Q k =>
  ha H1 e _ fun p H2 _ e2 hp => hb H2 (e.trans e2) _ fun r H3 _ e3 hr => ⟨p, r, vI xs, vI ys, rfl, rfl, e3 _ _ hp, hr, by rw [vI_len, vI_len]; exact sz_of hz, fun a ha => k a _ (fresh_back (e2.trans e3) ha) ((e2.trans e3).trans (Ex.new ha)) (by rw [upd_same]; unfold vI; rw [List.map_append])⟩
theorem ev_eqLP {p : Addr} {xs ys : List Int} (ha : EvL ta σ H (vI xs)) (hb : Ev tb σ H (.ref p)) (hp : SqL K H p (vI ys)) : Ev (tOp (rEqD K) ta tb) σ H (.bl (decide (xs = ys))) := fun H1 e Q q =>
  ha H1 e _ fun r H2 _ e2 hr => hb H2 (e.trans e2) _ fun H3 e3 => ⟨.list (xs.map PyData.int), .list (ys.map PyData.int), .lst (sq_of (e3 _ _ hr)) (dpAll_ints xs), .lst (ex_l (e.trans (e2.trans e3)) hp) (dpAll_ints ys), shaped_ints xs, shaped_ints ys, by rw [eqv_lists]; exact q H3 (e2.trans e3)⟩
theorem lst_keep {p l q : Addr} {cells : List Int} {m : Nat} {H' : Hp} {xs : List Int} (hP : PenAt H p l cells m) (kp : Keep p H H') (h : H q = some (.lst (vI xs))) : H' q = some (.lst (vI xs)) := by
  obtain ⟨_, _, hp, _⟩ := hP
  have no : ∀ {k r : Int}, ¬ [V.ref l, V.int k, V.int r] = vI xs := fun {k r} e => by
    cases xs with
    | nil => cases e
    | cons x xs => cases e
  exact kp _ _ h fun z => by rw [z, hp] at h; exact no (HO.lst.inj (Option.some.inj h))
theorem tup_keep {p l q : Addr} {cells : List Int} {m : Nat} {H' : Hp} {xs : List V} (hP : PenAt H p l cells m) (kp : Keep p H H') (h : H q = some (.tup xs)) : H' q = some (.tup xs) := by
  obtain ⟨_, _, hp, _⟩ := hP
  exact kp _ _ h fun z => by rw [z, hp] at h; cases h
theorem tup_i {t : TA} {Q : VK} (h : t σ H fun xs H1 => xs.length ≤ sizeLine ∧ ∀ l, H1 l = none → Q (.ref l) (upd H1 l (.tup xs))) : tTup t σ H Q := h
theorem el_catPL {q : Addr} {xs ys : List Int} (ha : Ev ta σ H (.ref q)) (hq : H q = some (.lst (vI xs))) (hb : EvL tb σ H (vI ys)) (hz : xs.length + ys.length ≤ 100000) : EvL (tOp rCat ta tb) σ H (vI (xs ++ ys)) := fun H1 e Q k =>
  ha H1 e _ fun H2 e2 => hb H2 (e.trans e2) _ fun r H3 _ e3 hr => ⟨q, r, vI xs, vI ys, rfl, rfl, (e.trans (e2.trans e3)) _ _ hq, hr, by rw [vI_len, vI_len]; exact sz_of hz, fun a ha => k a _ (fresh_back (e2.trans e3) ha) ((e2.trans e3).trans (Ex.new ha)) (by rw [upd_same]; unfold vI; rw [List.map_append])⟩
theorem etu_fld {o p C dx : Addr} {fs : List (Str × V)} {f : Str} {xs : List V} (ha : Ev ta σ H (.ref o)) (ho : H o = some (.ins C dx fs)) (c : Cls K C) (n : NoAttr K C f) (hf : fs.lookup f = some (.ref p)) (hp : SqT K H p xs) : EvTu K (tFld K ta f) σ H xs := fun H1 e Q q =>
  ev_fld ha ho c n hf H1 e _ fun H2 e2 => q p H2 e2 (ex_t (e.trans e2) hp)
theorem ev_nePP {p q : Addr} {xs ys : List Int} (ha : Ev ta σ H (.ref p)) (hp : SqL K H p (vI xs)) (hb : Ev tb σ H (.ref q)) (hq : SqL K H q (vI ys)) : Ev (tOp (rNeD K) ta tb) σ H (.bl (!decide (xs = ys))) := fun H1 e Q k =>
  ha H1 e _ fun H2 e2 => hb H2 (e.trans e2) _ fun H3 e3 => ⟨.list (xs.map PyData.int), .list (ys.map PyData.int), .lst (ex_l (e.trans (e2.trans e3)) hp) (dpAll_ints xs), .lst (ex_l (e.trans (e2.trans e3)) hq) (dpAll_ints ys), shaped_ints xs, shaped_ints ys, by rw [eqv_lists]; exact k H3 (e2.trans e3)⟩
theorem etu_var {i : Nat} {p : Addr} {xs : List V} (h0 : σ[i]? = some (some (.ref p))) (hs : SqT K H p xs) : EvTu K (tVar i) σ H xs := fun H1 e Q q => ⟨_, h0, q p H1 (Ex.refl H1) (ex_t e hs)⟩
theorem sqt_updL {q Dl : Addr} {xs ys : List V} {u : HO} (s : SqT K H q ys) (hD : H Dl = some (.lst xs)) : SqT K (upd H Dl u) q ys := by
  rcases s with (s | ⟨w, s⟩) | s
  · exact .inl (.inl (by rw [upd_ne (fun e => by rw [e, hD] at s; cases s)]; exact s))
  · exact .inl (.inr ⟨w, by rw [upd_ne (fun e => by rw [e, hD] at s; cases s)]; exact s⟩)
  · exact .inr s
theorem etu_nil : EvTu K (tTup tNil) σ H (vI []) := fun H1 e Q q => ⟨by show 0 ≤ sizeLine; decide, fun p hp => q p _ (Ex.new hp) (st_of upd_same)⟩
theorem for_i {tl : TE} {g : TG} {tu tz : TS} {D : Ends} (h : tl σ H fun x H1 => ∃ a, x = .ref a ∧ (∃ xs, SqL K H1 a xs) ∧ tFor (fun _ _ R => R (Itl K a) H1) g tu { D with nx := tz D } σ H1) : tSeq (tFor (iList K tl) g tu) tz D σ H := h
theorem s_retR {D : Ends} (h : te σ H D.rt) : tRet te D σ H := h
theorem ev_lenT {p : Addr} {g : List Int} (h : Ev ta σ H (.ref p)) (hs : SqT K H p (vI g)) : Ev (tCB (fun xs H Q => ∃ p ys, xs = [V.ref p] ∧ (SqL K H p ys ∨ SqT K H p ys) ∧ Q (.int ys.length) H) (tCons ta tNil)) σ H (.int (g.length : Int)) := ev_is (ev_cb (ea_cons h ea_nil) (rc_lenQ (.inr hs))) (by rw [vI_len])
theorem etu_disp {t : TA} {xs : List V} (h : EvA t σ H xs) (hl : xs.length ≤ 100000) : EvTu K (tTup t) σ H xs := fun H1 e Q q => eu_tup h hl H1 e _ fun p H2 _ e2 h2 => q p H2 e2 (st_of h2)
end
end K09
namespace K09
open PySem L2 Evl
abbrev sCls (i : Nat) : Stmt := inClass (top i) 0
/-- what the written part says of an error class x, PostError at B -/
structure CB (K : PySem.W.Frag) (x : Str) (C B : Addr) : Prop where
  aC : PySem.W.nsIn K mainGlobals x = some (some (.ref C))
  xL : ∃ nm q N bs sn sub ab col dd k0 k1 k2 k3 k5, K.lookup C = some (excClassObj nm q C N bs [.ref B, .type "ValueError", .type "Exception", .type "BaseException", .type "object"] true sn sub ab col dd k0 k1 k2 k3 k5 "ValueError.__new__")
  sa : PySem.W.findIn K (.ref C) "__setattr__" = some (some (.builtin "object.__setattr__"))
  ga : PySem.W.findIn K (.ref C) "__getattribute__" = some (some (.builtin "BaseException.__getattribute__"))
  gg : PySem.W.findIn K (.ref C) "__getattr__" = some none
  cc : PySem.W.findIn K (.ref C) "__class__" = some (some (.builtin "object.__class__"))
  tC : PySem.W.typeIn K (.ref C) = some (.type "type")
  kC : PySem.W.keepIn K (.ref C) = true
/-- .. and of its __init__, the def st -/
structure CF (K : PySem.W.Frag) (x qual : Str) (st : Stmt) (C f B : Addr) : Prop where
  b : CB K x C B
  a1 : PySem.W.findIn K (.ref C) "__init__" = some (some (.ref f))
  l1 : ∃ (oc : Value) (od : Option Addr) (kV doc pm : Value) (an : Option Addr) (cdv ct : Value) (osl : Array (Option Value)),
    K.lookup f = some ⟨oc, od, .func (PySem.W.fnOf "__init__" qual (defArgs st) (defBody st) (defScope st) .none kV doc pm an cdv ct), osl⟩ ∧ PySem.W.codeIn K cdv qual = true
  k1 : PySem.W.keepIn K (.ref f) = true
  t1 : PySem.W.typeIn K (.ref f) = some (.type "function")
structure CG (K : PySem.W.Frag) : Prop where
  sp : PySem.W.specialIn K (.builtin "object.__class__") "__get__" = some (some (.builtin "getset_descriptor.__get__"))
  tk : PySem.W.takesIn K (.builtin "object.__class__") = some true
section
variable {K : PySem.W.Frag} {x qual : Str} {st : Stmt} {C f B : Addr}
theorem CB.cls (T : CB K x C B) : ∃ cd, PySem.W.clsIn K C = some cd ∧ cd.mro = [.ref C, .ref B, .type "ValueError", .type "Exception", .type "BaseException", .type "object"] ∧ cd.hasDict = true := by
  obtain ⟨nm, q, N, bs, sn, sub, ab, col, dd, k0, k1, k2, k3, k5, h⟩ := T.xL
  refine ⟨{ name := nm, bases := bs, mro := .ref C :: [.ref B, .type "ValueError", .type "Exception", .type "BaseException", .type "object"], ns := N, qualname := q, hasDict := true, slotNames := sn, subclasses := sub, abstract := ab, collection := col, hasDel := false }, ?_, rfl, rfl⟩
  unfold PySem.W.clsIn
  rw [h] <;> rfl
theorem CB.mro (T : CB K x C B) (v : Value) : PySem.W.mroIn K C v = some ([Value.ref C, .ref B, .type "ValueError", .type "Exception", .type "BaseException", .type "object"].contains v) := by
  obtain ⟨cd, h1, h2, _⟩ := T.cls
  unfold PySem.W.mroIn
  rw [h1, Option.bind_some, h2]
  rfl
theorem CB.ox (T : CB K x C B) : OexC K C := by
  obtain ⟨nm, q, N, bs, sn, sub, ab, col, dd, k0, k1, k2, k3, k5, h⟩ := T.xL
  exact ⟨⟨nm, q, N, bs, _, sn, sub, ab, col, dd, k0, k1, k2, k3, k5, h, rfl⟩, T.sa, (T.mro _).trans (by rfl), T.tC, T.kC⟩
theorem CB.hd (T : CB K x C B) : PySem.W.hasDictIn K C = true := by
  obtain ⟨cd, h1, h2, h3⟩ := T.cls
  unfold PySem.W.hasDictIn
  rw [h1]
  first | exact h3 | (simp [h3])
theorem CB.xf (T : CB K x C B) : XfC K C := ⟨T.ga, T.gg, (T.mro _).trans (by rfl), T.hd⟩
theorem CB.xc (T : CB K x C B) (G : CG K) : EXC.XcC K C := by
  obtain ⟨cd, h1, _⟩ := T.cls
  exact ⟨by rw [h1]; rfl, T.ga, T.gg, (T.mro _).trans (by rfl), T.hd, T.cc, G.sp, G.tk, (T.mro _).trans (by rfl)⟩
theorem CB.caught (T : CB K x C B) (h1 : PySem.W.subIn K (.ref B) (.type "BaseException") = some true) (h2 : PySem.W.hasDictIn K B = true) (h3 : PySem.W.typeIn K (.ref B) = some (.type "type")) : PySem.W.exmOne K (.ref C) (.ref B) = some true :=
  PySem.W.exm_ref h1 h2 h3 ((T.mro _).trans (by simp))
theorem CF.fn (T : CF K x qual st C f B) : ∃ fd, Fun K "__init__" qual st f fd := by
  obtain ⟨oc, od, kV, doc, pm, an, cdv, ct, osl, h1, h2⟩ := T.l1
  exact ⟨_, fun_mk h1 h2 T.k1⟩
theorem eq_ref (a b : Addr) : (Value.ref a == Value.ref b) = decide (a = b) := by
  by_cases h : a = b
  · subst h
    simp
  · rw [decide_eq_false h]
    exact beq_eq_false_iff_ne.mpr fun z => h (Value.ref.inj z)
/-- isinstance of an instance of C, for another error class D -/
theorem CB.kit {x' : Str} {D : Addr} (T : CB K x C B) (U : CB K x' D B) (h : D ≠ B) : PySem.W.kitOne K (.ref C) (.ref D) = some (decide (D = C)) := by
  unfold PySem.W.kitOne PySem.W.kitCls
  by_cases e : C = D
  · subst e
    rw [if_pos (by simp), decide_eq_true rfl]
  · have e1 : (Value.ref C == Value.ref D) = false := by rw [eq_ref, decide_eq_false e]
    obtain ⟨cd, h1, _⟩ := U.cls
    rw [e1, if_neg Bool.false_ne_true]
    simp only [h1, U.tC, Option.isSome_some, beq_self_eq_true, Bool.and_self, if_true]
    refine (T.mro _).trans ?_
    rw [decide_eq_false (fun z => e z.symm)]
    simp [Ne.symm e, h, Ne.symm h]
theorem CB.kitB' (T : CB K x C B) (hB : ∃ cd, PySem.W.clsIn K B = some cd) (tB : PySem.W.typeIn K (.ref B) = some (.type "type")) : PySem.W.kitOne K (.ref C) (.ref B) = some true := by
  unfold PySem.W.kitOne PySem.W.kitCls
  by_cases e : C = B
  · subst e
    rw [if_pos (by simp)]
  · have e1 : (Value.ref C == Value.ref B) = false := by rw [eq_ref, decide_eq_false e]
    obtain ⟨cd, h1⟩ := hB
    rw [e1, if_neg Bool.false_ne_true]
    simp only [h1, tB, Option.isSome_some, beq_self_eq_true, Bool.and_self, if_true]
    refine (T.mro _).trans ?_
    simp
theorem CB.kitV (T : CB K x C B) : PySem.W.kitOne K (.ref C) (.type "ValueError") = some true := by
  unfold PySem.W.kitOne PySem.W.kitCls
  rw [if_neg (by simp)]
  show (if PySem.W.kitMeta "ValueError" = true then PySem.W.subIn K (.ref C) (.type "ValueError") else none) = some true
  rw [if_pos (by decide +kernel)]
  exact (T.mro _).trans (by rfl)
end
/-! ### __init__ of one field, of two -/
def spI1 (C : Addr) (n : Str) : Sp := fun vs H Q _ => ∃ (a : Addr) (v : V), vs = [.ref a, v] ∧ H a = some (exo a C none) ∧ ∀ d, H d = none → d ≠ a → Q .non (upd (upd H d (exd d [(n, v)])) a (exo a C (some d)))
def spI2 (C : Addr) (n m : Str) : Sp := fun vs H Q _ => ∃ (a : Addr) (v u : V), vs = [.ref a, v, u] ∧ H a = some (exo a C none) ∧ ∀ d, H d = none → d ≠ a → Q .non (upd (upd (upd H d (exd d [(n, v)])) a (exo a C (some d))) d (exd d [(m, u), (n, v)]))
section
variable {P : Program} {w : World} {K : PySem.W.Frag} {mg : Str → Option Value} {base : Heap}
theorem ok_I1 {x qual : Str} {st : Stmt} {C f B : Addr} {fd : FuncData} {n : Str} {p1 p2 p3 p4 : PySem.Pos} (T : CF K x qual st C f B) (F : Fun K "__init__" qual st f fd) (S : FnScope ["self", n] ["self", n] (defScope st)) (hb : defBody st = [Stmt.Assign [.Attribute (.Name "self" p1) n p2] (.Name n p3) p4])
    (l1 : (defScope st).names.lookup ("self" : Str) = some .local) (l2 : (defScope st).names.lookup n = some .local) (hd : (n == ("__debug__" : Str)) = false) (hcd : (n == ("__classdict__" : Str)) = false)
    (hno : PySem.W.findIn K (.ref C) n = some none) : FnOk P w K mg base CX0 1 f fd ["self", n] (spI1 C n) := by
  refine F.ok S (fun vs H Q E h => ?_) (fun cdv A outer s H vs Q E hr h => ?_)
  · obtain ⟨a, v, rfl, _⟩ := h
    rfl
  · obtain ⟨a, v, rfl, ha, k⟩ := h
    rw [hb]
    refine ⟨_, pss_one (ps_ost (pv 0 rfl (.inl l1)) (pv 1 rfl (.inl l2) hd hcd)), ?_⟩
    exact ⟨v, rfl, .ref a, rfl, a, C, rfl, T.b.ox, hno, .inl ⟨ha, fun d hd hda => k d hd hda⟩⟩
theorem ok_I2 {x qual : Str} {st : Stmt} {C f B : Addr} {fd : FuncData} {n m : Str} {p1 p2 p3 p4 q1 q2 q3 q4 : PySem.Pos} (T : CF K x qual st C f B) (F : Fun K "__init__" qual st f fd) (S : FnScope ["self", n, m] ["self", n, m] (defScope st))
    (hb : defBody st = [Stmt.Assign [.Attribute (.Name "self" p1) n p2] (.Name n p3) p4, Stmt.Assign [.Attribute (.Name "self" q1) m q2] (.Name m q3) q4])
    (l1 : (defScope st).names.lookup ("self" : Str) = some .local) (l2 : (defScope st).names.lookup n = some .local) (l3 : (defScope st).names.lookup m = some .local) (hd : (n == ("__debug__" : Str)) = false) (hcd : (n == ("__classdict__" : Str)) = false) (hd2 : (m == ("__debug__" : Str)) = false) (hcd2 : (m == ("__classdict__" : Str)) = false)
    (hno : PySem.W.findIn K (.ref C) n = some none) (hno2 : PySem.W.findIn K (.ref C) m = some none) : FnOk P w K mg base CX0 1 f fd ["self", n, m] (spI2 C n m) := by
  refine F.ok S (fun vs H Q E h => ?_) (fun cdv A outer s H vs Q E hr h => ?_)
  · obtain ⟨a, v, u, rfl, _⟩ := h
    rfl
  · obtain ⟨a, v, u, rfl, ha, k⟩ := h
    rw [hb]
    refine ⟨_, pss_cons (ps_ost (pv 0 rfl (.inl l1)) (pv 1 rfl (.inl l2) hd hcd)) (pss_one (ps_ost (pv 0 rfl (.inl l1)) (pv 2 rfl (.inl l3) hd2 hcd2))), ?_⟩
    refine ⟨v, rfl, .ref a, rfl, a, C, rfl, T.b.ox, hno, .inl ⟨ha, fun d hd hda => ?_⟩⟩
    exact ⟨u, rfl, .ref a, rfl, a, C, rfl, T.b.ox, hno2, .inr ⟨d, _, upd_same, by rw [upd_ne hda]; exact upd_same, by show 1 ≤ 900; decide, k d hd hda⟩⟩
end
end K09
/-! data told by what they are; comprehensions told by filter and map; slots -/
namespace K09
open PySem L2 Evl Gr
mutual
theorem dp_up {K : PySem.W.Frag} {H H' : Hp} (e : Ex H H') : ∀ (d : PyData) {v : V}, Dp K H v d → Dp K H' v d
  | .none, _, .non => .non
  | .bool _, _, .bl b => .bl b
  | .int _, _, .int i => .int i
  | .str _, _, .str x => .str x
  | .list ds, _, .lst h a => .lst (ex_l e h) (dps_up e ds a)
  | .tuple ds, _, .tup h a => .tup (ex_t e h) (dps_up e ds a)
theorem dps_up {K : PySem.W.Frag} {H H' : Hp} (e : Ex H H') : ∀ (ds : List PyData) {vs : List V}, DpAll K H vs ds → DpAll K H' vs ds
  | [], _, .nil => .nil
  | d :: ds, _, .cons h a => .cons (dp_up e d h) (dps_up e ds a)
end
/-- gives a thing that is d -/
def EvD (K : PySem.W.Frag) (te : TE) (σ : L2.St) (H : Hp) (d : PyData) : Prop := ∀ H1, Ex H H1 → ∀ Q : VK, (∀ v H2, Ex H1 H2 → Dp K H2 v d → Q v H2) → te σ H1 Q
section
variable {K : PySem.W.Frag} {σ : L2.St} {H H' : Hp} {te ta tb tl : TE} {t : TT} {d e : PyData} {ds : List PyData} {xs : List V} {v : V} {a : Addr}
theorem EvD.mono (h : EvD K te σ H d) (e : Ex H H') : EvD K te σ H' d := fun H1 e1 => h H1 (e.trans e1)
theorem ed_of (h : Ev te σ H v) (hd : ∀ H1, Ex H H1 → Dp K H1 v d) : EvD K te σ H d := fun H1 e Q q => h H1 e _ fun H2 e2 => q v H2 e2 (hd H2 (e.trans e2))
theorem ed_L (h : EvL te σ H xs) (hd : ∀ H1, Ex H H1 → DpAll K H1 xs ds) : EvD K te σ H (.list ds) := fun H1 e Q q => h H1 e _ fun p H2 _ e2 hp => q _ H2 e2 (.lst (sq_of hp) (hd H2 (e.trans e2)))
theorem ed_T (h : EvTu K te σ H xs) (hd : ∀ H1, Ex H H1 → DpAll K H1 xs ds) : EvD K te σ H (.tuple ds) := fun H1 e Q q => h H1 e _ fun p H2 e2 hp => q _ H2 e2 (.tup hp (hd H2 (e.trans e2)))
theorem ev_eqD (ha : EvD K ta σ H d) (hb : EvD K tb σ H e) (sd : SeqAt.shaped d = true) (se : SeqAt.shaped e = true) : Ev (tOp (rEqD K) ta tb) σ H (.bl (PyData.eqv d e)) := fun H1 e1 Q q =>
  ha H1 e1 _ fun v H2 e2 hv => hb H2 (e1.trans e2) _ fun u H3 e3 hu => ⟨d, e, dp_up e3 d hv, hu, sd, se, q H3 (e2.trans e3)⟩
theorem ev_neD (ha : EvD K ta σ H d) (hb : EvD K tb σ H e) (sd : SeqAt.shaped d = true) (se : SeqAt.shaped e = true) : Ev (tOp (rNeD K) ta tb) σ H (.bl (!PyData.eqv d e)) := fun H1 e1 Q q =>
  ha H1 e1 _ fun v H2 e2 hv => hb H2 (e1.trans e2) _ fun u H3 e3 hu => ⟨d, e, dp_up e3 d hv, hu, sd, se, q H3 (e2.trans e3)⟩
theorem ev_inD (ha : EvD K ta σ H d) (hb : EvD K tb σ H (.list ds)) (sd : SeqAt.shaped d = true) (se : SeqAt.shaped (.list ds) = true) : Ev (tOp (rInD K) ta tb) σ H (.bl (ds.any fun z => PyData.eqv z d)) := fun H1 e1 Q q =>
  ha H1 e1 _ fun v H2 e2 hv => hb H2 (e1.trans e2) _ fun u H3 e3 hu => ⟨d, ds, dp_up e3 d hv, hu, sd, se, q H3 (e2.trans e3)⟩
end
/-! ### what is not deep -/
def Low (n : Nat) (d : PyData) : Prop := d.canLay0 = true ∧ d.depth ≤ n
theorem lay_all : ∀ {ds : List PyData}, (∀ d ∈ ds, d.canLay0 = true) → PyData.canLayAll0 ds = true
  | [], _ => by simp [PyData.canLayAll0]
  | d :: ds, h => by simp [PyData.canLayAll0, h d List.mem_cons_self, lay_all fun x hx => h x (List.mem_cons_of_mem _ hx)]
theorem depth_all {n : Nat} : ∀ {ds : List PyData}, (∀ d ∈ ds, d.depth ≤ n) → PyData.depthAll ds ≤ n
  | [], _ => by simp [PyData.depthAll]
  | d :: ds, h => by
    simp only [PyData.depthAll]
    exact Nat.max_le.mpr ⟨h d List.mem_cons_self, depth_all fun x hx => h x (List.mem_cons_of_mem _ hx)⟩
theorem low_list {n : Nat} {ds : List PyData} (h : ∀ d ∈ ds, Low n d) : Low (n + 1) (.list ds) := by
  refine ⟨?_, ?_⟩
  · simp only [PyData.canLay0]
    exact lay_all fun d hd => (h d hd).1
  · have := depth_all fun d hd => (h d hd).2
    simp only [PyData.depth]
    omega
theorem low_tup {n : Nat} {ds : List PyData} (h : ∀ d ∈ ds, Low n d) : Low (n + 1) (.tuple ds) := by
  refine ⟨?_, ?_⟩
  · simp only [PyData.canLay0]
    exact lay_all fun d hd => (h d hd).1
  · have := depth_all fun d hd => (h d hd).2
    simp only [PyData.depth]
    omega
theorem low_shaped {n : Nat} {d : PyData} (h : Low n d) (hn : n ≤ 64) : SeqAt.shaped d = true := by
  unfold SeqAt.shaped
  rw [h.1, decide_eq_true (Nat.le_trans h.2 hn)]
  rfl
theorem low_int (i : Int) : Low 0 (.int i) := ⟨by simp [PyData.canLay0], by simp [PyData.depth]⟩
theorem low_str {z : Str} (h : PyData.strOk z = true) : Low 0 (.str z) := ⟨by simp [PyData.canLay0, h], by simp [PyData.depth]⟩
theorem low_non : Low 0 .none := ⟨by simp [PyData.canLay0], by simp [PyData.depth]⟩
theorem eqvAll_map {α : Type} [DecidableEq α] (f : α → PyData) (h : ∀ x y, PyData.eqv (f x) (f y) = decide (x = y)) : ∀ xs ys : List α, PyData.eqvAll (xs.map f) (ys.map f) = decide (xs = ys)
  | [], [] => by simp [PyData.eqvAll]
  | [], y :: ys => by simp [PyData.eqvAll]
  | x :: xs, [] => by simp [PyData.eqvAll]
  | x :: xs, y :: ys => by
    simp only [List.map_cons, PyData.eqvAll, eqvAll_map f h xs ys, h]
    by_cases h1 : x = y <;> by_cases h2 : xs = ys <;> simp [h1, h2]
/-! ### comprehensions -/
def at_ {α : Type} (l : List α) (p : α → Bool) (i : Nat) : Bool := (l[i]?).elim false p
def got {α : Type} (l : List α) (g : α → V) (i : Nat) : V := (l[i]?).elim .non g
theorem at_of {α : Type} {l : List α} {i : Nat} {x : α} {p : α → Bool} (h : l[i]? = some x) : at_ l p i = p x := by unfold at_; rw [h]; rfl
theorem got_of {α : Type} {l : List α} {i : Nat} {x : α} {g : α → V} (h : l[i]? = some x) : got l g i = g x := by unfold got; rw [h]; rfl
theorem all_got {α : Type} (l : List α) : (List.range l.length).map (fun i => l[i]?) = l.map some := by
  refine List.ext_getElem? fun i => ?_
  rw [List.getElem?_map, List.getElem?_map]
  by_cases h : i < l.length
  · rw [List.getElem?_range h, List.getElem?_eq_getElem h]
    show some l[i]? = some (some l[i])
    rw [List.getElem?_eq_getElem h]
  · rw [List.getElem?_eq_none (by rw [List.length_range]; omega), List.getElem?_eq_none (by omega)]
    rfl
theorem given_of {α : Type} (l : List α) (p : α → Bool) (g : α → V) : given l.length (at_ l p) (got l g) = (l.filter p).map g := by
  have e1 : given l.length (at_ l p) (got l g) = (((List.range l.length).map fun i => l[i]?).filter fun o => o.elim false p).map fun o => o.elim V.non g := by
    unfold given
    rw [List.filter_map, List.map_map]
    rfl
  rw [e1, all_got, List.filter_map, List.map_map]
  rfl
theorem nth_map {α : Type} {f : α → V} {l : List α} {i : Nat} {x : V} (h : (l.map f)[i]? = some x) : ∃ y, l[i]? = some y ∧ x = f y := by
  rw [List.getElem?_map] at h
  obtain ⟨y, hy, rfl⟩ := Option.map_eq_some_iff.mp h
  exact ⟨y, hy, rfl⟩
section
variable {K : PySem.W.Frag} {σ : L2.St} {H : Hp} {te ta tl : TE} {t : TT} {α : Type}
/-- [e for x in a list if t] -/
theorem el_mapL (f : α → V) {l : List α} {j : Nat} {vs : List Nat} {a : Addr} (p : α → Bool) (g : α → V) (h : Ev tl σ H (.ref a)) (hx : SqL K H a (l.map f)) (hz : l.length ≤ 40000) (hw : ∀ x, wipe ((wipe σ vs).set j (some x)) vs = wipe σ vs)
    (ht : ∀ x ∈ l, ∀ H1, Ex H H1 → EvT t ((wipe σ vs).set j (some (f x))) H1 (p x)) (he : ∀ x ∈ l, ∀ H1, Ex H H1 → p x = true → Ev te ((wipe σ vs).set j (some (f x))) H1 (g x)) : EvL (tLc (iList K tl) (gName j) t te vs) σ H ((l.filter p).map g) := by
  have c := el_lcL (K := K) (σ := σ) (H := H) (t := t) (te := te) (a := a) (xs := l.map f) (tl := tl) (j := j) (vs := vs) (at_ l p) (got l g) h hx (by rw [List.length_map]; exact hz) hw
    (fun i x H1 e hi => by
      obtain ⟨y, hy, rfl⟩ := nth_map hi
      rw [at_of hy]
      exact ht y (List.mem_of_getElem? hy) H1 e)
    (fun i x H1 e hi hf => by
      obtain ⟨y, hy, rfl⟩ := nth_map hi
      rw [at_of hy] at hf
      rw [got_of hy]
      exact he y (List.mem_of_getElem? hy) H1 e hf)
  rw [List.length_map, given_of] at c
  exact c
theorem el_mapNL (f : α → V) {l : List α} {j : Nat} {vs : List Nat} (p : α → Bool) (g : α → V) (h : EvL tl σ H (l.map f)) (hz : l.length ≤ 40000) (hw : ∀ x, wipe ((wipe σ vs).set j (some x)) vs = wipe σ vs)
    (ht : ∀ x ∈ l, ∀ H1, Ex H H1 → EvT t ((wipe σ vs).set j (some (f x))) H1 (p x)) (he : ∀ x ∈ l, ∀ H1, Ex H H1 → p x = true → Ev te ((wipe σ vs).set j (some (f x))) H1 (g x)) : EvL (tLc (iList K tl) (gName j) t te vs) σ H ((l.filter p).map g) := by
  have c := el_lcNL (K := K) (σ := σ) (H := H) (t := t) (te := te) (xs := l.map f) (tl := tl) (j := j) (vs := vs) (at_ l p) (got l g) h (by rw [List.length_map]; exact hz) hw
    (fun i x H1 e hi => by
      obtain ⟨y, hy, rfl⟩ := nth_map hi
      rw [at_of hy]
      exact ht y (List.mem_of_getElem? hy) H1 e)
    (fun i x H1 e hi hf => by
      obtain ⟨y, hy, rfl⟩ := nth_map hi
      rw [at_of hy] at hf
      rw [got_of hy]
      exact he y (List.mem_of_getElem? hy) H1 e hf)
  rw [List.length_map, given_of] at c
  exact c
/-- [e for x in a tuple if t] -/
theorem el_tup {xs : List V} {j : Nat} {vs : List Nat} (f : Nat → Bool) (v : Nat → V) (h : EvTu K tl σ H xs) (hz : xs.length ≤ 40000) (hw : ∀ x, wipe ((wipe σ vs).set j (some x)) vs = wipe σ vs)
    (ht : ∀ (i : Nat) (x : V) H1, Ex H H1 → xs[i]? = some x → EvT t ((wipe σ vs).set j (some x)) H1 (f i)) (he : ∀ (i : Nat) (x : V) H1, Ex H H1 → xs[i]? = some x → f i = true → Ev te ((wipe σ vs).set j (some x)) H1 (v i)) :
    EvL (tLc (iTup K tl) (gName j) t te vs) σ H (given xs.length f v) := fun H0 e Q q => h H0 e _ fun a H1 e1 hx =>
  ⟨a, rfl, ⟨xs, hx⟩, fun Dl hD => lc_it (n := xs.length) (walk_tup (xs := xs)) (Cw H1 f v Dl) ⟨hD, Ex.new hD, upd_same⟩ (fun _ H' _ p => ex_t p.2.1 hx)
    (fun k x H' H'' hk p y => by
      obtain ⟨rfl, hx'⟩ := y
      exact ⟨hw _, cw_turn p (by omega) (ht k x H1 (e.trans e1) hx') fun hf => he k x H1 (e.trans e1) hx' hf⟩)
    (fun H' p => q Dl H' (fresh_back e1 p.1) (e1.trans p.2.1) p.2.2)⟩
theorem el_mapT (f : α → V) {l : List α} {j : Nat} {vs : List Nat} (p : α → Bool) (g : α → V) (h : EvTu K tl σ H (l.map f)) (hz : l.length ≤ 40000) (hw : ∀ x, wipe ((wipe σ vs).set j (some x)) vs = wipe σ vs)
    (ht : ∀ x ∈ l, ∀ H1, Ex H H1 → EvT t ((wipe σ vs).set j (some (f x))) H1 (p x)) (he : ∀ x ∈ l, ∀ H1, Ex H H1 → p x = true → Ev te ((wipe σ vs).set j (some (f x))) H1 (g x)) : EvL (tLc (iTup K tl) (gName j) t te vs) σ H ((l.filter p).map g) := by
  have c := el_tup (K := K) (σ := σ) (H := H) (t := t) (te := te) (xs := l.map f) (tl := tl) (j := j) (vs := vs) (at_ l p) (got l g) h (by rw [List.length_map]; exact hz) hw
    (fun i x H1 e hi => by
      obtain ⟨y, hy, rfl⟩ := nth_map hi
      rw [at_of hy]
      exact ht y (List.mem_of_getElem? hy) H1 e)
    (fun i x H1 e hi hf => by
      obtain ⟨y, hy, rfl⟩ := nth_map hi
      rw [at_of hy] at hf
      rw [got_of hy]
      exact he y (List.mem_of_getElem? hy) H1 e hf)
  rw [List.length_map, given_of] at c
  exact c
/-- [e for i, x in enumerate(a tuple) if t] -/
theorem el_enT {ta : TA} {a : Addr} {xs : List V} {i j : Nat} {vs : List Nat} (f : Nat → Bool) (v : Nat → V) (h : EvA ta σ H [.ref a]) (hx : SqT K H a xs) (hz : xs.length ≤ 40000) (hw : ∀ x y, wipe (((wipe σ vs).set i (some x)).set j (some y)) vs = wipe σ vs)
    (ht : ∀ (k : Nat) (x : V) H1, Ex H H1 → xs[k]? = some x → EvT t (((wipe σ vs).set i (some (.int (k : Int)))).set j (some x)) H1 (f k)) (he : ∀ (k : Nat) (x : V) H1, Ex H H1 → xs[k]? = some x → f k = true → Ev te (((wipe σ vs).set i (some (.int (k : Int)))).set j (some x)) H1 (v k)) :
    EvL (tLc (EnT.iEnumT K ta) (gTup K 2 (gCons (gName i) (gCons (gName j) gNil))) t te vs) σ H (given xs.length f v) := fun H0 e Q q => h H0 e _ fun H1 e1 =>
  ⟨a, xs, rfl, ex_t (e.trans e1) hx, fun Dl hD => lc_it (n := xs.length) (EnT.walk_enumT (ys := xs)) (Cw H1 f v Dl) ⟨hD, Ex.new hD, upd_same⟩ (fun _ H' _ p => ex_t ((e.trans e1).trans p.2.1) hx)
    (fun k x H' H'' hk p y => by
      obtain ⟨T, x1, y1, rfl, hT, rfl, ex, ey⟩ := y
      obtain rfl := Option.some.inj ex
      have e2 := Ex.new (H := H') (o := .tup [.int (k : Nat), y1]) hT
      have p' : Cw H1 f v Dl k (upd H' T (.tup [.int (k : Nat), y1])) := ⟨p.1, p.2.1.trans e2, e2 _ _ p.2.2⟩
      exact ⟨T, _, rfl, st_of upd_same, rfl, _, _, rfl, _, _, rfl, rfl, hw _ _, cw_turn p' (by omega) (ht k y1 H1 (e.trans e1) ey) fun hf => he k y1 H1 (e.trans e1) ey hf⟩)
    (fun H' p => q Dl H' (fresh_back e1 p.1) (e1.trans p.2.1) p.2.2)⟩
end
end K09
namespace K09
open PySem L2 Evl Gr
abbrev sSigns : Stmt := top 3
abbrev sSignsW : Stmt := top 4
abbrev sWo : Stmt := top 20
/-! ### what is let out -/
/-- an error of the class at C with one field goes out -/
def Out1 (C : Addr) (n : Str) (v : V) (H : Hp) (E : XK) : Prop := ∀ d H', H d = none → Ex H H' → H' d = some (.xd [(n, v)]) → E (.ref C) (some d) H'
theorem Out1.mono {C : Addr} {n : Str} {v : V} {H H' : Hp} {E : XK} (e : Ex H H') (h : Out1 C n v H E) : Out1 C n v H' E := fun d H2 hd e2 h2 => h d H2 (fresh_back e hd) (e.trans e2) h2
theorem raise_one {C : Addr} {n : Str} {σ : L2.St} {H : Hp} {E : XK} {v : V} {ta : TA} (h : EvA ta σ H [v]) (b : Out1 C n v H E) : tMkO C (spI1 C n) [] ta σ H (fun cls d H' => E cls d H') :=
  h H (Ex.refl H) _ fun H1 e1 => ⟨by show 1 ≤ 1000; decide, fun a ha => ⟨a, v, rfl, upd_same, fun d hd hda => ⟨rfl, d, [(n, v)], by rw [upd_same], by rw [upd_ne hda]; exact upd_same, by rw [upd_ne hda] at hd; exact hd, by
    rw [upd_ne hda] at hd
    refine b d _ (fresh_back e1 hd) (fun c w hc => ?_) ?_
    · have hc1 := e1 _ _ hc
      have na : c ≠ a := ne_of_none hc1 ha
      have nd : c ≠ d := ne_of_none hc1 hd
      rw [upd_ne nd, del_ne na, upd_ne na, upd_ne nd, upd_ne na]
      exact hc1
    · exact upd_same⟩⟩⟩
/-- an error class of one field -/
structure GOne (P : Program) (w : World) (K : PySem.W.Frag) (mg : Str → Option Value) (base : Heap) (x n : Str) (CN fN : Addr) (fdN : FuncData) : Prop where
  ox : OexC K CN
  init : PySem.W.findIn K (.ref CN) "__init__" = some (some (.ref fN))
  ty : PySem.W.typeIn K (.ref fN) = some (.type "function")
  ok : FnOk P w K mg base CX0 1 fN fdN ["self", n] (spI1 CN n)
  b : Binds K fdN ["self", n] []
  g : mg x = some (.ref CN)
/-- an error of the class at C with two fields goes out -/
def Out2 (C : Addr) (n m : Str) (v u : V) (H : Hp) (E : XK) : Prop := ∀ d H', H d = none → Ex H H' → H' d = some (.xd [(m, u), (n, v)]) → E (.ref C) (some d) H'
theorem Out2.mono {C : Addr} {n m : Str} {v u : V} {H H' : Hp} {E : XK} (e : Ex H H') (h : Out2 C n m v u H E) : Out2 C n m v u H' E := fun d H2 hd e2 h2 => h d H2 (fresh_back e hd) (e.trans e2) h2
theorem raise_two {C : Addr} {n m : Str} {σ : L2.St} {H : Hp} {E : XK} {v u : V} {ta : TA} (h : EvA ta σ H [v, u]) (b : Out2 C n m v u H E) : tMkO C (spI2 C n m) [] ta σ H (fun cls d H' => E cls d H') :=
  h H (Ex.refl H) _ fun H1 e1 => ⟨by show 2 ≤ 1000; decide, fun a ha => ⟨a, v, u, rfl, upd_same, fun d hd hda => ⟨rfl, d, [(m, u), (n, v)], by rw [upd_ne hda.symm]; exact upd_same, upd_same, by rw [upd_ne hda] at hd; exact hd, by
    rw [upd_ne hda] at hd
    refine b d _ (fresh_back e1 hd) (fun c w hc => ?_) upd_same
    have hc1 := e1 _ _ hc
    have na : c ≠ a := ne_of_none hc1 ha
    have nd : c ≠ d := ne_of_none hc1 hd
    rw [upd_ne nd, del_ne na, upd_ne nd, upd_ne na, upd_ne nd, upd_ne na]
    exact hc1⟩⟩⟩
/-- an error class of two fields -/
structure GTwo (P : Program) (w : World) (K : PySem.W.Frag) (mg : Str → Option Value) (base : Heap) (x n m : Str) (CN fN : Addr) (fdN : FuncData) : Prop where
  ox : OexC K CN
  init : PySem.W.findIn K (.ref CN) "__init__" = some (some (.ref fN))
  ty : PySem.W.typeIn K (.ref fN) = some (.type "function")
  ok : FnOk P w K mg base CX0 1 fN fdN ["self", n, m] (spI2 CN n m)
  b : Binds K fdN ["self", n, m] []
  g : mg x = some (.ref CN)
section
variable {K : PySem.W.Frag} {σ : L2.St} {H : Hp} {te ta tb : TE}
theorem rc_lenS {z : Str} (h : z.length ≤ 100000) : RC (fun xs H Q => ∃ x n, xs = [x] ∧ LenV K x H n ∧ Q (.int n) H) [.str z] H (.int (z.length : Int)) := fun H1 _ _ q => ⟨.str z, z.length, rfl, ⟨sz_of h, rfl⟩, q H1 (Ex.refl H1)⟩
theorem ev_strip {a b : Str} (ha : Ev ta σ H (.str a)) (hb : Ev tb σ H (.str b)) (h : a.length ≤ 100000) :
    Ev (tBM K "str" (fun x xs H Q => ∃ a b, x = .str a ∧ xs = [.str b] ∧ a.length ≤ sizeLine ∧ Q (.str (Txt.stripChars a b)) H) ta (tCons tb tNil)) σ H (.str (Txt.stripChars a b)) := fun H1 e Q q =>
  ha H1 e _ fun H2 e2 => ⟨rfl, hb H2 (e.trans e2) _ fun H3 e3 => ⟨a, b, rfl, rfl, sz_of h, q H3 (e2.trans e3)⟩⟩
end
section
variable {P : Program} {w : World} {K : PySem.W.Frag} {mg : Str → Option Value} {base : Heap}
theorem kit_str_str : kitB "str" "str" = some true := by decide +kernel
/-! ### is_signs -/
def spSigns (K : PySem.W.Frag) : Sp := fun vs H Q _ => (∃ z : Str, vs = [.str z] ∧ z.length ≤ 90000 ∧ RetV (.bl (signsB z)) H Q) ∨
  ∃ (x : V) (T : String), vs = [x] ∧ TyX K H x (.type T) ∧ kitB T "str" = some false ∧ RetV (.bl false) H Q
theorem scSigns : FnScope ["value"] ["value"] (defScope sSigns) := ⟨rfl, rfl, rfl, by decide +kernel, rfl, by decide +kernel, by decide +kernel⟩
theorem ok_signs {f : Addr} {fd : FuncData} (F : Fun K "is_signs" "is_signs" sSigns f fd) (T : GlbT mg) : FnOk P w K mg base CX0 1 f fd ["value"] (spSigns K) := by
  refine F.ok scSigns (fun vs H Q E h => ?_) (fun cdv A outer s H vs Q E hr h => ?_)
  · rcases h with ⟨z, rfl, _⟩ | ⟨x, t, rfl, _⟩ <;> rfl
  · rcases h with ⟨z, rfl, hz, k⟩ | ⟨x, t, rfl, ht, hk, k⟩
    all_goals refine ⟨_, pss_one (ps_ret (pe_and (pe_callB call_isi (by rfl) T.inst (by decide +kernel) (pa_cons (pv 0) (pa_cons (pe_bltn (v := .ty "str") (by rfl) T.str (by decide +kernel) rfl) pa_nil)))
        (pe_one (pe_cmpR op_eq (pe_bm PySem.F.plainAttrs_str PySem.F.slot_str_strip PySem.F.type_str_strip mt_stripChars (pv 0) (pa_cons pe_str pa_nil)) pe_str (nomark _))))), ?_⟩
    · refine s_ret (ev_is (ev_andV (ev_cb (ea_cons (ev_var rfl) (ea_cons ev_c ea_nil)) (rc_isi (.base (.str z)) kit_str_str)) fun _ => ev_op (ev_strip (ev_var rfl) ev_c (by omega)) ev_c (rv_eq rfl)) (by rw [Bool.true_and]; rfl)) k
    · refine s_ret (ev_is (ev_andV (b := true) (ev_cb (ea_cons (ev_var rfl) (ea_cons ev_c ea_nil)) (rc_isi ht hk)) fun hb => absurd hb (by decide)) rfl) k
theorem spv_signs {H : Hp} {z : Str} (hz : z.length ≤ 90000) : SpV (spSigns K) [.str z] H (.bl (signsB z)) := fun H1 e Q q E => .inl ⟨z, rfl, hz, q⟩
theorem spv_signs0 {H : Hp} {x : V} {t : String} (ht : TyX K H x (.type t)) (hk : kitB t "str" = some false) : SpV (spSigns K) [x] H (.bl false) := fun H1 e Q q E => .inr ⟨x, t, rfl, tyx_mono e ht, hk, q⟩
/-! ### is_signs_within -/
/-- what is_signs_within tells of x -/
def SgV (K : PySem.W.Frag) (H : Hp) (x : V) (lo hi : Int) (b : Bool) : Prop := (∃ z : Str, x = .str z ∧ z.length ≤ 90000 ∧ b = sgB z lo hi) ∨ ∃ T : String, TyX K H x (.type T) ∧ kitB T "str" = some false ∧ b = false
theorem SgV.mono {H H' : Hp} {x : V} {lo hi : Int} {b : Bool} (e : Ex H H') (h : SgV K H x lo hi b) : SgV K H' x lo hi b := h.imp id fun ⟨T, h1, h2⟩ => ⟨T, tyx_mono e h1, h2⟩
theorem sgv_str {H : Hp} {z : Str} {lo hi : Int} (hz : z.length ≤ 90000) : SgV K H (.str z) lo hi (sgB z lo hi) := .inl ⟨z, rfl, hz, rfl⟩
theorem sgv_not {H : Hp} {x : V} {T : String} {lo hi : Int} (h : TyX K H x (.type T)) (hk : kitB T "str" = some false) : SgV K H x lo hi false := .inr ⟨T, h, hk, rfl⟩
def spSignsW (K : PySem.W.Frag) : Sp := fun vs H Q _ => ∃ (x : V) (lo hi : Int) (b : Bool), vs = [x, .int lo, .int hi] ∧ SgV K H x lo hi b ∧ RetV (.bl b) H Q
theorem scSignsW : FnScope ["value", "least", "most"] ["value", "least", "most"] (defScope sSignsW) := ⟨rfl, rfl, rfl, by decide +kernel, rfl, by decide +kernel, by decide +kernel⟩
theorem ok_signsW {f fS : Addr} {fd fdS : FuncData} (F : Fun K "is_signs_within" "is_signs_within" sSignsW f fd) (T : GlbT mg) (FS : Fun K "is_signs" "is_signs" sSigns fS fdS) (bS : Binds K fdS ["value"] []) (gS : mg "is_signs" = some (.ref fS)) :
    FnOk P w K mg base CX0 2 f fd ["value", "least", "most"] (spSignsW K) := by
  have GS : FnOk P w K mg base CX0 1 fS fdS ["value"] (spSigns K) := ok_signs FS T
  refine F.ok scSignsW (fun vs H Q E h => ?_) (fun cdv A outer s H vs Q E hr h => ?_)
  · obtain ⟨x, lo, hi, b, rfl, _⟩ := h
    rfl
  · obtain ⟨x, lo, hi, b, rfl, ⟨z, rfl, hz, rfl⟩ | ⟨t, ht, hk, rfl⟩, k⟩ := h
    all_goals refine ⟨_, pss_one (ps_ret (pe_and (pe_call GS hr (by rfl) gS FS.kp bS .nil pass0 (pa_cons (pv 0) pa_nil)) (pe_one (pe_chain op_le op_le (pv 1) (pe_callB call_len (by rfl) T.len PySem.boot_len (pa_cons (pv 0) pa_nil)) (pv 2))))), ?_⟩
    · exact s_ret (ev_andV (ev_call (ea_cons (ev_var rfl) ea_nil) (spv_signs hz)) fun _ => ev_chain (ev_var rfl) (ev_cb (ea_cons (ev_var rfl) ea_nil) (rc_lenS (by omega))) (ev_var rfl)) k
    · exact s_ret (ev_is (ev_andV (b := true) (ev_call (ea_cons (ev_var rfl) ea_nil) (spv_signs0 ht hk)) fun hb => absurd hb (by decide)) rfl) k
theorem ev_sgw {σ : L2.St} {H : Hp} {ta tb tc : TE} {x : V} {lo hi : Int} {b : Bool} (ha : Ev ta σ H x) (hb : Ev tb σ H (.int lo)) (hc : Ev tc σ H (.int hi)) (h : SgV K H x lo hi b) : Ev (tCall (spSignsW K) [] E0 (tCons ta (tCons tb (tCons tc tNil)))) σ H (.bl b) :=
  ev_call (z := .bl b) (ea_cons ha (ea_cons hb (ea_cons hc ea_nil))) fun H1 e Q q E => ⟨x, lo, hi, b, rfl, h.mono e, q⟩
/-! ### words_of -/
abbrev BadT (CB : Addr) (n : Int) (H : Hp) (E : XK) : Prop := Out2 CB "line" "word" (.int 0) (.int n) H E
def spWo (K : PySem.W.Frag) (CB : Addr) : Sp := fun vs H Q E => (∃ ws, vs = [.str (tx ws)] ∧ ws ≠ [] ∧ Free ws ∧ (tx ws).length ≤ 1000 ∧ ∀ p H', H p = none → Ex H H' → H' p = some (.lst (ws.map V.str)) → Q (.ref p) H') ∨
  ∃ (x : V) (T : String), vs = [x] ∧ TyX K H x (.type T) ∧ kitB T "str" = some false ∧ BadT CB 0 H E
theorem scWo : FnScope ["text"] ["text"] (defScope sWo) := ⟨rfl, rfl, rfl, by decide +kernel, rfl, by decide +kernel, by decide +kernel⟩
theorem ok_Wo {f CB fB : Addr} {fd fdB : FuncData} (F : Fun K "words_of" "words_of" sWo f fd) (TT : GlbT mg) (B : GTwo P w K mg base "BadText" "line" "word" CB fB fdB) : FnOk P w K mg base (L2.CX P w) 3 f fd ["text"] (spWo K CB) := by
  refine F.okX scWo (fun vs H Q E h => ?_) (fun cdv A outer s H vs Q E hr h => ?_)
  · rcases h with ⟨ws, rfl, _⟩ | ⟨x, t, rfl, _⟩ <;> rfl
  · have hr := hr
    rcases h with ⟨ws, rfl, hn, ok, hl, k⟩ | ⟨x, t, rfl, ht, hk, k⟩
    all_goals refine ⟨_, pss_cons (ps_if (pt_not (pt_val (pe_callB call_isi (by rfl) TT.inst (by decide +kernel) (pa_cons (pv 0) (pa_cons (pe_bltn (v := .ty "str") (by rfl) TT.str (by decide +kernel) rfl) pa_nil)))))
        (pss_one (ps_raise rfl (takes_of rfl rfl rfl rfl) (pmk_oex B.ox B.init B.ty B.ok hr B.b .nil pass0 (by rfl) B.g (pa_cons pe_int (pa_cons pe_int pa_nil))))) pss_nil)
      (pss_one (ps_ret (pe_split (pv 0) pe_str))), ?_⟩
    · refine q_when (b := false) (et_is (et_not (et_B (ev_cb (ea_cons (ev_var rfl) (ea_cons ev_c ea_nil)) (rc_isi (.base (.str _)) kit_str_str)))) rfl) (fun hb => absurd hb (by decide)) (fun _ H1 e1 => ?_)
      refine ⟨_, rfl, ⟨_, rfl⟩, _, " ", rfl, rfl, by decide +kernel, sz_of (n := (tx ws).length + 2) (by omega), ?_⟩
      rw [split_tx hn ok]
      exact fun p hp => k p _ (fresh_back e1 hp) (e1.trans (Ex.new hp)) (by rw [upd_same])
    · refine q_when (b := true) (et_is (et_not (et_B (ev_cb (ea_cons (ev_var rfl) (ea_cons ev_c ea_nil)) (rc_isi ht hk)))) rfl) (fun _ H1 e1 => ?_) (fun hb => absurd hb (by decide))
      exact raise_two (ea_cons ev_c (ea_cons ev_c ea_nil)) (k.mono e1)
end
end K09
namespace K09
open PySem L2 Evl Gr SrtT
abbrev sIsP : Stmt := top 23
abbrev sCan : Stmt := top 24
structure GlbD (mg : Str → Option Value) : Prop where
  most : ∃ t, mg "MOST_PAIRS" = some (.int 4 t)
  divmod : mg "divmod" = none
def rLenQ (K : PySem.W.Frag) : List V → Hp → VK → Prop := fun xs H Q => ∃ p ys, xs = [V.ref p] ∧ (SqL K H p ys ∨ SqT K H p ys) ∧ Q (.int ys.length) H
theorem ty_tup {K : PySem.W.Frag} {H : Hp} {a : Addr} {xs : List V} (h : SqT K H a xs) : TyX K H (.ref a) (.type "tuple") := by
  rcases h with (h | ⟨o, h⟩) | h
  · exact .base (.tup h)
  · exact .fTuple h
  · obtain ⟨o, its, n, lk, hc, _⟩ := h
    exact .kTuple lk hc
theorem rv_ixT_ {K : PySem.W.Frag} {H : Hp} {p : Addr} {xs : List V} {i : Int} {v : V} (h : SqT K H p xs) (ha : atI xs i = some v) : RV (rIxT K) (.ref p) (.int i) H v := fun H1 e Q q => ⟨p, xs, i, v, rfl, rfl, ex_t e h, ha, q H1 (Ex.refl H1)⟩
theorem q_divmod {K : PySem.W.Frag} {σ : L2.St} {H : Hp} {ta : TA} {a b : Int} {i j : Nat} {tz : TS} {D : Ends} (h : EvA ta σ H [.int a, .int b]) (hc : CDiv a b) (k : ∀ H1, Ex H H1 → tz D ((σ.set i (some (.int (a / b)))).set j (some (.int (a % b)))) H1) :
    tSeq (tAsg (tCB (fun xs H Q => ∃ i j, xs = [V.int i, V.int j] ∧ CDiv i j ∧ ∀ p, H p = none → Q (.ref p) (upd H p (.tup [.int (i / j), .int (i % j)]))) ta) (gTup K 2 (gCons (gName i) (gCons (gName j) gNil)))) tz D σ H :=
  h H (Ex.refl H) _ fun H2 e2 => ⟨a, b, rfl, hc, fun p hp => ⟨p, _, rfl, st_of upd_same, rfl, _, _, rfl, _, _, rfl, rfl, k _ (e2.trans (Ex.new hp))⟩⟩
section
variable {P : Program} {w : World} {K : PySem.W.Frag} {mg : Str → Option Value} {base : Heap}
theorem kit_tt : kitB "tuple" "tuple" = some true := by decide +kernel
/-! ### is_pair -/
/-- what is_pair tells of x -/
def PairV (K : PySem.W.Frag) (H : Hp) (x : V) (b : Bool) : Prop := (∃ T : String, TyX K H x (.type T) ∧ kitB T "tuple" = some false ∧ b = false) ∨ (∃ a xs, x = .ref a ∧ SqT K H a xs ∧ xs.length ≠ 2 ∧ b = false) ∨
  ∃ a u v b1 b2, x = .ref a ∧ SqT K H a [u, v] ∧ SgV K H u 1 8 b1 ∧ SgV K H v 1 1 b2 ∧ b = (b1 && b2)
theorem PairV.mono {H H' : Hp} {x : V} {b : Bool} (e : Ex H H') (h : PairV K H x b) : PairV K H' x b := by
  rcases h with ⟨T, h1, h2⟩ | ⟨a, xs, h0, h1, h2⟩ | ⟨a, u, v, b1, b2, h0, h1, h2, h3, h4⟩
  · exact .inl ⟨T, tyx_mono e h1, h2⟩
  · exact .inr (.inl ⟨a, xs, h0, ex_t e h1, h2⟩)
  · exact .inr (.inr ⟨a, u, v, b1, b2, h0, ex_t e h1, h2.mono e, h3.mono e, h4⟩)
def spIsP (K : PySem.W.Frag) : Sp := fun vs H Q _ => ∃ (x : V) (b : Bool), vs = [x] ∧ PairV K H x b ∧ RetV (.bl b) H Q
theorem scIsP : FnScope ["value"] ["value"] (defScope sIsP) := ⟨rfl, rfl, rfl, by decide +kernel, rfl, by decide +kernel, by decide +kernel⟩
theorem ev_lenTu {σ : L2.St} {H : Hp} {ta : TE} {xs : List V} (h : EvTu K ta σ H xs) : Ev (tCB (rLenQ K) (tCons ta tNil)) σ H (.int (xs.length : Int)) := fun H1 e Q q => h H1 e _ fun p H2 e2 hp => ⟨p, xs, rfl, .inr hp, q H2 e2⟩
theorem ok_IsP {f : Addr} {fd : FuncData} (F : Fun K "is_pair" "is_pair" sIsP f fd) (T : GlbT mg) (S : GlbS mg) (GW : Gfn P w K mg base 2 "is_signs_within" ["value", "least", "most"] (spSignsW K)) : FnOk P w K mg base CX0 3 f fd ["value"] (spIsP K) := by
  obtain ⟨fW, fdW, GW, kW, bW, gW⟩ := GW
  refine F.ok scIsP (fun vs H Q E h => ?_) (fun cdv A outer s H vs Q E hr h => ?_)
  · obtain ⟨x, b, rfl, _⟩ := h
    rfl
  · obtain ⟨x, b, rfl, hx, k⟩ := h
    refine ⟨_, pss_cons (ps_if (PW.pt (pw_or (pt_not (pt_val (pe_callB call_isi (by rfl) T.inst (by decide +kernel) (pa_cons (pv 0) (pa_cons (pe_bltn (v := .ty "tuple") (by rfl) S.tuple (by decide +kernel) rfl) pa_nil)))))
        (pw_or1 (pt_cmpR op_ne (pe_callB call_len_seq (by rfl) T.len PySem.boot_len (pa_cons (pv 0) pa_nil)) pe_int (nomark _))))) (pss_one (ps_ret pe_bl)) pss_nil)
      (pss_one (ps_ret (pe_and (pe_call GW hr (by rfl) gW kW bW .nil pass0 (pa_cons (pe_ix ix_tup (pv 0) pe_int (fun _ _ => rfl)) (pa_cons pe_int (pa_cons pe_int pa_nil))))
        (pe_one (pe_call GW hr (by rfl) gW kW bW .nil pass0 (pa_cons (pe_ix ix_tup (pv 0) pe_int (fun _ _ => rfl)) (pa_cons pe_int (pa_cons pe_int pa_nil)))))))), ?_⟩
    rcases hx with ⟨t, ht, hk, rfl⟩ | ⟨a, xs, rfl, hs, hl, rfl⟩ | ⟨a, u, v, b1, b2, rfl, hs, h1, h2, rfl⟩
    · refine q_when (b := true) (et_is (et_or (b := true) (et_not (et_B (ev_cb (ea_cons (ev_var rfl) (ea_cons ev_c ea_nil)) (rc_isi ht hk)))) fun z => absurd z (by decide)) rfl) (fun _ H1 e1 => ?_) (fun hb => absurd hb (by decide))
      exact k H1 e1
    · refine q_when (b := true) (et_is (et_or (et_not (et_B (ev_cb (ea_cons (ev_var rfl) (ea_cons ev_c ea_nil)) (rc_isi (ty_tup hs) kit_tt)))) fun _ => et_test (ev_op (ev_lenTu (etu_var rfl hs)) ev_c (rv_ne rfl))) ?_) (fun _ H1 e1 => ?_) (fun hb => absurd hb (by decide))
      · rw [vint_inj, decide_eq_false (show ¬ ((xs.length : Int) = 2) by omega)]
        rfl
      · exact k H1 e1
    · refine q_when (b := false) (et_is (et_or (et_not (et_B (ev_cb (ea_cons (ev_var rfl) (ea_cons ev_c ea_nil)) (rc_isi (ty_tup hs) kit_tt)))) fun _ => et_test (ev_op (ev_lenTu (etu_var rfl hs)) ev_c (rv_ne rfl))) ?_) (fun hb => absurd hb (by decide)) (fun _ H1 e1 => ?_)
      · rfl
      · have hs1 := ex_t e1 hs
        exact s_ret (ev_andV (ev_sgw (ev_op (ev_var rfl) ev_c (rv_ixT_ hs1 (i := 0) rfl)) ev_c ev_c (h1.mono e1)) fun _ => ev_sgw (ev_op (ev_var rfl) ev_c (rv_ixT_ hs1 (i := 1) rfl)) ev_c ev_c (h2.mono e1)) fun H2 e2 => k H2 (e1.trans e2)
/-! ### can_stand -/
def spCan (K : PySem.W.Frag) : Sp := fun vs H Q _ => ∃ (p : Addr) (ws : List Str) (i : Nat), vs = [.ref p, .int (i : Int)] ∧ SqL K H p (ws.map V.str) ∧ i < ws.length ∧ ws.length ≤ 1000 ∧ (∀ z ∈ ws, z.length ≤ 1000) ∧ RetV (.bl (standB ws i)) H Q
abbrev nCan : List Str := ["words", "at", "word", "pair", "place"]
theorem scCan : FnScope nCan ["words", "at"] (defScope sCan) := ⟨rfl, rfl, rfl, by decide +kernel, rfl, by decide +kernel, by decide +kernel⟩
theorem atI_ws {ws : List Str} {i : Nat} (h : i < ws.length) : atI (ws.map V.str) (i : Int) = some (V.str (gw ws i)) := atI_nat (by rw [List.getElem?_map, gw_get h]; rfl)
theorem gw_mem {ws : List Str} {i : Nat} (h : i < ws.length) : gw ws i ∈ ws := List.mem_of_getElem? (gw_get h)
theorem dec_str {a b : Str} : decide (V.str a = V.str b) = decide (a = b) := by
  rw [decide_eq_decide]
  exact ⟨fun h => V.str.inj h, fun h => congrArg V.str h⟩
theorem ok_Can {f : Addr} {fd : FuncData} (F : Fun K "can_stand" "can_stand" sCan f fd) (D : GlbD mg) (GW : Gfn P w K mg base 2 "is_signs_within" ["value", "least", "most"] (spSignsW K)) : FnOk P w K mg base CX0 3 f fd ["words", "at"] (spCan K) := by
  obtain ⟨fW, fdW, GW, kW, bW, gW⟩ := GW
  obtain ⟨t4, g4⟩ := D.most
  refine F.ok scCan (fun vs H Q E h => ?_) (fun cdv A outer s H vs Q E hr h => ?_)
  · obtain ⟨p, ws, i, rfl, _⟩ := h
    rfl
  · obtain ⟨p, ws, i, rfl, hp, hi, hz, hw, k⟩ := h
    refine ⟨_, pss_cons (ps_asg (pe_ix ix_list (pv 0) (pv 1) (fun _ _ => rfl)) (pg_name (i := 2) scCan.nd rfl (.inl rfl)))
      (pss_cons (ps_if (pt_cmpR op_eq (pv 1) pe_int (nomark _)) (pss_one (ps_ret (pe_call GW hr (by rfl) gW kW bW .nil pass0 (pa_cons (pv 2) (pa_cons pe_int (pa_cons pe_int pa_nil)))))) pss_nil)
      (pss_cons (ps_if (pt_cmpR op_eq (pv 1) pe_int (nomark _)) (pss_one (ps_ret (pe_cmpR op_eq (pv 2) pe_str (nomark _)))) pss_nil)
      (pss_cons (ps_asg (pe_callB call_divmod (by rfl) D.divmod (by decide +kernel) (pa_cons (pe_op op_sub (pv 1) pe_int) (pa_cons pe_int pa_nil))) (pg_tup rfl (pgs_cons (pg_name (i := 3) scCan.nd rfl (.inl rfl)) (pgs_cons (pg_name (i := 4) scCan.nd rfl (.inl rfl)) pgs_nil))))
      (pss_cons (ps_if (pt_cmpR op_eq (pv 4) pe_int (nomark _)) (pss_one (ps_ret (pe_and (pe_call GW hr (by rfl) gW kW bW .nil pass0 (pa_cons (pv 2) (pa_cons pe_int (pa_cons pe_int pa_nil))))
        (pe_and (pe_cmpR op_lt (pv 3) (pe_glob (v := .int 4) rfl g4 ⟨_, rfl⟩) (nomark _)) (pe_one (pe_or (pe_cmpR op_eq (pv 3) pe_int (nomark _)) (pe_one (pe_cmpR op_lt_str (pe_ix ix_list (pv 0) (pe_op op_sub (pv 1) pe_int) (fun _ _ => rfl)) (pv 2) (nomark _))))))))) pss_nil)
      (pss_cons (ps_if (pt_cmpR op_eq (pv 4) pe_int (nomark _)) (pss_one (ps_ret (pe_call GW hr (by rfl) gW kW bW .nil pass0 (pa_cons (pv 2) (pa_cons pe_int (pa_cons pe_int pa_nil)))))) pss_nil)
      (pss_one (ps_ret (pe_cmpR op_eq (pv 2) pe_str (nomark _))))))))), ?_⟩
    have hgw := hw _ (gw_mem hi)
    have wd : ∀ {H1 : Hp} {lo hi : Int}, SgV K H1 (.str (gw ws i)) lo hi (sgB (gw ws i) lo hi) := sgv_str (by omega)
    refine q_asg (ev_op (ev_var rfl) (ev_var rfl) (rv_ixL hp (atI_ws hi))) fun H1 e1 => ?_
    refine q_when (et_test (ev_op (ev_var rfl) ev_c (rv_eq rfl))) (fun hb H2 e2 => ?_) (fun hb H2 e2 => ?_)
    · rw [vint_inj, decide_eq_true_iff] at hb
      obtain rfl : i = 0 := by omega
      exact s_ret (ev_sgw (ev_var rfl) ev_c ev_c wd) fun H3 e3 => k H3 ((e1.trans e2).trans e3)
    rw [vint_inj, decide_eq_false_iff_not] at hb
    have n0 : i ≠ 0 := by omega
    refine q_when (et_test (ev_op (ev_var rfl) ev_c (rv_eq rfl))) (fun hb H3 e3 => ?_) (fun hb H3 e3 => ?_)
    · rw [vint_inj, decide_eq_true_iff] at hb
      obtain rfl : i = 1 := by omega
      exact s_ret (ev_is (ev_op (ev_var rfl) ev_c (rv_eq rfl)) (by rw [dec_str]; rfl)) fun H4 e4 => k H4 (((e1.trans e2).trans e3).trans e4)
    rw [vint_inj, decide_eq_false_iff_not] at hb
    have n1 : i ≠ 1 := by omega
    have E3 := (e1.trans e2).trans e3
    refine q_divmod (ea_cons (ev_op (ev_var rfl) ev_c rv_I0) (ea_cons ev_c ea_nil)) (by unfold CDiv; omega) fun H4 e4 => ?_
    have c1 : ((i : Int) - 2) / 3 = (((i - 2) / 3 : Nat) : Int) := by omega
    have c2 : ((i : Int) - 2) % 3 = (((i - 2) % 3 : Nat) : Int) := by omega
    rw [c1, c2]
    have E4 := E3.trans e4
    refine q_when (et_test (ev_op (ev_var rfl) ev_c (rv_eq rfl))) (fun hb H5 e5 => ?_) (fun hb H5 e5 => ?_)
    · rw [vint_inj, decide_eq_true_iff] at hb
      have m0 : (i - 2) % 3 = 0 := by omega
      have E5 := E4.trans e5
      refine s_ret (v := .bl (standB ws i)) (ev_is (ev_andV (ev_sgw (ev_var rfl) ev_c ev_c wd) fun _ => ev_andV (ev_op (ev_var rfl) ev_c rv_I0) fun _ =>
        ev_orV (ev_op (ev_var rfl) ev_c (rv_eq rfl)) fun hp0 => ev_op (ev_op (ev_var rfl) (ev_op (ev_var rfl) ev_c rv_I0) (rv_ixL (i := (i : Int) - 3) (v := .str (gw ws (i - 3))) (ex_l E5 hp) ?_)) (ev_var rfl) fun H6 e6 Q q => ⟨_, _, rfl, rfl, q H6 (Ex.refl H6)⟩) ?_) fun H6 e6 => k H6 (E5.trans e6)
      · rw [vint_inj, decide_eq_false_iff_not] at hp0
        rw [show (i : Int) - 3 = ((i - 3 : Nat) : Int) by omega]
        exact atI_ws (by omega)
      · unfold standB
        rw [if_neg n0, if_neg n1, if_pos m0, vint_inj]
        have d1 : decide ((((i - 2) / 3 : Nat) : Int) < 4) = decide ((i - 2) / 3 < 4) := by rw [decide_eq_decide]; omega
        have d2 : decide ((((i - 2) / 3 : Nat) : Int) = 0) = decide ((i - 2) / 3 = 0) := by rw [decide_eq_decide]; omega
        rw [d1, d2]
        rfl
    rw [vint_inj, decide_eq_false_iff_not] at hb
    have m0 : ¬ (i - 2) % 3 = 0 := by omega
    refine q_when (et_test (ev_op (ev_var rfl) ev_c (rv_eq rfl))) (fun hb H6 e6 => ?_) (fun hb H6 e6 => ?_)
    · rw [vint_inj, decide_eq_true_iff] at hb
      have m1 : (i - 2) % 3 = 1 := by omega
      refine s_ret (ev_is (ev_sgw (ev_var rfl) ev_c ev_c wd) ?_) fun H7 e7 => k H7 (((E4.trans e5).trans e6).trans e7)
      unfold standB
      rw [if_neg n0, if_neg n1, if_neg m0, if_pos m1]
    · rw [vint_inj, decide_eq_false_iff_not] at hb
      have m1 : ¬ (i - 2) % 3 = 1 := by omega
      refine s_ret (ev_is (ev_op (ev_var rfl) ev_c (rv_eq rfl)) ?_) fun H7 e7 => k H7 (((E4.trans e5).trans e6).trans e7)
      unfold standB
      rw [if_neg n0, if_neg n1, if_neg m0, if_neg m1, dec_str]
end
end K09
namespace L2
open PySem PySem.Spec PyProof.Rows
section
variable {X : Cx} {st : Stmt} {t : TS}
/-- a statement that lets nothing out, among such as do -/
theorem PS.calm_ (h : PS X.nox st t) : PS X st t := ⟨fun pins s σ H D I hw => wpAny_mono (h.run pins s σ H D (I.wish _) hw) (fun f s' q => SP.unwish q) fun _ _ z => absurd z id⟩
end
end L2
namespace K09
open PySem L2 Evl Gr StX EnT ClX SrtT StS
abbrev sFr (i : Nat) : Stmt := inClass (top 26) i
/-! ### rows of pairs -/
/-- the pair of texts that stands at v -/
def ctn (H : Hp) (v : V) : Option Pr := match v with
  | .ref t => match H t with
    | some (.tup [.str a, .str b]) => some (a, b)
    | _ => none
  | _ => none
theorem ctn_iff {H : Hp} {v : V} {p : Pr} : ctn H v = some p ↔ ∃ t, v = .ref t ∧ H t = some (.tup [.str p.1, .str p.2]) := by
  constructor
  · intro h
    unfold ctn at h
    split at h
    · rename_i t
      split at h
      · rename_i a b e
        cases h
        exact ⟨t, rfl, e⟩
      · cases h
    · cases h
  · rintro ⟨t, rfl, h⟩
    unfold ctn
    simp only [h]
theorem ctn_mono {H H' : Hp} {v : V} {p : Pr} (e : Ex H H') (h : ctn H v = some p) : ctn H' v = some p := by
  rw [ctn_iff] at h ⊢
  obtain ⟨t, h1, h2⟩ := h
  exact ⟨t, h1, e _ _ h2⟩
def Prs (H : Hp) (vs : List V) (ps : List Pr) : Prop := vs.map (ctn H) = ps.map some
theorem Prs.len {H : Hp} {vs : List V} {ps : List Pr} (h : Prs H vs ps) : vs.length = ps.length := by
  have := congrArg List.length h
  rwa [List.length_map, List.length_map] at this
theorem Prs.at {H : Hp} {vs : List V} {ps : List Pr} (h : Prs H vs ps) {k : Nat} {x : V} (hx : vs[k]? = some x) : ∃ t p, x = .ref t ∧ ps[k]? = some p ∧ H t = some (.tup [.str p.1, .str p.2]) := by
  have := congrArg (fun l => l[k]?) h
  simp only [List.getElem?_map, hx, Option.map_some] at this
  obtain ⟨p, hp, e⟩ := Option.map_eq_some_iff.mp this.symm
  obtain ⟨t, h1, h2⟩ := ctn_iff.mp e.symm
  exact ⟨t, p, h1, hp, h2⟩
theorem Prs.to {H H' : Hp} {vs : List V} {ps : List Pr} (h : Prs H vs ps) (k : ∀ (t : Addr) (p : Pr), H t = some (.tup [.str p.1, .str p.2]) → H' t = some (.tup [.str p.1, .str p.2])) : Prs H' vs ps := by
  unfold Prs at *
  rw [← h]
  refine List.map_congr_left fun v hv => ?_
  obtain ⟨p, hp, e⟩ := List.mem_map.mp (h ▸ List.mem_map.mpr ⟨v, hv, rfl⟩ : ctn H v ∈ ps.map some)
  obtain ⟨t, h1, h2⟩ := ctn_iff.mp e.symm
  rw [← e, ctn_iff]
  exact ⟨t, h1, k t p h2⟩
theorem Prs.mono {H H' : Hp} {vs : List V} {ps : List Pr} (e : Ex H H') (h : Prs H vs ps) : Prs H' vs ps := h.to fun t p q => e _ _ q
theorem Prs.upd {H : Hp} {vs : List V} {ps : List Pr} {o C dx : Addr} {fs : List (Str × V)} {u : HO} (h : Prs H vs ps) (ho : H o = some (.ins C dx fs)) : Prs (L2.upd H o u) vs ps := h.to fun t p q => by
  rw [upd_ne (fun z => by rw [z, ho] at q; cases q)]
  exact q
theorem prs_key {H : Hp} {vs : List V} {ps : List Pr} (h : Prs H vs ps) : vs.map (fun x => (ctn H x).getD (mt, mt)) = ps := by
  have := congrArg (List.map fun o : Option Pr => o.getD (mt, mt)) h
  rw [List.map_map, List.map_map] at this
  rw [show (fun x => (ctn H x).getD (mt, mt)) = (fun o : Option Pr => o.getD (mt, mt)) ∘ ctn H from rfl, this]
  exact List.map_id _
theorem prs_key_at {H : Hp} {vs : List V} {ps : List Pr} (h : Prs H vs ps) {x : V} (hx : x ∈ vs) : ctn H x = some ((ctn H x).getD (mt, mt)) := by
  obtain ⟨p, _, e⟩ := List.mem_map.mp (h ▸ List.mem_map.mpr ⟨x, hx, rfl⟩ : ctn H x ∈ ps.map some)
  rw [← e]
  rfl
theorem prs_nil {H : Hp} : Prs H [] [] := rfl
theorem prs_cons {H : Hp} {t : Addr} {p : Pr} {vs : List V} {ps : List Pr} (h : H t = some (.tup [.str p.1, .str p.2])) (r : Prs H vs ps) : Prs H (.ref t :: vs) (p :: ps) := by
  unfold Prs at *
  rw [List.map_cons, List.map_cons, r, ctn_iff.mpr ⟨t, rfl, h⟩]
theorem pair_v {K : PySem.W.Frag} {H : Hp} {t : Addr} {p : Pr} (h : H t = some (.tup [.str p.1, .str p.2])) (ok : PairOk p) : PairV K H (.ref t) true := by
  obtain ⟨h1, h2⟩ := ok
  have l1 := sgB_iff.mp h1
  have l2 := sgB_iff.mp h2
  refine .inr (.inr ⟨t, _, _, true, true, rfl, st_of h, ?_, ?_, rfl⟩)
  · have := sgv_str (K := K) (H := H) (z := p.1) (lo := 1) (hi := 8) (by omega)
    rwa [h1] at this
  · have := sgv_str (K := K) (H := H) (z := p.2) (lo := 1) (hi := 1) (by omega)
    rwa [h2] at this
/-! ### comprehensions over pairs -/
section
variable {K : PySem.W.Frag} {σ : L2.St} {H : Hp} {te ta tl : TE} {t : TT}
theorem el_pairT {ps : List Pr} {xs : List V} {i j : Nat} {vs : List Nat} (f : Pr → Bool) (g : Pr → V) (h : EvTu K tl σ H xs) (hx : Prs H xs ps) (hz : ps.length ≤ 40000) (hw : ∀ x y, wipe (((wipe σ vs).set i (some x)).set j (some y)) vs = wipe σ vs)
    (ht : ∀ p ∈ ps, ∀ H1, Ex H H1 → EvT t (((wipe σ vs).set i (some (.str p.1))).set j (some (.str p.2))) H1 (f p)) (he : ∀ p ∈ ps, ∀ H1, Ex H H1 → f p = true → Ev te (((wipe σ vs).set i (some (.str p.1))).set j (some (.str p.2))) H1 (g p)) :
    EvL (tLc (iTup K tl) (gTup K 2 (gCons (gName i) (gCons (gName j) gNil))) t te vs) σ H ((ps.filter f).map g) := by
  have len := hx.len
  have main : EvL (tLc (iTup K tl) (gTup K 2 (gCons (gName i) (gCons (gName j) gNil))) t te vs) σ H (given xs.length (at_ ps f) (got ps g)) := fun H0 e Q q => h H0 e _ fun a H1 e1 ha =>
    ⟨a, rfl, ⟨xs, ha⟩, fun Dl hD => lc_it (n := xs.length) (walk_tup (xs := xs)) (Cw H1 (at_ ps f) (got ps g) Dl) ⟨hD, Ex.new hD, upd_same⟩ (fun _ H' _ p => ex_t p.2.1 ha)
      (fun k x H' H'' hk p y => by
        obtain ⟨rfl, hx'⟩ := y
        obtain ⟨T, q, rfl, hq, hT⟩ := hx.at hx'
        have eT := (e.trans e1).trans p.2.1
        have hm := List.mem_of_getElem? hq
        refine ⟨T, _, rfl, st_of (eT _ _ hT), rfl, _, _, rfl, _, _, rfl, rfl, hw _ _, cw_turn p (by omega) ?_ fun hf => ?_⟩
        · rw [at_of hq]
          exact ht q hm H1 (e.trans e1)
        · rw [at_of hq] at hf
          rw [got_of hq]
          exact he q hm H1 (e.trans e1) hf)
      (fun H' p => q Dl H' (fresh_back e1 p.1) (e1.trans p.2.1) p.2.2)⟩
  rw [len, given_of] at main
  exact main
end
/-! ### FrameRule -/
structure FName (K : PySem.W.Frag) (mg : Str → Option Value) (C : Addr) (mc : Value) : Prop where
  g : mg "FrameRule" = some (.ref C)
  rd : CRead K C mc
structure FCls (K : PySem.W.Frag) (C : Addr) : Prop where
  cls : Cls K C
  flag : NoAttr K C "flag"
  pairs : NoAttr K C "pairs"
/-- a rule of this flag and these pairs stands at o -/
def RuleAt (K : PySem.W.Frag) (C : Addr) (H : Hp) (o : Addr) (f : Str) (ps : List Pr) : Prop := ∃ dx q vs, H o = some (.ins C dx [("flag", .str f), ("pairs", .ref q)]) ∧ SqT K H q vs ∧ Prs H vs ps ∧ Good f ps
theorem RuleAt.mono {K : PySem.W.Frag} {C : Addr} {H H' : Hp} {o : Addr} {f : Str} {ps : List Pr} (e : Ex H H') (h : RuleAt K C H o f ps) : RuleAt K C H' o f ps := by
  obtain ⟨dx, q, vs, h1, h2, h3, h4⟩ := h
  exact ⟨dx, q, vs, e _ _ h1, ex_t e h2, h3.mono e, h4⟩
theorem RuleAt.good {K : PySem.W.Frag} {C : Addr} {H : Hp} {o : Addr} {f : Str} {ps : List Pr} (h : RuleAt K C H o f ps) : Good f ps := by
  obtain ⟨dx, q, vs, h1, h2, h3, h4⟩ := h
  exact h4
theorem RuleAt.ins {K : PySem.W.Frag} {C : Addr} {H : Hp} {o : Addr} {f : Str} {ps : List Pr} (h : RuleAt K C H o f ps) : ∃ dx fs, H o = some (.ins C dx fs) := by
  obtain ⟨dx, q, vs, h1, _⟩ := h
  exact ⟨dx, _, h1⟩
theorem q_forE {K : PySem.W.Frag} {σ : L2.St} {H : Hp} {a : Addr} {xs : List V} {ta : TA} {g : TG} {tu tz : TS} {D : Ends} (h : EvA ta σ H [.ref a]) (hx : SqT K H a xs) (Pv : Nat → L2.St → Hp → Prop) (h0 : ∀ H1, Ex H H1 → Pv 0 σ H1) (hl : ∀ i σ' H', i ≤ xs.length → Pv i σ' H' → SqT K H' a xs)
    (hs : ∀ i x σ' H' T, xs[i]? = some x → Pv i σ' H' → H' T = none → g (.ref T) σ' (L2.upd H' T (.tup [.int (i : Nat), x])) fun σ2 H2 => tu { D with nx := Pv (i + 1), ct := Pv (i + 1), bk := tz D } σ2 H2)
    (hd : ∀ σ' H', Pv xs.length σ' H' → tz D σ' H') : tSeq (tFor (iEnumT K ta) g tu) tz D σ H :=
  h H (Ex.refl H) _ fun H1 e1 => ⟨a, xs, rfl, ex_t e1 hx, for_it (D := { D with nx := tz D }) walk_enumT Pv (h0 H1 e1) hl (fun i v σ' H' H2 hi p y => by
    obtain ⟨T, x, z, rfl, hn, rfl, ex, ez⟩ := y
    obtain rfl := Option.some.inj ex
    exact hs i z σ' H' T ez p hn) hd⟩
structure GlbI (mg : Str → Option Value) : Prop where
  enum : mg "enumerate" = none
  set : mg "set" = none
  sorted : mg "sorted" = none
/-! what is wrong with what a rule is made of -/
abbrev BadR (CR : Addr) (v : V) (H : Hp) (E : XK) : Prop := Out1 CR "part" v H E
abbrev ManyW (CM : Addr) (H : Hp) (E : XK) : Prop := Out2 CM "what" "most" (.str "watches") (.int 4) H E
/-- what __init__ is told: the flag x, the pairs vs -/
def Made (K : PySem.W.Frag) (CR CM : Addr) (x : V) (vs : List V) (H : Hp) (E : XK) (ok : Str → List Pr → Prop) : Prop :=
  (SgV K H x 2 8 false ∧ BadR CR (.str "flag") H E) ∨ ∃ f, x = .str f ∧ sgB f 2 8 = true ∧
    ((∃ (i : Nat) (y : V), vs[i]? = some y ∧ PairV K H y false ∧ (∀ (j : Nat) (z : V), j < i → vs[j]? = some z → PairV K H z true) ∧ BadR CR (.int (i : Int)) H E) ∨
      ∃ ps, Prs H vs ps ∧ (∀ p ∈ ps, PairOk p) ∧ ps.length ≤ 900 ∧ ((¬ (ps.map (·.1)).Nodup ∧ BadR CR (.str "watch") H E) ∨ ((ps.map (·.1)).Nodup ∧ 4 < ps.length ∧ ManyW CM H E) ∨ ((ps.map (·.1)).Nodup ∧ ps.length ≤ 4 ∧ ok f ps)))
theorem Made.mono {K : PySem.W.Frag} {CR CM : Addr} {x : V} {vs : List V} {H H' : Hp} {E : XK} {ok ok' : Str → List Pr → Prop} (e : Ex H H') (k : ∀ f ps, ok f ps → ok' f ps) (h : Made K CR CM x vs H E ok) : Made K CR CM x vs H' E ok' := by
  rcases h with ⟨h1, h2⟩ | ⟨f, hf, h0, ⟨i, y, h1, h2, h3, h4⟩ | ⟨ps, h1, h2, h3, ⟨h4, h5⟩ | ⟨h4, h5, h6⟩ | ⟨h4, h5, h6⟩⟩⟩
  · exact .inl ⟨h1.mono e, h2.mono e⟩
  · exact .inr ⟨f, hf, h0, .inl ⟨i, y, h1, h2.mono e, fun j z a b => (h3 j z a b).mono e, h4.mono e⟩⟩
  · exact .inr ⟨f, hf, h0, .inr ⟨ps, h1.mono e, h2, h3, .inl ⟨h4, h5.mono e⟩⟩⟩
  · exact .inr ⟨f, hf, h0, .inr ⟨ps, h1.mono e, h2, h3, .inr (.inl ⟨h4, h5, h6.mono e⟩)⟩⟩
  · exact .inr ⟨f, hf, h0, .inr ⟨ps, h1.mono e, h2, h3, .inr (.inr ⟨h4, h5, k _ _ h6⟩)⟩⟩
abbrev nInit : List Str := ["self", "flag", "pairs", "at", "pair", "watch", "_"]
def spInit (K : PySem.W.Frag) (C CR CM : Addr) : Sp := fun vs H Q E => ∃ (o p dx : Addr) (x : V) (xs : List V), vs = [.ref o, x, .ref p] ∧ H o = some (.ins C dx []) ∧ SqT K H p xs ∧ xs.length ≤ 900 ∧
  Made K CR CM x xs H E fun f ps => ∀ qs H', Good f qs → qs.Perm ps → Keep o H H' → RuleAt K C H' o f qs → Q .non H'
def spInitA (K : PySem.W.Frag) (C CR CM : Addr) : Sp := fun vs H Q E => ∃ ws rest, vs = ws ++ rest ∧ ws.length = (["self", "flag"] : List Str).length ∧ rest.length ≤ sizeLine ∧ ∀ p, H p = none → spInit K C CR CM (ws ++ [V.ref p]) (L2.upd H p (.tup rest)) Q E
theorem scInit : FnScope nInit ((["self", "flag"] : List Str) ++ (["pairs"] : List Str)) (defScope (sFr 0)) := ⟨rfl, rfl, rfl, by decide +kernel, rfl, by decide +kernel, by decide +kernel⟩
/-- len(set(a new list of texts)) < n, n its length -/
theorem et_dup {X : Cx} {σ : L2.St} {H : Hp} {te tb : TE} {xs : List Str} (h : EvL te σ H (xs.map V.str)) (hz : xs.length ≤ 900) (hb : Ev tb σ H (.int (xs.length : Int))) :
    EvT (tTest (tOp (rI0 fun i j => .bl (decide (i < j))) (tCB (rLenS X) (tCons (tCB (rSetT X) (tCons te tNil)) tNil)) tb)) σ H (!decide xs.Nodup) := fun H1 e Q q =>
  h H1 e _ fun l H2 hl e2 h2 => ⟨l, xs, rfl, sq_of h2, by omega, fun a ks ha same => by
    obtain ⟨k1, k2, k3⟩ := same
    refine ⟨a, ks, rfl, upd_same, by omega, hb _ (e.trans (e2.trans (Ex.new ha))) _ fun H3 e3 => ⟨_, _, rfl, rfl, _, rfl, ?_⟩⟩
    have c : decide ((ks.length : Int) < (xs.length : Int)) = !decide xs.Nodup := by
      by_cases n : xs.Nodup
      · have := all_there xs ks n fun k hk => (k2 k).mpr hk
        rw [decide_eq_true n, Bool.not_true, decide_eq_false_iff_not]
        omega
      · have := (few xs ks k1 fun k hk => (k2 k).mp hk).2 n
        rw [decide_eq_false n, Bool.not_false, decide_eq_true_iff]
        omega
    rw [c]
    exact q H3 ((e2.trans (Ex.new ha)).trans e3)⟩
/-- sorted pairs with distinct watches rise -/
theorem rise_of {qs : List Pr} (h : qs.Pairwise fun p q => lexT q p = false) (n : (qs.map (·.1)).Nodup) : Rise qs := by
  unfold List.Nodup at n
  rw [List.pairwise_map] at n
  exact (h.and n).imp fun {p q} z => by
    obtain ⟨z1, z2⟩ := z
    unfold lexT at z1
    rw [if_neg (fun e => z2 e.symm)] at z1
    exact ltB_tot z1 fun e => z2 e.symm
section
variable {P : Program} {w : World} {K : PySem.W.Frag} {mg : Str → Option Value} {base : Heap}
/-- the suite of __init__ -/
theorem runs_Init {C f CR fR CM fM : Addr} {cdv : Value} {fdR fdM : FuncData} (G : FCls K C) (T : GlbT mg) (S : GlbS mg) (D : GlbD mg) (I : GlbI mg)
    (B : GOne P w K mg base "BadRule" "part" CR fR fdR) (M : GTwo P w K mg base "TooMany" "what" "most" CM fM fdM) (GW : Gfn P w K mg base 2 "is_signs_within" ["value", "least", "most"] (spSignsW K)) (GP : Gfn P w K mg base 3 "is_pair" ["value"] (spIsP K))
    (A : Around) (outer : List Env) (s : Shared) (H : Hp) (vs : List V) (Q : VK) (E : XK) (hr : Room 3 (A.deeper (PyProof.Rows.envOfC "FrameRule.__init__" (defScope (sFr 0)) s.heap.objs.size f cdv))) (h : spInit K C CR CM vs H Q E) :
    ∃ t, PSs (cxOf (L2.CX P w) P w K mg base nInit "FrameRule.__init__" (defScope (sFr 0)) f cdv A outer s H E) (defBody (sFr 0)) t ∧ t { nx := fun _ H' => Q .non H', rt := Q } (L2.start nInit vs) H := by
  obtain ⟨fW, fdW, GW, kW, bW, gW⟩ := GW
  obtain ⟨fP, fdP, GP, kP, bP, gP⟩ := GP
  obtain ⟨t4, g4⟩ := D.most
  obtain ⟨o, p, dx, x, xs, rfl, hO, hP, hl, hm⟩ := h
  have hr2 := hr.mono (show 2 ≤ 3 by decide)
  refine ⟨_, pss_cons (ps_if (pt_not (pt_val (pe_call GW hr2 (by rfl) gW kW bW .nil pass0 (pa_cons (pv 1) (pa_cons pe_int (pa_cons pe_int pa_nil)))))) (pss_one (ps_raise rfl (takes_of rfl rfl rfl rfl) (pmk_oex B.ox B.init B.ty B.ok hr2 B.b .nil pass0 (by rfl) B.g (pa_cons pe_str pa_nil)))) pss_nil)
    (pss_cons (ps_for (passes_of rfl) rfl (pi_enumT (by rfl) I.enum (pa_cons (pv 2) pa_nil)) (pg_tup rfl (pgs_cons (pg_name (i := 3) scInit.nd rfl (.inl rfl)) (pgs_cons (pg_name (i := 4) scInit.nd rfl (.inl rfl)) pgs_nil)))
      (pss_one (ps_if (pt_not (pt_val (pe_call GP hr (by rfl) gP kP bP .nil pass0 (pa_cons (pv 4) pa_nil)))) (pss_one (ps_raise rfl (takes_of rfl rfl rfl rfl) (pmk_oex B.ox B.init B.ty B.ok hr2 B.b .nil pass0 (by rfl) B.g (pa_cons (pv 3) pa_nil)))) pss_nil)))
    (pss_cons (ps_if (pt_cmpR op_lt (pe_callB cr_lenS (by rfl) T.len PySem.boot_len (pa_cons (pe_callTy (cr_setT rfl) (by rfl) I.set (by decide +kernel) (pa_cons (pe_lc (own := [("watch", 5), ("_", 6)]) (g := gTup K 2 (gCons (gName 5) (gCons (gName 6) gNil))) rfl scInit.nd (pi_tup (pv 2)) (blkOk_by (own := [("watch", 5), ("_", 6)]) (N := nInit) (sc := defScope (sFr 0)) (by decide +kernel))
        (fun _ _ _ _ _ => pg_tup rfl (pgs_cons (pg_name (i := 5) scInit.nd rfl (Or.inl rfl)) (pgs_cons (pg_name (i := 6) scInit.nd rfl (Or.inl rfl)) pgs_nil))) (fun _ _ _ _ _ => pts_nil) (fun _ _ _ _ _ => pv 5)) pa_nil)) pa_nil)) (pe_callB call_len_seq (by rfl) T.len PySem.boot_len (pa_cons (pv 2) pa_nil)) (nomark _))
      (pss_one (ps_raise rfl (takes_of rfl rfl rfl rfl) (pmk_oex B.ox B.init B.ty B.ok hr2 B.b .nil pass0 (by rfl) B.g (pa_cons pe_str pa_nil)))) pss_nil)
    (pss_cons (ps_if (pt_cmpR op_gt (pe_callB call_len_seq (by rfl) T.len PySem.boot_len (pa_cons (pv 2) pa_nil)) (pe_glob (v := .int 4) rfl g4 ⟨_, rfl⟩) (nomark _))
      (pss_one (ps_raise rfl (takes_of rfl rfl rfl rfl) (pmk_oex M.ox M.init M.ty M.ok hr2 M.b .nil pass0 (by rfl) M.g (pa_cons pe_str (pa_cons (pe_glob (v := .int 4) rfl g4 ⟨_, rfl⟩) pa_nil))))) pss_nil)
    (pss_cons (PS.calm_ (ps_fld (pv 0) (pv 1) (by rfl)))
    (pss_one (PS.calm_ (ps_fld (pv 0) (pe_tupleOf (by rfl) S.tuple (pe_callB cr_sortedTT (by rfl) I.sorted (by decide +kernel) (pa_cons (pv 2) pa_nil))) (by rfl)))))))), ?_⟩
  have flagE : ∀ {H1 : Hp} {σ : L2.St} {b : Bool}, σ[1]? = some (some x) → SgV K H1 x 2 8 b → EvT (tNot (tB (tCall (spSignsW K) [] E0 (tCons (tVar 1) (tCons (tC (.int 2)) (tCons (tC (.int 8)) tNil)))))) σ H1 (!b) := fun h0 h1 => et_not (et_B (ev_sgw (ev_var h0) ev_c ev_c h1))
  rcases hm with ⟨h1, h2⟩ | ⟨f', rfl, h0, hm⟩
  · exact q_when (b := true) (flagE rfl h1) (fun _ H1 e1 => raise_one (ea_cons ev_c ea_nil) (h2.mono e1)) (fun z => absurd z (by decide))
  have fl := sgB_iff.mp h0
  have sg : ∀ {H1 : Hp}, SgV K H1 (.str f') 2 8 true := fun {H1} => by
    have := sgv_str (K := K) (H := H1) (z := f') (lo := 2) (hi := 8) (by omega)
    rwa [h0] at this
  refine q_when (b := false) (flagE rfl sg) (fun z => absurd z (by decide)) (fun _ H1 e1 => ?_)
  have turn : ∀ {H2 : Hp} {i : Nat} {y : V} {b : Bool} {x5 x6 : Option V}, PairV K H2 y b → EvT (tNot (tB (tCall (spIsP K) [] E0 (tCons (tVar 4) tNil)))) [some (.ref o), some (.str f'), some (.ref p), some (.int (i : Int)), some y, x5, x6] H2 (!b) := fun h => et_not (et_B (ev_call (z := .bl _) (ea_cons (ev_var rfl) ea_nil) fun H3 e3 Q q E => ⟨_, _, rfl, h.mono e3, q⟩))
  rcases hm with ⟨i, y, hi, hy, all, hE⟩ | ⟨ps, hps, ok, h900, hm⟩
  · have lt := (List.getElem?_eq_some_iff.mp hi).1
    refine q_forE (K := K) (a := p) (xs := xs) (ea_cons (ev_var rfl) ea_nil) (ex_t e1 hP) (fun j σ' H' => j ≤ i ∧ (∃ x1 x2 : Option V, σ' = [some (.ref o), some (.str f'), some (.ref p), x1, x2, none, none]) ∧ Ex H H') (fun H2 e2 => ⟨Nat.zero_le _, ⟨none, none, rfl⟩, e1.trans e2⟩) (fun _ _ H' _ q => ex_t q.2.2 hP) ?_ ?_
    · rintro j z σ' H2 T2 hz ⟨hj, ⟨x1, x2, rfl⟩, e2⟩ hT2
      have e3 := e2.trans (Ex.new (o := .tup [.int (j : Nat), z]) hT2)
      refine ⟨T2, [.int (j : Nat), z], rfl, st_of upd_same, rfl, _, _, rfl, _, _, rfl, rfl, ?_⟩
      by_cases c : j = i
      · subst c
        rw [hi] at hz
        obtain rfl := Option.some.inj hz
        exact s_if (b := true) (turn (hy.mono e3)) (fun _ H3 e4 => raise_one (ea_cons (ev_var rfl) ea_nil) (hE.mono (e3.trans e4))) (fun z => absurd z (by decide))
      · exact s_if (b := false) (turn ((all j z (by omega) hz).mono e3)) (fun hb => absurd hb (by decide)) fun _ H3 e4 => ⟨by omega, ⟨_, _, rfl⟩, e3.trans e4⟩
    · rintro σ' H2 ⟨hj, _⟩
      exact absurd hj (by omega)
  have len := hps.len
  refine q_forE (K := K) (a := p) (xs := xs) (ea_cons (ev_var rfl) ea_nil) (ex_t e1 hP) (fun j σ' H' => (∃ x1 x2 : Option V, σ' = [some (.ref o), some (.str f'), some (.ref p), x1, x2, none, none]) ∧ Ex H H') (fun H2 e2 => ⟨⟨none, none, rfl⟩, e1.trans e2⟩) (fun _ _ H' _ q => ex_t q.2 hP) ?_ ?_
  · rintro j z σ' H2 T2 hz ⟨⟨x1, x2, rfl⟩, e2⟩ hT2
    have e3 := e2.trans (Ex.new (o := .tup [.int (j : Nat), z]) hT2)
    refine ⟨T2, [.int (j : Nat), z], rfl, st_of upd_same, rfl, _, _, rfl, _, _, rfl, rfl, ?_⟩
    obtain ⟨t, q, rfl, hq, ht⟩ := hps.at hz
    exact s_if (b := false) (turn (pair_v (e3 _ _ ht) (ok q (List.mem_of_getElem? hq)))) (fun hb => absurd hb (by decide)) fun _ H3 e4 => ⟨⟨_, _, rfl⟩, e3.trans e4⟩
  · rintro σ' H2 ⟨⟨x1, x2, rfl⟩, e2⟩
    have ln : ∀ {H3 : Hp}, Ex H H3 → Ev (tCB (rLenQ K) (tCons (tVar 2) tNil)) [some (.ref o), some (.str f'), some (.ref p), x1, x2, none, none] H3 (.int (ps.length : Int)) := fun e => ev_is (ev_lenTu (etu_var rfl (ex_t e hP))) (by rw [len])
    have watches : EvL (tLc (iTup K (tVar 2)) (gTup K 2 (gCons (gName 5) (gCons (gName 6) gNil))) (fun σ H Q => Q true H) (tVar 5) [5, 6]) [some (.ref o), some (.str f'), some (.ref p), x1, x2, none, none] H2 ((ps.map (·.1)).map V.str) := by
      have c := el_pairT (K := K) (σ := [some (.ref o), some (.str f'), some (.ref p), x1, x2, none, none]) (H := H2) (t := fun σ H Q => Q true H) (te := tVar 5) (tl := tVar 2) (i := 5) (j := 6) (vs := [5, 6]) (fun _ => true) (fun q => V.str q.1) (etu_var rfl (ex_t e2 hP)) (hps.mono e2) (by omega) (fun _ _ => rfl)
        (fun q hq H1 e => et_none) (fun q hq H1 e _ => ev_var rfl)
      rw [List.filter_eq_self.mpr (fun _ _ => rfl)] at c
      rw [List.map_map]
      exact c
    have lw : (ps.map (·.1)).length = ps.length := List.length_map _
    refine q_when (et_dup watches (by rw [lw]; exact h900) (ev_is (ln e2) (by rw [lw]))) (fun hb H3 e3 => ?_) (fun hb H3 e3 => ?_)
    · rw [Bool.not_eq_true', decide_eq_false_iff_not] at hb
      rcases hm with ⟨_, hE⟩ | ⟨h4, _⟩ | ⟨h4, _⟩
      · exact raise_one (ea_cons ev_c ea_nil) (hE.mono (e2.trans e3))
      · exact absurd h4 hb
      · exact absurd h4 hb
    rw [Bool.not_eq_false', decide_eq_true_iff] at hb
    refine q_when (et_test (ev_op (ln (e2.trans e3)) ev_c rv_I0)) (fun hc H4 e4 => ?_) (fun hc H4 e4 => ?_)
    · have far : (ps.length : Int) > 4 := of_decide_eq_true hc
      rcases hm with ⟨h4, _⟩ | ⟨_, _, hE⟩ | ⟨_, h5, _⟩
      · exact absurd hb h4
      · exact raise_two (ea_cons ev_c (ea_cons ev_c ea_nil)) (hE.mono ((e2.trans e3).trans e4))
      · omega
    have near : ¬ (ps.length : Int) > 4 := of_decide_eq_false hc
    rcases hm with ⟨h4, _⟩ | ⟨_, h5, _⟩ | ⟨_, _, k⟩
    · exact absurd hb h4
    · omega
    have E4 := (e2.trans e3).trans e4
    have hO4 := E4 _ _ hO
    refine ⟨_, rfl, _, rfl, o, C, dx, [], rfl, hO4, G.cls, G.flag, Nat.le_of_ble_eq_true rfl, ?_⟩
    have hP5 := sqT_upd (u := .ins C dx (putF "flag" (.str f') [])) (ex_t E4 hP) hO4
    have hps5 := (hps.mono E4).upd (u := .ins C dx (putF "flag" (.str f') [])) hO4
    have hO5 : (upd H4 o (.ins C dx (putF "flag" (.str f') []))) o = some (.ins C dx [("flag", .str f')]) := upd_same
    have kp5 : Keep o H (upd H4 o (.ins C dx (putF "flag" (.str f') []))) := fun c u hc hn => by rw [upd_ne hn]; exact E4 _ _ hc
    generalize upd H4 o (.ins C dx (putF "flag" (.str f') [])) = H5 at hP5 hps5 hO5 kp5
    refine ⟨_, rfl, p, xs, fun x => (ctn H5 x).getD (mt, mt), rfl, hP5, fun x hx => ctn_iff.mp (prs_key_at hps5 hx), fun ys l srt pm hl => .inl ⟨l, ys, rfl, sq_of upd_same, fun r hr => ?_⟩⟩
    have e6 : Ex H5 (upd (upd H5 l (.lst ys)) r (.tup ys)) := (Ex.new hl).trans (Ex.new hr)
    have hO6 := e6 _ _ hO5
    refine ⟨_, rfl, o, C, dx, _, rfl, hO6, G.cls, G.pairs, Nat.le_of_ble_eq_true rfl, ?_⟩
    have pq : (ys.map fun x => (ctn H5 x).getD (mt, mt)).Perm ps := by
      have := pm.map fun x => (ctn H5 x).getD (mt, mt)
      rwa [prs_key hps5] at this
    have prs5 : Prs H5 ys (ys.map fun x => (ctn H5 x).getD (mt, mt)) := by
      unfold Prs
      rw [List.map_map]
      exact List.map_congr_left fun x hx => prs_key_at hps5 (pm.mem_iff.mp hx)
    have good : Good f' (ys.map fun x => (ctn H5 x).getD (mt, mt)) := by
      refine ⟨h0, fun q hq => ok q (pq.mem_iff.mp hq), by rw [pq.length_eq]; omega, rise_of ?_ ((pq.map (·.1)).nodup_iff.mpr hb)⟩
      rw [List.pairwise_map]
      exact srt
    refine k _ _ good pq (fun c u hc hn => ?_) ⟨dx, r, ys, upd_same, ?_, ?_, good⟩
    · rw [upd_ne hn]
      exact e6 _ _ (kp5 c u hc hn)
    · exact sqT_upd (st_of upd_same) hO6
    · exact (prs5.mono e6).upd hO6
theorem ok_Init {C f CR fR CM fM : Addr} {mc : Value} {fd fdR fdM : FuncData} (F : Fun K "__init__" "FrameRule.__init__" (sFr 0) f fd) (G : FCls K C) (T : GlbT mg) (S : GlbS mg) (D : GlbD mg) (I : GlbI mg)
    (B : GOne P w K mg base "BadRule" "part" CR fR fdR) (M : GTwo P w K mg base "TooMany" "what" "most" CM fM fdM) (GW : Gfn P w K mg base 2 "is_signs_within" ["value", "least", "most"] (spSignsW K)) (GP : Gfn P w K mg base 3 "is_pair" ["value"] (spIsP K)) :
    FnR P w K mg base (L2.CX P w) 4 f (spInitA K C CR CM) := by
  obtain ⟨oc, od, kV, doc, pm, an, cdv, ct, osl, rfl, lk, hcd⟩ := F.ex
  exact fn_star (ps := ["self", "flag"]) (sp := spInit K C CR CM) lk hcd scInit cxUp (bind_star2 (B := fun us => bindArgs (PySem.W.fnOf "__init__" "FrameRule.__init__" (defArgs (sFr 0)) (defBody (sFr 0)) (defScope (sFr 0)) .none kV doc pm an cdv ct) ⟨us, []⟩) (fun a b => rfl) fun a b r rs => rfl) fun A outer s H vs Q E hr h => runs_Init G T S D I B M GW GP A outer s H vs Q E hr h
/-- FrameRule(flag = e) -/
theorem ok_InitK {C f CR fR CM fM : Addr} {mc : Value} {fd fdR fdM : FuncData} (F : Fun K "__init__" "FrameRule.__init__" (sFr 0) f fd) (G : FCls K C) (T : GlbT mg) (S : GlbS mg) (D : GlbD mg) (I : GlbI mg)
    (B : GOne P w K mg base "BadRule" "part" CR fR fdR) (M : GTwo P w K mg base "TooMany" "what" "most" CM fM fdM) (GW : Gfn P w K mg base 2 "is_signs_within" ["value", "least", "most"] (spSignsW K)) (GP : Gfn P w K mg base 3 "is_pair" ["value"] (spIsP K)) :
    Kw1 P w K mg base (L2.CX P w) 4 f "flag" (spInit K C CR CM) := by
  obtain ⟨oc, od, kV, doc, pm, an, cdv, ct, osl, rfl, lk, hcd⟩ := F.ex
  exact kw1 (a0 := "self") (pv := "pairs") lk hcd scInit cxUp (fun _ _ => rfl) fun A outer s H vs Q E hr h => runs_Init G T S D I B M GW GP A outer s H vs Q E hr h
end
end K09
namespace K09
open PySem L2 Evl Gr StX EnT ClX ClK RdX SrtT StS
abbrev sRw : Stmt := top 25
theorem pw_snoc : ∀ (l : List Pr) (p : Pr), pw (l ++ [p]) = if l = [] then [p.1, p.2] else pw l ++ [comma, p.1, p.2]
  | [], p => rfl
  | [a], p => rfl
  | a :: b :: r, p => by
    have ih := pw_snoc (b :: r) p
    rw [if_neg (by simp)] at ih ⊢
    show a.1 :: a.2 :: comma :: pw ((b :: r) ++ [p]) = (a.1 :: a.2 :: comma :: pw (b :: r)) ++ _
    rw [ih]
    rfl
/-! ### a rule is made -/
def RetRu (K : PySem.W.Frag) (C : Addr) (f : Str) (ps : List Pr) (H : Hp) (Q : VK) : Prop := ∀ o H', Ex H H' → RuleAt K C H' o f ps → Q (.ref o) H'
theorem RetRu.mono {K : PySem.W.Frag} {C : Addr} {f : Str} {ps : List Pr} {H H' : Hp} {Q : VK} (e : Ex H H') (h : RetRu K C f ps H Q) : RetRu K C f ps H' Q := fun o H2 e2 r => h o H2 (e.trans e2) r
/-- gives a rule of this flag and these pairs -/
def EvRu (K : PySem.W.Frag) (C : Addr) (te : TE) (σ : L2.St) (H : Hp) (f : Str) (ps : List Pr) : Prop := ∀ H1, Ex H H1 → ∀ Q : VK, (∀ o H2, Ex H1 H2 → RuleAt K C H2 o f ps → Q (.ref o) H2) → te σ H1 Q
theorem eru_var {K : PySem.W.Frag} {C : Addr} {σ : L2.St} {H : Hp} {f : Str} {ps : List Pr} {i : Nat} {o : Addr} (h0 : σ[i]? = some (some (.ref o))) (h : RuleAt K C H o f ps) : EvRu K C (tVar i) σ H f ps := fun H1 e Q q => ⟨_, h0, q o H1 (Ex.refl H1) (h.mono e)⟩
section
variable {K : PySem.W.Frag} {C CR CM : Addr} {σ : L2.St} {H : Hp} {t : TA} {E : XK} {Q : VK}
/-- what __init__ is told -/
theorem init_told {x dx : Addr} {v : V} {xs : List V} (hx : H x = none) (hd : H dx = none) (hn : dx ≠ x) (hl : xs.length ≤ 900) (m : Made K CR CM v xs H E fun f ps => ∀ qs, Good f qs → qs.Perm ps → RetRu K C f qs H Q) :
    spInitA K C CR CM (V.ref x :: v :: xs) (upd (upd H dx (.own x)) x (.ins C dx [])) (fun v H2 => v = .non ∧ Q (.ref x) H2) E := by
  have e3 : Ex H (upd (upd H dx (.own x)) x (.ins C dx [])) := (Ex.new hd).trans (Ex.new (by rw [upd_ne hn.symm]; exact hx))
  refine ⟨[.ref x, v], xs, rfl, rfl, sz_of (by omega), fun p hp => ?_⟩
  have e4 := Ex.new (o := .tup xs) hp
  refine ⟨x, p, dx, v, xs, rfl, e4 _ _ upd_same, st_of upd_same, hl, m.mono (e3.trans e4) fun f ps k qs H' g pm kp at_ => ⟨rfl, k qs g pm x H' (fun c u hc => kp c u (e4 _ _ (e3 _ _ hc)) (ne_of_none hc hx)) at_⟩⟩
theorem s_makeU {v : V} {xs : List V} (h : EvA t σ H (v :: xs)) (hl : xs.length ≤ 900) (m : Made K CR CM v xs H E fun f ps => ∀ qs, Good f qs → qs.Perm ps → RetRu K C f qs H Q) : tMakeR C (spInitA K C CR CM) E t σ H Q :=
  h H (Ex.refl H) _ fun H1 e1 x dx hx hd hn => init_told hx hd hn hl (m.mono e1 fun f ps k qs g pm => (k qs g pm).mono e1)
end
theorem s_ext {K : PySem.W.Frag} {σ : L2.St} {H : Hp} {ta te : TE} {D : Ends} {l : Addr} {xs ys : List V} (hl : H l = some (.lst xs)) (ha : Ev ta σ H (.ref l)) (h : EvL te σ H ys) (hz : xs.length + ys.length ≤ 100000) (k : ∀ p H1, H p = none → Ex H H1 → H1 p = some (.lst ys) → D.nx σ (upd H1 l (.lst (xs ++ ys)))) :
    tDrop (tBM K "list" rExtend ta (tCons te tNil)) D σ H := ha H (Ex.refl H) _ fun H1 e1 =>
  ⟨Or.inl ⟨rfl, xs, sq_of (e1 l _ hl)⟩, h H1 e1 _ fun p H2 hp e2 h2 => ⟨l, p, xs, ys, rfl, rfl, e2 l _ (e1 l _ hl), h2, sz_of hz, k p H2 (fresh_back e1 hp) (e1.trans e2) h2⟩⟩
/-- a rule whose pairs rise is made of them -/
theorem made_ok {K : PySem.W.Frag} {CR CM : Addr} {H : Hp} {E : XK} {f : Str} {ps qs : List Pr} {xs : List V} {ok : Str → List Pr → Prop} (g : Good f qs) (hp : Prs H xs ps) (pm : ps.Perm qs) (k : ok f ps) : Made K CR CM (.str f) xs H E ok := by
  refine .inr ⟨f, rfl, g.flag, .inr ⟨ps, hp, fun p h => g.ok p (pm.mem_iff.mp h), ?_, .inr (.inr ⟨(pm.map (·.1)).nodup_iff.mpr (rise_nodup g.rise), ?_, k⟩)⟩⟩
  · have := g.many
    have := pm.length_eq
    omega
  · have := g.many
    have := pm.length_eq
    omega
theorem good_one {f : Str} {ps qs : List Pr} (g : Good f ps) (h : Good f qs) (pm : ps.Perm qs) : ps = qs :=
  sort_one (List.Pairwise.imp (fun {p q} z => by
    have z := z
    cases c : lexT q p with
    | false => rfl
    | true =>
      have := lexT_tr z c
      rw [lexT_irr] at this
      cases this) (rise_lex g.rise)) pm h.rise
section
variable {P : Program} {w : World} {K : PySem.W.Frag} {mg : Str → Option Value} {base : Heap}
/-! ### rule_words -/
abbrev nRw : List Str := ["flag", "pairs", "words", "at", "watch", "put"]
def spRw (K : PySem.W.Frag) : Sp := fun vs H Q _ => ∃ (f : Str) (q : Addr) (xs : List V) (ps : List Pr), vs = [.str f, .ref q] ∧ SqT K H q xs ∧ Prs H xs ps ∧ ps.length ≤ 900 ∧ ∀ p H', H p = none → Ex H H' → H' p = some (.lst ((rw_ f ps).map V.str)) → Q (.ref p) H'
theorem scRw : FnScope nRw ["flag", "pairs"] (defScope sRw) := ⟨rfl, rfl, rfl, by decide +kernel, rfl, by decide +kernel, by decide +kernel⟩
theorem ok_Rw {f : Addr} {fd : FuncData} (F : Fun K "rule_words" "rule_words" sRw f fd) (I : GlbI mg) : FnOk P w K mg base CX0 1 f fd ["flag", "pairs"] (spRw K) := by
  refine F.ok scRw (fun vs H Q E h => ?_) (fun cdv A outer s H vs Q E hr h => ?_)
  · obtain ⟨f, q, xs, ps, rfl, _⟩ := h
    rfl
  · obtain ⟨z, q, xs, ps, rfl, hq, hp, hl, k⟩ := h
    refine ⟨_, pss_cons (ps_set (i := 2) scRw.nd rfl (.inl rfl) (pe_lst (pa_cons (pv 0) (pa_cons pe_str pa_nil))))
      (pss_cons (ps_for PassesOwn.never rfl (pi_enumT (by rfl) I.enum (pa_cons (pv 1) pa_nil)) (pg_tup rfl (pgs_cons (pg_name (i := 3) scRw.nd rfl (.inl rfl)) (pgs_cons (pg_tup rfl (pgs_cons (pg_name (i := 4) scRw.nd rfl (.inl rfl)) (pgs_cons (pg_name (i := 5) scRw.nd rfl (.inl rfl)) pgs_nil))) pgs_nil)))
        (pss_cons (ps_if (pt_cmpR op_gt (pv 3) pe_int (nomark _)) (pss_one (ps_expr (pe_bm PySem.F.plainAttrs_list PySem.F.slot_list_append PySem.F.type_list_append mt_append (pv 2) (pa_cons pe_str pa_nil)))) pss_nil)
        (pss_one (ps_expr (pe_bm PySem.F.plainAttrs_list PySem.F.slot_list_extend PySem.F.type_list_extend mt_extend (pv 2) (pa_cons (pe_lst (pa_cons (pv 4) (pa_cons (pv 5) pa_nil))) pa_nil))))))
      (pss_one (ps_ret (pv 2)))), ?_⟩
    have len := hp.len
    refine q_asgL (el_lst (ea_cons (ev_var rfl) (ea_cons ev_c ea_nil)) (by show 2 ≤ 100000; decide)) fun l H1 hl0 e1 h1 => ?_
    refine q_forE (K := K) (a := q) (xs := xs) (ea_cons (ev_var rfl) ea_nil) (ex_t e1 hq) (fun i σ' H' => (∃ x1 x2 x3 : Option V, σ' = [some (.str z), some (.ref q), some (.ref l), x1, x2, x3]) ∧ Ex H H' ∧ H' l = some (.lst ((rw_ z (ps.take i)).map V.str))) (fun H2 e2 => ⟨⟨none, none, none, rfl⟩, e1.trans e2, e2 _ _ h1⟩) (fun _ _ H' _ q' => ex_t q'.2.1 hq) ?_ ?_
    · rintro i x σ' H2 T2 hx ⟨⟨x1, x2, x3, rfl⟩, e2, h2⟩ hT
      obtain ⟨t, p, rfl, hpi, ht⟩ := hp.at hx
      have e3 := e2.trans (Ex.new (o := .tup [.int (i : Nat), .ref t]) hT)
      have h3 : (upd H2 T2 (.tup [.int (i : Nat), .ref t])) l = some (.lst ((rw_ z (ps.take i)).map V.str)) := (Ex.new hT) _ _ h2
      refine ⟨T2, [.int (i : Nat), .ref t], rfl, st_of upd_same, rfl, _, _, rfl, _, _, rfl, t, _, rfl, st_of (e3 _ _ ht), rfl, _, _, rfl, _, _, rfl, rfl, rfl, ?_⟩
      have lt := (List.getElem?_eq_some_iff.mp hpi).1
      have snoc : ps.take (i + 1) = ps.take i ++ [p] := by rw [List.take_add_one, hpi]; rfl
      have short : ((rw_ z (ps.take i)).map V.str).length ≤ 5000 := by
        rw [List.length_map, rw_len, pw_size, List.length_take]
        omega
      have he : ∀ {H4 : Hp}, EvL (tLst (tCons (tVar 4) (tCons (tVar 5) tNil))) [some (.str z), some (.ref q), some (.ref l), some (.int (i : Nat)), some (.str p.1), some (.str p.2)] H4 [.str p.1, .str p.2] := el_lst (ea_cons (ev_var rfl) (ea_cons (ev_var rfl) ea_nil)) (by show 2 ≤ 100000; decide)
      have fin : ∀ {H5 : Hp} {xs4 : List V}, Ex H H5 → xs4 ++ [V.str p.1, V.str p.2] = (rw_ z (ps.take (i + 1))).map V.str → (∃ y1 y2 y3 : Option V, [some (.str z), some (.ref q), some (.ref l), some (.int (i : Nat)), some (.str p.1), some (.str p.2)] = [some (.str z), some (.ref q), some (.ref l), y1, y2, y3]) ∧ Ex H (upd H5 l (.lst (xs4 ++ [V.str p.1, V.str p.2]))) ∧ (upd H5 l (.lst (xs4 ++ [V.str p.1, V.str p.2]))) l = some (.lst ((rw_ z (ps.take (i + 1))).map V.str)) := fun e q => ⟨⟨_, _, _, rfl⟩, Ex.mut e hl0, by rw [upd_same, q]⟩
      refine q_when (et_test (ev_op (ev_var rfl) ev_c rv_I0)) (fun hb H4 e4 => ?_) (fun hb H4 e4 => ?_)
      · have i0 : (i : Int) > 0 := of_decide_eq_true hb
        refine s_app (e4 _ _ h3) (ev_var rfl) ev_c (by omega) fun H5 e5 => ?_
        have e6 : Ex H (upd H5 l (.lst ((rw_ z (ps.take i)).map V.str ++ [V.str ","]))) := Ex.mut ((e3.trans e4).trans e5) hl0
        refine s_ext upd_same (ev_var rfl) he (by rw [List.length_append]; show _ + 1 + 2 ≤ _; omega) fun r H6 hr e7 _ => fin (e6.trans e7) ?_
        rw [snoc]
        unfold rw_
        rw [pw_snoc, if_neg (fun e => by
          have := congrArg List.length e
          rw [List.length_take] at this
          simp only [List.length_nil] at this
          omega)]
        simp
      · have i0 : ¬ (i : Int) > 0 := of_decide_eq_false hb
        obtain rfl : i = 0 := by omega
        refine s_ext (e4 _ _ h3) (ev_var rfl) he (by show _ + 2 ≤ _; omega) fun r H6 hr e7 _ => fin ((e3.trans e4).trans e7) ?_
        rw [snoc]
        unfold rw_
        rw [pw_snoc, if_pos List.take_zero, List.take_zero]
        rfl
    · rintro σ' H2 ⟨⟨x1, x2, x3, rfl⟩, e2, h2⟩
      rw [List.take_of_length_le (by omega)] at h2
      exact s_ret (v := .ref l) (ev_var rfl) fun H3 e3 => k l H3 hl0 (e2.trans e3) (e3 _ _ h2)
/-! ### FrameRule.__eq__ -/
structure FIsi (K : PySem.W.Frag) (C : Addr) : Prop where
  ca : PySem.W.findIn K (.ref C) "__class__" = some (some (.builtin "object.__class__"))
  cn : PySem.W.specialIn K (.builtin "object.__class__") "__get__" = some (some (.builtin "getset_descriptor.__get__"))
  ct : PySem.W.takesIn K (.builtin "object.__class__") = some true
  cm : PySem.W.mroIn K C (.type "object") = some true
  own : PySem.W.kitOne K (.ref C) (.ref C) = some true
theorem ru_ty {K : PySem.W.Frag} {C : Addr} {H : Hp} {o : Addr} {f : Str} {ps : List Pr} (G : FCls K C) (I : FIsi K C) (h : RuleAt K C H o f ps) : TyX K H (.ref o) (.ref C) := by
  obtain ⟨dx, q, vs, h1, _⟩ := h
  exact .base (.ins h1 G.cls I.ca I.cn I.ct I.cm)
def spEq (K : PySem.W.Frag) (C : Addr) : Sp := fun vs H Q _ => ∃ (o : Addr) (f : Str) (ps : List Pr), RuleAt K C H o f ps ∧
  ((∃ (u : Addr) (g : Str) (qs : List Pr), vs = [.ref o, .ref u] ∧ RuleAt K C H u g qs ∧ RetV (.bl (decide (f = g) && decide (ps = qs))) H Q) ∨ ∃ (x : V) (T : String), vs = [.ref o, x] ∧ TyX K H x (.type T) ∧ PySem.W.kitOne K (.type T) (.ref C) = some false ∧ RetV (.bl false) H Q)
theorem scEq : FnScope ["self", "other"] ["self", "other"] (defScope (sFr 8)) := ⟨rfl, rfl, rfl, by decide +kernel, rfl, by decide +kernel, by decide +kernel⟩
/-! pairs as data -/
def pd (p : Pr) : PyData := .tuple [.str p.1, .str p.2]
theorem dp_prs {K : PySem.W.Frag} {H : Hp} : ∀ {vs : List V} {ps : List Pr}, Prs H vs ps → DpAll K H vs (ps.map pd)
  | [], [], _ => .nil
  | [], _ :: _, h => by cases h
  | _ :: _, [], h => by cases h
  | v :: vs, p :: ps, h => by
    have h' : ctn H v :: vs.map (ctn H) = some p :: ps.map some := h
    obtain ⟨h1, h2⟩ := List.cons.inj h'
    obtain ⟨t, rfl, ht⟩ := ctn_iff.mp h1
    exact .cons (.tup (st_of ht) (.cons (.str _) (.cons (.str _) .nil))) (dp_prs h2)
theorem pd_eqv (p q : Pr) : PyData.eqv (pd p) (pd q) = decide (p = q) := by
  obtain ⟨a, b⟩ := p
  obtain ⟨c, d⟩ := q
  simp only [pd, PyData.eqv, PyData.eqvAll, Bool.and_true]
  rw [Bool.eq_iff_iff, Bool.and_eq_true, beq_iff_eq, beq_iff_eq, decide_eq_true_iff, Prod.mk.injEq]
theorem sgB_low {z : Str} {lo hi : Int} (h : sgB z lo hi = true) : Low 0 (.str z) := low_str (sg_ok (sgB_iff.mp h).1)
theorem pd_low {p : Pr} (h : PairOk p) : Low 1 (pd p) := low_tup fun d hd => by
  rcases List.mem_cons.mp hd with rfl | hd
  · exact sgB_low h.1
  · rcases List.mem_cons.mp hd with rfl | hd
    · exact sgB_low h.2
    · cases hd
theorem prs_shaped {ps : List Pr} (h : ∀ p ∈ ps, PairOk p) : SeqAt.shaped (.tuple (ps.map pd)) = true := low_shaped (low_tup (n := 1) fun d hd => by
  obtain ⟨p, hp, rfl⟩ := List.mem_map.mp hd
  exact pd_low (h p hp)) (by decide)
theorem prs_eqv (ps qs : List Pr) : PyData.eqv (.tuple (ps.map pd)) (.tuple (qs.map pd)) = decide (ps = qs) := by
  simp only [PyData.eqv]
  exact eqvAll_map pd pd_eqv ps qs
theorem ed_pairs {K : PySem.W.Frag} {C : Addr} {σ : L2.St} {H : Hp} {ta : TE} {o : Addr} {f : Str} {ps : List Pr} (G : FCls K C) (ha : Ev ta σ H (.ref o)) (h : RuleAt K C H o f ps) : EvD K (tFld K ta "pairs") σ H (.tuple (ps.map pd)) := by
  obtain ⟨dx, q, vs, h1, h2, h3, _⟩ := h
  exact ed_of (ev_fld ha h1 G.cls G.pairs rfl) fun H1 e => .tup (ex_t e h2) (dp_prs (h3.mono e))
theorem ev_flag {K : PySem.W.Frag} {C : Addr} {σ : L2.St} {H : Hp} {ta : TE} {o : Addr} {f : Str} {ps : List Pr} (G : FCls K C) (ha : Ev ta σ H (.ref o)) (h : RuleAt K C H o f ps) : Ev (tFld K ta "flag") σ H (.str f) := by
  obtain ⟨dx, q, vs, h1, h2, h3, _⟩ := h
  exact ev_fld ha h1 G.cls G.flag rfl
theorem ev_isF {K : PySem.W.Frag} {C : Addr} {σ : L2.St} {H : Hp} {ta : TE} {o : Addr} {f : Str} {ps : List Pr} (G : FCls K C) (R : FIsi K C) (ha : Ev ta σ H (.ref o)) (h : RuleAt K C H o f ps) : Ev (tCB (rIsi K) (tCons ta (tCons (tC (.ref C)) tNil))) σ H (.bl true) :=
  ev_cb (ea_cons ha (ea_cons ev_c ea_nil)) fun H1 e _ q => ⟨.ref o, .ref C, .ref C, .ref C, true, rfl, .own C, tyx_mono e (ru_ty G R h), R.own, q H1 (Ex.refl H1)⟩
theorem ok_Eq {C f : Addr} {mc : Value} {fd : FuncData} (F : Fun K "__eq__" "FrameRule.__eq__" (sFr 8) f fd) (N : FName K mg C mc) (G : FCls K C) (R : FIsi K C) (inst : mg "isinstance" = none) : FnOk P w K mg base CX0 1 f fd ["self", "other"] (spEq K C) := by
  refine F.ok scEq (fun vs H Q E h => ?_) (fun cdv A outer s H vs Q E hr h => ?_)
  · rcases h with ⟨o, f, ps, _, ⟨u, g, qs, rfl, _⟩ | ⟨x, T, rfl, _⟩⟩ <;> rfl
  · obtain ⟨o, f', ps, hO, h⟩ := h
    rcases h with ⟨u, g, qs, rfl, hU, k⟩ | ⟨x, T, rfl, ht, hk, k⟩
    all_goals refine ⟨_, pss_one (ps_ret (pe_and (pe_callB call_isi (by rfl) inst (by decide +kernel) (pa_cons (pv 1) (pa_cons (pe_glob (v := .ref C) rfl N.g rfl) pa_nil)))
      (pe_and (pe_cmpR op_eq (pe_fld (pv 0) rfl) (pe_fld (pv 1) rfl) (nomark _)) (pe_one (pe_cmpR (op_eqD hr.units) (pe_fld (pv 0) rfl) (pe_fld (pv 1) rfl) (nomark _)))))), ?_⟩
    · refine s_ret (ev_is (ev_andV (ev_isF G R (ev_var rfl) hU) fun _ => ev_andV (ev_op (ev_flag G (ev_var rfl) hO) (ev_flag G (ev_var rfl) hU) (rv_eq rfl)) fun _ => ev_eqD (ed_pairs G (ev_var rfl) hO) (ed_pairs G (ev_var rfl) hU) (prs_shaped hO.good.ok) (prs_shaped hU.good.ok)) ?_) k
      rw [prs_eqv, dec_str, Bool.true_and]
    · exact s_ret (ev_is (ev_andV (b := true) (a := false) (ev_cb (ea_cons (ev_var rfl) (ea_cons ev_c ea_nil)) fun H1 e _ q => ⟨x, .ref C, .type T, .ref C, false, rfl, .own C, tyx_mono e ht, hk, q H1 (Ex.refl H1)⟩) fun hb => absurd hb (by decide)) rfl) k
end
end K09
namespace K09
open PySem L2 Evl Gr StX EnT ClX ClK RdX SrtT StS
theorem sum_most {b : Nat} : ∀ {l : List Nat}, (∀ n ∈ l, n ≤ b) → l.sum ≤ b * l.length
  | [], _ => by simp
  | a :: l, h => by
    have h1 := h a List.mem_cons_self
    have h2 := sum_most fun n hn => h n (List.mem_cons_of_mem _ hn)
    rw [List.sum_cons, List.length_cons, Nat.mul_add]
    omega
theorem wsum_most {b : Nat} {ws : List Str} (h : ∀ z ∈ ws, z.length ≤ b) : wsum ws ≤ b * ws.length := by
  unfold wsum
  have := sum_most (l := ws.map (·.length)) (b := b) fun n hn => by
    obtain ⟨z, hz, rfl⟩ := List.mem_map.mp hn
    exact h z hz
  rwa [List.length_map] at this
theorem good_size {f : Str} {ps : List Pr} (g : Good f ps) : wsum (rw_ f ps) ≤ 104 ∧ (rw_ f ps).length ≤ 13 := by
  have h1 := wsum_most (good_short g)
  have h2 : (rw_ f ps).length ≤ 13 := by
    rw [rw_len, pw_size]
    have := g.many
    omega
  omega
theorem good_tx {f : Str} {ps : List Pr} (g : Good f ps) : (tx (rw_ f ps)).length ≤ 117 := by
  have := good_size g
  have := tx_len (rw_ f ps)
  omega
abbrev rJoin (K : PySem.W.Frag) : V → List V → Hp → VK → Prop := fun x xs H Q => ∃ a p, ∃ ys : List Str, x = .str a ∧ xs = [.ref p] ∧ (SqL K H p (ys.map V.str) ∨ SqT K H p (ys.map V.str)) ∧ (ys.map (·.length)).sum + ys.length * a.length ≤ 16777216 ∧ Q (.str (Txt.join a ys)) H
section
variable {K : PySem.W.Frag} {C CR CM CB : Addr} {σ : L2.St} {H : Hp} {ta tb te : TE}
theorem ev_joinL {a : Str} {ys : List Str} (h : Ev ta σ H (.str a)) (he : EvL te σ H (ys.map V.str)) (hz : (ys.map (·.length)).sum + ys.length * a.length ≤ 16777216) : Ev (tM1 (rJoin K) ta te) σ H (.str (Txt.join a ys)) := fun H1 e Q q =>
  h H1 e _ fun H2 e2 => ⟨⟨a, rfl⟩, he H2 (e.trans e2) _ fun p H3 hp e3 h3 => ⟨a, p, ys, rfl, rfl, .inl (sq_of h3), hz, q H3 (e2.trans e3)⟩⟩
theorem ev_addS {a b : Str} (ha : Ev ta σ H (.str a)) (hb : Ev tb σ H (.str b)) (hz : a.length + b.length ≤ 100000) : Ev (tOp (fun x y H Q => ∃ i j, x = .str i ∧ y = .str j ∧ i.length + j.length ≤ sizeLine ∧ Q (.str (i ++ j)) H) ta tb) σ H (.str (a ++ b)) := ev_op ha hb fun H1 e Q q => ⟨a, b, rfl, rfl, sz_of hz, q H1 (Ex.refl H1)⟩
theorem ev_lenSq {p : Addr} {xs : List V} (h : Ev ta σ H (.ref p)) (hs : SqL K H p xs) : Ev (tCB (rLenQ K) (tCons ta tNil)) σ H (.int (xs.length : Int)) := fun H1 e Q q => h H1 e _ fun H2 e2 => ⟨p, xs, rfl, .inl (ex_l (e.trans e2) hs), q H2 e2⟩
end
def flip1 (p : Str) : Str := if p = "0" then "1" else "0"
section
variable {P : Program} {w : World} {K : PySem.W.Frag} {mg : Str → Option Value} {base : Heap}
/-! ### FrameRule.__str__ -/
def spStr (K : PySem.W.Frag) (C : Addr) : Sp := fun vs H Q _ => ∃ (o : Addr) (f : Str) (ps : List Pr), vs = [.ref o] ∧ RuleAt K C H o f ps ∧ RetV (.str (tx (rw_ f ps))) H Q
theorem scStr : FnScope ["self"] ["self"] (defScope (sFr 9)) := ⟨rfl, rfl, rfl, by decide +kernel, rfl, by decide +kernel, by decide +kernel⟩
theorem ok_Str {C f : Addr} {fd : FuncData} (F : Fun K "__str__" "FrameRule.__str__" (sFr 9) f fd) (G : FCls K C) (GR : Gfn P w K mg base 1 "rule_words" ["flag", "pairs"] (spRw K)) : FnOk P w K mg base CX0 2 f fd ["self"] (spStr K C) := by
  obtain ⟨fR, fdR, GR, kR, bR, gR⟩ := GR
  refine F.ok scStr (fun vs H Q E h => ?_) (fun cdv A outer s H vs Q E hr h => ?_)
  · obtain ⟨o, f, ps, rfl, _⟩ := h
    rfl
  · obtain ⟨o, f', ps, rfl, hO, k⟩ := h
    refine ⟨_, pss_one (ps_ret (pe_join pe_str (pe_call GR hr (by rfl) gR kR bR .nil pass0 (pa_cons (pe_fld (pv 0) rfl) (pa_cons (pe_fld (pv 0) rfl) pa_nil))))), ?_⟩
    have g := hO.good
    have sz := good_size g
    refine s_ret (ev_joinL ev_c ?_ ?_) k
    · have fl := ev_flag (σ := [some (.ref o)]) (ta := tVar 0) G (ev_var rfl) hO
      obtain ⟨dx, q, vs, h1, h2, h3, _⟩ := id hO
      have hl := g.many
      exact el_call (ea_cons fl (ea_cons (ev_fld (ev_var rfl) h1 G.cls G.pairs rfl) ea_nil)) fun H1 e Q1 q1 E1 => ⟨f', q, vs, ps, rfl, ex_t e h2, h3.mono e, by omega, q1⟩
    · have : ((rw_ f' ps).map (·.length)).sum ≤ 104 := sz.1
      have l1 : (" " : Str).length = 1 := by decide +kernel
      rw [l1]
      omega
/-! ### FrameRule.simple -/
def spSim (K : PySem.W.Frag) (C CR : Addr) : Sp := fun vs H Q E => ∃ x y, vs = [x, y] ∧ ((SgV K H x 1 7 false ∧ BadR CR (.str "watch") H E) ∨ ∃ z, x = .str z ∧ sgB z 1 7 = true ∧ ((SgV K H y 1 1 false ∧ BadR CR (.str "put") H E) ∨
  ∃ p, y = .str p ∧ sgB p 1 1 = true ∧ Good (z ++ flip1 p) [(z, p)] ∧ RetRu K C (z ++ flip1 p) [(z, p)] H Q))
theorem scSim : FnScope ["watch", "put"] ["watch", "put"] (defScope (sFr 1)) := ⟨rfl, rfl, rfl, by decide +kernel, rfl, by decide +kernel, by decide +kernel⟩
theorem ok_Sim {C CR CM f fI fR : Addr} {mc : Value} {fd fdR : FuncData} (F : Fun K "simple" "FrameRule.simple" (sFr 1) f fd) (N : FName K mg C mc) (M : Mk K C fI) (FI : FnR P w K mg base (L2.CX P w) 4 fI (spInitA K C CR CM))
    (B : GOne P w K mg base "BadRule" "part" CR fR fdR) (GW : Gfn P w K mg base 2 "is_signs_within" ["value", "least", "most"] (spSignsW K)) : FnOk P w K mg base (L2.CX P w) 6 f fd ["watch", "put"] (spSim K C CR) := by
  obtain ⟨fW, fdW, GW, kW, bW, gW⟩ := GW
  refine F.okX scSim (fun vs H Q E h => ?_) (fun cdv A outer s H vs Q E hr h => ?_)
  · obtain ⟨x, y, rfl, _⟩ := h
    rfl
  · have r2 := hr.mono (show 2 ≤ 5 by decide)
    obtain ⟨x, y, rfl, h⟩ := h
    refine ⟨_, pss_cons (ps_if (pt_not (pt_val (pe_call GW r2 (by rfl) gW kW bW .nil pass0 (pa_cons (pv 0) (pa_cons pe_int (pa_cons pe_int pa_nil)))))) (pss_one (ps_raise rfl (takes_of rfl rfl rfl rfl) (pmk_oex B.ox B.init B.ty B.ok r2 B.b .nil pass0 (by rfl) B.g (pa_cons pe_str pa_nil)))) pss_nil)
      (pss_cons (ps_if (pt_not (pt_val (pe_call GW r2 (by rfl) gW kW bW .nil pass0 (pa_cons (pv 1) (pa_cons pe_int (pa_cons pe_int pa_nil)))))) (pss_one (ps_raise rfl (takes_of rfl rfl rfl rfl) (pmk_oex B.ox B.init B.ty B.ok r2 B.b .nil pass0 (by rfl) B.g (pa_cons pe_str pa_nil)))) pss_nil)
      (pss_one (ps_ret (pe_makeR (E := E0) M FI hr (by rfl) N.g (passN rfl rfl) (pa_cons (pe_op op_add_str (pv 0) (pe_ifExp (pt_cmpR op_eq (pv 1) pe_str (nomark _)) pe_str pe_str)) (pa_cons (pe_tup (pa_cons (pv 0) (pa_cons (pv 1) pa_nil))) pa_nil)))))), ?_⟩
    have first : ∀ {H1 : Hp} {b : Bool}, SgV K H1 x 1 7 b → EvT (tNot (tB (tCall (spSignsW K) [] E0 (tCons (tVar 0) (tCons (tC (.int 1)) (tCons (tC (.int 7)) tNil)))))) [some x, some y] H1 (!b) := fun h1 => et_not (et_B (ev_sgw (ev_var rfl) ev_c ev_c h1))
    have second : ∀ {H1 : Hp} {b : Bool}, SgV K H1 y 1 1 b → EvT (tNot (tB (tCall (spSignsW K) [] E0 (tCons (tVar 1) (tCons (tC (.int 1)) (tCons (tC (.int 1)) tNil)))))) [some x, some y] H1 (!b) := fun h1 => et_not (et_B (ev_sgw (ev_var rfl) ev_c ev_c h1))
    rcases h with ⟨h1, hE⟩ | ⟨z, rfl, hz, h⟩
    · exact q_when (b := true) (first h1) (fun _ H1 e1 => raise_one (ea_cons ev_c ea_nil) (hE.mono e1)) (fun z => absurd z (by decide))
    have lz := sgB_iff.mp hz
    refine q_when (b := false) (first (b := true) (by
      have := sgv_str (K := K) (H := H) (z := z) (lo := 1) (hi := 7) (by omega)
      rwa [hz] at this)) (fun z => absurd z (by decide)) (fun _ H1 e1 => ?_)
    rcases h with ⟨h2, hE⟩ | ⟨p, rfl, hp, g, k⟩
    · exact q_when (b := true) (second (h2.mono e1)) (fun _ H2 e2 => raise_one (ea_cons ev_c ea_nil) (hE.mono (e1.trans e2))) (fun z => absurd z (by decide))
    have lp := sgB_iff.mp hp
    refine q_when (b := false) (second (b := true) (by
      have := sgv_str (K := K) (H := H1) (z := p) (lo := 1) (hi := 1) (by omega)
      rwa [hp] at this)) (fun z => absurd z (by decide)) (fun _ H2 e2 => ?_)
    have E2 := e1.trans e2
    have fl : Ev (tOp (fun x y H Q => ∃ i j, x = .str i ∧ y = .str j ∧ i.length + j.length ≤ sizeLine ∧ Q (.str (i ++ j)) H) (tVar 0) (tIf (tTest (tOp rEq (tVar 1) (tC (.str "0")))) (tC (.str "1")) (tC (.str "0")))) [some (.str z), some (.str p)] H2 (.str (z ++ flip1 p)) := by
      refine ev_addS (ev_var rfl) (ev_if (b := decide (p = "0")) (et_is (et_test (ev_op (ev_var rfl) ev_c (rv_eq rfl))) dec_str) (fun h => ?_) (fun h => ?_)) ?_
      · unfold flip1
        rw [if_pos (of_decide_eq_true h)]
        exact ev_c
      · unfold flip1
        rw [if_neg (of_decide_eq_false h)]
        exact ev_c
      · have : (flip1 p).length = 1 := by
          unfold flip1
          split <;> decide +kernel
        omega
    refine s_retR (cons_i (fl H2 (Ex.refl H2) _ fun H3 e3 => cons_i (tup_i (cons_i ⟨_, rfl, cons_i ⟨_, rfl, ?_⟩⟩))))
    refine ⟨by show 2 ≤ sizeLine; decide, fun t ht x dx hx hd hn => ?_⟩
    have e4 := Ex.new (o := .tup [.str z, .str p]) ht
    exact init_told (xs := [.ref t]) hx hd hn (by show 1 ≤ 900; decide) (made_ok g (prs_cons (p := (z, p)) upd_same prs_nil) (List.Perm.refl _) fun qs gq pm => by
      rw [good_one gq g pm]
      exact k.mono ((E2.trans e3).trans e4))
end
end K09
namespace K09
open PySem L2 Evl Gr StX EnT ClX ClK RdX SrtT StS
theorem Prs.updL {H : Hp} {vs xs : List V} {ps : List Pr} {l : Addr} {u : HO} (h : Prs H vs ps) (hl : H l = some (.lst xs)) : Prs (L2.upd H l u) vs ps := h.to fun t p q => by
  rw [upd_ne (fun z => by rw [z, hl] at q; cases q)]
  exact q
theorem prs_snoc {H : Hp} {vs : List V} {ps : List Pr} {t : Addr} {p : Pr} (h : Prs H vs ps) (ht : H t = some (.tup [.str p.1, .str p.2])) : Prs H (vs ++ [.ref t]) (ps ++ [p]) := by
  unfold Prs at *
  rw [List.map_append, List.map_append, h, List.map_cons, List.map_nil, ctn_iff.mpr ⟨t, rfl, ht⟩]
  rfl
/-- gives a pair of texts -/
def EvPr (te : TE) (σ : L2.St) (H : Hp) (p : Pr) : Prop := ∀ H1, Ex H H1 → ∀ Q : VK, (∀ t H2, Ex H1 H2 → H2 t = some (.tup [.str p.1, .str p.2]) → Q (.ref t) H2) → te σ H1 Q
section
variable {K : PySem.W.Frag} {σ : L2.St} {H : Hp} {ta : TA} {te tb : TE}
theorem ep_tup {p : Pr} (h1 : Ev te σ H (.str p.1)) (h2 : Ev tb σ H (.str p.2)) : EvPr (tTup (tCons te (tCons tb tNil))) σ H p := fun H1 e Q q =>
  h1 H1 e _ fun H2 e2 => h2 H2 (e.trans e2) _ fun H3 e3 => ⟨by show 2 ≤ sizeLine; decide, fun t ht => q t _ ((e2.trans e3).trans (Ex.new ht)) upd_same⟩
theorem lp_turn {H1 H' : Hp} {Dl : Addr} {σ2 : L2.St} {g : Nat → Pr} {i : Nat} (hD : H1 Dl = none) (p : ∃ xs, H' Dl = some (.lst xs) ∧ Prs H' xs ((List.range i).map g) ∧ Ex H1 H') (hi : i < 900) (he : EvPr te σ2 H1 (g i)) :
    te σ2 H' fun y H4 => ∃ acc, H4 Dl = some (.lst acc) ∧ acc.length < sizeLine ∧ ∃ xs, (upd H4 Dl (.lst (acc ++ [y]))) Dl = some (.lst xs) ∧ Prs (upd H4 Dl (.lst (acc ++ [y]))) xs ((List.range (i + 1)).map g) ∧ Ex H1 (upd H4 Dl (.lst (acc ++ [y]))) := by
  obtain ⟨xs, h1, h2, h3⟩ := p
  refine he H' h3 _ fun t H2 e2 ht => ⟨xs, e2 _ _ h1, ?_, xs ++ [.ref t], upd_same, ?_, Ex.mut (h3.trans e2) hD⟩
  · have := h2.len
    rw [List.length_map, List.length_range] at this
    exact sz_lt (by omega)
  · rw [List.range_succ, List.map_append]
    exact (prs_snoc (h2.mono e2) ht).updL (e2 _ _ h1)
/-- [a pair for k in range(lo, hi, c)] -/
theorem s_pairs3 {j : Nat} {vs : List Nat} {lo hi c : Int} {n : Nat} {Q : VK} (g : Nat → Pr) (h : EvA ta σ H [.int lo, .int hi, .int c]) (hr : RgC lo hi c n) (hn : n ≤ 900) (hw : ∀ x, wipe ((wipe σ vs).set j (some x)) vs = wipe σ vs)
    (he : ∀ k, k < n → ∀ H1, Ex H H1 → EvPr te ((wipe σ vs).set j (some (.int (lo + (k : Nat) * c)))) H1 (g k)) (q : ∀ p xs H', H p = none → Ex H H' → H' p = some (.lst xs) → Prs H' xs ((List.range n).map g) → Q (.ref p) H') :
    tLc (iRng3 ta) (gName j) (fun σ H Q => Q true H) te vs σ H Q := h H (Ex.refl H) _ fun H1 e1 => ⟨lo, hi, c, n, rfl, hr, fun Dl hD => lc_it (n := n) (walk_rangeC (lo := lo) (c := c)) (g := gName j) (tt := fun σ H Q => Q true H) (te := te) (vs := vs) (σ := σ) (fun i H' => ∃ xs, H' Dl = some (.lst xs) ∧ Prs H' xs ((List.range i).map g) ∧ Ex H1 H')
      ⟨[], upd_same, prs_nil, Ex.new hD⟩ (fun _ _ _ _ => trivial)
      (fun k x H' H'' hk p y => by
        obtain ⟨rfl, rfl⟩ := y
        exact ⟨hw _, lp_turn hD p (by omega) (he k hk H1 e1)⟩)
      (fun H' ⟨xs, h1, h2, h3⟩ => q Dl xs H' (fresh_back e1 hD) (e1.trans h3) h1 h2)⟩
end
section
variable {P : Program} {w : World} {K : PySem.W.Frag} {mg : Str → Option Value} {base : Heap}
/-! ### FrameRule.read -/
abbrev nRead : List Str := ["cls", "text", "words", "at", "pairs"]
def spRead (K : PySem.W.Frag) (C CB : Addr) : Sp := fun vs H Q E => (∃ ws d, vs = [.ref C, .str (tx ws)] ∧ ws ≠ [] ∧ Free ws ∧ (tx ws).length ≤ 1000 ∧ (∀ z ∈ ws, z.length ≤ 1000) ∧ ws.length ≤ 1000 ∧ Due ws d ∧
    (∀ i, d = some i → BadT CB (i : Int) H E) ∧ (d = none → RetRu K C (gw ws 0) (pairsOf ws) H Q)) ∨
  ∃ (x : V) (T : String), vs = [.ref C, x] ∧ TyX K H x (.type T) ∧ kitB T "str" = some false ∧ BadT CB 0 H E
theorem scRead : FnScope nRead ["cls", "text"] (defScope (sFr 10)) := ⟨rfl, rfl, rfl, by decide +kernel, rfl, by decide +kernel, by decide +kernel⟩
theorem ok_Read {C CR CM CB f fI fB : Addr} {mc : Value} {fd fdB : FuncData} (F : Fun K "read" "FrameRule.read" (sFr 10) f fd) (T : GlbT mg) (S : GlbS mg) (M : Mk K C fI) (FI : FnR P w K mg base (L2.CX P w) 4 fI (spInitA K C CR CM))
    (B : GTwo P w K mg base "BadText" "line" "word" CB fB fdB) {fW : Addr} {fdW : FuncData} (GW : FnOk P w K mg base (L2.CX P w) 3 fW fdW ["text"] (spWo K CB)) (kW : PySem.W.keepIn K (.ref fW) = true) (bW : Binds K fdW ["text"] []) (gW : mg "words_of" = some (.ref fW))
    (GC : Gfn P w K mg base 3 "can_stand" ["words", "at"] (spCan K)) : FnOk P w K mg base (L2.CX P w) 6 f fd ["cls", "text"] (spRead K C CB) := by
  obtain ⟨fC, fdC, GC, kC, bC, gC⟩ := GC
  refine F.okX scRead (fun vs H Q E h => ?_) (fun cdv A outer s H vs Q E hr h => ?_)
  · rcases h with ⟨ws, d, rfl, _⟩ | ⟨x, t, rfl, _⟩ <;> rfl
  · have r3 := hr.mono (show 3 ≤ 5 by decide)
    have r2 := hr.mono (show 2 ≤ 5 by decide)
    rcases h with ⟨ws, d, rfl, hn, ok, hl, hz, hl2, due, kd, kn⟩ | ⟨x, t, rfl, ht, hk, k⟩
    all_goals refine ⟨_, pss_cons (ps_set (i := 2) scRead.nd rfl (.inr rfl) (pe_call (E := E) GW r3 (by rfl) gW kW bW .nil (passes_call (takes_of rfl rfl rfl rfl) fun _ _ _ _ z => z) (pa_cons (pv 1) pa_nil)))
      (pss_cons (ps_for (passes_of rfl) rfl (pi_range1 (by rfl) S.range (pa_cons (pe_callB call_len_seq (by rfl) T.len PySem.boot_len (pa_cons (pv 2) pa_nil)) pa_nil)) (pg_name (i := 3) scRead.nd rfl (.inl rfl))
        (pss_one (ps_if (pt_not (pt_val (pe_call GC r3 (by rfl) gC kC bC .nil pass0 (pa_cons (pv 2) (pa_cons (pv 3) pa_nil))))) (pss_one (ps_raise rfl (takes_of rfl rfl rfl rfl) (pmk_oex B.ox B.init B.ty B.ok r2 B.b .nil pass0 (by rfl) B.g (pa_cons pe_int (pa_cons (pv 3) pa_nil))))) pss_nil)))
      (pss_cons (ps_if (PW.pt (pw_or (pt_cmpR op_eq (pe_callB call_len_seq (by rfl) T.len PySem.boot_len (pa_cons (pv 2) pa_nil)) pe_int (nomark _)) (pw_or1 (PW.pt (pw_and (pt_cmpR op_gt (pe_callB call_len_seq (by rfl) T.len PySem.boot_len (pa_cons (pv 2) pa_nil)) pe_int (nomark _)) (pw_and1 (pt_cmpR op_ne (pe_op op_mod (pe_callB call_len_seq (by rfl) T.len PySem.boot_len (pa_cons (pv 2) pa_nil)) pe_int) pe_int (nomark _))))))))
        (pss_one (ps_raise rfl (takes_of rfl rfl rfl rfl) (pmk_oex B.ox B.init B.ty B.ok r2 B.b .nil pass0 (by rfl) B.g (pa_cons pe_int (pa_cons (pe_callB call_len_seq (by rfl) T.len PySem.boot_len (pa_cons (pv 2) pa_nil)) pa_nil))))) pss_nil)
      (pss_cons (ps_setLc (i := 4) (own := [("at", 3)]) (g := gName 3) rfl scRead.nd rfl (by rfl) (by rfl) (pi_range3 (by rfl) S.range (pa_cons pe_int (pa_cons (pe_callB call_len_seq (by rfl) T.len PySem.boot_len (pa_cons (pv 2) pa_nil)) (pa_cons pe_int pa_nil)))) (blkOk_by (own := [("at", 3)]) (N := nRead) (sc := defScope (sFr 10)) (by decide +kernel))
        (fun _ _ _ _ _ => pg_name (i := 3) scRead.nd rfl (Or.inl rfl)) (fun _ _ _ _ _ => pts_nil) (fun _ _ _ _ _ => pe_tup (pa_cons (pe_ix (show IxR _ (rIxL K) from ix_list) (pv 2) (pv 3) (fun _ _ => rfl)) (pa_cons (pe_ix (show IxR _ (rIxL K) from ix_list) (pv 2) (pe_op op_add (pv 3) pe_int) (fun _ _ => rfl)) pa_nil))))
      (pss_one (ps_ret (pe_makeL2 (i := 0) (E := E0) M FI hr rfl (.inl rfl) (passN rfl rfl) (pa_cons (pe_ix ix_list (pv 2) pe_int (fun _ _ => rfl)) (pa_star (pv 4) pa_nil)))))))), ?_⟩
    · refine q_call (ea_cons (ev_var rfl) ea_nil) fun H1 e1 => .inl ⟨ws, rfl, hn, ok, hl, fun p H2 hp e2 h2 => ?_⟩
      have E2 := e1.trans e2
      have sq : ∀ {H3 : Hp}, Ex H2 H3 → SqL K H3 p (ws.map V.str) := fun e => ex_l e (sq_of h2)
      have ln : ∀ {H3 : Hp} {x3 x4 : Option V}, Ex H2 H3 → Ev (tCB (rLenQ K) (tCons (tVar 2) tNil)) [some (.ref C), some (.str (tx ws)), some (.ref p), x3, x4] H3 (.int (ws.length : Int)) := fun e => ev_is (ev_lenSq (ev_var rfl) (sq e)) (by rw [List.length_map])
      refine q_forR1 (ea_cons (ln (Ex.refl H2)) ea_nil) (by omega) (fun i σ' H' => (∃ x3, σ' = [some (.ref C), some (.str (tx ws)), some (.ref p), x3, none]) ∧ Ex H2 H' ∧ ∀ j, j < i → standB ws j = true) (fun H3 e3 => ⟨⟨none, rfl⟩, e3, fun j hj => by omega⟩) ?_ ?_
      · rintro i σ' H3 hi ⟨⟨x3, rfl⟩, e3, all⟩
        have hi : i < ws.length := by omega
        refine s_if (et_not (et_B (ev_call (z := .bl (standB ws i)) (σ := [some (.ref C), some (.str (tx ws)), some (.ref p), some (.int (i : Int)), none]) (ea_cons (ev_var rfl) (ea_cons (ev_var rfl) ea_nil)) fun H4 e4 Q q E => ⟨p, ws, i, rfl, sq (e3.trans e4), hi, hl2, hz, q⟩))) (fun hb H4 e4 => ?_) (fun hb H4 e4 => ?_)
        · have st : standB ws i = false := by simpa using hb
          have dd : Due ws (some i) := ⟨fun j hj _ => all j hj, by omega, fun _ => st, fun z => by omega⟩
          exact raise_two (ea_cons ev_c (ea_cons (ev_var rfl) ea_nil)) ((kd i (due_one due dd)).mono ((E2.trans e3).trans e4))
        · have st : standB ws i = true := by simpa using hb
          refine ⟨⟨_, rfl⟩, e3.trans e4, fun j hj => ?_⟩
          by_cases c : j = i
          · rw [c]; exact st
          · exact all j (by omega)
      · rintro σ' H3 ⟨⟨x3, rfl⟩, e3, all⟩
        rw [Int.toNat_natCast] at all
        have odd : ∀ b : Bool, b = (decide ((ws.length : Int) = 1) || (decide ((ws.length : Int) > 2) && !decide ((ws.length : Int) % 3 = 1))) → (b = true ↔ Odd3 ws.length) := fun b hb => by
          rw [hb]
          unfold Odd3
          rw [Bool.or_eq_true, Bool.and_eq_true, decide_eq_true_iff, decide_eq_true_iff, Bool.not_eq_true', decide_eq_false_iff_not]
          omega
        refine q_when (et_or (et_test (ev_op (ln e3) ev_c (rv_eq rfl))) fun _ => et_and (et_test (ev_op (ln e3) ev_c rv_I0)) fun _ => et_test (ev_op (ev_op (ln e3) ev_c (rv_I (by decide))) ev_c (rv_ne rfl))) (fun hb H4 e4 => ?_) (fun hb H4 e4 => ?_)
        · rw [vint_inj, vint_inj] at hb
          have od := (odd _ rfl).mp hb
          have dd : Due ws (some ws.length) := ⟨fun j hj _ => all j hj, Nat.le_refl _, fun z => by omega, fun _ => od⟩
          exact raise_two (ea_cons ev_c (ea_cons (ln (e3.trans e4)) ea_nil)) ((kd _ (due_one due dd)).mono ((E2.trans e3).trans e4))
        · rw [vint_inj, vint_inj] at hb
          have od : ¬ Odd3 ws.length := fun z => by
            have := (odd _ rfl).mpr z
            rw [hb] at this
            cases this
          have dd : Due ws none := ⟨all, od⟩
          have k := kn (due_one due dd)
          obtain ⟨g, hw⟩ := due_none hn dd
          have l0 : 0 < ws.length := List.length_pos_iff.mpr hn
          have E4 := e3.trans e4
          have two : 2 ≤ ws.length := by
            unfold Odd3 at od
            omega
          have cnt : (((ws.length : Int) - 2 + 3 - 1) / 3).toNat = (ws.length - 1) / 3 := by
            unfold Odd3 at od
            omega
          refine q_asgR (s_pairs3 (j := 3) (vs := [3]) (lo := 2) (hi := (ws.length : Int)) (c := 3) (σ := [some (.ref C), some (.str (tx ws)), some (.ref p), x3, none]) (g := fun k => (gw ws (2 + 3 * k), gw ws (3 + 3 * k))) (ea_cons ev_c (ea_cons (ln E4) (ea_cons ev_c ea_nil))) (rgc_up (by decide) (by decide) (by decide) (by decide) (by omega) (by omega)) (by omega) (fun _ => rfl) (fun k hk H5 e5 => ?_) (fun l xs H5 hl5 e5 h5 hp5 => ?_))
          · refine ep_tup (ev_op (ev_var rfl) (ev_var rfl) (rv_ixL (sq (E4.trans e5)) ?_)) (ev_op (ev_var rfl) (ev_op (ev_var rfl) ev_c rv_I0) (rv_ixL (sq (E4.trans e5)) ?_))
            · rw [show (2 : Int) + (k : Nat) * 3 = ((2 + 3 * k : Nat) : Int) by omega]
              exact atI_ws (by omega)
            · rw [show (2 : Int) + (k : Nat) * 3 + 1 = ((3 + 3 * k : Nat) : Int) by omega]
              exact atI_ws (by unfold Odd3 at od; omega)
          · rw [cnt] at hp5
            have hp5 : Prs H5 xs (pairsOf ws) := hp5
            refine s_retR ⟨rfl, cons_i (ev_op (ev_var rfl) ev_c (rv_ixL (sq (E4.trans e5)) (atI_ws (i := 0) l0)) H5 (Ex.refl H5) _ fun H6 e6 => ⟨.ref l, rfl, l, xs, rfl, .inr (sq_of (e6 _ _ h5)), ?_⟩)⟩
            refine fun x dx hx hd hne => ?_
            rw [List.append_nil]
            have := g.many
            have := hp5.len
            exact init_told hx hd hne (by omega) (made_ok g (hp5.mono e6) (List.Perm.refl _) fun qs gq pm => by
              rw [good_one gq g pm]
              exact k.mono (((E2.trans E4).trans e5).trans e6))
    · exact q_call (ea_cons (ev_var rfl) ea_nil) fun H1 e1 => .inr ⟨x, t, rfl, tyx_mono e1 ht, hk, k.mono e1⟩
end
end K09
namespace K09
open PySem L2 Evl Gr StX EnT ClX ClK RdX SrtT StS
abbrev sRt : Stmt := top 33
/-! ### comprehensions over lists of pairs, over texts -/
section
variable {K : PySem.W.Frag} {σ : L2.St} {H : Hp} {te ta tl : TE} {t : TT}
theorem el_pairL {ps : List Pr} {xs : List V} {a : Addr} {i j : Nat} {vs : List Nat} (f : Pr → Bool) (g : Pr → V) (h : Ev tl σ H (.ref a)) (ha : SqL K H a xs) (hx : Prs H xs ps) (hz : ps.length ≤ 40000) (hw : ∀ x y, wipe (((wipe σ vs).set i (some x)).set j (some y)) vs = wipe σ vs)
    (ht : ∀ p ∈ ps, ∀ H1, Ex H H1 → EvT t (((wipe σ vs).set i (some (.str p.1))).set j (some (.str p.2))) H1 (f p)) (he : ∀ p ∈ ps, ∀ H1, Ex H H1 → f p = true → Ev te (((wipe σ vs).set i (some (.str p.1))).set j (some (.str p.2))) H1 (g p)) :
    EvL (tLc (iList K tl) (gTup K 2 (gCons (gName i) (gCons (gName j) gNil))) t te vs) σ H ((ps.filter f).map g) := by
  have len := hx.len
  have main : EvL (tLc (iList K tl) (gTup K 2 (gCons (gName i) (gCons (gName j) gNil))) t te vs) σ H (given xs.length (at_ ps f) (got ps g)) := fun H0 e Q q => h H0 e _ fun H1 e1 =>
    ⟨a, rfl, ⟨xs, ex_l (e.trans e1) ha⟩, fun Dl hD => lc_it (n := xs.length) (walk_list (xs := xs)) (g := gTup K 2 (gCons (gName i) (gCons (gName j) gNil))) (tt := t) (te := te) (vs := vs) (σ := σ) (Cw H1 (at_ ps f) (got ps g) Dl) ⟨hD, Ex.new hD, upd_same⟩ (fun _ H' _ p => ex_l ((e.trans e1).trans p.2.1) ha)
      (fun k x H' H'' hk p y => by
        obtain ⟨rfl, hx'⟩ := y
        obtain ⟨T, q, rfl, hq, hT⟩ := hx.at hx'
        have eT := (e.trans e1).trans p.2.1
        have hm := List.mem_of_getElem? hq
        refine ⟨T, _, rfl, st_of (eT _ _ hT), rfl, _, _, rfl, _, _, rfl, rfl, hw _ _, cw_turn p (by omega) ?_ fun hf => ?_⟩
        · rw [at_of hq]
          exact ht q hm H1 (e.trans e1)
        · rw [at_of hq] at hf
          rw [got_of hq]
          exact he q hm H1 (e.trans e1) hf)
      (fun H' p => q Dl H' (fresh_back e1 p.1) (e1.trans p.2.1) p.2.2)⟩
  rw [len, given_of] at main
  exact main
/-- a comprehension over a text -/
theorem el_lcS {z : Str} {tl : TE} {j : Nat} {vs : List Nat} (f : Nat → Bool) (v : Nat → V) (h : Ev tl σ H (.str z)) (hz : z.cps.size ≤ 40000) (hw : ∀ x, wipe ((wipe σ vs).set j (some x)) vs = wipe σ vs)
    (ht : ∀ (i c : Nat) H1, Ex H H1 → z.cps[i]? = some c → EvT t ((wipe σ vs).set j (some (.str ⟨#[c]⟩))) H1 (f i)) (he : ∀ (i c : Nat) H1, Ex H H1 → z.cps[i]? = some c → f i = true → Ev te ((wipe σ vs).set j (some (.str ⟨#[c]⟩))) H1 (v i)) :
    EvL (tLc (iStr tl) (gName j) t te vs) σ H (given z.cps.size f v) := fun H0 e Q q => h H0 e _ fun H1 e1 => ⟨z, rfl, fun Dl hD => lc_it (n := z.cps.size) (walk_str (z := z)) (g := gName j) (tt := t) (te := te) (vs := vs) (σ := σ) (Cw H1 f v Dl) ⟨hD, Ex.new hD, upd_same⟩ (fun _ _ _ _ => trivial)
      (fun i x H' H'' hi p y => by
        obtain ⟨rfl, c, hc, rfl⟩ := y
        exact ⟨hw _, cw_turn p (by omega) (ht i c H1 (e.trans e1) hc) fun hf => he i c H1 (e.trans e1) hc hf⟩)
      (fun H' p => q Dl H' (fresh_back e1 p.1) (e1.trans p.2.1) p.2.2)⟩
end
/-- the signs of z that stand not in oi -/
def offs (z : Str) : List Str := ((List.range z.cps.size).filter fun i => !decide (z.cps.toList.getD i 0 ∈ oi.cps.toList)).map fun i => ⟨#[z.cps.toList.getD i 0]⟩
theorem oi_list : oi.cps.toList = [48, 49] := by decide +kernel
theorem offs_nil (z : Str) : (offs z = []) ↔ Sg z = true := by
  unfold offs Sg
  rw [List.map_eq_nil_iff, List.filter_eq_nil_iff, List.all_eq_true, oi_list]
  constructor
  · intro h c hc
    obtain ⟨i, hi, e⟩ := List.mem_iff_getElem.mp hc
    have hi' : i < z.cps.size := hi
    have := h i (List.mem_range.mpr hi')
    rw [List.getD_eq_getElem?_getD, List.getElem?_eq_getElem hi'] at this
    have e : z.cps.toList[i] = c := e
    rw [Option.getD_some, e] at this
    have this : ¬ (c ≠ 48 ∧ c ≠ 49) := by simpa using this
    unfold isO
    rw [decide_eq_true_iff]
    omega
  · intro h i hi
    have hi : i < z.cps.size := List.mem_range.mp hi
    have := h z.cps.toList[i] (List.getElem_mem hi)
    rw [List.getD_eq_getElem?_getD, List.getElem?_eq_getElem hi, Option.getD_some]
    unfold isO at this
    rw [decide_eq_true_iff] at this
    have this : ¬ (z.cps.toList[i] ≠ 48 ∧ z.cps.toList[i] ≠ 49) := by omega
    simpa using this
theorem dps_strs {K : PySem.W.Frag} {H : Hp} : ∀ (ns : List Str), DpAll K H (ns.map V.str) (ns.map PyData.str)
  | [] => .nil
  | n :: ns => .cons (.str n) (dps_strs ns)
theorem eqv_nil (ds : List PyData) : PyData.eqv (.list ds) (.list []) = decide (ds = []) := by
  cases ds with
  | nil => simp [PyData.eqv, PyData.eqvAll]
  | cons d ds => simp [PyData.eqv, PyData.eqvAll]
theorem sh_strs {ns : List Str} (h : ∀ z ∈ ns, PyData.strOk z = true) : SeqAt.shaped (.list (ns.map PyData.str)) = true := low_shaped (low_list (n := 0) fun d hd => by
  obtain ⟨z, hz, rfl⟩ := List.mem_map.mp hd
  exact low_str (h z hz)) (by decide)
theorem strOk_one {z : Str} (h : PyData.strOk z = true) {c : Nat} (hc : c ∈ z.cps.toList) : PyData.strOk ⟨#[c]⟩ = true := by
  unfold PyData.strOk at *
  rw [← Array.all_toList, List.all_eq_true] at h
  simpa using h c hc
section
variable {P : Program} {w : World} {K : PySem.W.Frag} {mg : Str → Option Value} {base : Heap}
/-! ### _law_rule_text -/
abbrev nRt : List Str := ["_law_plan_here", "_law_told", "_law_watch", "_law_put_here"]
/-- a plan of this flag and these pairs stands at v -/
def PlanAt (H : Hp) (v : V) (f : Str) (ps : List Pr) : Prop := ∃ t l xs, v = .ref t ∧ H t = some (.tup [.str f, .ref l]) ∧ H l = some (.lst xs) ∧ Prs H xs ps
theorem PlanAt.mono {H H' : Hp} {v : V} {f : Str} {ps : List Pr} (e : Ex H H') (h : PlanAt H v f ps) : PlanAt H' v f ps := by
  obtain ⟨t, l, xs, h1, h2, h3, h4⟩ := h
  exact ⟨t, l, xs, h1, e _ _ h2, e _ _ h3, h4.mono e⟩
def spRt : Sp := fun vs H Q _ => ∃ (v : V) (f : Str) (ps : List Pr), vs = [v] ∧ PlanAt H v f ps ∧ Good f ps ∧ RetV (.str (tx (rw_ f ps))) H Q
theorem scRt : FnScope nRt ["_law_plan_here"] (defScope sRt) := ⟨rfl, rfl, rfl, by decide +kernel, rfl, by decide +kernel, by decide +kernel⟩
theorem ok_Rt {f : Addr} {fd : FuncData} (F : Fun K "_law_rule_text" "_law_rule_text" sRt f fd) : FnOk P w K mg base CX0 1 f fd ["_law_plan_here"] spRt := by
  refine F.ok scRt (fun vs H Q E h => ?_) (fun cdv A outer s H vs Q E hr h => ?_)
  · obtain ⟨v, f, ps, rfl, _⟩ := h
    rfl
  · obtain ⟨v, f', ps, rfl, hv, g, k⟩ := h
    refine ⟨_, pss_cons (ps_set (i := 1) scRt.nd rfl (.inl rfl) (pe_join pe_str (pe_lc (own := [("_law_watch", 2), ("_law_put_here", 3)]) (g := gTup K 2 (gCons (gName 2) (gCons (gName 3) gNil))) rfl scRt.nd (pi_list (pe_ix ix_tup (pv 0) pe_int (fun _ _ => rfl))) (blkOk_by (own := [("_law_watch", 2), ("_law_put_here", 3)]) (N := nRt) (sc := defScope sRt) (by decide +kernel))
        (fun _ _ _ _ _ => pg_tup rfl (pgs_cons (pg_name (i := 2) scRt.nd rfl (Or.inl rfl)) (pgs_cons (pg_name (i := 3) scRt.nd rfl (Or.inl rfl)) pgs_nil))) (fun _ _ _ _ _ => pts_nil) (fun _ _ _ _ _ => pe_op op_add_str (pe_op op_add_str (pv 2) pe_str) (pv 3)))))
      (pss_one (ps_ret (pe_op op_add_str (pe_op op_add_str (pe_ix ix_tup (pv 0) pe_int (fun _ _ => rfl)) pe_str) (pe_ifExp (pt_cmpR op_ne (pv 1) pe_str (nomark _)) (pe_op op_add_str pe_str (pv 1)) pe_str)))), ?_⟩
    obtain ⟨t, l, xs, rfl, ht, hl, hp⟩ := hv
    have fl := sgB_iff.mp g.flag
    have lens : ∀ p ∈ ps, p.1.length ≤ 8 ∧ p.2.length = 1 ∧ p.1.length ≠ 0 := fun p h => by
      have h1 := sgB_iff.mp (g.ok p h).1
      have h2 := sgB_iff.mp (g.ok p h).2
      omega
    have l1 : (" " : Str).length = 1 := by decide +kernel
    have lapp : ∀ a b : Str, (a ++ b).length = a.length + b.length := fun a b => by rw [TL.len_tl, TL.tl_append, List.length_append, ← TL.len_tl, ← TL.len_tl]
    have many := g.many
    have c := el_pairL (K := K) (σ := [some (.ref t), none, none, none]) (H := H) (t := fun σ H Q => Q true H) (te := tOp (fun x y H Q => ∃ i j, x = .str i ∧ y = .str j ∧ i.length + j.length ≤ sizeLine ∧ Q (.str (i ++ j)) H) (tOp (fun x y H Q => ∃ i j, x = .str i ∧ y = .str j ∧ i.length + j.length ≤ sizeLine ∧ Q (.str (i ++ j)) H) (tVar 2) (tC (.str " "))) (tVar 3))
      (tl := tOp (rIxT K) (tVar 0) (tC (.int 1))) (i := 2) (j := 3) (vs := [2, 3]) (a := l) (fun _ => true) (fun p => V.str (pairTx p)) (ev_op (ev_var rfl) ev_c (rv_ixT_ (st_of ht) (i := 1) rfl)) (sq_of hl) hp (by omega) (fun _ _ => rfl) (fun _ _ _ _ => et_none)
      (fun p hp H1 e _ => by
        have := lens p hp
        exact ev_addS (ev_addS (ev_var rfl) ev_c (by rw [l1]; omega)) (ev_var rfl) (by rw [lapp, l1]; omega))
    rw [List.filter_eq_self.mpr (fun _ _ => rfl)] at c
    have c2 := c
    rw [show (ps.map fun p => V.str (pairTx p)) = (ps.map pairTx).map V.str by rw [List.map_map]; rfl] at c2
    have psum : ((ps.map pairTx).map (·.length)).sum ≤ 10 * (ps.map pairTx).length := by
      have := sum_most (l := (ps.map pairTx).map (·.length)) (b := 10) fun n hn => by
        obtain ⟨z, hz, rfl⟩ := List.mem_map.mp hn
        obtain ⟨p, hp, rfl⟩ := List.mem_map.mp hz
        have := lens p hp
        unfold pairTx
        rw [lapp, lapp, l1]
        omega
      rwa [List.length_map (as := ps.map pairTx)] at this
    rw [List.length_map] at psum
    have l3 : (" , " : Str).length = 3 := by decide +kernel
    have told : Ev (tM1 (rJoin K) (tC (.str " , ")) (tLc (iList K (tOp (rIxT K) (tVar 0) (tC (.int 1)))) (gTup K 2 (gCons (gName 2) (gCons (gName 3) gNil))) (fun σ H Q => Q true H) (tOp (fun x y H Q => ∃ i j, x = .str i ∧ y = .str j ∧ i.length + j.length ≤ sizeLine ∧ Q (.str (i ++ j)) H) (tOp (fun x y H Q => ∃ i j, x = .str i ∧ y = .str j ∧ i.length + j.length ≤ sizeLine ∧ Q (.str (i ++ j)) H) (tVar 2) (tC (.str " "))) (tVar 3)) [2, 3])) [some (.ref t), none, none, none] H (.str (toldTx ps)) := ev_joinL ev_c c2 (by rw [l3, List.length_map]; omega)
    have tlen : (toldTx ps).length ≤ 100 := by
      have e := glue_len (TL.tl (" , " : Str)) ((ps.map pairTx).map TL.tl)
      rw [show TL.joinL (TL.tl (" , " : Str)) ((ps.map pairTx).map TL.tl) = TL.tl (toldTx ps) by unfold toldTx; rw [TL.join_eq, TL.tl_join], ← TL.len_tl, ← TL.len_tl, l3, List.length_map, List.length_map, List.map_map] at e
      have e2 : ((ps.map pairTx).map ((fun x : List Nat => x.length) ∘ TL.tl)) = (ps.map pairTx).map (·.length) := List.map_congr_left fun z _ => (TL.len_tl z).symm
      rw [e2] at e
      omega
    refine q_asg told fun H1 e1 => ?_
    have l2 : (" :" : Str).length = 2 := by decide +kernel
    refine s_ret (ev_is (ev_addS (b := if toldTx ps = mt then mt else " " ++ toldTx ps) (ev_addS (ev_op (ev_var rfl) ev_c (rv_ixT_ (st_of (e1 _ _ ht)) (i := 0) rfl)) ev_c (by rw [l2]; omega)) (ev_if (b := !decide (toldTx ps = mt)) (et_is (et_test (ev_op (ev_var rfl) ev_c (rv_ne rfl))) (by rw [dec_str])) (fun h => ?_) (fun h => ?_)) ?_) ?_) fun H2 e2 => k H2 (e1.trans e2)
    · rw [Bool.not_eq_true', decide_eq_false_iff_not] at h
      rw [if_neg h]
      exact ev_addS ev_c (ev_var rfl) (by rw [l1]; omega)
    · rw [Bool.not_eq_false', decide_eq_true_iff] at h
      rw [if_pos h]
      exact ev_c
    · have : (if toldTx ps = mt then mt else " " ++ toldTx ps).length ≤ 101 := by
        split
        · have : mt.length = 0 := by decide +kernel
          omega
        · rw [lapp, l1]
          omega
      rw [lapp, l2]
      omega
    · exact congrArg V.str (rule_tx (f := f') (ps := ps) fun p h => (lens p h).2.2)
theorem len_two {xs : List V} (h : xs.length = 2) : ∃ a b, xs = [a, b] := by
  match xs, h with
  | [a, b], _ => exact ⟨a, b, rfl⟩
theorem len_three {xs : List V} (h : xs.length = 3) : ∃ a b c, xs = [a, b, c] := by
  match xs, h with
  | [a, b, c], _ => exact ⟨a, b, c, rfl⟩
end
end K09
namespace K09
open PySem L2 Evl Gr StX EnT ClX ClK RdX SrtT StS
abbrev sSg : Stmt := top 32
def Bit (z : Str) : Prop := z = "0" ∨ z = "1"
theorem tl_bit {z : Str} (h : Bit z) : TL.tl z = [48] ∨ TL.tl z = [49] := by
  rcases h with rfl | rfl
  · exact .inl (by decide +kernel)
  · exact .inr (by decide +kernel)
theorem bit_ok {z : Str} (h : Bit z) : sgB z 1 1 = true := by
  rcases h with rfl | rfl <;> decide +kernel
theorem joinL_nil : ∀ (p : List Nat) (r : List (List Nat)), TL.joinL [] (p :: r) = p ++ TL.joinL [] r
  | p, [] => by simp [TL.joinL]
  | p, q :: r => by simp [TL.joinL]
theorem join_bits : ∀ {zs : List Str}, (∀ z ∈ zs, Bit z) → Sg (Txt.join mt zs) = true ∧ (Txt.join mt zs).length = zs.length := by
  have main : ∀ zs : List Str, (∀ z ∈ zs, Bit z) → (TL.joinL [] (zs.map TL.tl)).all isO = true ∧ (TL.joinL [] (zs.map TL.tl)).length = zs.length := fun zs => by
    induction zs with
    | nil => intro _; exact ⟨rfl, rfl⟩
    | cons z zs ih =>
      intro h
      obtain ⟨h1, h2⟩ := ih fun y hy => h y (List.mem_cons_of_mem _ hy)
      rw [List.map_cons, joinL_nil]
      rcases tl_bit (h z List.mem_cons_self) with e | e
      · rw [e]
        exact ⟨by rw [List.all_append, h1]; decide, by rw [List.length_append, h2, List.length_cons]; show 1 + zs.length = zs.length + 1; omega⟩
      · rw [e]
        exact ⟨by rw [List.all_append, h1]; decide, by rw [List.length_append, h2, List.length_cons]; show 1 + zs.length = zs.length + 1; omega⟩
  intro zs h
  obtain ⟨h1, h2⟩ := main zs h
  have e : TL.tl (Txt.join mt zs) = TL.joinL [] (zs.map TL.tl) := by
    rw [TL.join_eq, TL.tl_join]
    rw [show TL.tl mt = [] by decide +kernel]
  refine ⟨?_, ?_⟩
  · unfold Sg
    rw [e]
    exact h1
  · rw [TL.len_tl, e]
    exact h2
section
variable {P : Program} {w : World} {K : PySem.W.Frag} {mg : Str → Option Value} {base : Heap}
/-! ### _law_pick of a text -/
def spPickS : Sp := fun vs H Q _ => ∃ (p l : Addr) (cells : List Int) (m : Nat) (z : Str), vs = [.ref p, .str z] ∧ PenAt H p l cells m ∧ m ≤ 50000 ∧ cells.length ≤ 63 ∧ 0 < z.cps.size ∧ z.cps.size ≤ 1000 ∧
  ∀ c H', c ∈ z.cps.toList → PenAt H' p l cells (m + 1) → Keep p H H' → Q (.str ⟨#[c]⟩) H'
theorem ok_pickS {f fD : Addr} {fd fdD : FuncData} (F : Fun K "_law_pick" "_law_pick" sPick f fd) (T : Glb mg) (FD : Fun K "_law_draw" "_law_draw" sDraw fD fdD) (bD : Binds K fdD ["_law_pen_here", "_law_many"] []) (gD : mg "_law_draw" = some (.ref fD)) :
    FnOk P w K mg base CX0 2 f fd ["_law_pen_here", "_law_some"] spPickS := by
  have GD : FnOk P w K mg base CX0 1 fD fdD ["_law_pen_here", "_law_many"] spDraw := ok_draw FD T
  refine F.ok scPick (fun vs H Q E h => ?_) (fun cdv A outer s H vs Q E hr h => ?_)
  · obtain ⟨p, l, cells, m, z, rfl, _⟩ := h
    rfl
  · obtain ⟨p, l, cells, m, z, rfl, hp, hm, h63, hx0, hx1, k⟩ := h
    refine ⟨_, pss_one (ps_ret (pe_ix ix_str (pv 1) (pe_call GD hr (by rfl) gD FD.kp bD .nil pass0 (pa_cons (pv 0) (pa_cons (pe_callB call_len (by rfl) T.len PySem.boot_len (pa_cons (pv 1) pa_nil)) pa_nil))) (fun _ _ => rfl))), ?_⟩
    have hz : z.length = z.cps.size := rfl
    refine ⟨_, rfl, _, rfl, (ev_cb (σ := [some (.ref p), some (.str z)]) (ea_cons (ev_var (i := 1) rfl) ea_nil) (rc_lenS (K := K) (z := z) (by omega))) H (Ex.refl H) _ fun H1 e1 => ⟨p, l, cells, m, (z.length : Int), rfl, hp.mono e1 (Nat.le_refl m), hm, h63, by omega, by omega, fun d H' d0 d1 hp' kp => ?_⟩⟩
    obtain ⟨i, rfl⟩ := Int.eq_ofNat_of_zero_le d0
    have hi : i < z.cps.toList.length := by
      have : z.cps.toList.length = z.cps.size := rfl
      omega
    exact ⟨z, (i : Int), z.cps.toList[i], rfl, rfl, sz_of (n := z.length) (by omega), atI_nat (List.getElem?_eq_getElem hi), k _ H' (List.getElem_mem hi) hp' ((Keep.of_ex e1).trans kp)⟩
/-! ### _law_signs -/
abbrev nSg : List Str := ["_law_pen_here", "_law_many", "_law_turn"]
def spSg : Sp := fun vs H Q _ => ∃ (p l : Addr) (cells : List Int) (m n : Nat), vs = [.ref p, .int (n : Int)] ∧ PenAt H p l cells m ∧ m + 8 ≤ 50000 ∧ cells.length ≤ 63 ∧ n ≤ 8 ∧
  ∀ z H', Sg z = true → z.length = n → PenAt H' p l cells (m + 8) → Keep p H H' → Q (.str z) H'
theorem scSg : FnScope nSg ["_law_pen_here", "_law_many"] (defScope sSg) := ⟨rfl, rfl, rfl, by decide +kernel, rfl, by decide +kernel, by decide +kernel⟩
theorem ok_Sg {f : Addr} {fd : FuncData} (F : Fun K "_law_signs" "_law_signs" sSg f fd) (S : GlbS mg) (GP : Gfn P w K mg base 2 "_law_pick" ["_law_pen_here", "_law_some"] spPickS) : FnOk P w K mg base CX0 3 f fd ["_law_pen_here", "_law_many"] spSg := by
  obtain ⟨fP, fdP, GP, kP, bP, gP⟩ := GP
  refine F.ok scSg (fun vs H Q E h => ?_) (fun cdv A outer s H vs Q E hr h => ?_)
  · obtain ⟨p, l, cells, m, n, rfl, _⟩ := h
    rfl
  · obtain ⟨p, l, cells, m, n, rfl, hp, hm, h63, hn, k⟩ := h
    refine ⟨_, pss_one (ps_ret (pe_join pe_str (pe_lc (own := [("_law_turn", 2)]) (g := gName 2) rfl scSg.nd (pi_range1 (by rfl) S.range (pa_cons (pv 1) pa_nil)) (blkOk_by (own := [("_law_turn", 2)]) (N := nSg) (sc := defScope sSg) (by decide +kernel))
      (fun _ _ _ _ _ => pg_name (i := 2) scSg.nd rfl (Or.inl rfl)) (fun _ _ _ _ _ => pts_nil) (fun _ _ _ _ _ => pe_call GP hr (by rfl) gP kP bP .nil pass0 (pa_cons (pv 0) (pa_cons pe_str pa_nil)))))), ?_⟩
    refine s_retR ⟨⟨_, rfl⟩, ?_⟩
    refine ⟨_, rfl, (n : Int), rfl, by omega, by omega, fun Dl hD => ?_⟩
    have hDp : Dl ≠ p := fun z => by
      obtain ⟨_, _, q, _⟩ := hp
      rw [z, q] at hD
      cases hD
    have hDl : Dl ≠ l := fun z => by
      obtain ⟨_, _, _, q, _⟩ := hp
      rw [z, q] at hD
      cases hD
    refine lc_range (lo := 0) (n := (n : Int).toNat) (fun i H' => ∃ zs : List Str, H' Dl = some (.lst (zs.map V.str)) ∧ zs.length = i ∧ (∀ z ∈ zs, Bit z) ∧ PenAt H' p l cells (m + i) ∧ Keep p H H') ⟨[], upd_same, rfl, fun y hy => absurd hy (by simp), hp.upd' hDp hDl, (Keep.of_ex (Ex.refl H)).mut hD⟩ (fun i H' hi q => ⟨rfl, ?_⟩) (fun H' q => ?_)
    · obtain ⟨zs, hg, hlen, hb, hP3, k3⟩ := q
      rw [Int.toNat_natCast] at hi
      refine ⟨_, rfl, p, l, cells, m + i, oi, rfl, hP3, by omega, h63, by decide +kernel, by decide +kernel, fun c H4 hc hP4 k4 => ?_⟩
      have bit : Bit ⟨#[c]⟩ := by
        rw [oi_list] at hc
        rcases List.mem_cons.mp hc with rfl | hc
        · exact .inl (by decide +kernel)
        · rw [List.mem_singleton.mp hc]
          exact .inr (by decide +kernel)
      refine ⟨zs.map V.str, k4 _ _ hg hDp, sz_lt (by rw [List.length_map]; omega), zs ++ [⟨#[c]⟩], by rw [upd_same, List.map_append]; rfl, by rw [List.length_append, hlen]; rfl, fun y hy => ?_, (hP4.upd' hDp hDl).le (by omega), (k3.trans k4).mut hD⟩
      rcases List.mem_append.mp hy with z | z
      · exact hb y z
      · rw [List.mem_singleton.mp z]
        exact bit
    · obtain ⟨zs, hg, hlen, hb, hP3, k3⟩ := q
      rw [Int.toNat_natCast] at hlen hP3
      obtain ⟨j1, j2⟩ := join_bits hb
      have sz : (zs.map (·.length)).sum ≤ 1 * (zs.map (·.length)).length := sum_most fun x hx => by
        obtain ⟨z, hz, rfl⟩ := List.mem_map.mp hx
        rcases hb z hz with rfl | rfl <;> decide +kernel
      rw [List.length_map] at sz
      refine ⟨mt, Dl, zs, rfl, rfl, .inl (sq_of hg), ?_, k _ H' j1 (j2.trans hlen) (hP3.le (by omega)) k3⟩
      have : mt.length = 0 := by decide +kernel
      rw [this]
      omega
end
end K09
namespace K09
open PySem L2 Evl Gr StX EnT ClX ClK RdX SrtT StS
abbrev sPlan : Stmt := top 31
/-! ### plans -/
def plansA : List (Str × List Pr) := [("0111111", [("011111", "0")]), ("011", [("01", "0")]), ("0111", [("011", "0")]), ("100", [("10", "1")]), ("0011", [("001", "0")])]
def plansF : List (Str × List Pr) := [("011", [("0000000", "1"), ("01", "0")]), ("0111111", [("00000000", "1"), ("011111", "0")])]
def plansG : List (Str × List Pr) := [("0001", [("000", "1"), ("0111", "0")]), ("01111", [("00", "1"), ("0111", "0")])]
structure Plan (f : Str) (ps : List Pr) : Prop where
  good : Good f ps
  flag : f.length ≤ 7
  many : ps.length ≤ 3
def chk (q : Str × List Pr) : Bool := sgB q.1 2 8 && q.2.all (fun p => sgB p.1 1 8 && sgB p.2 1 1) && decide (q.2.length ≤ 3) && decide (q.1.length ≤ 7) && decide (q.2.Pairwise fun p q => ltB p.1 q.1 = true)
theorem chk_plan {q : Str × List Pr} (h : chk q = true) : Plan q.1 q.2 := by
  unfold chk at h
  simp only [Bool.and_eq_true, decide_eq_true_iff, List.all_eq_true] at h
  obtain ⟨⟨⟨⟨h1, h2⟩, h3⟩, h4⟩, h5⟩ := h
  exact ⟨⟨h1, h2, by omega, h5⟩, h4, h3⟩
theorem plans_ok : ∀ q ∈ plansA ++ (plansF ++ plansG), Plan q.1 q.2 := by
  have : (plansA ++ (plansF ++ plansG)).all chk = true := by decide +kernel
  exact fun q hq => chk_plan (List.all_eq_true.mp this q hq)
def Pls (H : Hp) (xs : List V) (Q : List (Str × List Pr)) : Prop := xs.length = Q.length ∧ ∀ (i : Nat) x q, xs[i]? = some x → Q[i]? = some q → PlanAt H x q.1 q.2
theorem Pls.mono {H H' : Hp} {xs : List V} {Q : List (Str × List Pr)} (e : Ex H H') (h : Pls H xs Q) : Pls H' xs Q := ⟨h.1, fun i x q a b => (h.2 i x q a b).mono e⟩
theorem Pls.app {H : Hp} {xs ys : List V} {Q R : List (Str × List Pr)} (h : Pls H xs Q) (h' : Pls H ys R) : Pls H (xs ++ ys) (Q ++ R) := by
  refine ⟨by rw [List.length_append, List.length_append, h.1, h'.1], fun i x q a b => ?_⟩
  rcases Nat.lt_or_ge i xs.length with z | z
  · rw [List.getElem?_append_left z] at a
    rw [List.getElem?_append_left (by rw [← h.1]; exact z)] at b
    exact h.2 i x q a b
  · rw [List.getElem?_append_right z] at a
    rw [List.getElem?_append_right (by rw [← h.1]; exact z), ← h.1] at b
    exact h'.2 _ x q a b
theorem Pls.at {H : Hp} {xs : List V} {Q : List (Str × List Pr)} (h : Pls H xs Q) {i : Nat} {x : V} (hx : xs[i]? = some x) : ∃ q ∈ Q, PlanAt H x q.1 q.2 := by
  have lt := (List.getElem?_eq_some_iff.mp hx).1
  rw [h.1] at lt
  exact ⟨Q[i], List.getElem_mem lt, h.2 i x _ hx (List.getElem?_eq_getElem lt)⟩
theorem PlanAt.keep {H H' : Hp} {v : V} {f : Str} {ps : List Pr} {p l : Addr} {cells : List Int} {m : Nat} (hP : PenAt H p l cells m) (kp : Keep p H H') (h : PlanAt H v f ps) : PlanAt H' v f ps := by
  obtain ⟨t, a, xs, h1, h2, h3, h4⟩ := h
  obtain ⟨k, r, hp, _⟩ := hP
  refine ⟨t, a, xs, h1, kp _ _ h2 fun z => ?_, kp _ _ h3 fun z => ?_, h4.to fun t p q => kp _ _ q fun z => ?_⟩
  · rw [z, hp] at h2
    cases h2
  · rw [z, hp] at h3
    have e := HO.lst.inj (Option.some.inj h3)
    subst e
    obtain ⟨t, q, e, _⟩ := h4.at (k := 1) (x := V.int k) rfl
    cases e
  · rw [z, hp] at q
    cases q
/-- gives a row of pairs; a plan; a row of plans -/
def EvPp (ta : TA) (σ : L2.St) (H : Hp) (ps : List Pr) : Prop := ∀ H1, Ex H H1 → ∀ Q : List V → Hp → Prop, (∀ xs H2, Ex H1 H2 → Prs H2 xs ps → Q xs H2) → ta σ H1 Q
def EvPl (te : TE) (σ : L2.St) (H : Hp) (f : Str) (ps : List Pr) : Prop := ∀ H1, Ex H H1 → ∀ Q : VK, (∀ v H2, Ex H1 H2 → PlanAt H2 v f ps → Q v H2) → te σ H1 Q
def EvPls (ta : TA) (σ : L2.St) (H : Hp) (R : List (Str × List Pr)) : Prop := ∀ H1, Ex H H1 → ∀ Q : List V → Hp → Prop, (∀ xs H2, Ex H1 H2 → Pls H2 xs R → Q xs H2) → ta σ H1 Q
section
variable {σ : L2.St} {H : Hp} {te tb : TE} {ta : TA} {f : Str} {ps : List Pr} {p : Pr} {R : List (Str × List Pr)}
theorem epp_nil : EvPp tNil σ H [] := fun H1 _ Q q => q [] H1 (Ex.refl H1) prs_nil
theorem epp_cons (h : EvPr te σ H p) (hr : EvPp ta σ H ps) : EvPp (tCons te ta) σ H (p :: ps) := fun H1 e Q q =>
  h H1 e _ fun t H2 e2 ht => hr H2 (e.trans e2) _ fun xs H3 e3 hx => q _ H3 (e2.trans e3) (prs_cons (e3 _ _ ht) hx)
theorem epl_tup (h : Ev te σ H (.str f)) (hr : EvPp ta σ H ps) (hl : ps.length ≤ 100) : EvPl (tTup (tCons te (tCons (tLst ta) tNil))) σ H f ps := fun H1 e Q q =>
  h H1 e _ fun H2 e2 => hr H2 (e.trans e2) _ fun xs H3 e3 hx => ⟨by have := hx.len; exact sz_of (by omega), fun l hl => ⟨by show 2 ≤ sizeLine; decide, fun t ht =>
    q _ _ (((e2.trans e3).trans (Ex.new hl)).trans (Ex.new ht)) ⟨t, l, xs, rfl, upd_same, (Ex.new ht) _ _ upd_same, (hx.mono (Ex.new hl)).mono (Ex.new ht)⟩⟩⟩
theorem epls_nil : EvPls tNil σ H [] := fun H1 _ Q q => q [] H1 (Ex.refl H1) ⟨rfl, fun i x r a => by simp at a⟩
theorem epls_cons (h : EvPl te σ H f ps) (hr : EvPls ta σ H R) : EvPls (tCons te ta) σ H ((f, ps) :: R) := fun H1 e Q q =>
  h H1 e _ fun v H2 e2 hv => hr H2 (e.trans e2) _ fun xs H3 e3 hx => q _ H3 (e2.trans e3) ⟨by rw [List.length_cons, List.length_cons, hx.1], fun i x r a b => by
    cases i with
    | zero =>
      obtain rfl := Option.some.inj a
      obtain rfl := Option.some.inj b
      exact hv.mono e3
    | succ i => exact hx.2 i x r a b⟩
end
section
variable {p l : Addr} {cells : List Int} {σ : L2.St} {H : Hp}
/-- signs: so many as c and a draw say -/
theorem w_signs {i : Nat} {c b : Nat} (hi : σ[i]? = some (some (.ref p))) (h63 : cells.length ≤ 63) (hb : 0 < b) (hcb : c + b ≤ 9) :
    EvW p l cells 9 (tCall spSg [] E0 (tCons (tVar i) (tCons (tOp (rI0 fun i j => .int (i + j)) (tC (.int (c : Int))) (tCall spDraw [] E0 (tCons (tVar i) (tCons (tC (.int (b : Int))) tNil)))) tNil))) σ H (fun v => ∃ z, v = .str z ∧ Sg z = true ∧ c ≤ z.length ∧ z.length < c + b) := fun m H1 kp hP hm Q q =>
  ⟨_, hi, (w_draw (H := H) (many := (b : Int)) hi (fun _ _ => ev_c) (by omega) (by omega) h63) m H1 kp hP (by omega) _ fun v H2 hv hP2 k2 => by
    obtain ⟨d, rfl, hd⟩ := hv
    refine ⟨_, _, rfl, rfl, ?_⟩
    refine ⟨p, l, cells, m + 1, c + d, by rw [Int.natCast_add]; rfl, hP2, by omega, h63, by omega, fun z H3 sg len hP3 k3 => q _ H3 ⟨z, rfl, sg, by omega, by omega⟩ (hP3.le (by omega)) (k2.trans k3)⟩⟩
end
/-! ### the drawn pairs, in a dict -/
structure DOk (kvs : List (Key × V)) (n : Nat) : Prop where
  few : kvs.length ≤ n
  once : (kvs.map (·.1)).Nodup
  ok : ∀ kv ∈ kvs, ∃ k v, kv = (Sum.inr k, V.str v) ∧ PairOk (k, v)
theorem dok_put {kvs : List (Key × V)} {n : Nat} {k v : Str} (h : DOk kvs n) (hp : PairOk (k, v)) : DOk (putK kvs (Sum.inr k) (.str v)) (n + 1) := by
  refine ⟨?_, ?_, ?_⟩
  · have := length_putK kvs (Sum.inr k : Key) (V.str v)
    have := h.few
    omega
  · cases c : valV kvs (Sum.inr k : Key) with
    | none => exact nd_putK _ h.once c
    | some y =>
      unfold putK
      rw [valV_any, c, if_pos (show (some y).isSome = true from rfl), List.map_map]
      rw [show (fun x : Key × V => x.1) ∘ (fun kv => if kv.1 = Sum.inr k then (kv.1, V.str v) else kv) = fun x => x.1 from funext fun x => by
        show (if x.1 = Sum.inr k then (x.1, V.str v) else x).1 = x.1
        split <;> rfl]
      exact h.once
  · intro kv hkv
    unfold putK at hkv
    split at hkv
    · obtain ⟨x, hx, e⟩ := List.mem_map.mp hkv
      split at e
      · rename_i z
        exact ⟨k, v, by rw [← e, z], hp⟩
      · exact e ▸ h.ok x hx
    · rcases List.mem_append.mp hkv with z | z
      · exact h.ok kv z
      · exact ⟨k, v, List.mem_singleton.mp z, hp⟩
def keyT : Key → Str
  | .inl _ => mt
  | .inr z => z
theorem dok_keys {kvs : List (Key × V)} {n : Nat} (h : DOk kvs n) : kvs.map (·.1) = (kvs.map fun kv => keyT kv.1).map Sum.inr := by
  rw [List.map_map]
  refine List.map_congr_left fun kv hkv => ?_
  obtain ⟨k, v, rfl, _⟩ := h.ok kv hkv
  rfl
theorem dok_val {kvs : List (Key × V)} {n : Nat} (h : DOk kvs n) {k : Str} (hk : k ∈ kvs.map fun kv => keyT kv.1) : ∃ v, valV kvs (Sum.inr k) = some (.str v) ∧ PairOk (k, v) := by
  obtain ⟨kv, hkv, rfl⟩ := List.mem_map.mp hk
  obtain ⟨k, v, rfl, _⟩ := h.ok kv hkv
  have any : (kvs.any fun kv => decide (kv.1 = (Sum.inr k : Key))) = true := List.any_eq_true.mpr ⟨_, hkv, decide_eq_true rfl⟩
  rw [valV_any] at any
  obtain ⟨y, hy⟩ := Option.isSome_iff_exists.mp any
  unfold valV at hy
  obtain ⟨e, he, rfl⟩ := Option.map_eq_some_iff.mp hy
  have hm := List.mem_of_find?_eq_some he
  have hq := List.find?_some he
  have hq : e.1 = Sum.inr k := of_decide_eq_true hq
  obtain ⟨k', v', rfl, ok'⟩ := h.ok e hm
  cases hq
  exact ⟨v', hy, ok'⟩
theorem dok_once {kvs : List (Key × V)} {n : Nat} (h : DOk kvs n) : (kvs.map fun kv => keyT kv.1).Nodup := by
  have := h.once
  rw [dok_keys h] at this
  unfold List.Nodup at this ⊢
  rw [List.pairwise_map] at this
  exact this.imp fun {a b} z e => z (congrArg Sum.inr e)
end K09
namespace K09
open PySem L2 Evl Gr StX EnT ClX ClK RdX SrtT StS
section
variable {K : PySem.W.Frag} {σ : L2.St} {H : Hp} {ta : TA} {te tl : TE}
/-- [a pair for x in a list] -/
theorem s_pairsL {ks : List Str} {a : Addr} {j : Nat} {vs : List Nat} {Q : VK} (g : Str → Pr) (ha : H a = some (.lst (ks.map V.str))) (hn : ks.length ≤ 900) (hw : ∀ x, wipe ((wipe σ vs).set j (some x)) vs = wipe σ vs)
    (he : ∀ k ∈ ks, ∀ H1, Ex H H1 → EvPr te ((wipe σ vs).set j (some (.str k))) H1 (g k)) (q : ∀ p xs H', H p = none → Ex H H' → H' p = some (.lst xs) → Prs H' xs (ks.map g) → Q (.ref p) H') :
    tLc (iList K (tC (.ref a))) (gName j) (fun σ H Q => Q true H) te vs σ H Q := by
  have e : (List.range ks.length).map (fun i => g (ks.getD i mt)) = ks.map g := by
    refine List.ext_getElem? fun i => ?_
    rw [List.getElem?_map, List.getElem?_map]
    rcases Nat.lt_or_ge i ks.length with hi | hi
    · rw [List.getElem?_range hi, List.getElem?_eq_getElem hi]
      show some (g (ks.getD i mt)) = some (g ks[i])
      rw [List.getD_eq_getElem?_getD, List.getElem?_eq_getElem hi]
      rfl
    · rw [List.getElem?_eq_none (by rw [List.length_range]; exact hi), List.getElem?_eq_none hi]
      rfl
  refine ⟨a, rfl, ⟨_, sq_of ha⟩, fun Dl hD => lc_it (n := (ks.map V.str).length) (walk_list (K := K) (a := a) (xs := ks.map V.str)) (g := gName j) (tt := fun σ H Q => Q true H) (te := te) (vs := vs) (σ := σ) (fun i H' => ∃ xs, H' Dl = some (.lst xs) ∧ Prs H' xs ((List.range i).map fun i => g (ks.getD i mt)) ∧ Ex H H')
      ⟨[], upd_same, prs_nil, Ex.new hD⟩ (fun _ _ _ ⟨_, _, _, z⟩ => sq_of (z _ _ ha)) (fun k x H' H'' hk p y => ?_) (fun H' ⟨xs, h1, h2, h3⟩ => q Dl xs H' hD h3 h1 ?_)⟩
  · obtain ⟨rfl, hx⟩ := y
    rw [List.getElem?_map] at hx
    obtain ⟨z, hz, rfl⟩ := Option.map_eq_some_iff.mp hx
    have ez : ks.getD k mt = z := by
      rw [List.getD_eq_getElem?_getD, hz]
      rfl
    refine ⟨hw _, lp_turn hD p (by rw [List.length_map] at hk; omega) ?_⟩
    rw [ez]
    exact he z (List.mem_of_getElem? hz) _ (Ex.refl _)
  · rw [List.length_map, e] at h2
    exact h2
/-- [str(k) for k in a dict of texts] -/
theorem el_keys {d : Addr} {kvs : List (Key × V)} {ks : List Str} {i j : Nat} {vs : List Nat} {r : List V → Hp → VK → Prop} (hi : σ[i]? = some (some (.ref d))) (hd : H d = some (.dK kvs)) (hk : kvs.map (·.1) = ks.map Sum.inr) (hn : ks.length ≤ 900) (hw : ∀ x, wipe ((wipe σ vs).set j (some x)) vs = wipe σ vs)
    (hj : ∀ x, ((wipe σ vs).set j (some x))[j]? = some (some x)) (hr : ∀ (z : Str) H' (Q : VK), Q (.str z) H' → r [.str z] H' Q) : EvL (tLockE (tLc (iKeys (tVar i)) (gName j) (fun σ H Q => Q true H) (tCB r (tCons (tVar j) tNil)) vs)) σ H (ks.map V.str) := fun H1 e Q q => by
  have len : kvs.length = ks.length := by
    have := congrArg List.length hk
    rwa [List.length_map, List.length_map] at this
  refine ⟨d, .dK kvs, e _ _ hd, trivial, fun od => ⟨_, hi, d, od, rfl, .inl ⟨kvs, upd_same, fun Dl hD => lc_it (n := kvs.length) (walk_keys (kvs := kvs)) (g := gName j) (tt := fun σ H Q => Q true H) (te := tCB r (tCons (tVar j) tNil)) (vs := vs) (σ := σ) (fun k H' => H' Dl = some (.lst ((ks.take k).map V.str)) ∧ Ex (upd H1 d (.frz od (.dK kvs))) H') ⟨upd_same, Ex.new hD⟩ (fun _ H' _ p => p.2 _ _ upd_same) (fun k x H' H'' hk' p y => ?_) (fun H' p => ?_)⟩⟩⟩
  · obtain ⟨rfl, key, v, hkv, rfl⟩ := y
    have hz : ∃ z, ks[k]? = some z ∧ key = Sum.inr z := by
      have := congrArg (fun l => l[k]?) hk
      simp only [List.getElem?_map, hkv, Option.map_some] at this
      obtain ⟨z, hz, e⟩ := Option.map_eq_some_iff.mp this.symm
      exact ⟨z, hz, e.symm⟩
    obtain ⟨z, hz, rfl⟩ := hz
    refine ⟨hw _, ⟨_, hj _, hr z _ _ ⟨_, p.1, ?_, ?_, Ex.mut p.2 hD⟩⟩⟩
    · rw [List.length_map, List.length_take]
      exact sz_lt (by omega)
    · rw [upd_same, List.take_add_one, hz, List.map_append]
      rfl
  · have hDd : Dl ≠ d := fun z => by rw [z, upd_same] at hD; cases hD
    rw [upd_ne hDd] at hD
    refine ⟨p.2 _ _ upd_same, q Dl _ hD (fun b u hb => ?_) ?_⟩
    · by_cases c : b = d
      · rw [c] at hb ⊢
        rw [e _ _ hd] at hb
        rw [upd_same, hb]
      · rw [upd_ne c]
        exact p.2 _ _ (by rw [upd_ne c]; exact hb)
    · rw [upd_ne hDd, p.1, List.take_of_length_le (by omega)]
end
end K09
namespace K09
open PySem L2 Evl Gr StX EnT ClX ClK RdX SrtT StS
theorem q_asgG {σ : L2.St} {H : Hp} {te : TE} {g : TG} {tz : TS} {D : Ends} (h : te σ H fun x H1 => g x σ H1 fun σ2 H2 => tz D σ2 H2) : tSeq (tAsg te g) tz D σ H := h
/-- for .. in range(a draw) -/
theorem q_forWd {p l : Addr} {cells : List Int} {σ : L2.St} {H : Hp} {te : TE} {b : Int} {m j : Nat} {tu tz : TS} {D : Ends} (hw : EvW p l cells 1 te σ H (fun v => ∃ d : Nat, v = .int (d : Int) ∧ (d : Int) < b)) (hP : PenAt H p l cells m) (hm : m + 1 ≤ 50000)
    (k : ∀ (d : Nat) H1, (d : Int) < b → PenAt H1 p l cells (m + 1) → Keep p H H1 → tSeq (tFor (iRng1 (tCons (tC (.int (d : Int))) tNil)) (gName j) tu) tz D σ H1) : tSeq (tFor (iRng1 (tCons te tNil)) (gName j) tu) tz D σ H :=
  hw m H (Keep.of_ex (Ex.refl H)) hP hm _ fun v H2 hv hP2 k2 => by
    obtain ⟨d, rfl, hd⟩ := hv
    exact k d H2 hd hP2 k2
/-- [a pair for k in sorted(a list of texts)] -/
theorem s_sortPairs {K : PySem.W.Frag} {σ : L2.St} {H : Hp} {te tl : TE} {ks : List Str} {j : Nat} {vs : List Nat} {Q : VK} (g : Str → Pr) (h : EvL tl σ H (ks.map V.str)) (hn : ks.length < 64) (nd : ks.Nodup) (hw : ∀ x, wipe ((wipe σ vs).set j (some x)) vs = wipe σ vs)
    (he : ∀ k ∈ ks, ∀ H1, Ex H H1 → EvPr te ((wipe σ vs).set j (some (.str k))) H1 (g k)) (q : ∀ (p : Addr) (xs : List V) (ys : List Str) (H' : Hp), ys.Perm ks → (ys.Pairwise fun a b => ltB a b = true) → H p = none → Ex H H' → H' p = some (.lst xs) → Prs H' xs (ys.map g) → Q (.ref p) H') :
    tLc (iList K (tCB (rSortedS K) (tCons tl tNil))) (gName j) (fun σ H Q => Q true H) te vs σ H Q :=
  h H (Ex.refl H) _ fun a H1 ha e1 h1 => ⟨a, ks, rfl, sq_of h1, hn, fun ys r pm srt hr => by
    have e2 := e1.trans (Ex.new (o := .lst (ys.map V.str)) hr)
    show tLc (iList K (tC (.ref r))) (gName j) (fun σ H Q => Q true H) te vs σ _ Q
    refine s_pairsL g upd_same (by rw [pm.length_eq]; omega) hw (fun k hk H2 e3 => he k (pm.mem_iff.mp hk) H2 (e2.trans e3)) fun p xs H' hp e3 h3 hx => q p xs ys H' pm ?_ (fresh_back e2 hp) (e2.trans e3) h3 hx
    exact (StO.rows srt (pm.nodup_iff.mpr nd)).imp fun z => decide_eq_true (StO.lt_iff.mp z)⟩
theorem noSl_name {x : Str} {p : PySem.Pos} : NoSl (.Name x p) := fun _ _ => rfl
section
variable {P : Program} {w : World} {K : PySem.W.Frag} {mg : Str → Option Value} {base : Heap}
abbrev nPlan : List Str := ["_law_pen_here", "_law_some", "_law_way", "_law_far", "_law_flag", "_law_pairs", "_law_turn", "_law_watch", "_law_one"]
def spPlan : Sp := fun vs H Q _ => ∃ (p l : Addr) (cells : List Int) (m : Nat), vs = [.ref p] ∧ PenAt H p l cells m ∧ m + 100 ≤ 50000 ∧ cells.length ≤ 63 ∧
  ∀ v f ps H', Plan f ps → PlanAt H' v f ps → PenAt H' p l cells (m + 100) → Keep p H H' → Q v H'
theorem scPlan : FnScope nPlan ["_law_pen_here"] (defScope sPlan) := ⟨rfl, rfl, rfl, by decide +kernel, rfl, by decide +kernel, by decide +kernel⟩
theorem ok_Plan {f fD : Addr} {fd fdD : FuncData} (F : Fun K "_law_plan" "_law_plan" sPlan f fd) (T : GlbT mg) (S : GlbS mg) (I : GlbI mg) (GD : FnOk P w K mg base CX0 1 fD fdD ["_law_pen_here", "_law_many"] spDraw) (kD : PySem.W.keepIn K (.ref fD) = true) (bD : Binds K fdD ["_law_pen_here", "_law_many"] []) (gD : mg "_law_draw" = some (.ref fD))
    (GP : Gfn P w K mg base 2 "_law_pick" ["_law_pen_here", "_law_some"] spPick) (GZ : Gfn P w K mg base 2 "_law_pick" ["_law_pen_here", "_law_some"] spPickS) (GG : Gfn P w K mg base 3 "_law_signs" ["_law_pen_here", "_law_many"] spSg) :
    FnOk P w K mg base CX0 4 f fd ["_law_pen_here"] spPlan := by
  obtain ⟨fP, fdP, GP, kP, bP, gP⟩ := GP
  obtain ⟨fZ, fdZ, GZ, kZ, bZ, gZ⟩ := GZ
  obtain ⟨fG, fdG, GG, kG, bG, gG⟩ := GG
  refine F.ok scPlan (fun vs H Q E h => ?_) (fun cdv A outer s H vs Q E hr h => ?_)
  · obtain ⟨p, l, cells, m, rfl, _⟩ := h
    rfl
  · obtain ⟨p, l, cells, m, rfl, hP, hm, h63, k⟩ := h
    have r1 := hr.mono (show 1 ≤ 3 by decide)
    have r2 := hr.mono (show 2 ≤ 3 by decide)
    have hu : (A.deeper (PyProof.Rows.envOfC "_law_plan" (defScope sPlan) s.heap.objs.size f cdv)).units + 1 < cLine := by have := hr.units; omega
    refine ⟨_, pss_cons (ps_set (i := 1) scPlan.nd rfl (.inl rfl) (pe_lst (pa_cons (pe_tup (pa_cons pe_str (pa_cons (pe_lst (pa_cons (pe_tup (pa_cons pe_str (pa_cons pe_str pa_nil))) pa_nil)) pa_nil))) (pa_cons (pe_tup (pa_cons pe_str (pa_cons (pe_lst (pa_cons (pe_tup (pa_cons pe_str (pa_cons pe_str pa_nil))) pa_nil)) pa_nil))) (pa_cons (pe_tup (pa_cons pe_str (pa_cons (pe_lst (pa_cons (pe_tup (pa_cons pe_str (pa_cons pe_str pa_nil))) pa_nil)) pa_nil))) (pa_cons (pe_tup (pa_cons pe_str (pa_cons (pe_lst (pa_cons (pe_tup (pa_cons pe_str (pa_cons pe_str pa_nil))) pa_nil)) pa_nil))) (pa_cons (pe_tup (pa_cons pe_str (pa_cons (pe_lst (pa_cons (pe_tup (pa_cons pe_str (pa_cons pe_str pa_nil))) pa_nil)) pa_nil))) pa_nil)))))))
      (pss_cons (ps_set (i := 2) scPlan.nd rfl (.inl rfl) (pe_call GD r1 (by rfl) gD kD bD .nil pass0 (pa_cons (pv 0) (pa_cons pe_int pa_nil))))
      (pss_cons (ps_if (pt_cmpR op_lt (pv 2) pe_int (nomark _)) (pss_one (ps_ret (pe_ix ix_list (pv 1) (pv 2) (fun _ _ => rfl)))) pss_nil)
      (pss_cons (ps_if (pt_cmpR op_eq (pv 2) pe_int (nomark _)) (pss_cons (ps_set (i := 3) scPlan.nd rfl (.inl rfl) (pe_lst (pa_cons (pe_tup (pa_cons pe_str (pa_cons (pe_lst (pa_cons (pe_tup (pa_cons pe_str (pa_cons pe_str pa_nil))) (pa_cons (pe_tup (pa_cons pe_str (pa_cons pe_str pa_nil))) pa_nil))) pa_nil))) (pa_cons (pe_tup (pa_cons pe_str (pa_cons (pe_lst (pa_cons (pe_tup (pa_cons pe_str (pa_cons pe_str pa_nil))) (pa_cons (pe_tup (pa_cons pe_str (pa_cons pe_str pa_nil))) pa_nil))) pa_nil))) pa_nil)))) (pss_one (ps_ret (pe_call GP r2 (by rfl) gP kP bP .nil pass0 (pa_cons (pv 0) (pa_cons (pe_op op_cat (pv 3) (pe_lst (pa_cons (pe_tup (pa_cons pe_str (pa_cons (pe_lst (pa_cons (pe_tup (pa_cons pe_str (pa_cons pe_str pa_nil))) (pa_cons (pe_tup (pa_cons pe_str (pa_cons pe_str pa_nil))) pa_nil))) pa_nil))) (pa_cons (pe_tup (pa_cons pe_str (pa_cons (pe_lst (pa_cons (pe_tup (pa_cons pe_str (pa_cons pe_str pa_nil))) (pa_cons (pe_tup (pa_cons pe_str (pa_cons pe_str pa_nil))) pa_nil))) pa_nil))) pa_nil)))) pa_nil)))))) pss_nil)
      (pss_cons (ps_asg (pe_tup (pa_cons (pe_call GG hr (by rfl) gG kG bG .nil pass0 (pa_cons (pv 0) (pa_cons (pe_op op_add pe_int (pe_call GD r1 (by rfl) gD kD bD .nil pass0 (pa_cons (pv 0) (pa_cons pe_int pa_nil)))) pa_nil))) (pa_cons pe_dnewK pa_nil))) (pg_tup rfl (pgs_cons (pg_name (i := 4) scPlan.nd rfl (.inl rfl)) (pgs_cons (pg_name (i := 5) scPlan.nd rfl (.inr rfl)) pgs_nil))))
      (pss_cons (ps_for PassesOwn.never rfl (pi_range1 (by rfl) S.range (pa_cons (pe_call GD r1 (by rfl) gD kD bD .nil pass0 (pa_cons (pv 0) (pa_cons pe_int pa_nil))) pa_nil)) (pg_name (i := 6) scPlan.nd rfl (.inl rfl))
        (pss_one (ps_dput hu (pv 5) (pe_call GG hr (by rfl) gG kG bG .nil pass0 (pa_cons (pv 0) (pa_cons (pe_op op_add pe_int (pe_call GD r1 (by rfl) gD kD bD .nil pass0 (pa_cons (pv 0) (pa_cons pe_int pa_nil)))) pa_nil))) (pe_call GZ r2 (by rfl) gZ kZ bZ .nil pass0 (pa_cons (pv 0) (pa_cons pe_str pa_nil))) (by rfl))))
      (pss_one (ps_ret (pe_tup (pa_cons (pv 4) (pa_cons (pe_lc (own := [("_law_watch", 7)]) (g := gName 7) rfl scPlan.nd (pi_list (pe_callB cr_sortedS (by rfl) I.sorted (by decide +kernel) (pa_cons (pe_lock (pe_lc (own := [("_law_one", 8)]) (g := gName 8) rfl scPlan.nd (pi_keys (pv 5)) (blkOk_by (own := [("_law_one", 8)]) (N := nPlan) (sc := defScope sPlan) (by decide +kernel))
          (fun _ _ _ _ _ => pg_name (i := 8) scPlan.nd rfl (Or.inl rfl)) (fun _ _ _ _ _ => pts_nil) (fun _ _ _ _ _ => pe_callTy OwX.call_strV (by rfl) T.str (by decide +kernel) (pa_cons (pv 8) pa_nil)))) pa_nil)))
          (blkOk_by (own := [("_law_watch", 7)]) (N := nPlan) (sc := defScope sPlan) (by decide +kernel)) (fun _ _ _ _ _ => pg_name (i := 7) scPlan.nd rfl (Or.inl rfl)) (fun _ _ _ _ _ => pts_nil) (fun _ _ _ _ _ => pe_tup (pa_cons (pv 7) (pa_cons (pe_dget hu (pv 5) (pv 7) noSl_name) pa_nil)))) pa_nil)))))))))), ?_⟩
    have pne : ∀ {H1 : Hp} {a : Addr}, Keep p H H1 → H1 p ≠ none → H1 a = none → a ≠ p := fun _ h1 h2 z => h1 (z ▸ h2)
    have there : ∀ {H1 : Hp} {n : Nat}, PenAt H1 p l cells n → H1 p ≠ none := fun ⟨_, _, h, _⟩ z => by rw [h] at z; cases z
    -- the five
    refine q_asgR (lst_i ((show EvPls _ _ _ plansA from (epls_cons (epl_tup ev_c (epp_cons (ep_tup ev_c ev_c) epp_nil) (by decide)) (epls_cons (epl_tup ev_c (epp_cons (ep_tup ev_c ev_c) epp_nil) (by decide)) (epls_cons (epl_tup ev_c (epp_cons (ep_tup ev_c ev_c) epp_nil) (by decide)) (epls_cons (epl_tup ev_c (epp_cons (ep_tup ev_c ev_c) epp_nil) (by decide)) (epls_cons (epl_tup ev_c (epp_cons (ep_tup ev_c ev_c) epp_nil) (by decide)) epls_nil)))))) H (Ex.refl H) _ fun xs H1 e1 hx => ⟨by have := hx.1; rw [this]; exact sz_of (by decide), fun L hL => ?_⟩))
    have e2 : Ex H (upd H1 L (.lst xs)) := e1.trans (Ex.new hL)
    have hL2 : (upd H1 L (.lst xs)) L = some (.lst xs) := upd_same
    have hx2 := hx.mono (Ex.new (o := .lst xs) hL)
    have hP2 := hP.mono e2 (Nat.le_refl m)
    have Lp : L ≠ p := fun z => there (hP.mono e1 (Nat.le_refl m)) (z ▸ hL)
    generalize upd H1 L (.lst xs) = H2 at e2 hL2 hx2 hP2
    refine q_asgR ((w_draw (i := 0) (σ := [some (.ref p), some (.ref L), none, none, none, none, none, none, none]) (many := 8) rfl (fun _ _ => ev_c) (by decide) (by decide) h63) m H2 (Keep.of_ex (Ex.refl H2)) hP2 (by omega) _ fun v H3 hv hP3 k3 => ?_)
    obtain ⟨d, rfl, hd⟩ := hv
    have hL3 := k3 _ _ hL2 Lp
    have hx3 : Pls H3 xs plansA := ⟨hx2.1, fun i x q a b => (hx2.2 i x q a b).keep hP2 k3⟩
    have K3 : Keep p H H3 := (Keep.of_ex e2).trans k3
    have five : xs.length = 5 := hx3.1
    refine q_when (et_test (ev_op (ev_var rfl) ev_c rv_I0)) (fun hb H4 e4 => ?_) (fun hb H4 e4 => ?_)
    · have hd5 : d < xs.length := by
        have := of_decide_eq_true hb
        omega
      have hxd := List.getElem?_eq_getElem hd5
      obtain ⟨q, hq, pl⟩ := hx3.at hxd
      exact s_ret (v := xs[d]) (ev_op (ev_var rfl) (ev_var rfl) (rv_ixL (sq_of (e4 _ _ hL3)) (atI_nat hxd))) fun H5 e5 => k _ q.1 q.2 H5 (plans_ok q (List.mem_append_left _ hq)) (pl.mono (e4.trans e5)) (hP3.mono (e4.trans e5) (by omega)) (K3.trans (Keep.of_ex (e4.trans e5)))
    refine q_when (et_test (ev_op (ev_var rfl) ev_c (rv_eq rfl))) (fun hc H5 e5 => ?_) (fun hc H5 e5 => ?_)
    · have E5 := e4.trans e5
      refine q_asgR (lst_i ((show EvPls _ _ _ plansF from (epls_cons (epl_tup ev_c (epp_cons (ep_tup ev_c ev_c) (epp_cons (ep_tup ev_c ev_c) epp_nil)) (by decide)) (epls_cons (epl_tup ev_c (epp_cons (ep_tup ev_c ev_c) (epp_cons (ep_tup ev_c ev_c) epp_nil)) (by decide)) epls_nil))) H5 (Ex.refl H5) _ fun ys H6 e6 hy => ⟨by have := hy.1; rw [this]; exact sz_of (by decide), fun L2 hL2' => ?_⟩))
      have e7 : Ex H6 (upd H6 L2 (.lst ys)) := Ex.new hL2'
      have hy7 := hy.mono e7
      have hL27 : (upd H6 L2 (.lst ys)) L2 = some (.lst ys) := upd_same
      generalize upd H6 L2 (.lst ys) = H7 at e7 hy7 hL27
      refine s_retR (cons_i ⟨_, rfl, cons_i (op_i ⟨_, rfl, lst_i ((show EvPls _ _ _ plansG from (epls_cons (epl_tup ev_c (epp_cons (ep_tup ev_c ev_c) (epp_cons (ep_tup ev_c ev_c) epp_nil)) (by decide)) (epls_cons (epl_tup ev_c (epp_cons (ep_tup ev_c ev_c) (epp_cons (ep_tup ev_c ev_c) epp_nil)) (by decide)) epls_nil))) H7 (Ex.refl H7) _ fun zs H8 e8 hz => ⟨by have := hz.1; rw [this]; exact sz_of (by decide), fun L3 hL3' => ?_⟩)⟩)⟩)
      have e9 : Ex H8 (upd H8 L3 (.lst zs)) := Ex.new hL3'
      have hz9 := hz.mono e9
      have hL39 : (upd H8 L3 (.lst zs)) L3 = some (.lst zs) := upd_same
      generalize upd H8 L3 (.lst zs) = H9 at e9 hz9 hL39
      have sz : (ys ++ zs).length = 4 := by rw [List.length_append, hy.1, hz.1]; rfl
      refine ⟨L2, L3, ys, zs, rfl, rfl, (e8.trans e9) _ _ hL27, hL39, by rw [← List.length_append, sz]; exact sz_of (by decide), fun a ha => ?_⟩
      have ea := Ex.new (H := H9) (o := .lst (ys ++ zs)) ha
      have all : Pls (upd H9 a (.lst (ys ++ zs))) (ys ++ zs) (plansF ++ plansG) := ((hy7.mono (e8.trans e9)).app hz9).mono ea
      have EA := ((((E5.trans e6).trans e7).trans e8).trans e9).trans ea
      have hPA := hP3.mono EA (Nat.le_refl _)
      have hap : a ≠ p := fun z => there (hP3.mono (((((E5.trans e6).trans e7).trans e8).trans e9)) (Nat.le_refl _)) (z ▸ ha)
      exact ⟨p, l, a, cells, m + 1, ys ++ zs, rfl, hPA, by omega, h63, upd_same, hap, by omega, by omega, fun i x H' hxi hP' k' => by
        obtain ⟨q, hq, pl⟩ := all.at hxi
        exact k x q.1 q.2 H' (plans_ok q (List.mem_append_right _ hq)) (pl.keep hPA k') (hP'.le (by omega)) ((K3.trans (Keep.of_ex EA)).trans k')⟩
    have E5 := e4.trans e5
    have hP5 := hP3.mono E5 (Nat.le_refl _)
    -- a flag, a dict
    refine q_asgG (tup_i (cons_i ((w_signs (i := 0) (c := 2) (b := 4) (σ := [some (.ref p), some (.ref L), some (.int (d : Int)), none, none, none, none, none, none]) rfl h63 (by decide) (by decide)) (m + 1) H5 (Keep.of_ex (Ex.refl H5)) hP5 (by omega) _ fun v H6 hv hP6 k6 => cons_i fun dd hdd => ?_)))
    obtain ⟨z, rfl, sg, z2, z6⟩ := hv
    refine ⟨by show 2 ≤ sizeLine; decide, fun t ht => ⟨t, _, rfl, st_of upd_same, rfl, _, _, rfl, _, _, rfl, rfl, ?_⟩⟩
    have ddp : dd ≠ p := fun z => there hP6 (z ▸ hdd)
    have e7 : Ex H6 (upd (upd H6 dd (.dK [])) t (.tup [.str z, .ref dd])) := (Ex.new hdd).trans (Ex.new ht)
    have hd7 : (upd (upd H6 dd (.dK [])) t (.tup [.str z, .ref dd])) dd = some (.dK []) := (Ex.new ht) _ _ upd_same
    have hddH : H dd = none := by
      cases c : H dd with
      | none => rfl
      | some u =>
        have := k6 _ _ ((Keep.of_ex E5) _ _ (K3 _ _ c ddp) ddp) ddp
        rw [hdd] at this
        cases this
    have K7 : Keep p H (upd (upd H6 dd (.dK [])) t (.tup [.str z, .ref dd])) := ((K3.trans (Keep.of_ex E5)).trans k6).trans (Keep.of_ex e7)
    have hP7 := hP6.mono e7 (Nat.le_refl _)
    generalize upd (upd H6 dd (.dK [])) t (.tup [.str z, .ref dd]) = H7 at e7 hd7 K7 hP7
    refine q_forWd (w_draw (i := 0) (many := 4) rfl (fun _ _ => ev_c) (by decide) (by decide) h63) hP7 (by omega) fun n H8 hn hP8 k8 => ?_
    have K8 := K7.trans k8
    have hd8 := k8 _ _ hd7 ddp
    refine q_forR1 (ea_cons ev_c ea_nil) (by omega) (fun i σ' H' => (∃ x6, σ' = [some (.ref p), some (.ref L), some (.int (d : Int)), none, some (.str z), some (.ref dd), x6, none, none]) ∧ PenAt H' p l cells (m + 1 + 9 + 1 + 10 * i) ∧ Keep p H H' ∧ ∃ kvs, H' dd = some (.dK kvs) ∧ DOk kvs i) (fun H9 e9 => ⟨⟨none, rfl⟩, hP8.mono e9 (by omega), K8.trans (Keep.of_ex e9), [], e9 _ _ hd8, ⟨Nat.le_refl _, List.nodup_nil, fun kv h => by simp at h⟩⟩) ?_ ?_
    · rintro i σ' H9 hi ⟨⟨x6, rfl⟩, hP9, K9, kvs, hk, dok⟩
      refine ⟨_, rfl, p, l, cells, m + 1 + 9 + 1 + 10 * i, oi, rfl, hP9, by omega, h63, by decide +kernel, by decide +kernel, fun c H10 hcm hP10 k10 => ?_⟩
      have bit : Bit ⟨#[c]⟩ := by
        rw [oi_list] at hcm
        rcases List.mem_cons.mp hcm with rfl | hc'
        · exact .inl (by decide +kernel)
        · rw [List.mem_singleton.mp hc']
          exact .inr (by decide +kernel)
      refine ⟨_, rfl, (w_signs (i := 0) (c := 1) (b := 4) (σ := [some (.ref p), some (.ref L), some (.int (d : Int)), none, some (.str z), some (.ref dd), some (.int (i : Int)), none, none]) rfl h63 (by decide) (by decide)) _ H10 (Keep.of_ex (Ex.refl H10)) hP10 (by omega) _ fun v H11 hv hP11 k11 => ?_⟩
      obtain ⟨y, rfl, sgy, y1, y5⟩ := hv
      have hk11 := k11 _ _ (k10 _ _ hk ddp) ddp
      have few := dok.few
      refine ⟨dd, _, rfl, DPut.k (k := Sum.inr y) hk11 (sz_lt (by omega)), ⟨_, rfl⟩, ?_, ?_, _, upd_same, ?_⟩
      · refine (hP11.upd' ddp ?_).le (by omega)
        intro e
        obtain ⟨_, _, _, h2, _⟩ := hP11
        rw [e, h2] at hk11
        cases hk11
      · exact ((K9.trans k10).trans k11).mut hddH
      · exact dok_put dok ⟨sgB_iff.mpr ⟨sgy, by show (1 : Int) ≤ (y.length : Int); omega, by show (y.length : Int) ≤ 8; omega⟩, bit_ok bit⟩
    · rintro σ' H9 ⟨⟨x6, rfl⟩, hP9, K9, kvs, hk, dok⟩
      rw [Int.toNat_natCast] at dok hP9
      have few := dok.few
      have kl : (kvs.map fun kv => keyT kv.1).length = kvs.length := List.length_map _
      have vals : ∀ y ∈ kvs.map (fun kv => keyT kv.1), ∃ v, valV kvs (Sum.inr y) = some (.str v) ∧ PairOk (y, v) := fun y hy => dok_val dok hy
      let g : Str → Pr := fun y => (y, match valV kvs (Sum.inr y : Key) with
        | some (.str v) => v
        | _ => mt)
      have gv : ∀ y ∈ kvs.map (fun kv => keyT kv.1), valV kvs (Sum.inr y : Key) = some (.str (g y).2) ∧ PairOk (g y) := fun y hy => by
        obtain ⟨v, h1, h2⟩ := vals y hy
        have e : g y = (y, v) := by
          show (y, _) = (y, v)
          rw [h1]
        rw [e]
        exact ⟨h1, h2⟩
      refine s_retR (tup_i (cons_i ⟨_, rfl, cons_i (s_sortPairs (K := K) g (el_keys (i := 5) rfl hk (dok_keys dok) (by omega) (fun _ => rfl) (fun _ => rfl) fun z H' Q q => .inr ⟨z, rfl, q⟩) (by omega) (dok_once dok) (fun _ => rfl) (fun y hy H10 e10 => ?_) fun q xs ys H10 pm up hq e10 hq10 hx10 => ?_)⟩))
      · obtain ⟨h1, h2⟩ := gv y hy
        refine ep_tup (ev_var rfl) fun H11 e11 Q q => ⟨_, rfl, _, rfl, dd, _, rfl, .inl ⟨kvs, Sum.inr y, Rd.of ((e10.trans e11) _ _ hk), rfl, h1.symm⟩, q H11 (Ex.refl H11)⟩
      · refine ⟨by show 2 ≤ sizeLine; decide, fun t ht => ?_⟩
        have e11 := e10.trans (Ex.new (o := .tup [.str z, .ref q]) ht)
        have lys : ys.length = kvs.length := by rw [pm.length_eq, kl]
        refine k _ z (ys.map g) _ ⟨⟨sgB_iff.mpr ⟨sg, by omega, by omega⟩, fun p hp => ?_, by rw [List.length_map]; omega, ?_⟩, by omega, by rw [List.length_map]; omega⟩ ⟨t, q, xs, rfl, upd_same, (Ex.new ht) _ _ hq10, hx10.mono (Ex.new ht)⟩ (hP9.mono e11 (by omega)) (K9.trans (Keep.of_ex e11))
        · obtain ⟨y, hy, rfl⟩ := List.mem_map.mp hp
          exact (gv y (pm.mem_iff.mp hy)).2
        · unfold Rise
          rw [List.pairwise_map]
          exact up
end
end K09
namespace K09
open PySem L2 Evl Gr StX EnT ClX ClK RdX SrtT StS Fr
abbrev sPut : Stmt := top 16
abbrev sSent : Stmt := top 17
abbrev sLob : Stmt := top 18
section
variable {K : PySem.W.Frag} {σ : L2.St} {H : Hp} {te ta tb ti to : TE} {tl th : TO}
theorem ev_slS {z : Str} {lo hi : Option Int} (h : Ev te σ H (.str z)) (h1 : EvO tl σ H lo) (h2 : EvO th σ H hi) (hz : z.length ≤ 100000) : Ev (tSl rSlS te tl th) σ H (.str (cutS z lo hi)) := fun H1 e Q q =>
  h H1 e _ fun H2 e2 => h1 H2 (e.trans e2) _ fun H3 e3 => h2 H3 ((e.trans e2).trans e3) _ fun H4 e4 => ⟨z, rfl, sz_of hz, q H4 ((e2.trans e3).trans e4)⟩
theorem ev_ends {a b : Str} (ha : Ev ta σ H (.str a)) (hb : Ev tb σ H (.str b)) : Ev (tBM K "str" (fun x xs H Q => ∃ a b, x = .str a ∧ xs = [.str b] ∧ Q (.bl (Txt.endswith a b)) H) ta (tCons tb tNil)) σ H (.bl (Txt.endswith a b)) := fun H1 e Q q =>
  ha H1 e _ fun H2 e2 => ⟨rfl, hb H2 (e.trans e2) _ fun H3 e3 => ⟨a, b, rfl, rfl, q H3 (e2.trans e3)⟩⟩
theorem et_din {d : Addr} {kvs : List (Key × V)} {k : Key} (hi : Ev ti σ H (kV k)) (ho : Ev to σ H (.ref d)) (hd : H d = some (.dK kvs)) : EvT (tB (tDIn ti to)) σ H (valV kvs k).isSome := fun H1 e Q q =>
  hi H1 e _ fun H2 e2 => ho H2 (e.trans e2) _ fun H3 e3 => ⟨d, _, rfl, DGet.k (k := k) ((e.trans (e2.trans e3)) _ _ hd), _, rfl, q H3 (e2.trans e3)⟩
end
structure GlbP (mg : Str → Option Value) : Prop where
  eight : ∃ t, mg "MOST_WORD_SIGNS" = some (.int 8 t)
  max : mg "max" = none
theorem best_short {z : L} {ps : List Pr} (h : ∀ p ∈ ps, p.1.length ≤ 8) : (bestS z ps (mt, mt)).1.length ≤ 8 := by
  rcases bestS_mem (z := z) (ps := ps) (b := (mt, mt)) with e | e
  · rw [e]
    decide +kernel
  · exact h _ e
theorem take_snoc {α : Type} {l : List α} {i : Nat} {x : α} (h : l[i]? = some x) : l.take (i + 1) = l.take i ++ [x] := by
  rw [List.take_add_one, h]
  rfl
theorem sapp_len (a b : Str) : (a ++ b).length = a.length + b.length := by rw [TL.len_tl, TL.tl_append, List.length_append, ← TL.len_tl, ← TL.len_tl]
/-! ### what is sent, as values -/
def sentV (s : L) : Option L → V
  | none => .non
  | some t => .str (mk (t.drop s.length))
def tknV : Option L → V
  | none => .non
  | some t => .str (mk t)
theorem chain_pre {ps : LP} {u : L} : ∀ k, u <+: chain ps u k
  | 0 => List.prefix_refl _
  | k + 1 => (chain_pre k).trans (List.prefix_append _ _)
theorem pre_drop {s t : L} (h : s <+: t) : s ++ t.drop s.length = t := by
  obtain ⟨r, rfl⟩ := h
  rw [List.drop_left]
section
variable {P : Program} {w : World} {K : PySem.W.Frag} {mg : Str → Option Value} {base : Heap}
/-! ### put_behind -/
abbrev nPut : List Str := ["signs", "pairs", "longest", "sign", "watch", "put"]
def spPut (K : PySem.W.Frag) : Sp := fun vs H Q _ => ∃ (z : Str) (q : Addr) (xs : List V) (ps : List Pr), vs = [.str z, .ref q] ∧ SqT K H q xs ∧ Prs H xs ps ∧ (∀ p ∈ ps, p.1.length ≤ 8) ∧ RetV (.str (putS ps (TL.tl z))) H Q
theorem scPut : FnScope nPut ["signs", "pairs"] (defScope sPut) := ⟨rfl, rfl, rfl, by decide +kernel, rfl, by decide +kernel, by decide +kernel⟩
theorem ok_Put {f : Addr} {fd : FuncData} (F : Fun K "put_behind" "put_behind" sPut f fd) (T : GlbT mg) : FnOk P w K mg base CX0 1 f fd ["signs", "pairs"] (spPut K) := by
  refine F.ok scPut (fun vs H Q E h => ?_) (fun cdv A outer s H vs Q E hr h => ?_)
  · obtain ⟨z, q, xs, ps, rfl, _⟩ := h
    rfl
  · obtain ⟨z, q, xs, ps, rfl, hq, hp, h8, k⟩ := h
    refine ⟨_, (pss_cons (ps_asg (pe_tup (pa_cons pe_str (pa_cons pe_str pa_nil))) (pg_tup rfl (pgs_cons (pg_name (i := 2) scPut.nd rfl (.inl rfl)) (pgs_cons (pg_name (i := 3) scPut.nd rfl (.inl rfl)) pgs_nil))))
      (pss_cons (ps_for PassesOwn.never rfl (pi_tup (pv 1)) (pg_tup rfl (pgs_cons (pg_name (i := 4) scPut.nd rfl (.inl rfl)) (pgs_cons (pg_name (i := 5) scPut.nd rfl (.inl rfl)) pgs_nil)))
        (pss_one (ps_if (PW.pt (pw_and (pt_cmpR op_gt (pe_callB call_len (by rfl) T.len PySem.boot_len (pa_cons (pv 4) pa_nil)) (pe_callB call_len (by rfl) T.len PySem.boot_len (pa_cons (pv 2) pa_nil)) (nomark _))
            (pw_and1 (pt_val (pe_bm PySem.F.plainAttrs_str PySem.F.slot_str_endswith PySem.F.type_str_endswith mt_endswith (pv 0) (pa_cons (pv 4) pa_nil))))))
          (pss_one (ps_par (i := 2) (j := 3) rfl scPut.nd rfl rfl (by decide) rfl rfl (pa_cons (pv 4) (pa_cons (pv 5) pa_nil)) (by rfl))) pss_nil)))
      (pss_one (ps_ret (pv 3))))), ?_⟩
    have len := hp.len
    refine q_asgG (tup_i (cons_i (c_i (cons_i (c_i ⟨by show 2 ≤ sizeLine; decide, fun t ht => ⟨t, _, rfl, st_of upd_same, rfl, _, _, rfl, _, _, rfl, rfl, ?_⟩⟩)))))
    have e1 : Ex H (upd H t (.tup [.str mt, .str mt])) := Ex.new ht
    generalize upd H t (.tup [.str mt, .str mt]) = H1 at e1 ⊢
    refine q_forT (K := K) (a := q) (xs := xs) (ev_var rfl) (ex_t e1 hq) (fun i σ' H' => (∃ x4 x5 : Option V, σ' = [some (.str z), some (.ref q), some (.str (bestS (TL.tl z) (ps.take i) (mt, mt)).1), some (.str (bestS (TL.tl z) (ps.take i) (mt, mt)).2), x4, x5]) ∧ Ex H H') (fun H2 e2 => ⟨⟨none, none, rfl⟩, e1.trans e2⟩) (fun _ _ _ _ p => ex_t p.2 hq) ?_ ?_
    · rintro i x σ' H2 hx ⟨⟨x4, x5, rfl⟩, e2⟩
      obtain ⟨t2, p, rfl, hpi, ht2⟩ := hp.at hx
      refine ⟨t2, _, rfl, st_of (e2 _ _ ht2), rfl, _, _, rfl, _, _, rfl, rfl, ?_⟩
      have hm := List.mem_of_getElem? hpi
      have b8 : (bestS (TL.tl z) (ps.take i) (mt, mt)).1.length ≤ 8 := best_short fun p hp => h8 p (List.mem_of_mem_take hp)
      have p8 := h8 p hm
      have step : bestS (TL.tl z) (ps.take (i + 1)) (mt, mt) = if (bestS (TL.tl z) (ps.take i) (mt, mt)).1.length < p.1.length ∧ TL.tl p.1 <:+ TL.tl z then p else bestS (TL.tl z) (ps.take i) (mt, mt) := by
        rw [take_snoc hpi, bestS_snoc]
      refine s_when (b := decide (((bestS (TL.tl z) (ps.take i) (mt, mt)).1.length < p.1.length) ∧ TL.tl p.1 <:+ TL.tl z)) (et_is (et_and (et_test (ev_op (ev_cb (ea_cons (ev_var rfl) ea_nil) (rc_lenS (K := K) (z := p.1) (by omega))) (ev_cb (ea_cons (ev_var rfl) ea_nil) (rc_lenS (K := K) (z := (bestS (TL.tl z) (ps.take i) (mt, mt)).1) (by omega))) rv_I0)) fun _ => et_B (ev_ends (ev_var rfl) (ev_var rfl))) ?_) (fun hb H3 e3 => ?_) (fun hb H3 e3 => ?_)
      · rw [ends_is, Bool.eq_iff_iff, Bool.and_eq_true, decide_eq_true_iff, decide_eq_true_iff, decide_eq_true_iff]
        constructor
        · exact fun ⟨a, b⟩ => ⟨by omega, b⟩
        · exact fun ⟨a, b⟩ => ⟨by omega, b⟩
      · rw [if_pos (of_decide_eq_true hb)] at step
        refine ea_cons (ev_var rfl) (ea_cons (ev_var rfl) ea_nil) H3 (Ex.refl H3) _ fun H4 e4 => ⟨_, _, rfl, ⟨some (.str p.1), some (.str p.2), ?_⟩, (e2.trans e3).trans e4⟩
        rw [step]
        rfl
      · rw [if_neg (of_decide_eq_false hb)] at step
        refine ⟨⟨some (.str p.1), some (.str p.2), ?_⟩, e2.trans e3⟩
        rw [step]
        rfl
    · rintro σ' H2 ⟨⟨x4, x5, rfl⟩, e2⟩
      rw [List.take_of_length_le (by omega)]
      exact s_ret (v := .str (putS ps (TL.tl z))) (ev_var rfl) fun H3 e3 => k H3 (e2.trans e3)
/-! ### sent_behind -/
abbrev nSent : List Str := ["signs", "sign", "pairs", "sent", "tails", "tail", "put"]
def spSent (K : PySem.W.Frag) : Sp := fun vs H Q _ => ∃ (z c : Str) (q : Addr) (xs : List V) (f : Str) (ps : List Pr) (s : L) (x : Nat), vs = [.str z, .str c, .ref q] ∧ TL.tl z = tail8 s ∧ TL.tl c = [x] ∧ Sgs s ∧ (x = 48 ∨ x = 49) ∧ SqT K H q xs ∧ Prs H xs ps ∧ Good f ps ∧ RetV (sentV s (sentL (lp ps) s x)) H Q
theorem scSent : FnScope nSent ["signs", "sign", "pairs"] (defScope sSent) := ⟨rfl, rfl, rfl, by decide +kernel, rfl, by decide +kernel, by decide +kernel⟩
theorem putK_new {kvs : List (Key × V)} {k : Key} {v : V} (h : valV kvs k = none) : putK kvs k v = kvs ++ [(k, v)] := by
  unfold putK
  rw [valV_any, h]
  rfl
theorem valV_key {kvs : List (Key × V)} {k : Key} : (valV kvs k).isSome = true ↔ k ∈ kvs.map (·.1) := by
  rw [← valV_any, List.any_eq_true, List.mem_map]
  constructor
  · rintro ⟨p, hp, e⟩
    exact ⟨p, hp, of_decide_eq_true e⟩
  · rintro ⟨p, hp, e⟩
    exact ⟨p, hp, decide_eq_true e⟩
theorem ok_Sent {f : Addr} {fd : FuncData} (F : Fun K "sent_behind" "sent_behind" sSent f fd) (T : GlbT mg) (Z : GlbP mg) (GP : Gfn P w K mg base 1 "put_behind" ["signs", "pairs"] (spPut K)) : FnOk P w K mg base CX0 2 f fd ["signs", "sign", "pairs"] (spSent K) := by
  obtain ⟨fP, fdP, GP, kP, bP, gP⟩ := GP
  obtain ⟨t8, g8⟩ := Z.eight
  refine F.ok scSent (fun vs H Q E h => ?_) (fun cdv A outer s H vs Q E hr h => ?_)
  · obtain ⟨z, c, q, xs, f, ps, s, x, rfl, _⟩ := h
    rfl
  · obtain ⟨z, c, q, xs, fl, ps, s0, x, rfl, hz, hc, sg, hx, hq, hp, g, k⟩ := h
    have hu : (A.deeper (PyProof.Rows.envOfC "sent_behind" (defScope sSent) s.heap.objs.size f cdv)).units + 1 < cLine := by have := hr.units; omega
    refine ⟨_, (pss_cons (ps_set (i := 3) scSent.nd rfl (.inl rfl) (pv 1))
      (pss_cons (ps_set (i := 4) scSent.nd rfl (.inl rfl) pe_dnewK)
      (pss_one (ps_while PassesOwn.never (pt_val pe_bl)
        (pss_cons (ps_set (i := 5) scSent.nd rfl (.inl rfl) (pe_slice sl_str (pe_op op_add_str (pv 0) (pv 3)) (po_some (pe_un un_neg (pe_glob (v := .int 8) (by rfl) g8 ⟨_, rfl⟩))) po_none))
      (pss_cons (ps_set (i := 6) scSent.nd rfl (.inl rfl) (pe_call GP hr (by rfl) gP kP bP .nil pass0 (pa_cons (pv 5) (pa_cons (pv 2) pa_nil))))
      (pss_cons (ps_if (pt_cmpR op_eq (pv 6) pe_str (nomark _)) (pss_one (ps_ret (pv 3))) pss_nil)
      (pss_cons (ps_if (pt_cmp (pc_din hu (pv 5) (pv 4))) (pss_one (ps_ret pe_non)) pss_nil)
      (pss_cons (ps_dput hu (pv 4) (pv 5) pe_bl rfl)
      (pss_one (ps_set (i := 3) scSent.nd rfl (.inl rfl) (pe_op op_add_str (pv 3) (pv 6))))))))))))), ?_⟩
    have O := good_pok g
    have s8 : ∀ p ∈ ps, p.1.length ≤ 8 := fun p hp => by
      have := sgB_iff.mp (g.ok p hp).1
      omega
    let u : L := s0 ++ [x]
    have su : s0 <+: u := List.prefix_append _ _
    have sgu : Sgs u := sg.app fun d hd => by rw [List.mem_singleton.mp hd]; exact hx
    have u1 : 1 ≤ u.length := by show 1 ≤ (s0 ++ [x]).length; rw [List.length_append]; show 1 ≤ _ + 1; omega
    have ulen : u.length = s0.length + 1 := by show (s0 ++ [x]).length = _; rw [List.length_append]; rfl
    have pre : ∀ j, s0 <+: chain (lp ps) u j := fun j => su.trans (chain_pre j)
    have ec : c = mk (u.drop s0.length) := mk_eq (by
      show _ = (s0 ++ [x]).drop s0.length
      rw [List.drop_left, hc])
    refine q_asg (ev_var rfl) fun H1 e1 => ?_
    refine q_asgR fun d hd => ?_
    have e2 := e1.trans (Ex.new (o := .dK []) hd)
    have hd0 : H d = none := fresh_back e1 hd
    refine s_while (fun m σ' H' => ∃ j kvs, m = 300 - j ∧ (∃ x5 x6 : Option V, σ' = [some (.str z), some (.str c), some (.ref q), some (.str (mk ((chain (lp ps) u j).drop s0.length))), some (.ref d), x5, x6]) ∧ Ex H H' ∧ H' d = some (.dK kvs) ∧
      kvs.map (·.1) = (List.range j).map (fun i => (Sum.inr (mk (tail8 (chain (lp ps) u i))) : Key)) ∧ (∀ i, i < j → putL (lp ps) (chain (lp ps) u i) ≠ []) ∧ ∀ i i', i < i' → i' < j → tail8 (chain (lp ps) u i) ≠ tail8 (chain (lp ps) u i')) 300 ⟨0, [], rfl, ⟨none, none, by rw [ec]; rfl⟩, e2, upd_same, rfl, fun i hi => by omega, fun i i' h1 h2 => by omega⟩ ?_
    rintro m σ' H2 ⟨j, kvs, rfl, ⟨x5, x6, rfl⟩, e3, hdk, keys, up, nd⟩
    have j263 : j ≤ 263 := few_tails O u1 sgu up nd
    have clen := chain_len O (s := u) up
    have sl : (mk ((chain (lp ps) u j).drop s0.length)).length ≤ 264 := by
      rw [mk_len, List.length_drop, clen, ulen]
      omega
    have zl : z.length ≤ 8 := by
      rw [TL.len_tl, hz]
      exact tail8_le _
    refine ⟨true, et_B ev_c, fun _ H3 e4 => ⟨fun σ2 H4 => ∃ j' kvs, j' = j + 1 ∧ (∃ x5 x6 : Option V, σ2 = [some (.str z), some (.str c), some (.ref q), some (.str (mk ((chain (lp ps) u j').drop s0.length))), some (.ref d), x5, x6]) ∧ Ex H H4 ∧ H4 d = some (.dK kvs) ∧
      kvs.map (·.1) = (List.range j').map (fun i => (Sum.inr (mk (tail8 (chain (lp ps) u i))) : Key)) ∧ (∀ i, i < j' → putL (lp ps) (chain (lp ps) u i) ≠ []) ∧ ∀ i i', i < i' → i' < j' → tail8 (chain (lp ps) u i) ≠ tail8 (chain (lp ps) u i'), fun σ2 H4 ⟨j', kvs', e, r⟩ => ⟨300 - j', by omega, j', kvs', rfl, r⟩, ?_⟩, fun z => absurd z (by decide)⟩
    have E3 := e3.trans e4
    have tailE : TL.tl (cutS (z ++ mk ((chain (lp ps) u j).drop s0.length)) (some (-8)) none) = tail8 (chain (lp ps) u j) := by
      rw [last8, TL.tl_append, hz, tail8_app]
      show tail8 (s0 ++ (chain (lp ps) u j).drop s0.length) = _
      rw [pre_drop (pre j)]
    have tailIs := mk_eq tailE
    refine q_asg (ev_is (ev_slS (ev_addS (ev_var rfl) (ev_var rfl) (by omega)) (eo_some (i := -8) (ev_un ev_c ru_neg)) eo_none (by rw [sapp_len]; omega)) (by rw [tailIs])) fun H5 e5 => ?_
    refine q_asg (v := .str (putS ps (chain (lp ps) u j))) (ev_is (ev_call (z := .str (putS ps (TL.tl (mk (tail8 (chain (lp ps) u j)))))) (ea_cons (ev_var rfl) (ea_cons (ev_var rfl) ea_nil)) fun H6 e6 Q6 q6 E6 => ⟨_, q, xs, ps, rfl, ex_t ((E3.trans e5).trans e6) hq, hp.mono ((E3.trans e5).trans e6), s8, q6⟩) ?_) fun H6 e6 => ?_
    · rw [putS_mk, putS_mk]
      show V.str (mk (putL (lp ps) (tail8 (chain (lp ps) u j)))) = _
      rw [put_tail O]
    have E6 := (E3.trans e5).trans e6
    have hd6 := (e4.trans (e5.trans e6)) _ _ hdk
    refine q_when (b := decide (putS ps (chain (lp ps) u j) = mt)) (et_is (et_test (ev_op (ev_var rfl) ev_c (rv_eq rfl))) dec_str) (fun hb H7 e7 => ?_) (fun hb H7 e7 => ?_)
    · have pe := (putS_mt ps _).mp (of_decide_eq_true hb)
      have r1 := run_at (n := 300 - j) (k := j) up
      rw [show 300 - j + j = 300 by omega] at r1
      have r2 : run (lp ps) (300 - j) (chain (lp ps) u j) = some (chain (lp ps) u j) := by
        rw [show 300 - j = (299 - j) + 1 by omega]
        show (if _ then _ else _) = _
        rw [if_pos pe]
      refine s_ret (v := .str (mk ((chain (lp ps) u j).drop s0.length))) (ev_var rfl) fun H8 e8 => ?_
      have kk := k H8 ((E6.trans e7).trans e8)
      have se : sentL (lp ps) s0 x = some (chain (lp ps) u j) := r1.trans r2
      rw [se] at kk
      exact kk
    have pe : putL (lp ps) (chain (lp ps) u j) ≠ [] := fun e => of_decide_eq_false hb ((putS_mt ps _).mpr e)
    have upj : ∀ i, i < j + 1 → putL (lp ps) (chain (lp ps) u i) ≠ [] := fun i hi => by
      rcases Nat.lt_or_ge i j with z | z
      · exact up i z
      · rw [show i = j by omega]
        exact pe
    refine q_when (et_din (k := Sum.inr (mk (tail8 (chain (lp ps) u j)))) (ev_var rfl) (ev_var rfl) (e7 _ _ hd6)) (fun hb2 H8 e8 => ?_) (fun hb2 H8 e8 => ?_)
    · rw [valV_key, keys] at hb2
      obtain ⟨i, hi, e⟩ := List.mem_map.mp hb2
      have hi := List.mem_range.mp hi
      have e := mk_inj (Sum.inr.inj e)
      have ends := run_none (endless O hi e up) 300
      refine s_ret (v := .non) ev_c fun H9 e9 => ?_
      have kk := k H9 (((E6.trans e7).trans e8).trans e9)
      have se : sentL (lp ps) s0 x = none := ends
      rw [se] at kk
      exact kk
    have new : (Sum.inr (mk (tail8 (chain (lp ps) u j))) : Key) ∉ kvs.map (·.1) := fun z => by
      rw [valV_key.mpr z] at hb2
      cases hb2
    have vn : valV kvs (Sum.inr (mk (tail8 (chain (lp ps) u j))) : Key) = none := by
      cases cv : valV kvs (Sum.inr (mk (tail8 (chain (lp ps) u j))) : Key) with
      | none => rfl
      | some v =>
        rw [cv] at hb2
        cases hb2
    have klen : kvs.length = j := by
      have := congrArg List.length keys
      rwa [List.length_map, List.length_map, List.length_range] at this
    have hd8 := (e7.trans e8) _ _ hd6
    refine ⟨_, rfl, _, rfl, d, _, rfl, DPut.k (k := Sum.inr (mk (tail8 (chain (lp ps) u j)))) hd8 (sz_lt (by omega)), ?_⟩
    rw [putK_new vn]
    have E9 : Ex H (upd H8 d (.dK (kvs ++ [(Sum.inr (mk (tail8 (chain (lp ps) u j))), .bl true)]))) := Ex.mut ((E6.trans e7).trans e8) hd0
    refine s_asg (v := .str (mk ((chain (lp ps) u (j + 1)).drop s0.length))) (ev_is (ev_addS (ev_var rfl) (ev_var rfl) ?_) ?_) fun Ha ea => ?_
    · have : (putS ps (chain (lp ps) u j)).length ≤ 1 := by
        rw [TL.len_tl, tl_putS]
        rcases put_or O (chain (lp ps) u j) with z | ⟨y, z, _⟩
        · rw [z]; exact Nat.zero_le _
        · rw [z]; exact Nat.le_refl _
      omega
    · rw [putS_mk, mk_app]
      show V.str (mk _) = V.str (mk ((chain (lp ps) u j ++ putL (lp ps) (chain (lp ps) u j)).drop s0.length))
      rw [List.drop_append_of_le_length (pre j).length_le]
    · refine ⟨j + 1, _, rfl, ⟨_, _, rfl⟩, E9.trans ea, ea _ _ upd_same, ?_, upj, fun i i' h1 h2 => ?_⟩
      · rw [List.map_append, keys, List.range_succ, List.map_append]
        rfl
      · rcases Nat.lt_or_ge i' j with z | z
        · exact nd i i' h1 z
        · obtain rfl : i' = j := by omega
          intro e
          refine new ?_
          rw [keys]
          exact List.mem_map.mpr ⟨i, List.mem_range.mpr h1, by rw [e]⟩
end
end K09
namespace K09
open PySem L2 Evl Gr StX EnT ClX ClK RdX SrtT StS Fr
/-! ### the walk along a body -/
/-- a signs are taken, and l is the letter so far -/
def Go (P : LP) (b : L) (a : Nat) (l : L) : Prop := tkn P [] b = (tkn P (b.take a) (b.drop a)).map (l ++ ·)
section
variable {P : LP} {b l : L} {a : Nat}
theorem go_start : Go P b 0 [] := by
  unfold Go
  rw [List.take_zero, List.drop_zero]
  simp
theorem drop_at (h : a < b.length) : b.drop a = b[a] :: b.drop (a + 1) := List.drop_eq_getElem_cons h
theorem take_at (h : a < b.length) : b.take (a + 1) = b.take a ++ [b[a]] := take_snoc (List.getElem?_eq_getElem h)
theorem go_letter (g : Go P b a l) (h : a < b.length) (p : putL P (b.take a) = []) : Go P b (a + 1) (l ++ [b[a]]) := by
  unfold Go at *
  rw [g, drop_at h, take_at h]
  conv => lhs; unfold tkn
  rw [if_pos p, Option.map_map]
  congr 1
  funext t
  show l ++ (b[a] :: t) = (l ++ [b[a]]) ++ t
  simp
theorem go_put (g : Go P b a l) (h : a < b.length) (p : putL P (b.take a) = [b[a]]) : Go P b (a + 1) l := by
  unfold Go at *
  rw [g, drop_at h, take_at h]
  conv => lhs; unfold tkn
  rw [if_neg (by rw [p]; simp), if_pos p.symm]
theorem go_fail (g : Go P b a l) (p : putL P (b.take a) ≠ []) (n : (b.drop a).take 1 ≠ putL P (b.take a)) : tkn P [] b = none := by
  unfold Go at g
  rw [g]
  rcases Nat.lt_or_ge a b.length with h | h
  · rw [drop_at h] at n ⊢
    unfold tkn
    rw [if_neg p, if_neg (fun z => n (by rw [← z]; rfl))]
    rfl
  · rw [List.drop_of_length_le h]
    unfold tkn
    rw [if_neg p]
    rfl
theorem go_end (g : Go P b b.length l) (p : putL P (b.take b.length) = []) : tkn P [] b = some l := by
  unfold Go at g
  rw [g, List.drop_length]
  unfold tkn
  rw [if_pos p]
  simp
theorem part_one (p : (b.drop a).take 1 = putL P (b.take a)) (n : putL P (b.take a) ≠ []) : ∃ h : a < b.length, putL P (b.take a) = [b[a]] := by
  rcases Nat.lt_or_ge a b.length with h | h
  · refine ⟨h, ?_⟩
    rw [← p, drop_at h]
    rfl
  · rw [List.drop_of_length_le h] at p
    exact absurd p.symm n
end
/-- the last eight of the first a -/
theorem win8 {b : L} {a : Nat} (h : a ≤ b.length) : (b.drop (a - 8)).take (a - (a - 8)) = tail8 (b.take a) := by
  unfold tail8
  rw [List.length_take, Nat.min_eq_left h, List.drop_take]
theorem mk_one (c : Nat) : (⟨#[c]⟩ : Str) = mk [c] := rfl
theorem vstr_mk (l m : L) : decide (V.str (mk l) = V.str (mk m)) = decide (l = m) := by
  rw [decide_eq_decide]
  exact ⟨fun h => mk_inj (V.str.inj h), fun h => by rw [h]⟩
theorem vstr_mt (l : L) : decide (V.str (mk l) = V.str "") = decide (l = []) := by
  rw [decide_eq_decide]
  constructor
  · intro h
    have := congrArg TL.tl (V.str.inj h)
    rw [show TL.tl ("" : Str) = [] from tl_mt] at this
    exact this
  · intro h
    rw [h]
    exact congrArg V.str (mk_eq tl_mt).symm
section
variable {K : PySem.W.Frag} {σ : L2.St} {H : Hp} {te ta tb : TE}
/-- body[at:at + 1] -/
theorem ev_sign {z : Str} {a : Nat} (h : Ev te σ H (.str z)) (h1 : Ev ta σ H (.int (a : Int))) (h2 : Ev tb σ H (.int ((a + 1 : Nat) : Int))) (hz : z.length ≤ 100000) : Ev (tSl rSlS te (tPart ta) (tPart tb)) σ H (.str (mk (((TL.tl z).drop a).take 1))) :=
  ev_is (ev_slS h (eo_some h1) (eo_some h2) hz) (by
    rw [mk_eq (tl_part z a (a + 1)), show a + 1 - a = 1 by omega])
/-- letter + body[at] -/
theorem ev_next {z : Str} {a : Nat} {l : L} (hl : Ev te σ H (.str (mk l))) (h : Ev ta σ H (.str z)) (h1 : Ev tb σ H (.int (a : Int))) (hz : z.length ≤ 100000) (ll : l.length ≤ 90000) (lt : a < (TL.tl z).length) :
    Ev (tOp (fun x y H Q => ∃ i j, x = .str i ∧ y = .str j ∧ i.length + j.length ≤ sizeLine ∧ Q (.str (i ++ j)) H) te (tOp rIxS ta tb)) σ H (.str (mk (l ++ [(TL.tl z)[a]]))) :=
  ev_is (ev_addS hl (ev_op h h1 (rv_ixS (c := (TL.tl z)[a]) (by omega) (atI_nat (List.getElem?_eq_getElem lt)))) (by rw [mk_len, mk_one, mk_len]; show _ + 1 ≤ _; omega)) (by rw [mk_one, mk_app])
end
section
variable {P : Program} {w : World} {K : PySem.W.Frag} {mg : Str → Option Value} {base : Heap}
/-! ### letter_of_body -/
abbrev nLob : List Str := ["body", "pairs", "letter", "at", "put"]
def spLob (K : PySem.W.Frag) : Sp := fun vs H Q _ => ∃ (z : Str) (q : Addr) (xs : List V) (f : Str) (ps : List Pr), vs = [.str z, .ref q] ∧ z.length ≤ 90000 ∧ SqT K H q xs ∧ Prs H xs ps ∧ Good f ps ∧ RetV (tknV (tkn (lp ps) [] (TL.tl z))) H Q
theorem scLob : FnScope nLob ["body", "pairs"] (defScope sLob) := ⟨rfl, rfl, rfl, by decide +kernel, rfl, by decide +kernel, by decide +kernel⟩
theorem ok_Lob {f : Addr} {fd : FuncData} (F : Fun K "letter_of_body" "letter_of_body" sLob f fd) (T : GlbT mg) (Z : GlbP mg) (GP : Gfn P w K mg base 1 "put_behind" ["signs", "pairs"] (spPut K)) : FnOk P w K mg base CX0 2 f fd ["body", "pairs"] (spLob K) := by
  obtain ⟨fP, fdP, GP, kP, bP, gP⟩ := GP
  obtain ⟨t8, g8⟩ := Z.eight
  refine F.ok scLob (fun vs H Q E h => ?_) (fun cdv A outer s H vs Q E hr h => ?_)
  · obtain ⟨z, q, xs, f, ps, rfl, _⟩ := h
    rfl
  · obtain ⟨z, q, xs, fl, ps, rfl, hz, hq, hp, g, k⟩ := h
    refine ⟨_, (pss_cons (ps_set (i := 2) scLob.nd rfl (.inl rfl) pe_str)
      (pss_cons (ps_set (i := 3) scLob.nd rfl (.inl rfl) pe_int)
      (pss_cons (ps_while PassesOwn.never (pt_cmpR op_lt (pv 3) (pe_callB call_len (by rfl) T.len PySem.boot_len (pa_cons (pv 0) pa_nil)) (nomark _))
        (pss_cons (ps_set (i := 2) scLob.nd rfl (.inl rfl) (pe_op op_add_str (pv 2) (pe_ix ix_str (pv 0) (pv 3) (fun _ _ => rfl))))
      (pss_cons (ps_aug (i := 3) scLob.nd rfl (.inl rfl) pe_int ip_add)
      (pss_cons (ps_set (i := 4) scLob.nd rfl (.inl rfl) (pe_call GP hr (by rfl) gP kP bP .nil pass0 (pa_cons (pe_slice sl_str (pv 0) (po_some (pe_callB (call_max2 rfl) (by rfl) Z.max (by decide +kernel) (pa_cons pe_int (pa_cons (pe_op op_sub (pv 3) (pe_glob (v := .int 8) (by rfl) g8 ⟨_, rfl⟩)) pa_nil)))) (po_some (pv 3))) (pa_cons (pv 1) pa_nil))))
      (pss_one (ps_while PassesOwn.never (pt_cmpR op_ne (pv 4) pe_str (nomark _))
          (pss_cons (ps_if (pt_cmpR op_ne (pe_slice sl_str (pv 0) (po_some (pv 3)) (po_some (pe_op op_add (pv 3) pe_int))) (pv 4) (nomark _)) (pss_one (ps_ret pe_non)) pss_nil)
      (pss_cons (ps_aug (i := 3) scLob.nd rfl (.inl rfl) pe_int ip_add)
      (pss_one (ps_set (i := 4) scLob.nd rfl (.inl rfl) (pe_call GP hr (by rfl) gP kP bP .nil pass0 (pa_cons (pe_slice sl_str (pv 0) (po_some (pe_callB (call_max2 rfl) (by rfl) Z.max (by decide +kernel) (pa_cons pe_int (pa_cons (pe_op op_sub (pv 3) (pe_glob (v := .int 8) (by rfl) g8 ⟨_, rfl⟩)) pa_nil)))) (po_some (pv 3))) (pa_cons (pv 1) pa_nil)))))))))))))
      (pss_one (ps_ret (pv 2)))))), ?_⟩
    have O := good_pok g
    have s8 : ∀ p ∈ ps, p.1.length ≤ 8 := fun p hp => by
      have := sgB_iff.mp (g.ok p hp).1
      omega
    generalize hb : TL.tl z = b at k
    have bl : b.length ≤ 90000 := by rw [← hb, ← TL.len_tl]; exact hz
    have zn : z.length = b.length := by rw [TL.len_tl, hb]
    -- what is put in behind the first a
    have put : ∀ {x4 : Option V} {l : L} {a : Nat} {H1 : Hp}, Ex H H1 → a ≤ b.length →
        Ev (tCall (spPut K) [] E0 (tCons (tSl rSlS (tVar 0) (tPart (tCB rMax2 (tCons (tC (.int 0)) (tCons (tOp (rI0 fun i j => .int (i - j)) (tVar 3) (tC (.int 8))) tNil)))) (tPart (tVar 3))) (tCons (tVar 1) tNil))) [some (.str z), some (.ref q), some (.str (mk l)), some (.int (a : Int)), x4] H1 (.str (mk (putL (lp ps) (b.take a)))) := fun {x4 l a H1} e ha => by
      have m : (if (a : Int) - 8 > 0 then (a : Int) - 8 else 0) = ((a - 8 : Nat) : Int) := by
        split <;> omega
      refine ev_is (ev_call (z := .str (putS ps (TL.tl (mk (tail8 (b.take a)))))) (ea_cons (x := .str (mk (tail8 (b.take a)))) (ev_is (ev_slS (z := z) (ev_var rfl) (eo_some (i := ((a - 8 : Nat) : Int)) (ev_is (ev_max2 ev_c (ev_op (ev_var rfl) ev_c rv_I0)) (congrArg V.int m))) (eo_some (ev_var rfl)) (by omega)) ?_) (ea_cons (ev_var rfl) ea_nil)) fun H6 e6 Q6 q6 E6 => ⟨_, q, xs, ps, rfl, ex_t (e.trans e6) hq, hp.mono (e.trans e6), s8, q6⟩) ?_
      · rw [mk_eq (tl_part z (a - 8) a), hb, win8 ha]
      · rw [putS_mk]
        show V.str (mk (putL (lp ps) (tail8 (b.take a)))) = _
        rw [put_tail O]
    refine q_asg ev_c fun H1 e1 => ?_
    refine q_asg ev_c fun H2 e2 => ?_
    refine q_while (fun m σ' H' => ∃ a l, a ≤ b.length ∧ m = b.length - a ∧ (∃ x4 : Option V, σ' = [some (.str z), some (.ref q), some (.str (mk l)), some (.int (a : Int)), x4]) ∧ Ex H H' ∧ Go (lp ps) b a l ∧ l.length ≤ a ∧ putL (lp ps) (b.take a) = []) b.length
      ⟨0, [], Nat.zero_le _, rfl, ⟨none, by rw [show mk [] = ("" : Str) from (mk_eq tl_mt).symm]; rfl⟩, e1.trans e2, go_start, Nat.le_refl _, by rw [List.take_zero]; exact put_nil O⟩ ?_
    rintro m σ' H3 ⟨a, l, ha, rfl, ⟨x4, rfl⟩, e3, go, la, pn⟩
    refine ⟨decide (a < b.length), et_is (et_test (ev_op (ev_var rfl) (ev_cb (ea_cons (ev_var rfl) ea_nil) (rc_lenS (K := K) (z := z) (by omega))) rv_I0)) (by rw [zn, decide_eq_decide]; omega), fun hlt H4 e4 => ⟨fun σ2 H4 => ∃ a' l', a < a' ∧ a' ≤ b.length ∧ (∃ x4 : Option V, σ2 = [some (.str z), some (.ref q), some (.str (mk l')), some (.int (a' : Int)), x4]) ∧ Ex H H4 ∧ Go (lp ps) b a' l' ∧ l'.length ≤ a' ∧ putL (lp ps) (b.take a') = [],
      fun σ2 H4 ⟨a', l', h1, h2, r⟩ => ⟨b.length - a', by omega, a', l', h2, rfl, r⟩, ?_⟩, fun hlt H4 e4 => ?_⟩
    · have lt : a < b.length := of_decide_eq_true hlt
      have E4 := e3.trans e4
      subst hb
      refine q_asg (ev_next (ev_var rfl) (ev_var rfl) (ev_var rfl) (by omega) (by omega) lt) fun H5 e5 => ?_
      refine q_aug (i := 3) (a := (a : Int)) (b := 1) rfl ev_c fun H6 e6 => ?_
      have E6 := (E4.trans e5).trans e6
      refine q_asg (put (a := a + 1) E6 lt) fun H7 e7 => ?_
      refine s_while (fun m σ' H' => ∃ a' l', a < a' ∧ a' ≤ (TL.tl z).length ∧ m = (TL.tl z).length - a' ∧ σ' = [some (.str z), some (.ref q), some (.str (mk l')), some (.int (a' : Int)), some (.str (mk (putL (lp ps) ((TL.tl z).take a'))))] ∧ Ex H H' ∧ Go (lp ps) (TL.tl z) a' l' ∧ l'.length ≤ a') ((TL.tl z).length - (a + 1))
        ⟨a + 1, _, by omega, lt, rfl, rfl, E6.trans e7, go_letter go lt pn, by rw [List.length_append]; show _ + 1 ≤ _; omega⟩ ?_
      rintro m σ' H8 ⟨a', l', h1, h2, rfl, rfl, e8, go', la'⟩
      refine ⟨!decide (putL (lp ps) ((TL.tl z).take a') = []), et_is (et_test (ev_op (ev_var rfl) ev_c (rv_ne rfl))) (by rw [vstr_mt]), fun hne H9 e9 => ⟨fun σ2 H4 => ∃ a2 l2, a2 = a' + 1 ∧ a < a2 ∧ a2 ≤ (TL.tl z).length ∧ σ2 = [some (.str z), some (.ref q), some (.str (mk l2)), some (.int (a2 : Int)), some (.str (mk (putL (lp ps) ((TL.tl z).take a2))))] ∧ Ex H H4 ∧ Go (lp ps) (TL.tl z) a2 l2 ∧ l2.length ≤ a2,
        fun σ2 H4 ⟨a2, l2, h0, h1, h2, r⟩ => ⟨(TL.tl z).length - a2, by omega, a2, l2, h1, h2, rfl, r⟩, ?_⟩, fun hne H9 e9 => ?_⟩
      · rw [Bool.not_eq_true', decide_eq_false_iff_not] at hne
        have E9 := e8.trans e9
        refine q_when (b := !decide (((TL.tl z).drop a').take 1 = putL (lp ps) ((TL.tl z).take a'))) (et_is (et_test (ev_op (ev_sign (ev_var rfl) (ev_var rfl) (ev_is (ev_op (ev_var rfl) ev_c rv_I0) rfl) (by omega)) (ev_var rfl) (rv_ne rfl))) (by rw [vstr_mk])) (fun hb Ha ea => ?_) (fun hb Ha ea => ?_)
        · rw [Bool.not_eq_true', decide_eq_false_iff_not] at hb
          refine s_ret (v := .non) ev_c fun Hb eb => ?_
          rw [go_fail go' hne hb] at k
          exact k Hb ((E9.trans ea).trans eb)
        · rw [Bool.not_eq_false', decide_eq_true_iff] at hb
          obtain ⟨lt', pe⟩ := part_one hb hne
          refine q_aug (i := 3) (a := (a' : Int)) (b := 1) rfl ev_c fun Hb eb => ?_
          have Eb := (E9.trans ea).trans eb
          exact s_asg (put (a := a' + 1) Eb lt') fun Hc ec => ⟨a' + 1, l', rfl, by omega, lt', rfl, Eb.trans ec, go_put go' lt' pe, by omega⟩
      · rw [Bool.not_eq_false', decide_eq_true_iff] at hne
        exact ⟨a', l', h1, h2, ⟨_, rfl⟩, e8.trans e9, go', la', hne⟩
    · have : ¬ a < b.length := of_decide_eq_false hlt
      obtain rfl : a = b.length := by omega
      refine s_ret (v := .str (mk l)) (ev_var rfl) fun H5 e5 => ?_
      rw [go_end go pn] at k
      exact k H5 ((e3.trans e4).trans e5)
end
end K09
namespace K09
open PySem L2 Evl Gr StX EnT ClX ClK RdX SrtT StS Fr
abbrev sLru : Stmt := top 34
abbrev sLpu : Stmt := top 35
abbrev sLbo : Stmt := top 36
abbrev sLta : Stmt := top 40
def bodyV : Option L → V
  | none => .non
  | some t => .str (mk t)
section
variable {K : PySem.W.Frag} {C cT : Addr} {σ : L2.St} {H : Hp} {te : TE} {f : Str} {ps : List Pr}
/-- a rule read -/
theorem eru_read {E : XK} (ht : Ev te σ H (.str (tx (rw_ f ps)))) (g : Good f ps) : EvRu K C (tCMeth C (spRead K C cT) E (tC (.ref C)) (tCons te tNil)) σ H f ps := fun H1 e Q q =>
  ⟨rfl, ht H1 e _ fun H2 e2 => .inl ⟨rw_ f ps, none, rfl, by unfold rw_; simp, good_free g, by have := good_tx g; omega, fun z hz => by have := good_short g z hz; omega, by have := (good_size g).2; omega, good_due g, fun i hi => (by cases hi), fun _ => by
    rw [pairs_rw, show gw (rw_ f ps) 0 = f from rfl]
    exact fun o H4 e4 r => q o H4 (e2.trans e4) r⟩⟩
/-- a walk over a text -/
theorem q_forS {z : Str} {g : TG} {tu tz : TS} {D : Ends} (h : Ev te σ H (.str z)) (Pv : Nat → L2.St → Hp → Prop) (h0 : ∀ H1, Ex H H1 → Pv 0 σ H1)
    (hs : ∀ (i : Nat) σ' H' (lt : i < (TL.tl z).length), Pv i σ' H' → g (.str (mk [(TL.tl z)[i]])) σ' H' fun σ2 H2 => tu { D with nx := Pv (i + 1), ct := Pv (i + 1), bk := tz D } σ2 H2) (hd : ∀ σ' H', Pv (TL.tl z).length σ' H' → tz D σ' H') : tSeq (tFor (iStr te) g tu) tz D σ H :=
  h H (Ex.refl H) _ fun H1 e => ⟨z, rfl, for_it (D := { D with nx := tz D }) walk_str Pv (h0 H1 e) (fun _ _ _ _ _ => trivial) (fun i x σ' H' H2 hi p y => by
    obtain ⟨rfl, c, hc, rfl⟩ := y
    have lt : i < (TL.tl z).length := hi
    have ec : (TL.tl z)[i] = c := by
      have : (TL.tl z)[i]? = some c := by rw [← hc]; exact Array.getElem?_toList
      rw [List.getElem?_eq_getElem lt] at this
      exact Option.some.inj this
    rw [mk_one, ← ec]
    exact hs i σ' _ lt p) hd⟩
end
section
variable {P : Program} {w : World} {K : PySem.W.Frag} {mg : Str → Option Value} {base : Heap}
/-! ### _law_rule -/
def spLru (K : PySem.W.Frag) (C : Addr) : Sp := fun vs H Q _ => ∃ (v : V) (f : Str) (ps : List Pr), vs = [v] ∧ PlanAt H v f ps ∧ Good f ps ∧ RetRu K C f ps H Q
theorem scLru : FnScope ["_law_plan_here"] ["_law_plan_here"] (defScope sLru) := ⟨rfl, rfl, rfl, by decide +kernel, rfl, by decide +kernel, by decide +kernel⟩
theorem ok_Lru {C cT pR fR f : Addr} {mc : Value} {fd fdR : FuncData} (F : Fun K "_law_rule" "_law_rule" sLru f fd) (N : FName K mg C mc) (hRead : CMet K C mc "read" pR fR) (read : FnOk P w K mg base (L2.CX P w) 6 fR fdR ["cls", "text"] (spRead K C cT)) (bR : Binds K fdR ["cls", "text"] [])
    (GT : Gfn P w K mg base 1 "_law_rule_text" ["_law_plan_here"] spRt) : FnOk P w K mg base CX0 7 f fd ["_law_plan_here"] (spLru K C) := by
  obtain ⟨fT, fdT, GT, kT, bT, gT⟩ := GT
  refine F.ok scLru (fun vs H Q E h => ?_) (fun cdv A outer s H vs Q E hr h => ?_)
  · obtain ⟨v, f, ps, rfl, _⟩ := h
    rfl
  · obtain ⟨v, fl, ps, rfl, hv, g, k⟩ := h
    have r1 := hr.mono (show 1 ≤ 6 by decide)
    refine ⟨_, (pss_one (ps_ret (pe_cmeth (E := E0) (pe_glob (v := .ref C) (by rfl) N.g rfl) N.rd hRead (fnR0 read bR) hr (passN rfl rfl) (pa_cons (pe_call GT r1 (by rfl) gT kT bT .nil pass0 (pa_cons (pv 0) pa_nil)) pa_nil)))), ?_⟩
    refine s_retR ((eru_read (K := K) (C := C) (cT := cT) (ev_call (z := .str (tx (rw_ fl ps))) (ea_cons (ev_var rfl) ea_nil) fun H1 e1 Q1 q1 E1 => ⟨v, fl, ps, rfl, hv.mono e1, g, q1⟩) g) H (Ex.refl H) _ fun o H2 e2 r => k o H2 e2 r)
/-! ### _law_put -/
abbrev nLpu : List Str := ["_law_plan_here", "_law_sent", "_law_found", "_law_watch", "_law_put_here"]
def spLpu : Sp := fun vs H Q _ => ∃ (v : V) (z f : Str) (ps : List Pr), vs = [v, .str z] ∧ z.length ≤ 90000 ∧ PlanAt H v f ps ∧ (∀ p ∈ ps, p.1.length ≠ 0 ∧ p.1.length ≤ 8) ∧ RetV (.str (mk (putL (lp ps) (TL.tl z)))) H Q
theorem scLpu : FnScope nLpu ["_law_plan_here", "_law_sent"] (defScope sLpu) := ⟨rfl, rfl, rfl, by decide +kernel, rfl, by decide +kernel, by decide +kernel⟩
theorem ok_Lpu {f : Addr} {fd : FuncData} (F : Fun K "_law_put" "_law_put" sLpu f fd) (T : GlbT mg) : FnOk P w K mg base CX0 1 f fd ["_law_plan_here", "_law_sent"] spLpu := by
  refine F.ok scLpu (fun vs H Q E h => ?_) (fun cdv A outer s H vs Q E hr h => ?_)
  · obtain ⟨v, z, f, ps, rfl, _⟩ := h
    rfl
  · obtain ⟨v, z, fl, ps, rfl, hz, hv, h8, k⟩ := h
    refine ⟨_, (pss_cons (ps_set (i := 2) scLpu.nd rfl (.inl rfl) (pe_tup (pa_cons pe_str (pa_cons pe_str pa_nil))))
      (pss_cons (ps_for PassesOwn.never rfl (pi_list (pe_ix ix_tup (pv 0) pe_int (fun _ _ => rfl))) (pg_tup rfl (pgs_cons (pg_name (i := 3) scLpu.nd rfl (.inl rfl)) (pgs_cons (pg_name (i := 4) scLpu.nd rfl (.inl rfl)) pgs_nil)))
        (pss_one (ps_if (PW.pt (pw_and (pt_cmpR op_gt (pe_callB call_len (by rfl) T.len PySem.boot_len (pa_cons (pv 3) pa_nil)) (pe_callB call_len (by rfl) T.len PySem.boot_len (pa_cons (pe_ix ix_tup (pv 2) pe_int (fun _ _ => rfl)) pa_nil)) (nomark _))
            (pw_and1 (pt_cmpR op_eq (pe_slice sl_str (pv 1) (po_some (pe_un un_neg (pe_callB call_len (by rfl) T.len PySem.boot_len (pa_cons (pv 3) pa_nil)))) po_none) (pv 3) (nomark _)))))
          (pss_one (ps_set (i := 2) scLpu.nd rfl (.inl rfl) (pe_tup (pa_cons (pv 3) (pa_cons (pv 4) pa_nil))))) pss_nil)))
      (pss_one (ps_ret (pe_ix ix_tup (pv 2) pe_int (fun _ _ => rfl)))))), ?_⟩
    obtain ⟨t, l, xs, rfl, ht, hl, hp⟩ := hv
    have len := hp.len
    refine q_asgU (eu_tup (ea_cons ev_c (ea_cons ev_c ea_nil)) (by show 2 ≤ 100000; decide)) fun t0 H1 h0 e1 ht0 => ?_
    refine q_forL (K := K) (a := l) (xs := xs) (ev_op (ev_var rfl) ev_c (rv_ixT_ (st_of (e1 _ _ ht)) (i := 1) rfl)) (sq_of (e1 _ _ hl)) (fun i σ' H' => ∃ t2, (∃ x4 x5 : Option V, σ' = [some (.ref t), some (.str z), some (.ref t2), x4, x5]) ∧ Ex H H' ∧ H' t2 = some (.tup [.str (bestS (TL.tl z) (ps.take i) (mt, mt)).1, .str (bestS (TL.tl z) (ps.take i) (mt, mt)).2]))
      (fun H2 e2 => ⟨t0, ⟨none, none, rfl⟩, e1.trans e2, e2 _ _ ht0⟩) (fun _ _ _ _ ⟨_, _, e, _⟩ => sq_of (e _ _ hl)) ?_ ?_
    · rintro i x σ' H2 hx ⟨t2, ⟨x4, x5, rfl⟩, e2, ht2⟩
      obtain ⟨tp, p, rfl, hpi, htp⟩ := hp.at hx
      refine ⟨tp, _, rfl, st_of (e2 _ _ htp), rfl, _, _, rfl, _, _, rfl, rfl, ?_⟩
      have hm := List.mem_of_getElem? hpi
      have b8 : (bestS (TL.tl z) (ps.take i) (mt, mt)).1.length ≤ 8 := best_short fun p hp => (h8 p (List.mem_of_mem_take hp)).2
      obtain ⟨p0, p8⟩ := h8 p hm
      have step : bestS (TL.tl z) (ps.take (i + 1)) (mt, mt) = if (bestS (TL.tl z) (ps.take i) (mt, mt)).1.length < p.1.length ∧ TL.tl p.1 <:+ TL.tl z then p else bestS (TL.tl z) (ps.take i) (mt, mt) := by
        rw [take_snoc hpi, bestS_snoc]
      refine s_when (b := decide (((bestS (TL.tl z) (ps.take i) (mt, mt)).1.length < p.1.length) ∧ TL.tl p.1 <:+ TL.tl z)) (et_is (et_and (et_test (ev_op (ev_cb (ea_cons (ev_var rfl) ea_nil) (rc_lenS (K := K) (z := p.1) (by omega))) (ev_cb (ea_cons (ev_op (ev_var rfl) ev_c (rv_ixT_ (st_of ht2) (i := 0) rfl)) ea_nil) (rc_lenS (K := K) (z := (bestS (TL.tl z) (ps.take i) (mt, mt)).1) (by omega))) rv_I0))
        fun _ => et_test (ev_op (ev_slS (z := z) (ev_var rfl) (eo_some (i := -(p.1.length : Int)) (ev_un (ev_cb (ea_cons (ev_var rfl) ea_nil) (rc_lenS (K := K) (z := p.1) (by omega))) ru_neg)) eo_none (by omega)) (ev_var rfl) (rv_eq rfl))) ?_) (fun hb H3 e3 => ?_) (fun hb H3 e3 => ?_)
      · rw [dec_str, Bool.eq_iff_iff, Bool.and_eq_true, decide_eq_true_iff, decide_eq_true_iff, decide_eq_true_iff, last_is p0]
        constructor
        · exact fun ⟨a, b⟩ => ⟨by omega, b⟩
        · exact fun ⟨a, b⟩ => ⟨by omega, b⟩
      · rw [if_pos (of_decide_eq_true hb)] at step
        refine s_asgU (eu_tup (ea_cons (ev_var rfl) (ea_cons (ev_var rfl) ea_nil)) (by show 2 ≤ 100000; decide)) fun t3 H4 h3 e4 ht3 => ⟨t3, ⟨some (.str p.1), some (.str p.2), rfl⟩, (e2.trans e3).trans e4, ?_⟩
        rw [step]
        exact ht3
      · rw [if_neg (of_decide_eq_false hb)] at step
        refine ⟨t2, ⟨some (.str p.1), some (.str p.2), rfl⟩, e2.trans e3, ?_⟩
        rw [step]
        exact e3 _ _ ht2
    · rintro σ' H2 ⟨t2, ⟨x4, x5, rfl⟩, e2, ht2⟩
      rw [List.take_of_length_le (by omega)] at ht2
      refine s_ret (v := .str (putS ps (TL.tl z))) (ev_op (ev_var rfl) ev_c (rv_ixT_ (st_of ht2) (i := 1) rfl)) fun H3 e3 => ?_
      rw [putS_mk]
      exact k H3 (e2.trans e3)
/-! ### _law_body -/
abbrev nLbo : List Str := ["_law_plan_here", "_law_letter_here", "_law_sent", "_law_sign", "_law_turn", "_law_put_here"]
def spLbo : Sp := fun vs H Q _ => ∃ (v : V) (z f : Str) (ps : List Pr), vs = [v, .str z] ∧ z.length ≤ 200 ∧ Sg z = true ∧ PlanAt H v f ps ∧ Good f ps ∧ RetV (bodyV (bodyL (lp ps) [] (TL.tl z))) H Q
theorem scLbo : FnScope nLbo ["_law_plan_here", "_law_letter_here"] (defScope sLbo) := ⟨rfl, rfl, rfl, by decide +kernel, rfl, by decide +kernel, by decide +kernel⟩
theorem bodyL_cons {P : LP} {s r : L} {c : Nat} {o : Option L} (h : sentL P s c = o) : bodyL P s (c :: r) = o.bind fun t => bodyL P t r := by
  conv => lhs; unfold bodyL
  rw [h]
  cases o <;> rfl
theorem ok_Lbo {f : Addr} {fd : FuncData} (F : Fun K "_law_body" "_law_body" sLbo f fd) (S : GlbS mg) (GP : Gfn P w K mg base 1 "_law_put" ["_law_plan_here", "_law_sent"] spLpu) : FnOk P w K mg base CX0 2 f fd ["_law_plan_here", "_law_letter_here"] spLbo := by
  obtain ⟨fP, fdP, GP, kP, bP, gP⟩ := GP
  refine F.ok scLbo (fun vs H Q E h => ?_) (fun cdv A outer s H vs Q E hr h => ?_)
  · obtain ⟨v, z, f, ps, rfl, _⟩ := h
    rfl
  · obtain ⟨v, z, fl, ps, rfl, hz, sg, hv, g, k⟩ := h
    refine ⟨_, (pss_cons (ps_set (i := 2) scLbo.nd rfl (.inl rfl) pe_str)
      (pss_cons (ps_for PassesOwn.never rfl (pi_str (pv 1)) (pg_name (i := 3) scLbo.nd rfl (.inl rfl))
        (pss_cons (ps_set (i := 2) scLbo.nd rfl (.inl rfl) (pe_op op_add_str (pv 2) (pv 3)))
      (pss_cons (ps_for PassesOwn.never rfl (pi_range1 (by rfl) S.range (pa_cons pe_int pa_nil)) (pg_name (i := 4) scLbo.nd rfl (.inl rfl))
          (pss_cons (ps_set (i := 5) scLbo.nd rfl (.inl rfl) (pe_call GP hr (by rfl) gP kP bP .nil pass0 (pa_cons (pv 0) (pa_cons (pv 2) pa_nil))))
      (pss_cons (ps_set (i := 2) scLbo.nd rfl (.inl rfl) (pe_op op_add_str (pv 2) (pv 5)))
      (pss_one (ps_if (pt_cmpR op_eq (pv 5) pe_str (nomark _)) (pss_one ps_break) pss_nil)))))
      (pss_one (ps_if (pt_cmpR op_ne (pv 5) pe_str (nomark _)) (pss_one (ps_ret pe_non)) pss_nil)))))
      (pss_one (ps_ret (pv 2))))), ?_⟩
    have O := good_pok g
    have s8 : ∀ p ∈ ps, p.1.length ≠ 0 ∧ p.1.length ≤ 8 := fun p hp => by
      have := sgB_iff.mp (g.ok p hp).1
      omega
    generalize hb : TL.tl z = b at k
    have bl : b.length ≤ 200 := by rw [← hb, ← TL.len_tl]; exact hz
    refine q_asg ev_c fun H1 e1 => ?_
    refine q_forS (z := z) (ev_var rfl) (fun i σ' H' => ∃ t, (∃ x3 x4 x5 : Option V, σ' = [some v, some (.str z), some (.str (mk t)), x3, x4, x5]) ∧ Ex H H' ∧ bodyL (lp ps) [] b = bodyL (lp ps) t (b.drop i) ∧ t.length ≤ 301 * i) (fun H2 e2 => ⟨[], ⟨none, none, none, by rw [show mk [] = ("" : Str) from (mk_eq tl_mt).symm]; rfl⟩, e1.trans e2, by rw [List.drop_zero], Nat.zero_le _⟩) ?_ ?_
    · subst hb
      rintro i σ' H2 lt ⟨t, ⟨x3, x4, x5, rfl⟩, e2, bd, tl⟩
      generalize hc : (TL.tl z)[i] = c
      have bd2 : bodyL (lp ps) [] (TL.tl z) = (sentL (lp ps) t c).bind fun t => bodyL (lp ps) t ((TL.tl z).drop (i + 1)) := by
        rw [bd, drop_at lt, hc]
        exact bodyL_cons rfl
      have tl2 : t.length ≤ 301 * 200 := by omega
      refine q_asg (ev_is (ev_addS (ev_var rfl) (ev_var rfl) (by rw [mk_len, mk_len]; show _ + 1 ≤ _; omega)) (congrArg V.str (mk_app t [c]))) fun H3 e3 => ?_
      have E3 := e2.trans e3
      let u : L := t ++ [c]
      have ul : u.length = t.length + 1 := by show (t ++ [c]).length = _; rw [List.length_append]; rfl
      refine q_forR1 (ea_cons ev_c ea_nil) (by decide) (fun j σ' H' => (∃ x4 x5 : Option V, σ' = [some v, some (.str z), some (.str (mk (chain (lp ps) u j))), some (.str (mk [c])), x4, x5] ∧ (0 < j → ∃ y, x5 = some (.str (mk y)) ∧ y ≠ [])) ∧ Ex H H' ∧ ∀ i', i' < j → putL (lp ps) (chain (lp ps) u i') ≠ []) (fun H4 e4 => ⟨⟨x4, x5, rfl, fun z => by omega⟩, E3.trans e4, fun i' z => by omega⟩) ?_ ?_
      · rintro j σ' H4 hj ⟨⟨y4, y5, rfl, _⟩, e4, up⟩
        have cl := chain_len O (s := u) up
        have cl2 : (chain (lp ps) u j).length ≤ 301 * 200 + 301 := by omega
        refine q_asg (v := .str (mk (putL (lp ps) (chain (lp ps) u j)))) (ev_call (ea_cons (ev_var rfl) (ea_cons (ev_var rfl) ea_nil)) fun H5 e5 Q5 q5 E5 => ⟨v, mk (chain (lp ps) u j), fl, ps, rfl, by rw [mk_len]; omega, hv.mono (e4.trans e5), s8, q5⟩) fun H5 e5 => ?_
        have pl : (putL (lp ps) (chain (lp ps) u j)).length ≤ 1 := by
          rcases put_or O (chain (lp ps) u j) with z | ⟨y, z, _⟩
          · rw [z]; exact Nat.zero_le _
          · rw [z]; exact Nat.le_refl _
        refine q_asg (ev_is (ev_addS (ev_var rfl) (ev_var rfl) (by rw [mk_len, mk_len]; omega)) (congrArg V.str (mk_app _ _))) fun H6 e6 => ?_
        have E6 := (e4.trans e5).trans e6
        refine s_when (b := decide (putL (lp ps) (chain (lp ps) u j) = [])) (et_is (et_test (ev_op (ev_var rfl) ev_c (rv_eq rfl))) (by rw [vstr_mt])) (fun hb H7 e7 => ?_) (fun hb H7 e7 => ?_)
        · have pe := of_decide_eq_true hb
          have r1 := run_at (n := 300 - j) (k := j) up
          rw [show 300 - j + j = 300 by omega] at r1
          have r2 : run (lp ps) (300 - j) (chain (lp ps) u j) = some (chain (lp ps) u j) := by
            rw [show 300 - j = (299 - j) + 1 by omega]
            show (if _ then _ else _) = _
            rw [if_pos pe]
          have se : sentL (lp ps) t c = some (chain (lp ps) u j) := r1.trans r2
          show tBreak _ [some v, some (.str z), some (.str (mk (chain (lp ps) u j ++ putL (lp ps) (chain (lp ps) u j)))), some (.str (mk [c])), some (.int (j : Int)), some (.str (mk (putL (lp ps) (chain (lp ps) u j))))] H7
          rw [pe, List.append_nil]
          refine s_when (b := false) (et_is (et_test (ev_op (ev_var rfl) ev_c (rv_ne rfl))) (by rw [vstr_mt]; rfl)) (fun z => absurd z (by decide)) (fun _ H8 e8 => ⟨_, ⟨_, _, _, rfl⟩, (E6.trans e7).trans e8, ?_, ?_⟩)
          · rw [bd2, se]
            rfl
          · omega
        · have pe := of_decide_eq_false hb
          refine ⟨⟨_, _, rfl, fun _ => ⟨_, rfl, pe⟩⟩, E6.trans e7, fun i' hi' => ?_⟩
          rcases Nat.lt_or_ge i' j with y | y
          · exact up i' y
          · rw [show i' = j by omega]
            exact pe
      · rintro σ' H4 ⟨⟨y4, y5, rfl, ne⟩, e4, up⟩
        obtain ⟨y, rfl, yn⟩ := ne (by decide)
        have r1 := run_at (n := 0) (k := 300) up
        have se : sentL (lp ps) t c = none := r1
        refine s_when (b := true) (et_is (et_test (ev_op (ev_var rfl) ev_c (rv_ne rfl))) (by rw [vstr_mt, decide_eq_false yn]; rfl)) (fun _ H5 e5 => ?_) (fun z => absurd z (by decide))
        refine s_ret (v := .non) ev_c fun H6 e6 => ?_
        rw [bd2, se] at k
        exact k H6 ((e4.trans e5).trans e6)
    · rintro σ' H2 ⟨t, ⟨x3, x4, x5, rfl⟩, e2, bd, tl⟩
      rw [hb, List.drop_length] at bd
      refine s_ret (v := .str (mk t)) (ev_var rfl) fun H3 e3 => ?_
      rw [bd] at k
      exact k H3 (e2.trans e3)
/-! ### _law_taken -/
abbrev nLta : List Str := ["_law_plan_here", "_law_body_here", "_law_letter_here", "_law_at", "_law_put_here"]
def spLta : Sp := fun vs H Q _ => ∃ (v : V) (z f : Str) (ps : List Pr), vs = [v, .str z] ∧ z.length ≤ 80000 ∧ PlanAt H v f ps ∧ Good f ps ∧ RetV (tknV (tkn (lp ps) [] (TL.tl z))) H Q
theorem scLta : FnScope nLta ["_law_plan_here", "_law_body_here"] (defScope sLta) := ⟨rfl, rfl, rfl, by decide +kernel, rfl, by decide +kernel, by decide +kernel⟩
theorem ok_Lta {f : Addr} {fd : FuncData} (F : Fun K "_law_taken" "_law_taken" sLta f fd) (T : GlbT mg) (GP : Gfn P w K mg base 1 "_law_put" ["_law_plan_here", "_law_sent"] spLpu) : FnOk P w K mg base CX0 2 f fd ["_law_plan_here", "_law_body_here"] spLta := by
  obtain ⟨fP, fdP, GP, kP, bP, gP⟩ := GP
  refine F.ok scLta (fun vs H Q E h => ?_) (fun cdv A outer s H vs Q E hr h => ?_)
  · obtain ⟨v, z, f, ps, rfl, _⟩ := h
    rfl
  · obtain ⟨v, z, fl, ps, rfl, hz, hv, g, k⟩ := h
    refine ⟨_, (pss_cons (ps_asg (pe_tup (pa_cons pe_str (pa_cons pe_int pa_nil))) (pg_tup rfl (pgs_cons (pg_name (i := 2) scLta.nd rfl (.inl rfl)) (pgs_cons (pg_name (i := 3) scLta.nd rfl (.inl rfl)) pgs_nil))))
      (pss_cons (ps_while PassesOwn.never (pt_cmpR op_lt (pv 3) (pe_callB call_len (by rfl) T.len PySem.boot_len (pa_cons (pv 1) pa_nil)) (nomark _))
        (pss_cons (ps_par (i := 2) (j := 3) rfl scLta.nd rfl rfl (by decide) rfl rfl (pa_cons (pe_op op_add_str (pv 2) (pe_ix ix_str (pv 1) (pv 3) (fun _ _ => rfl))) (pa_cons (pe_op op_add (pv 3) pe_int) pa_nil)) (by rfl))
      (pss_cons (ps_set (i := 4) scLta.nd rfl (.inl rfl) (pe_call GP hr (by rfl) gP kP bP .nil pass0 (pa_cons (pv 0) (pa_cons (pe_slice sl_str (pv 1) po_none (po_some (pv 3))) pa_nil))))
      (pss_one (ps_while PassesOwn.never (pt_cmpR op_ne (pv 4) pe_str (nomark _))
          (pss_cons (ps_if (pt_cmpR op_ne (pe_slice sl_str (pv 1) (po_some (pv 3)) (po_some (pe_op op_add (pv 3) pe_int))) (pv 4) (nomark _)) (pss_one (ps_ret pe_non)) pss_nil)
      (pss_cons (ps_set (i := 3) scLta.nd rfl (.inl rfl) (pe_op op_add (pv 3) pe_int))
      (pss_one (ps_set (i := 4) scLta.nd rfl (.inl rfl) (pe_call GP hr (by rfl) gP kP bP .nil pass0 (pa_cons (pv 0) (pa_cons (pe_slice sl_str (pv 1) po_none (po_some (pv 3))) pa_nil))))))))))))
      (pss_one (ps_ret (pv 2))))), ?_⟩
    have O := good_pok g
    have s8 : ∀ p ∈ ps, p.1.length ≠ 0 ∧ p.1.length ≤ 8 := fun p hp => by
      have := sgB_iff.mp (g.ok p hp).1
      omega
    generalize hb : TL.tl z = b at k
    have bl : b.length ≤ 80000 := by rw [← hb, ← TL.len_tl]; exact hz
    have zn : z.length = b.length := by rw [TL.len_tl, hb]
    have put : ∀ {x4 : Option V} {l : L} {a : Nat} {H1 : Hp}, Ex H H1 → a ≤ b.length →
        Ev (tCall spLpu [] E0 (tCons (tVar 0) (tCons (tSl rSlS (tVar 1) tNoPart (tPart (tVar 3))) tNil))) [some v, some (.str z), some (.str (mk l)), some (.int (a : Int)), x4] H1 (.str (mk (putL (lp ps) (b.take a)))) := fun {x4 l a H1} e ha => by
      refine ev_call (ea_cons (ev_var rfl) (ea_cons (x := .str (mk (b.take a))) (ev_is (ev_slS (z := z) (ev_var rfl) eo_none (eo_some (ev_var rfl)) (by omega)) ?_) ea_nil)) fun H6 e6 Q6 q6 E6 => ⟨v, _, fl, ps, rfl, ?_, hv.mono (e.trans e6), s8, q6⟩
      · rw [mk_eq (tl_first z a), hb]
      · rw [mk_len, List.length_take]
        omega
    refine q_asgG (tup_i (cons_i (c_i (cons_i (c_i ⟨by show 2 ≤ sizeLine; decide, fun t ht => ⟨t, _, rfl, st_of upd_same, rfl, _, _, rfl, _, _, rfl, rfl, ?_⟩⟩)))))
    have e2 : Ex H (upd H t (.tup [.str "", .int 0])) := Ex.new ht
    generalize upd H t (.tup [.str "", .int 0]) = H2 at e2 ⊢
    refine q_while (fun m σ' H' => ∃ a l, a ≤ b.length ∧ m = b.length - a ∧ (∃ x4 : Option V, σ' = [some v, some (.str z), some (.str (mk l)), some (.int (a : Int)), x4]) ∧ Ex H H' ∧ Go (lp ps) b a l ∧ l.length ≤ a ∧ putL (lp ps) (b.take a) = []) b.length
      ⟨0, [], Nat.zero_le _, rfl, ⟨none, by rw [show mk [] = ("" : Str) from (mk_eq tl_mt).symm]; rfl⟩, e2, go_start, Nat.le_refl _, by rw [List.take_zero]; exact put_nil O⟩ ?_
    rintro m σ' H3 ⟨a, l, ha, rfl, ⟨x4, rfl⟩, e3, go, la, pn⟩
    refine ⟨decide (a < b.length), et_is (et_test (ev_op (ev_var rfl) (ev_cb (ea_cons (ev_var rfl) ea_nil) (rc_lenS (K := K) (z := z) (by omega))) rv_I0)) (by rw [zn, decide_eq_decide]; omega), fun hlt H4 e4 => ⟨fun σ2 H4 => ∃ a' l', a < a' ∧ a' ≤ b.length ∧ (∃ x4 : Option V, σ2 = [some v, some (.str z), some (.str (mk l')), some (.int (a' : Int)), x4]) ∧ Ex H H4 ∧ Go (lp ps) b a' l' ∧ l'.length ≤ a' ∧ putL (lp ps) (b.take a') = [],
      fun σ2 H4 ⟨a', l', h1, h2, r⟩ => ⟨b.length - a', by omega, a', l', h2, rfl, r⟩, ?_⟩, fun hlt H4 e4 => ?_⟩
    · have lt : a < b.length := of_decide_eq_true hlt
      have E4 := e3.trans e4
      subst hb
      refine q_par ((ea_cons (ev_next (ev_var rfl) (ev_var rfl) (ev_var rfl) (by omega) (by omega) lt) (ea_cons (x := .int ((a + 1 : Nat) : Int)) (ev_is (ev_op (ev_var rfl) ev_c rv_I0) rfl) ea_nil)) H4 (Ex.refl H4) _ fun H6 e6 => ⟨_, _, rfl, ?_⟩)
      have E6 := E4.trans e6
      refine q_asg (put (a := a + 1) E6 lt) fun H7 e7 => ?_
      refine s_while (fun m σ' H' => ∃ a' l', a < a' ∧ a' ≤ (TL.tl z).length ∧ m = (TL.tl z).length - a' ∧ σ' = [some v, some (.str z), some (.str (mk l')), some (.int (a' : Int)), some (.str (mk (putL (lp ps) ((TL.tl z).take a'))))] ∧ Ex H H' ∧ Go (lp ps) (TL.tl z) a' l' ∧ l'.length ≤ a') ((TL.tl z).length - (a + 1))
        ⟨a + 1, _, by omega, lt, rfl, rfl, E6.trans e7, go_letter go lt pn, by rw [List.length_append]; show _ + 1 ≤ _; omega⟩ ?_
      rintro m σ' H8 ⟨a', l', h1, h2, rfl, rfl, e8, go', la'⟩
      refine ⟨!decide (putL (lp ps) ((TL.tl z).take a') = []), et_is (et_test (ev_op (ev_var rfl) ev_c (rv_ne rfl))) (by rw [vstr_mt]), fun hne H9 e9 => ⟨fun σ2 H4 => ∃ a2 l2, a2 = a' + 1 ∧ a < a2 ∧ a2 ≤ (TL.tl z).length ∧ σ2 = [some v, some (.str z), some (.str (mk l2)), some (.int (a2 : Int)), some (.str (mk (putL (lp ps) ((TL.tl z).take a2))))] ∧ Ex H H4 ∧ Go (lp ps) (TL.tl z) a2 l2 ∧ l2.length ≤ a2,
        fun σ2 H4 ⟨a2, l2, h0, h1, h2, r⟩ => ⟨(TL.tl z).length - a2, by omega, a2, l2, h1, h2, rfl, r⟩, ?_⟩, fun hne H9 e9 => ?_⟩
      · rw [Bool.not_eq_true', decide_eq_false_iff_not] at hne
        have E9 := e8.trans e9
        refine q_when (b := !decide (((TL.tl z).drop a').take 1 = putL (lp ps) ((TL.tl z).take a'))) (et_is (et_test (ev_op (ev_sign (ev_var rfl) (ev_var rfl) (ev_is (ev_op (ev_var rfl) ev_c rv_I0) rfl) (by omega)) (ev_var rfl) (rv_ne rfl))) (by rw [vstr_mk])) (fun hb Ha ea => ?_) (fun hb Ha ea => ?_)
        · rw [Bool.not_eq_true', decide_eq_false_iff_not] at hb
          refine s_ret (v := .non) ev_c fun Hb eb => ?_
          rw [go_fail go' hne hb] at k
          exact k Hb ((E9.trans ea).trans eb)
        · rw [Bool.not_eq_false', decide_eq_true_iff] at hb
          obtain ⟨lt', pe⟩ := part_one hb hne
          refine q_asg (v := .int ((a' + 1 : Nat) : Int)) (ev_is (ev_op (ev_var rfl) ev_c rv_I0) rfl) fun Hb eb => ?_
          have Eb := (E9.trans ea).trans eb
          exact s_asg (put (a := a' + 1) Eb lt') fun Hc ec => ⟨a' + 1, l', rfl, by omega, lt', rfl, Eb.trans ec, go_put go' lt' pe, by omega⟩
      · rw [Bool.not_eq_false', decide_eq_true_iff] at hne
        exact ⟨a', l', h1, h2, ⟨_, rfl⟩, e8.trans e9, go', la', hne⟩
    · have : ¬ a < b.length := of_decide_eq_false hlt
      obtain rfl : a = b.length := by omega
      refine s_ret (v := .str (mk l)) (ev_var rfl) fun H5 e5 => ?_
      rw [go_end go pn] at k
      exact k H5 ((e3.trans e4).trans e5)
end
end K09
namespace K09
open PySem L2 Evl Gr StX EnT ClX ClK RdX SrtT StS Fr
abbrev sLet : Stmt := top 5
/-! ### what letters and frames are told -/
abbrev Puts (cC : Addr) (H : Hp) (E : XK) : Prop := Out1 cC "part" (.str "puts") H E
/-- what body is told of x -/
def BodyT (K : PySem.W.Frag) (cL cC : Addr) (ps : List Pr) (x : V) (H : Hp) (E : XK) (ok : Str → L → Prop) : Prop :=
  (SgV K H x 0 200 false ∧ Out1 cL "value" x H E) ∨ ∃ z, x = .str z ∧ sgB z 0 200 = true ∧ ((bodyL (lp ps) [] (TL.tl z) = none ∧ Puts cC H E) ∨ ∃ t, bodyL (lp ps) [] (TL.tl z) = some t ∧ ok z t)
theorem BodyT.mono {K : PySem.W.Frag} {cL cC : Addr} {ps : List Pr} {x : V} {H H' : Hp} {E : XK} {ok ok' : Str → L → Prop} (e : Ex H H') (k : ∀ z t, ok z t → ok' z t) (h : BodyT K cL cC ps x H E ok) : BodyT K cL cC ps x H' E ok' := by
  rcases h with ⟨h1, h2⟩ | ⟨z, h0, h1, ⟨h2, h3⟩ | ⟨t, h2, h3⟩⟩
  · exact .inl ⟨h1.mono e, h2.mono e⟩
  · exact .inr ⟨z, h0, h1, .inl ⟨h2, h3.mono e⟩⟩
  · exact .inr ⟨z, h0, h1, .inr ⟨t, h2, k _ _ h3⟩⟩
/-- what a text of signs is read as: a part that is wrong, or a letter -/
def dueF (f : Str) (ps : List Pr) (z : Str) : Sum Str L :=
  if Txt.find z f < 0 ∨ Txt.find z f + (f.length : Int) ≠ (z.length : Int) then .inl "flag"
  else match tkn (lp ps) [] ((TL.tl z).take (Txt.find z f).toNat) with
    | none => .inl "body"
    | some l => if l.length ≤ 200 then .inr l else .inl "body"
abbrev BadF (cF : Addr) (p : Str) (H : Hp) (E : XK) : Prop := Out1 cF "part" (.str p) H E
section
variable {K : PySem.W.Frag} {σ : L2.St} {H : Hp} {te ta tb : TE} {t : TA}
theorem ev_find {a b : Str} (ha : Ev ta σ H (.str a)) (hb : Ev tb σ H (.str b)) : Ev (tBM K "str" (fun x xs H Q => ∃ a b, x = .str a ∧ xs = [.str b] ∧ Q (.int (Txt.find a b)) H) ta (tCons tb tNil)) σ H (.int (Txt.find a b)) := fun H1 e Q q =>
  ha H1 e _ fun H2 e2 => ⟨rfl, hb H2 (e.trans e2) _ fun H3 e3 => ⟨a, b, rfl, rfl, q H3 (e2.trans e3)⟩⟩
theorem rv_isN {x : V} : RV (fun x y H Q => y = V.non ∧ Q (.bl (decide (x = V.non))) H) x .non H (.bl (decide (x = V.non))) := fun H1 _ _ q => ⟨rfl, q H1 (Ex.refl H1)⟩
theorem ev_flagL {C o : Addr} {f : Str} {ps : List Pr} (G : FCls K C) (ha : Ev ta σ H (.ref o)) (h : RuleAt K C H o f ps) : Ev (tFld K ta "flag") σ H (.str f) := ev_flag G ha h
theorem ev_lenF {C o : Addr} {f : Str} {ps : List Pr} (G : FCls K C) (ha : Ev ta σ H (.ref o)) (h : RuleAt K C H o f ps) : Ev (tCB (fun xs H Q => ∃ x n, xs = [x] ∧ LenV K x H n ∧ Q (.int n) H) (tCons (tFld K ta "flag") tNil)) σ H (.int (f.length : Int)) :=
  ev_cb (ea_cons (ev_flag G ha h) ea_nil) (rc_lenS (K := K) (z := f) (by have := sgB_iff.mp h.good.flag; omega))
end
section
variable {P : Program} {w : World} {K : PySem.W.Frag} {mg : Str → Option Value} {base : Heap}
/-! ### is_letter -/
def spLet (K : PySem.W.Frag) : Sp := fun vs H Q _ => ∃ (x : V) (b : Bool), vs = [x] ∧ SgV K H x 0 200 b ∧ RetV (.bl b) H Q
theorem scLet : FnScope ["value"] ["value"] (defScope sLet) := ⟨rfl, rfl, rfl, by decide +kernel, rfl, by decide +kernel, by decide +kernel⟩
theorem ok_Let {f : Addr} {fd : FuncData} (F : Fun K "is_letter" "is_letter" sLet f fd) (hm : ∃ t, mg "MOST_LETTER_SIGNS" = some (.int 200 t)) (GW : Gfn P w K mg base 2 "is_signs_within" ["value", "least", "most"] (spSignsW K)) : FnOk P w K mg base CX0 3 f fd ["value"] (spLet K) := by
  obtain ⟨fW, fdW, GW, kW, bW, gW⟩ := GW
  obtain ⟨tm, gm⟩ := hm
  refine F.ok scLet (fun vs H Q E h => ?_) (fun cdv A outer s H vs Q E hr h => ?_)
  · obtain ⟨x, b, rfl, _⟩ := h
    rfl
  · obtain ⟨x, b, rfl, hx, k⟩ := h
    refine ⟨_, (pss_one (ps_ret (pe_call GW hr (by rfl) gW kW bW .nil pass0 (pa_cons (pv 0) (pa_cons pe_int (pa_cons (pe_glob (v := .int 200) (by rfl) gm ⟨_, rfl⟩) pa_nil)))))), ?_⟩
    exact s_ret (ev_sgw (ev_var rfl) ev_c ev_c hx) k
theorem ev_let {σ : L2.St} {H : Hp} {ta : TE} {x : V} {b : Bool} (ha : Ev ta σ H x) (h : SgV K H x 0 200 b) : Ev (tCall (spLet K) [] E0 (tCons ta tNil)) σ H (.bl b) :=
  ev_call (z := .bl b) (ea_cons ha ea_nil) fun H1 e Q q E => ⟨x, b, rfl, h.mono e, q⟩
/-! ### FrameRule.body -/
abbrev nBody : List Str := ["self", "letter", "signs", "sign", "sent"]
def spBody (K : PySem.W.Frag) (C cL cC : Addr) : Sp := fun vs H Q E => ∃ (o : Addr) (f : Str) (ps : List Pr) (x : V), vs = [.ref o, x] ∧ RuleAt K C H o f ps ∧ BodyT K cL cC ps x H E fun _ t => RetV (.str (mk t)) H Q
theorem scBody : FnScope nBody ["self", "letter"] (defScope (sFr 2)) := ⟨rfl, rfl, rfl, by decide +kernel, rfl, by decide +kernel, by decide +kernel⟩
theorem ok_Body {C cL fL cC fC f : Addr} {fd fdL fdC : FuncData} (F : Fun K "body" "FrameRule.body" (sFr 2) f fd) (G : FCls K C) (BL : GOne P w K mg base "BadLetter" "value" cL fL fdL) (BC : GOne P w K mg base "Clashing" "part" cC fC fdC)
    (GL : Gfn P w K mg base 3 "is_letter" ["value"] (spLet K)) (GS : Gfn P w K mg base 2 "sent_behind" ["signs", "sign", "pairs"] (spSent K)) : FnOk P w K mg base (L2.CX P w) 4 f fd ["self", "letter"] (spBody K C cL cC) := by
  obtain ⟨fT, fdT, GL, kL, bL, gL⟩ := GL
  obtain ⟨fS, fdS, GS, kS, bS, gS⟩ := GS
  refine F.okX scBody (fun vs H Q E h => ?_) (fun cdv A outer s H vs Q E hr h => ?_)
  · obtain ⟨o, f, ps, x, rfl, _⟩ := h
    rfl
  · obtain ⟨o, fl, ps, x, rfl, hO, hx⟩ := h
    have r2 := hr.mono (show 2 ≤ 3 by decide)
    refine ⟨_, (pss_cons (ps_if (pt_not (pt_val (pe_call GL hr (by rfl) gL kL bL .nil pass0 (pa_cons (pv 1) pa_nil)))) (pss_one (ps_raise rfl (takes_of rfl rfl rfl rfl) (pmk_oex BL.ox BL.init BL.ty BL.ok r2 BL.b .nil pass0 (by rfl) BL.g (pa_cons (pv 1) pa_nil)))) pss_nil)
      (pss_cons (ps_set (i := 2) scBody.nd rfl (.inl rfl) pe_str)
      (pss_cons (ps_for (passes_of rfl) rfl (pi_str (pv 1)) (pg_name (i := 3) scBody.nd rfl (.inl rfl))
        (pss_cons (ps_set (i := 4) scBody.nd rfl (.inl rfl) (pe_call GS r2 (by rfl) gS kS bS .nil pass0 (pa_cons (pe_slice sl_str (pv 2) (po_some (pe_un un_neg pe_int)) po_none) (pa_cons (pv 3) (pa_cons (pe_fld (pv 0) rfl) pa_nil)))))
      (pss_cons (ps_if (pt_cmpR op_isN (pv 4) pe_non (nomark _)) (pss_one (ps_raise rfl (takes_of rfl rfl rfl rfl) (pmk_oex BC.ox BC.init BC.ty BC.ok r2 BC.b .nil pass0 (by rfl) BC.g (pa_cons pe_str pa_nil)))) pss_nil)
      (pss_one (ps_set (i := 2) scBody.nd rfl (.inl rfl) (pe_op op_add_str (pv 2) (pv 4)))))))
      (pss_one (ps_ret (pv 2)))))), ?_⟩
    have g := hO.good
    have O := good_pok g
    rcases hx with ⟨h1, h2⟩ | ⟨z, rfl, hz, hx⟩
    · exact q_when (b := true) (et_not (et_B (ev_let (ev_var rfl) h1))) (fun _ H1 e1 => raise_one (ea_cons (ev_var rfl) ea_nil) (h2.mono e1)) (fun z => absurd z (by decide))
    have lz := sgB_iff.mp hz
    refine q_when (b := false) (et_not (et_B (ev_let (b := true) (ev_var rfl) (by
      have := sgv_str (K := K) (H := H) (z := z) (lo := 0) (hi := 200) (by omega)
      rwa [hz] at this)))) (fun z => absurd z (by decide)) (fun _ H1 e1 => ?_)
    have sgz : Sgs (TL.tl z) := sgs_iff.mp lz.1
    have bl : (TL.tl z).length ≤ 200 := by rw [← TL.len_tl]; omega
    refine q_asg ev_c fun H2 e2 => ?_
    obtain ⟨dx, q, vs, hO1, hO2, hO3, _⟩ := id hO
    refine q_forS (z := z) (ev_var rfl) (fun i σ' H' => ∃ t, (∃ x3 x4 : Option V, σ' = [some (.ref o), some (.str z), some (.str (mk t)), x3, x4]) ∧ Ex H H' ∧ bodyL (lp ps) [] (TL.tl z) = bodyL (lp ps) t ((TL.tl z).drop i) ∧ t.length ≤ 301 * i ∧ Sgs t) (fun H3 e3 => ⟨[], ⟨none, none, by rw [show mk [] = ("" : Str) from (mk_eq tl_mt).symm]; rfl⟩, (e1.trans e2).trans e3, by rw [List.drop_zero], Nat.zero_le _, fun c hc => by cases hc⟩) ?_ ?_
    · rintro i σ' H3 lt ⟨t, ⟨x3, x4, rfl⟩, e3, bd, tl, sgt⟩
      generalize hc : (TL.tl z)[i] = c
      have c01 : c = 48 ∨ c = 49 := by rw [← hc]; exact sgz _ (List.getElem_mem lt)
      have bd2 : bodyL (lp ps) [] (TL.tl z) = (sentL (lp ps) t c).bind fun t => bodyL (lp ps) t ((TL.tl z).drop (i + 1)) := by
        rw [bd, drop_at lt, hc]
        exact bodyL_cons rfl
      refine q_asg (v := sentV t (sentL (lp ps) t c)) (ev_call (ea_cons (x := .str (mk (tail8 t))) (ev_is (ev_slS (z := mk t) (ev_var rfl) (eo_some (i := -8) (ev_un ev_c ru_neg)) eo_none (by rw [mk_len]; omega)) (congrArg V.str (mk_eq (last8 (mk t))))) (ea_cons (ev_var rfl) (ea_cons (ev_fld (ev_var rfl) (e3 _ _ hO1) G.cls G.pairs rfl) ea_nil)))
        fun H4 e4 Q4 q4 E4 => ⟨_, _, q, vs, fl, ps, t, c, rfl, rfl, rfl, sgt, c01, ex_t (e3.trans e4) hO2, hO3.mono (e3.trans e4), g, q4⟩) fun H4 e4 => ?_
      have E4 := e3.trans e4
      cases hs : sentL (lp ps) t c with
      | none =>
        rw [hs] at bd2
        refine q_when (b := true) (et_is (et_test (ev_op (ev_var rfl) ev_c rv_isN)) (decide_eq_true rfl)) (fun _ H5 e5 => ?_) (fun z => absurd z (by decide))
        rcases hx with ⟨_, h3⟩ | ⟨t', h3, _⟩
        · exact raise_one (ea_cons ev_c ea_nil) (h3.mono (E4.trans e5))
        · rw [bd2] at h3
          cases h3
      | some u =>
        rw [hs] at bd2
        refine q_when (b := false) (et_is (et_test (ev_op (ev_var rfl) ev_c rv_isN)) (decide_eq_false fun z => by cases z)) (fun z => absurd z (by decide)) (fun _ H5 e5 => ?_)
        have pre : t <+: u := (List.prefix_append t [c]).trans (run_up hs).1
        have ul := run_len O hs
        rw [List.length_append, List.length_singleton] at ul
        refine s_asg (v := .str (mk u)) (ev_is (ev_addS (ev_var rfl) (ev_var rfl) (by rw [mk_len, mk_len, List.length_drop]; omega)) ?_) fun H6 e6 => ⟨u, ⟨_, _, rfl⟩, (E4.trans e5).trans e6, bd2, by omega, run_sgs O (sgt.app fun d hd => by rw [List.mem_singleton.mp hd]; exact c01) hs⟩
        rw [mk_app, pre_drop pre]
    · rintro σ' H3 ⟨t, ⟨x3, x4, rfl⟩, e3, bd, tl, sgt⟩
      rw [List.drop_length] at bd
      rcases hx with ⟨h3, _⟩ | ⟨t', h3, k⟩
      · rw [bd] at h3
        cases h3
      · rw [bd] at h3
        cases h3
        exact s_ret (v := .str (mk t)) (ev_var rfl) fun H4 e4 => k H4 (e3.trans e4)
/-! ### FrameRule.frame, puts -/
def spFrame (K : PySem.W.Frag) (C cL cC : Addr) : Sp := fun vs H Q E => ∃ (o : Addr) (f : Str) (ps : List Pr) (x : V), vs = [.ref o, x] ∧ RuleAt K C H o f ps ∧ BodyT K cL cC ps x H E fun _ t => RetV (.str (mk t ++ f)) H Q
def spPuts (K : PySem.W.Frag) (C cL cC : Addr) : Sp := fun vs H Q E => ∃ (o : Addr) (f : Str) (ps : List Pr) (x : V), vs = [.ref o, x] ∧ RuleAt K C H o f ps ∧ BodyT K cL cC ps x H E fun z t => RetV (.int ((t.length : Int) - (z.length : Int))) H Q
theorem scFrame : FnScope ["self", "letter"] ["self", "letter"] (defScope (sFr 3)) := ⟨rfl, rfl, rfl, by decide +kernel, rfl, by decide +kernel, by decide +kernel⟩
theorem scPuts : FnScope ["self", "letter"] ["self", "letter"] (defScope (sFr 4)) := ⟨rfl, rfl, rfl, by decide +kernel, rfl, by decide +kernel, by decide +kernel⟩
theorem ok_Frame {C cL cC f fB : Addr} {fd fdB : FuncData} (F : Fun K "frame" "FrameRule.frame" (sFr 3) f fd) (G : FCls K C) (hB : Meth K C "body" fB) (GB : FnOk P w K mg base (L2.CX P w) 4 fB fdB ["self", "letter"] (spBody K C cL cC)) (bB : Binds K fdB ["self", "letter"] []) :
    FnOk P w K mg base (L2.CX P w) 5 f fd ["self", "letter"] (spFrame K C cL cC) := by
  refine F.okX scFrame (fun vs H Q E h => ?_) (fun cdv A outer s H vs Q E hr h => ?_)
  · obtain ⟨o, f, ps, x, rfl, _⟩ := h
    rfl
  · obtain ⟨o, fl, ps, x, rfl, hO, hx⟩ := h
    refine ⟨_, (pss_one (ps_ret (pe_op op_add_str (pe_meth (E := E) (pv 0) G.cls hB GB hr bB .nil (passes_call (takes_of rfl rfl rfl rfl) fun _ _ _ _ z => z) (pa_cons (pv 1) pa_nil)) (pe_fld (pv 0) rfl)))), ?_⟩
    obtain ⟨dx, q, vs, hO1, _⟩ := id hO
    have fl8 := sgB_iff.mp hO.good.flag
    have O := good_pok hO.good
    refine s_retR (op_i ⟨_, rfl, o, dx, _, rfl, hO1, rfl, _, rfl, o, fl, ps, x, rfl, hO, ?_⟩)
    have go : ∀ z t, sgB z 0 200 = true → bodyL (lp ps) [] (TL.tl z) = some t → RetV (.str (mk t ++ fl)) H Q → RetV (.str (mk t)) H (fun x H1 => tFld K (tVar 0) "flag" [some (.ref o), some (.str z)] H1 fun y H2 => (fun x y H Q => ∃ i j, x = V.str i ∧ y = V.str j ∧ i.length + j.length ≤ sizeLine ∧ Q (V.str (i ++ j)) H) x y H2 Q) := fun z t hz ht k H1 e1 => by
      have := body_len O ht
      have lz := sgB_iff.mp hz
      rw [TL.len_tl] at lz
      simp only [List.length_nil] at this
      exact (ev_flag (σ := [some (.ref o), some (.str z)]) (ta := tVar 0) G (ev_var rfl) (hO.mono e1)) H1 (Ex.refl H1) _ fun H2 e2 => ⟨mk t, fl, rfl, rfl, by rw [mk_len]; exact sz_of (by omega), k H2 (e1.trans e2)⟩
    rcases hx with h | ⟨z, rfl, hz, h | ⟨t, ht, k⟩⟩
    · exact .inl h
    · exact .inr ⟨z, rfl, hz, .inl h⟩
    · exact .inr ⟨z, rfl, hz, .inr ⟨t, ht, go z t hz ht k⟩⟩
theorem ok_Puts {C cL cC f fB : Addr} {fd fdB : FuncData} (F : Fun K "puts" "FrameRule.puts" (sFr 4) f fd) (T : GlbT mg) (G : FCls K C) (hB : Meth K C "body" fB) (GB : FnOk P w K mg base (L2.CX P w) 4 fB fdB ["self", "letter"] (spBody K C cL cC)) (bB : Binds K fdB ["self", "letter"] []) :
    FnOk P w K mg base (L2.CX P w) 5 f fd ["self", "letter"] (spPuts K C cL cC) := by
  refine F.okX scPuts (fun vs H Q E h => ?_) (fun cdv A outer s H vs Q E hr h => ?_)
  · obtain ⟨o, f, ps, x, rfl, _⟩ := h
    rfl
  · obtain ⟨o, fl, ps, x, rfl, hO, hx⟩ := h
    refine ⟨_, (pss_one (ps_ret (pe_op op_sub (pe_callB call_len (by rfl) T.len PySem.boot_len (pa_cons (pe_meth (E := E) (pv 0) G.cls hB GB hr bB .nil (passes_call (takes_of rfl rfl rfl rfl) fun _ _ _ _ z => z) (pa_cons (pv 1) pa_nil)) pa_nil)) (pe_callB call_len (by rfl) T.len PySem.boot_len (pa_cons (pv 1) pa_nil))))), ?_⟩
    obtain ⟨dx, q, vs, hO1, _⟩ := id hO
    have O := good_pok hO.good
    refine s_retR (op_i (cons_i ⟨_, rfl, o, dx, _, rfl, hO1, rfl, _, rfl, o, fl, ps, x, rfl, hO, ?_⟩))
    rcases hx with h | ⟨z, rfl, hz, h | ⟨t, ht, k⟩⟩
    · exact .inl h
    · exact .inr ⟨z, rfl, hz, .inl h⟩
    · refine .inr ⟨z, rfl, hz, .inr ⟨t, ht, fun H1 e1 => ?_⟩⟩
      have := body_len O ht
      have lz := sgB_iff.mp hz
      rw [TL.len_tl] at lz
      simp only [List.length_nil] at this
      refine ⟨.str (mk t), (mk t).length, rfl, ⟨sz_of (by rw [mk_len]; omega), rfl⟩, ?_⟩
      exact (ev_cb (σ := [some (.ref o), some (.str z)]) (ea_cons (ev_var (i := 1) rfl) ea_nil) (rc_lenS (K := K) (z := z) (by rw [TL.len_tl]; omega))) H1 (Ex.refl H1) _ fun H2 e2 => ⟨_, _, rfl, rfl, k H2 (e1.trans e2)⟩
/-! ### FrameRule.letter_of -/
abbrev nLof : List Str := ["self", "frame", "end", "letter"]
def spLof (K : PySem.W.Frag) (C cF : Addr) : Sp := fun vs H Q E => ∃ (o : Addr) (f : Str) (ps : List Pr) (x : V), vs = [.ref o, x] ∧ RuleAt K C H o f ps ∧
  ((∃ T : String, TyX K H x (.type T) ∧ kitB T "str" = some false ∧ BadF cF "signs" H E) ∨ ∃ z, x = .str z ∧ z.length ≤ 80000 ∧ ((Sg z = false ∧ BadF cF "signs" H E) ∨ (Sg z = true ∧ ((∃ p, dueF f ps z = .inl p ∧ BadF cF p H E) ∨ ∃ l, dueF f ps z = .inr l ∧ RetV (.str (mk l)) H Q))))
theorem scLof : FnScope nLof ["self", "frame"] (defScope (sFr 5)) := ⟨rfl, rfl, rfl, by decide +kernel, rfl, by decide +kernel, by decide +kernel⟩
theorem ok_Lof {C cF fF f : Addr} {fd fdF : FuncData} (F : Fun K "letter_of" "FrameRule.letter_of" (sFr 5) f fd) (T : GlbT mg) (G : FCls K C) (BF : GOne P w K mg base "BadFrame" "part" cF fF fdF)
    (GS : Gfn P w K mg base 1 "is_signs" ["value"] (spSigns K)) (GL : Gfn P w K mg base 3 "is_letter" ["value"] (spLet K)) (GB : Gfn P w K mg base 2 "letter_of_body" ["body", "pairs"] (spLob K)) : FnOk P w K mg base (L2.CX P w) 4 f fd ["self", "frame"] (spLof K C cF) := by
  obtain ⟨fT, fdT, GL, kL, bL, gL⟩ := GL
  obtain ⟨fS, fdS, GS, kS, bS, gS⟩ := GS
  obtain ⟨fB, fdB, GB, kB, bB, gB⟩ := GB
  refine F.okX scLof (fun vs H Q E h => ?_) (fun cdv A outer s H vs Q E hr h => ?_)
  · obtain ⟨o, f, ps, x, rfl, _⟩ := h
    rfl
  · obtain ⟨o, fl, ps, x, rfl, hO, hx⟩ := h
    have r1 := hr.mono (show 1 ≤ 3 by decide)
    have r2 := hr.mono (show 2 ≤ 3 by decide)
    refine ⟨_, (pss_cons (ps_if (pt_not (pt_val (pe_call GS r1 (by rfl) gS kS bS .nil pass0 (pa_cons (pv 1) pa_nil)))) (pss_one (ps_raise rfl (takes_of rfl rfl rfl rfl) (pmk_oex BF.ox BF.init BF.ty BF.ok r2 BF.b .nil pass0 (by rfl) BF.g (pa_cons pe_str pa_nil)))) pss_nil)
      (pss_cons (ps_set (i := 2) scLof.nd rfl (.inl rfl) (pe_bm PySem.F.plainAttrs_str PySem.F.slot_str_find PySem.F.type_str_find mt_find (pv 1) (pa_cons (pe_fld (pv 0) rfl) pa_nil)))
      (pss_cons (ps_if (PW.pt (pw_or (pt_cmpR op_lt (pv 2) pe_int (nomark _)) (pw_or1 (pt_cmpR op_lt (pe_op op_add (pv 2) (pe_callB call_len (by rfl) T.len PySem.boot_len (pa_cons (pe_fld (pv 0) rfl) pa_nil))) (pe_callB call_len (by rfl) T.len PySem.boot_len (pa_cons (pv 1) pa_nil)) (nomark _)))))
        (pss_one (ps_raise rfl (takes_of rfl rfl rfl rfl) (pmk_oex BF.ox BF.init BF.ty BF.ok r2 BF.b .nil pass0 (by rfl) BF.g (pa_cons pe_str pa_nil)))) pss_nil)
      (pss_cons (ps_set (i := 3) scLof.nd rfl (.inl rfl) (pe_call GB r2 (by rfl) gB kB bB .nil pass0 (pa_cons (pe_slice sl_str (pv 1) po_none (po_some (pv 2))) (pa_cons (pe_fld (pv 0) rfl) pa_nil))))
      (pss_cons (ps_if (pt_not (pt_val (pe_call GL hr (by rfl) gL kL bL .nil pass0 (pa_cons (pv 3) pa_nil)))) (pss_one (ps_raise rfl (takes_of rfl rfl rfl rfl) (pmk_oex BF.ox BF.init BF.ty BF.ok r2 BF.b .nil pass0 (by rfl) BF.g (pa_cons pe_str pa_nil)))) pss_nil)
      (pss_one (ps_ret (pv 3)))))))), ?_⟩
    have g := hO.good
    obtain ⟨dx, q, vs, hO1, hO2, hO3, _⟩ := id hO
    rcases hx with ⟨ty, h1, h2, h3⟩ | ⟨z, rfl, hz, ⟨h1, h2⟩ | ⟨h1, h2⟩⟩
    · exact q_when (b := true) (et_not (et_B (ev_call (z := .bl false) (ea_cons (ev_var rfl) ea_nil) (spv_signs0 h1 h2)))) (fun _ H1 e1 => raise_one (ea_cons ev_c ea_nil) (h3.mono e1)) (fun z => absurd z (by decide))
    · exact q_when (b := true) (et_is (et_not (et_B (ev_call (ea_cons (ev_var rfl) ea_nil) (spv_signs (z := z) (by omega))))) (by rw [signs_is, h1]; rfl)) (fun _ H1 e1 => raise_one (ea_cons ev_c ea_nil) (h2.mono e1)) (fun z => absurd z (by decide))
    refine q_when (b := false) (et_is (et_not (et_B (ev_call (ea_cons (ev_var rfl) ea_nil) (spv_signs (z := z) (by omega))))) (by rw [signs_is, h1]; rfl)) (fun z => absurd z (by decide)) (fun _ H1 e1 => ?_)
    refine q_asg (ev_find (ev_var rfl) (ev_flag G (ev_var rfl) (hO.mono e1))) fun H2 e2 => ?_
    have E2 := e1.trans e2
    have ff := PyProof.Rows.fact_find z fl
    refine q_when (b := decide (Txt.find z fl < 0 ∨ Txt.find z fl + (fl.length : Int) ≠ (z.length : Int))) (et_is (et_or (et_test (ev_op (ev_var rfl) ev_c rv_I0)) fun _ => et_test (ev_op (ev_op (ev_var rfl) (ev_lenF G (ev_var rfl) (hO.mono E2)) rv_I0) (ev_cb (ea_cons (ev_var rfl) ea_nil) (rc_lenS (K := K) (z := z) (by omega))) rv_I0)) ?_) (fun hb H3 e3 => ?_) (fun hb H3 e3 => ?_)
    · rw [Bool.eq_iff_iff, Bool.or_eq_true, decide_eq_true_iff, decide_eq_true_iff, decide_eq_true_iff]
      omega
    · have hb := of_decide_eq_true hb
      have due : dueF fl ps z = .inl "flag" := by
        unfold dueF
        rw [if_pos hb]
      rcases h2 with ⟨p, hp, h3⟩ | ⟨l, hl, _⟩
      · rw [due] at hp
        cases hp
        exact raise_one (ea_cons ev_c ea_nil) (h3.mono (E2.trans e3))
      · rw [due] at hl
        cases hl
    have hb := of_decide_eq_false hb
    have E3 := E2.trans e3
    obtain ⟨n, hn⟩ := Int.eq_ofNat_of_zero_le (show 0 ≤ Txt.find z fl by omega)
    have due : dueF fl ps z = match tkn (lp ps) [] ((TL.tl z).take n) with
        | none => .inl "body"
        | some l => if l.length ≤ 200 then .inr l else .inl "body" := by
      unfold dueF
      rw [if_neg hb, hn]
      rfl
    have cutE : cutS z none (some (n : Int)) = mk ((TL.tl z).take n) := mk_eq (tl_first z n)
    have zl : (TL.tl z).length ≤ 80000 := by rw [← TL.len_tl]; exact hz
    have tl_ : ((TL.tl z).take n).length ≤ 80000 := by rw [List.length_take]; omega
    refine q_asg (v := tknV (tkn (lp ps) [] ((TL.tl z).take n))) (ev_call (ea_cons (x := .str (mk ((TL.tl z).take n))) (ev_is (ev_slS (z := z) (ev_var rfl) eo_none (eo_some (i := (n : Int)) (ev_is (ev_var rfl) (by rw [hn])) ) (by omega)) (by rw [cutE])) (ea_cons (ev_fld (ev_var rfl) (E3 _ _ hO1) G.cls G.pairs rfl) ea_nil))
      fun H4 e4 Q4 q4 E4 => ⟨_, q, vs, fl, ps, rfl, by rw [mk_len]; omega, ex_t (E3.trans e4) hO2, hO3.mono (E3.trans e4), g, q4⟩) fun H4 e4 => ?_
    have E4 := E3.trans e4
    cases ht : tkn (lp ps) [] ((TL.tl z).take n) with
    | none =>
      rw [ht] at due
      refine q_when (b := true) (et_not (et_B (ev_let (ev_var rfl) (sgv_not (T := "NoneType") (.base .non) (by decide +kernel))))) (fun _ H5 e5 => ?_) (fun z => absurd z (by decide))
      rcases h2 with ⟨p, hp, h3⟩ | ⟨l, hl, _⟩
      · rw [due] at hp
        cases hp
        exact raise_one (ea_cons ev_c ea_nil) (h3.mono (E4.trans e5))
      · rw [due] at hl
        cases hl
    | some l =>
      rw [ht] at due
      have ll := tkn_len ht
      have sgl : Sgs l := tkn_sgs (fun c hc => sgs_iff.mp h1 c (List.mem_of_mem_take hc)) ht
      have isB : sgB (mk l) 0 200 = decide (l.length ≤ 200) := by
        rw [Bool.eq_iff_iff, sgB_iff, decide_eq_true_iff, mk_len]
        constructor
        · omega
        · exact fun z => ⟨sg_mk sgl, by omega, by omega⟩
      refine q_when (b := !decide (l.length ≤ 200)) (et_not (et_B (ev_let (ev_var rfl) (by
        have := sgv_str (K := K) (H := H4) (z := mk l) (lo := 0) (hi := 200) (by rw [mk_len]; omega)
        rwa [isB] at this)))) (fun hb2 H5 e5 => ?_) (fun hb2 H5 e5 => ?_)
      · rw [Bool.not_eq_true', decide_eq_false_iff_not] at hb2
        have due : dueF fl ps z = .inl "body" := by
          rw [due]
          exact if_neg hb2
        rcases h2 with ⟨p, hp, h3⟩ | ⟨l, hl, _⟩
        · rw [due] at hp
          cases hp
          exact raise_one (ea_cons ev_c ea_nil) (h3.mono (E4.trans e5))
        · rw [due] at hl
          cases hl
      · rw [Bool.not_eq_false', decide_eq_true_iff] at hb2
        have due : dueF fl ps z = .inr l := by
          rw [due]
          exact if_pos hb2
        rcases h2 with ⟨p, hp, h3⟩ | ⟨l', hl, k⟩
        · rw [due] at hp
          cases hp
        · rw [due] at hl
          cases hl
          exact s_ret (v := .str (mk l)) (ev_var rfl) fun H6 e6 => k H6 ((E4.trans e5).trans e6)
end
end K09
namespace K09
open PySem L2 Evl Gr StX EnT ClX ClK RdX SrtT StS Fr
abbrev sLle : Stmt := top 38
abbrev sLdu : Stmt := top 41
abbrev sLbe : Stmt := top 42
section
variable {X : Cx}
/-- a text times a number -/
theorem op_mulS : OpR X (binaryOp .Mult) (fun x y H Q => ∃ a i, x = .str a ∧ y = .int i ∧ MulOk a i ∧ Q (.str (Txt.mul a i)) H) := by
  intro pins s σ H x y v u Q I rx ry h
  obtain ⟨a, i, rfl, rfl, ok, q⟩ := h
  obtain ⟨t, rfl⟩ := rx
  obtain ⟨t2, rfl⟩ := ry
  exact SB.mul ok fun t' k => ⟨.str _, H, I.tok _, ⟨_, rfl⟩, q⟩
end
section
variable {p l : Addr} {cells : List Int} {σ : L2.St} {H : Hp} {ta tb te : TE}
theorem ev_mulS {a : Str} {i : Int} (ha : Ev ta σ H (.str a)) (hb : Ev tb σ H (.int i)) (ok : MulOk a i) : Ev (tOp (fun x y H Q => ∃ a i, x = .str a ∧ y = .int i ∧ MulOk a i ∧ Q (.str (Txt.mul a i)) H) ta tb) σ H (.str (Txt.mul a i)) := ev_op ha hb fun H1 _ Q q => ⟨a, i, rfl, rfl, ok, q H1 (Ex.refl H1)⟩
theorem w_pickV {i : Nat} {tr : TA} {xs : List V} (hi : σ[i]? = some (some (.ref p))) (hr : ∀ H1, EvA tr σ H1 xs) (h0 : 0 < xs.length) (h1 : xs.length ≤ 1000) (h63 : cells.length ≤ 63) :
    EvW p l cells 1 (tCall spPick [] E0 (tCons (tVar i) (tCons (tLst tr) tNil))) σ H (fun v => v ∈ xs) := fun m H1 kp hP hm Q q =>
  ⟨_, hi, hr H1 H1 (Ex.refl H1) _ fun H2 e2 => ⟨sz_of (n := xs.length) (by omega), fun a ha => by
    have e3 := e2.trans (Ex.new (o := .lst xs) ha)
    have hap : a ≠ p := by
      obtain ⟨k, r, hp, _⟩ := hP
      intro z
      rw [z, e2 _ _ hp] at ha
      cases ha
    refine ⟨p, l, a, cells, m, xs, rfl, hP.mono e3 (Nat.le_refl m), by omega, h63, upd_same, hap, h0, by omega, fun j x H3 hx hP3 k3 => ?_⟩
    exact q _ H3 (List.mem_of_getElem? hx) hP3 ((Keep.of_ex e3).trans k3)⟩⟩
end
/-- for .. in range(what a draw leads to) -/
theorem q_forW2 {p l : Addr} {cells : List Int} {σ : L2.St} {H : Hp} {te : TE} {n m j : Nat} {tu tz : TS} {D : Ends} (hw : ∀ Q : VK, (∀ (d : Nat) H1, d < n → PenAt H1 p l cells m → Keep p H H1 → Q (.int (d : Int)) H1) → te σ H Q)
    (k : ∀ (d : Nat) H1, d < n → PenAt H1 p l cells m → Keep p H H1 → tSeq (tFor (iRng1 (tCons (tC (.int (d : Int))) tNil)) (gName j) tu) tz D σ H1) : tSeq (tFor (iRng1 (tCons te tNil)) (gName j) tu) tz D σ H := hw _ fun d H1 hd hP k1 => k d H1 hd hP k1
theorem rv_notN {H : Hp} {x : V} : RV (fun x y H Q => y = V.non ∧ Q (.bl (!decide (x = V.non))) H) x .non H (.bl (!decide (x = V.non))) := fun H1 _ _ q => ⟨rfl, q H1 (Ex.refl H1)⟩
/-! ### what is due, as data -/
def dueD : Sum Str L → PyData
  | .inl p => .tuple [.str "frame", .str p]
  | .inr l => .list [.str (mk l)]
/-- the letters that are told -/
def lettersA : List Str := ["", "0", "1", Txt.mul "01" 100, Txt.mul "1" 200, Txt.mul "0" 200, Txt.mul "011111" 33]
theorem letters_ok : ∀ z ∈ lettersA, sgB z 0 200 = true := by
  have : lettersA.all (fun z => sgB z 0 200) = true := by decide +kernel
  exact fun z hz => List.all_eq_true.mp this z hz
theorem mul_1 : MulOk "01" 100 := by unfold MulOk; decide +kernel
theorem mul_2 : MulOk "1" 200 := by unfold MulOk; decide +kernel
theorem mul_3 : MulOk "0" 200 := by unfold MulOk; decide +kernel
theorem mul_4 : MulOk "011111" 33 := by unfold MulOk; decide +kernel
theorem sg_tl {z : Str} (h : Sg z = true) : Sgs (TL.tl z) := sgs_iff.mp h
section
variable {P : Program} {w : World} {K : PySem.W.Frag} {mg : Str → Option Value} {base : Heap}
/-! ### _law_letter -/
abbrev nLle : List Str := ["_law_pen_here", "_law_way", "_law_turn"]
def spLle : Sp := fun vs H Q _ => ∃ (p l : Addr) (cells : List Int) (m : Nat), vs = [.ref p] ∧ PenAt H p l cells m ∧ m + 20 ≤ 50000 ∧ cells.length ≤ 63 ∧ ∀ z H', sgB z 0 200 = true → PenAt H' p l cells (m + 20) → Keep p H H' → Q (.str z) H'
theorem scLle : FnScope nLle ["_law_pen_here"] (defScope sLle) := ⟨rfl, rfl, rfl, by decide +kernel, rfl, by decide +kernel, by decide +kernel⟩
theorem ok_Lle {f fD : Addr} {fd fdD : FuncData} (F : Fun K "_law_letter" "_law_letter" sLle f fd) (S : GlbS mg) (GD : FnOk P w K mg base CX0 1 fD fdD ["_law_pen_here", "_law_many"] spDraw) (kD : PySem.W.keepIn K (.ref fD) = true) (bD : Binds K fdD ["_law_pen_here", "_law_many"] []) (gD : mg "_law_draw" = some (.ref fD))
    (GP : Gfn P w K mg base 2 "_law_pick" ["_law_pen_here", "_law_some"] spPick) : FnOk P w K mg base CX0 3 f fd ["_law_pen_here"] spLle := by
  obtain ⟨fP, fdP, GP, kP, bP, gP⟩ := GP
  refine F.ok scLle (fun vs H Q E h => ?_) (fun cdv A outer s H vs Q E hr h => ?_)
  · obtain ⟨p, l, cells, m, rfl, _⟩ := h
    rfl
  · obtain ⟨p, l, cells, m, rfl, hP, hm, h63, k⟩ := h
    have r1 := hr.mono (show 1 ≤ 2 by decide)
    refine ⟨_, (pss_cons (ps_set (i := 1) scLle.nd rfl (.inl rfl) (pe_call GD r1 (by rfl) gD kD bD .nil pass0 (pa_cons (pv 0) (pa_cons pe_int pa_nil))))
      (pss_cons (ps_if (pt_cmpR op_eq (pv 1) pe_int (nomark _)) (pss_one (ps_ret (pe_call GP hr (by rfl) gP kP bP .nil pass0 (pa_cons (pv 0) (pa_cons (pe_lst (pa_cons pe_str (pa_cons pe_str (pa_cons pe_str (pa_cons (pe_op op_mulS pe_str pe_int) (pa_cons (pe_op op_mulS pe_str pe_int) (pa_cons (pe_op op_mulS pe_str pe_int) (pa_cons (pe_op op_mulS pe_str pe_int) pa_nil)))))))) pa_nil))))) pss_nil)
      (pss_one (ps_ret (pe_join pe_str (pe_lc (own := [("_law_turn", 2)]) (g := gName 2) rfl scLle.nd (pi_range1 (by rfl) S.range (pa_cons (pe_call GD r1 (by rfl) gD kD bD .nil pass0 (pa_cons (pv 0) (pa_cons pe_int pa_nil))) pa_nil)) (blkOk_by (own := [("_law_turn", 2)]) (N := nLle) (sc := defScope sLle) (by decide +kernel))
        (fun _ _ _ _ _ => pg_name (i := 2) scLle.nd rfl (Or.inl rfl)) (fun _ _ _ _ _ => pts_nil) (fun _ _ _ _ _ => pe_call GP hr (by rfl) gP kP bP .nil pass0 (pa_cons (pv 0) (pa_cons (pe_lst (pa_cons pe_str (pa_cons pe_str (pa_cons pe_str pa_nil)))) pa_nil))))))))), ?_⟩
    refine q_asgR ((w_draw (H := H) (i := 0) (σ := [some (.ref p), none, none]) (many := 6) rfl (fun _ _ => ev_c) (by decide) (by decide) h63) m H (Keep.of_ex (Ex.refl H)) hP (by omega) _ fun v H1 hv hP1 k1 => ?_)
    obtain ⟨d, rfl, hd⟩ := hv
    refine q_when (et_test (ev_op (ev_var rfl) ev_c (rv_eq rfl))) (fun hb H2 e2 => ?_) (fun hb H2 e2 => ?_)
    · refine s_retR ((w_pickV (H := H2) (xs := lettersA.map V.str) rfl (fun H3 => ea_cons ev_c (ea_cons ev_c (ea_cons ev_c (ea_cons (ev_mulS ev_c ev_c mul_1) (ea_cons (ev_mulS ev_c ev_c mul_2) (ea_cons (ev_mulS ev_c ev_c mul_3) (ea_cons (ev_mulS ev_c ev_c mul_4) ea_nil))))))) (by show 0 < 7; decide) (by show 7 ≤ 1000; decide) h63) (m + 1) H2 (Keep.of_ex (Ex.refl H2)) (hP1.mono e2 (Nat.le_refl _)) (by omega) _ fun v H3 hv hP3 k3 => ?_)
      obtain ⟨z, hz, rfl⟩ := List.mem_map.mp hv
      exact k z H3 (letters_ok z hz) (hP3.le (by omega)) ((k1.trans (Keep.of_ex e2)).trans k3)
    · have hP2 := hP1.mono e2 (Nat.le_refl _)
      have K2 := k1.trans (Keep.of_ex e2)
      refine s_retR ⟨⟨_, rfl⟩, ?_⟩
      refine (w_draw (H := H2) (i := 0) (σ := [some (.ref p), some (.int (d : Int)), none]) (many := 14) rfl (fun _ _ => ev_c) (by decide) (by decide) h63) (m + 1) H2 (Keep.of_ex (Ex.refl H2)) hP2 (by omega) _ fun v H3 hv hP3 k3 => ?_
      obtain ⟨n, rfl, hn⟩ := hv
      have K3 := K2.trans k3
      refine ⟨(n : Int), rfl, by omega, by omega, fun Dl hD => ?_⟩
      have hDp : Dl ≠ p := fun z => by
        obtain ⟨_, _, q, _⟩ := hP3
        rw [z, q] at hD
        cases hD
      have hDl : Dl ≠ l := fun z => by
        obtain ⟨_, _, _, q, _⟩ := hP3
        rw [z, q] at hD
        cases hD
      have hDH : H Dl = none := by
        cases c : H Dl with
        | none => rfl
        | some u =>
          rw [K3 _ _ c hDp] at hD
          cases hD
      refine lc_range (lo := 0) (n := (n : Int).toNat) (fun i H' => ∃ zs : List Str, H' Dl = some (.lst (zs.map V.str)) ∧ zs.length = i ∧ (∀ z ∈ zs, Bit z) ∧ PenAt H' p l cells (m + 1 + 1 + i) ∧ Keep p H H') ⟨[], upd_same, rfl, fun y hy => absurd hy (by simp), hP3.upd' hDp hDl, K3.mut hDH⟩ (fun i H' hi q => ⟨rfl, ?_⟩) (fun H' q => ?_)
      · obtain ⟨zs, hg, hlen, hb, hP4, k4⟩ := q
        rw [Int.toNat_natCast] at hi
        refine (w_pickV (H := H') (σ := [some (.ref p), some (.int (d : Int)), some (.int (0 + (i : Int)))]) (xs := [V.str "0", .str "1", .str "1"]) rfl (fun H3 => ea_cons ev_c (ea_cons ev_c (ea_cons ev_c ea_nil))) (by decide) (by decide) h63) (m + 1 + 1 + i) H' (Keep.of_ex (Ex.refl H')) hP4 (by omega) _ fun v H5 hv hP5 k5 => ?_
        have bit : ∃ y, v = .str y ∧ Bit y := by
          simp only [List.mem_cons, List.not_mem_nil, or_false] at hv
          rcases hv with rfl | rfl | rfl
          · exact ⟨_, rfl, .inl rfl⟩
          · exact ⟨_, rfl, .inr rfl⟩
          · exact ⟨_, rfl, .inr rfl⟩
        obtain ⟨y, rfl, by_⟩ := bit
        refine ⟨zs.map V.str, k5 _ _ hg hDp, sz_lt (by rw [List.length_map]; omega), zs ++ [y], by rw [upd_same, List.map_append]; rfl, by rw [List.length_append, hlen]; rfl, fun x hx => ?_, (hP5.upd' hDp hDl).le (by omega), (k4.trans k5).mut hDH⟩
        rcases List.mem_append.mp hx with z | z
        · exact hb x z
        · rw [List.mem_singleton.mp z]
          exact by_
      · obtain ⟨zs, hg, hlen, hb, hP4, k4⟩ := q
        rw [Int.toNat_natCast] at hlen hP4
        obtain ⟨j1, j2⟩ := join_bits hb
        have sz : (zs.map (·.length)).sum ≤ 1 * (zs.map (·.length)).length := sum_most fun x hx => by
          obtain ⟨z, hz, rfl⟩ := List.mem_map.mp hx
          rcases hb z hz with rfl | rfl <;> decide +kernel
        rw [List.length_map] at sz
        refine ⟨mt, Dl, zs, rfl, rfl, .inl (sq_of hg), ?_, k _ H' (sgB_iff.mpr ⟨j1, by omega, by omega⟩) (hP4.le (by omega)) k4⟩
        have : mt.length = 0 := by decide +kernel
        rw [this]
        omega
/-! ### _law_bent -/
abbrev nLbe : List Str := ["_law_pen_here", "_law_frame", "_law_turn", "_law_at", "_law_way", "_law_put_here"]
def spLbe : Sp := fun vs H Q _ => ∃ (p l : Addr) (cells : List Int) (m : Nat) (z : Str), vs = [.ref p, .str z] ∧ PenAt H p l cells m ∧ m + 10 ≤ 50000 ∧ cells.length ≤ 63 ∧ Sg z = true ∧ z.length ≤ 70000 ∧ ∀ z' H', Sg z' = true → z'.length ≤ 70004 → PenAt H' p l cells (m + 10) → Keep p H H' → Q (.str z') H'
theorem scLbe : FnScope nLbe ["_law_pen_here", "_law_frame"] (defScope sLbe) := ⟨rfl, rfl, rfl, by decide +kernel, rfl, by decide +kernel, by decide +kernel⟩
theorem ok_Lbe {f fD : Addr} {fd fdD : FuncData} (F : Fun K "_law_bent" "_law_bent" sLbe f fd) (T : GlbT mg) (S : GlbS mg) (GD : FnOk P w K mg base CX0 1 fD fdD ["_law_pen_here", "_law_many"] spDraw) (kD : PySem.W.keepIn K (.ref fD) = true) (bD : Binds K fdD ["_law_pen_here", "_law_many"] []) (gD : mg "_law_draw" = some (.ref fD))
    (GP : Gfn P w K mg base 2 "_law_pick" ["_law_pen_here", "_law_some"] spPick) : FnOk P w K mg base CX0 3 f fd ["_law_pen_here", "_law_frame"] spLbe := by
  obtain ⟨fP, fdP, GP, kP, bP, gP⟩ := GP
  refine F.ok scLbe (fun vs H Q E h => ?_) (fun cdv A outer s H vs Q E hr h => ?_)
  · obtain ⟨p, l, cells, m, z, rfl, _⟩ := h
    rfl
  · obtain ⟨p, l, cells, m, z, rfl, hP, hm, h63, sg, hz, k⟩ := h
    have r1 := hr.mono (show 1 ≤ 2 by decide)
    refine ⟨_, (pss_cons (ps_for PassesOwn.never rfl (pi_range1 (by rfl) S.range (pa_cons (pe_op op_add pe_int (pe_call GD r1 (by rfl) gD kD bD .nil pass0 (pa_cons (pv 0) (pa_cons pe_int pa_nil)))) pa_nil)) (pg_name (i := 2) scLbe.nd rfl (.inl rfl))
        (pss_cons (ps_par (i := 3) (j := 4) rfl scLbe.nd rfl rfl (by decide) rfl rfl (pa_cons (pe_call GD r1 (by rfl) gD kD bD .nil pass0 (pa_cons (pv 0) (pa_cons (pe_op op_add (pe_callB call_len (by rfl) T.len PySem.boot_len (pa_cons (pv 1) pa_nil)) pe_int) pa_nil))) (pa_cons (pe_call GD r1 (by rfl) gD kD bD .nil pass0 (pa_cons (pv 0) (pa_cons pe_int pa_nil))) pa_nil)) (by rfl))
      (pss_cons (ps_set (i := 5) scLbe.nd rfl (.inl rfl) (pe_call GP hr (by rfl) gP kP bP .nil pass0 (pa_cons (pv 0) (pa_cons (pe_lst (pa_cons pe_str (pa_cons pe_str (pa_cons pe_str (pa_cons pe_str pa_nil))))) pa_nil))))
      (pss_one (ps_if (pt_cmpR op_eq (pv 4) pe_int (nomark _)) (pss_one (ps_set (i := 1) scLbe.nd rfl (.inl rfl) (pe_op op_add_str (pe_op op_add_str (pe_slice sl_str (pv 1) po_none (po_some (pv 3))) (pv 5)) (pe_slice sl_str (pv 1) (po_some (pv 3)) po_none))))
          (pss_one (ps_set (i := 1) scLbe.nd rfl (.inl rfl) (pe_ifExp (pt_cmpR op_eq (pv 4) pe_int (nomark _)) (pe_op op_add_str (pe_slice sl_str (pv 1) po_none (po_some (pv 3))) (pe_slice sl_str (pv 1) (po_some (pe_op op_add (pv 3) pe_int)) po_none))
            (pe_op op_add_str (pe_op op_add_str (pe_slice sl_str (pv 1) po_none (po_some (pv 3))) (pv 5)) (pe_slice sl_str (pv 1) (po_some (pe_op op_add (pv 3) (pe_callB call_len (by rfl) T.len PySem.boot_len (pa_cons (pv 5) pa_nil)))) po_none))))))))))
      (pss_one (ps_ret (pv 1)))), ?_⟩
    have first : ∀ {σ : L2.St} {H1 : Hp} {te : TE} {y : Str} {a : Nat}, σ[1]? = some (some (.str y)) → y.length ≤ 80000 → Ev te σ H1 (.int (a : Int)) → Ev (tSl rSlS (tVar 1) tNoPart (tPart te)) σ H1 (.str (mk ((TL.tl y).take a))) := fun h hy ha => ev_is (ev_slS (ev_var h) eo_none (eo_some ha) (by omega)) (congrArg V.str (mk_eq (tl_first _ _)))
    have rest : ∀ {σ : L2.St} {H1 : Hp} {te : TE} {y : Str} {a : Nat}, σ[1]? = some (some (.str y)) → y.length ≤ 80000 → Ev te σ H1 (.int (a : Int)) → Ev (tSl rSlS (tVar 1) (tPart te) tNoPart) σ H1 (.str (mk ((TL.tl y).drop a))) := fun h hy ha => ev_is (ev_slS (ev_var h) (eo_some ha) eo_none (by omega)) (congrArg V.str (mk_eq (tl_rest _ _)))
    refine q_forW2 (p := p) (l := l) (cells := cells) (m := m + 1) (te := tOp (rI0 fun i j => .int (i + j)) (tC (.int 1)) (tCall spDraw [] E0 (tCons (tVar 0) (tCons (tC (.int 2)) tNil)))) (n := 3) ?_ fun d H1 hd hP1 k1 => ?_
    · exact fun Q q => op_i (c_i ((w_draw (H := H) (i := 0) (σ := [some (.ref p), some (.str z), none, none, none, none]) (many := 2) rfl (fun _ _ => ev_c) (by decide) (by decide) h63) m H (Keep.of_ex (Ex.refl H)) hP (by omega) _ fun v H1 hv hP1 k1 => by
        obtain ⟨d, rfl, hd⟩ := hv
        exact ⟨1, (d : Int), rfl, rfl, by
          have e : (1 : Int) + (d : Int) = ((1 + d : Nat) : Int) := by omega
          show Q (.int (1 + (d : Int))) H1
          rw [e]
          exact q (1 + d) H1 (by omega) hP1 k1⟩))
    refine q_forR1 (ea_cons ev_c ea_nil) (by omega) (fun i σ' H' => ∃ y, (∃ x2 x3 x4 x5 : Option V, σ' = [some (.ref p), some (.str y), x2, x3, x4, x5]) ∧ Sg y = true ∧ y.length ≤ 70000 + 2 * i ∧ PenAt H' p l cells (m + 1 + 3 * i) ∧ Keep p H H') (fun H2 e2 => ⟨z, ⟨none, none, none, none, rfl⟩, sg, hz, hP1.mono e2 (Nat.le_refl _), k1.trans (Keep.of_ex e2)⟩) ?_ ?_
    · rintro i σ' H2 hi ⟨y, ⟨x2, x3, x4, x5, rfl⟩, sgy, hy, hP2, k2⟩
      have hyl : y.length ≤ 80000 := by omega
      refine q_par (cons_i ((w_draw (H := H2) (i := 0) (σ := [some (.ref p), some (.str y), some (.int (i : Int)), x3, x4, x5]) (many := (y.length : Int) + 1) rfl (fun H3 _ => ev_op (ev_cb (ea_cons (ev_var rfl) ea_nil) (rc_lenS (K := K) (z := y) (by omega))) ev_c rv_I0) (by omega) (by omega) h63) _ H2 (Keep.of_ex (Ex.refl H2)) hP2 (by omega) _ fun v H3 hv hP3 k3 => ?_))
      obtain ⟨a, rfl, ha⟩ := hv
      refine cons_i ((w_draw (H := H3) (i := 0) (σ := [some (.ref p), some (.str y), some (.int (i : Int)), x3, x4, x5]) (many := 3) rfl (fun _ _ => ev_c) (by decide) (by decide) h63) _ H3 (Keep.of_ex (Ex.refl H3)) hP3 (by omega) _ fun v H4 hv hP4 k4 => ?_)
      obtain ⟨b, rfl, hb⟩ := hv
      refine ⟨_, _, rfl, ?_⟩
      refine q_asgR ((w_pickV (H := H4) (i := 0) (σ := [some (.ref p), some (.str y), some (.int (i : Int)), some (.int (a : Int)), some (.int (b : Int)), x5]) (xs := [V.str "0", .str "1", .str "01", .str "11"]) rfl (fun H3 => ea_cons ev_c (ea_cons ev_c (ea_cons ev_c (ea_cons ev_c ea_nil)))) (by decide) (by decide) h63) _ H4 (Keep.of_ex (Ex.refl H4)) hP4 (by omega) _ fun v H5 hv hP5 k5 => ?_)
      have sp : ∃ u, v = .str u ∧ Sg u = true ∧ u.length ≤ 2 := by
        simp only [List.mem_cons, List.not_mem_nil, or_false] at hv
        rcases hv with rfl | rfl | rfl | rfl <;> exact ⟨_, rfl, by decide +kernel, by decide +kernel⟩
      obtain ⟨u, rfl, sgu, hu⟩ := sp
      have K5 := ((k2.trans k3).trans k4).trans k5
      have done : ∀ {r : L} {H6 H7 : Hp}, Sgs r → r.length ≤ y.length + 2 → Ex H5 H6 → Ex H6 H7 → ∃ y', (∃ x2 x3 x4 x5 : Option V, ([some (.ref p), some (.str (mk r)), some (.int (i : Int)), some (.int (a : Int)), some (.int (b : Int)), some (.str u)] : L2.St) = [some (.ref p), some (.str y'), x2, x3, x4, x5]) ∧ Sg y' = true ∧ y'.length ≤ 70000 + 2 * (i + 1) ∧ PenAt H7 p l cells (m + 1 + 3 * (i + 1)) ∧ Keep p H H7 :=
        fun s6 l6 e6 e7 => ⟨_, ⟨_, _, _, _, rfl⟩, sg_mk s6, by rw [mk_len]; omega, hP5.mono (e6.trans e7) (by omega), K5.trans (Keep.of_ex (e6.trans e7))⟩
      have st : ∀ n, Sgs ((TL.tl y).take n) := fun n c hc => sg_tl sgy c (List.mem_of_mem_take hc)
      have sd : ∀ n, Sgs ((TL.tl y).drop n) := fun n c hc => sg_tl sgy c (List.mem_of_mem_drop hc)
      have uE : u = mk (TL.tl u) := mk_eq rfl
      have ul : (TL.tl u).length ≤ 2 := by rw [← TL.len_tl]; exact hu
      have yl : (TL.tl y).length = y.length := (TL.len_tl y).symm
      have tk : ∀ n, ((TL.tl y).take n).length ≤ y.length := fun n => by rw [List.length_take]; omega
      have dl : ∀ n, ((TL.tl y).drop n).length ≤ y.length := fun n => by rw [List.length_drop]; omega
      have both : ∀ n n', n ≤ n' → ((TL.tl y).take n).length + ((TL.tl y).drop n').length ≤ y.length := fun n n' h => by rw [List.length_take, List.length_drop]; omega
      refine s_if (et_test (ev_op (ev_var rfl) ev_c (rv_eq rfl))) (fun _ H6 e6 => ?_) (fun _ H6 e6 => ?_)
      · have := both a a (Nat.le_refl _)
        refine s_asg (v := .str (mk ((TL.tl y).take a ++ TL.tl u ++ (TL.tl y).drop a))) (ev_is (ev_addS (ev_addS (first rfl hyl (ev_var rfl)) (ev_var rfl) (by rw [mk_len]; omega)) (rest rfl hyl (ev_var rfl)) (by rw [sapp_len, mk_len ((TL.tl y).take a), mk_len ((TL.tl y).drop _)]; omega)) ?_) fun H7 e7 => done (((st a).app (sg_tl sgu)).app (sd a)) ?_ e6 e7
        · rw [uE, mk_app, mk_app]
        · rw [List.length_append, List.length_append, List.length_take, List.length_drop]
          omega
      · by_cases b1 : b = 1
        · subst b1
          have := both a (a + 1) (by omega)
          refine s_asg (v := .str (mk ((TL.tl y).take a ++ (TL.tl y).drop (a + 1)))) (ev_if (b := true) (et_is (et_test (ev_op (ev_var rfl) ev_c (rv_eq rfl))) (decide_eq_true rfl)) (fun _ => ev_is (ev_addS (first rfl hyl (ev_var rfl)) (rest (a := a + 1) rfl hyl (ev_op (ev_var rfl) ev_c rv_I0)) (by rw [mk_len, mk_len]; omega)) (congrArg V.str (mk_app _ _))) fun z => absurd z (by decide)) fun H7 e7 => done ((st a).app (sd _)) ?_ e6 e7
          rw [List.length_append, List.length_take, List.length_drop]
          omega
        · have := both a (a + u.length) (by omega)
          refine s_asg (v := .str (mk ((TL.tl y).take a ++ TL.tl u ++ (TL.tl y).drop (a + u.length)))) (ev_if (b := false) (et_is (et_test (ev_op (ev_var rfl) ev_c (rv_eq rfl))) (by rw [vint_inj, decide_eq_false]; omega)) (fun z => absurd z (by decide)) fun _ => ev_is (ev_addS (ev_addS (first rfl hyl (ev_var rfl)) (ev_var rfl) (by rw [mk_len]; omega)) (rest (a := a + u.length) rfl hyl (ev_op (ev_var rfl) (ev_cb (ea_cons (ev_var rfl) ea_nil) (rc_lenS (K := K) (z := u) (by omega))) rv_I0)) (by rw [sapp_len, mk_len ((TL.tl y).take a), mk_len ((TL.tl y).drop _)]; omega)) ?_) fun H7 e7 => done (((st a).app (sg_tl sgu)).app (sd _)) ?_ e6 e7
          · rw [show mk ((TL.tl y).take a) ++ u = mk ((TL.tl y).take a ++ TL.tl u) by rw [← mk_app], mk_app]
          · rw [List.length_append, List.length_append, List.length_take, List.length_drop]
            omega
    · rintro σ' H2 ⟨y, ⟨x2, x3, x4, x5, rfl⟩, sgy, hy, hP2, k2⟩
      rw [Int.toNat_natCast] at hy hP2
      exact s_ret (v := .str y) (ev_var rfl) fun H3 e3 => k y H3 sgy (by omega) (hP2.mono e3 (by omega)) (k2.trans (Keep.of_ex e3))
/-! ### _law_due -/
abbrev nLdu : List Str := ["_law_plan_here", "_law_frame", "_law_at", "_law_letter_here"]
def spLdu (K : PySem.W.Frag) : Sp := fun vs H Q _ => ∃ (v : V) (z f : Str) (ps : List Pr), vs = [v, .str z] ∧ z.length ≤ 80000 ∧ Sg z = true ∧ PlanAt H v f ps ∧ Good f ps ∧ ∀ r H', Ex H H' → Dp K H' (.ref r) (dueD (dueF f ps z)) → Q (.ref r) H'
theorem scLdu : FnScope nLdu ["_law_plan_here", "_law_frame"] (defScope sLdu) := ⟨rfl, rfl, rfl, by decide +kernel, rfl, by decide +kernel, by decide +kernel⟩
theorem ok_Ldu {f : Addr} {fd : FuncData} (F : Fun K "_law_due" "_law_due" sLdu f fd) (T : GlbT mg) (GT : Gfn P w K mg base 2 "_law_taken" ["_law_plan_here", "_law_body_here"] spLta) : FnOk P w K mg base CX0 3 f fd ["_law_plan_here", "_law_frame"] (spLdu K) := by
  obtain ⟨fT, fdT, GT, kT, bT, gT⟩ := GT
  refine F.ok scLdu (fun vs H Q E h => ?_) (fun cdv A outer s H vs Q E hr h => ?_)
  · obtain ⟨v, z, f, ps, rfl, _⟩ := h
    rfl
  · obtain ⟨v, z, fl, ps, rfl, hz, sg, hv, g, k⟩ := h
    refine ⟨_, (pss_cons (ps_set (i := 2) scLdu.nd rfl (.inl rfl) (pe_bm PySem.F.plainAttrs_str PySem.F.slot_str_find PySem.F.type_str_find mt_find (pv 1) (pa_cons (pe_ix ix_tup (pv 0) pe_int (fun _ _ => rfl)) pa_nil)))
      (pss_cons (ps_if (PW.pt (pw_or (pt_cmpR op_lt (pv 2) pe_int (nomark _)) (pw_or1 (pt_cmpR op_ne (pe_op op_add (pv 2) (pe_callB call_len (by rfl) T.len PySem.boot_len (pa_cons (pe_ix ix_tup (pv 0) pe_int (fun _ _ => rfl)) pa_nil))) (pe_callB call_len (by rfl) T.len PySem.boot_len (pa_cons (pv 1) pa_nil)) (nomark _)))))
        (pss_one (ps_ret (pe_tup (pa_cons pe_str (pa_cons pe_str pa_nil))))) pss_nil)
      (pss_cons (ps_set (i := 3) scLdu.nd rfl (.inl rfl) (pe_call GT hr (by rfl) gT kT bT .nil pass0 (pa_cons (pv 0) (pa_cons (pe_slice sl_str (pv 1) po_none (po_some (pv 2))) pa_nil))))
      (pss_one (ps_ret (pe_ifExp (PW.pt (pw_and (pt_cmpR op_notN (pv 3) pe_non (nomark _)) (pw_and1 (pt_cmpR op_le (pe_callB call_len (by rfl) T.len PySem.boot_len (pa_cons (pv 3) pa_nil)) pe_int (nomark _))))) (pe_lst (pa_cons (pv 3) pa_nil)) (pe_tup (pa_cons pe_str (pa_cons pe_str pa_nil))))))))), ?_⟩
    obtain ⟨t, l, xs, rfl, ht, hl, hp⟩ := id hv
    have fl8 := sgB_iff.mp g.flag
    have flag : ∀ {x2 x3 : Option V} {H1 : Hp}, Ex H H1 → Ev (tOp (rIxT K) (tVar 0) (tC (.int 0))) [some (.ref t), some (.str z), x2, x3] H1 (.str fl) := fun e => ev_op (ev_var rfl) ev_c (rv_ixT_ (st_of (e _ _ ht)) (i := 0) rfl)
    have tupR : ∀ {D : Ends} {σ : L2.St} {H1 : Hp} {p : Str}, D.rt = Q → Ex H H1 → dueF fl ps z = .inl p → tRet (tTup (tCons (tC (.str "frame")) (tCons (tC (.str p)) tNil))) D σ H1 := fun {D σ H1 p} hD e hd => s_retU (eu_tup (ea_cons ev_c (ea_cons ev_c ea_nil)) (by show 2 ≤ 100000; decide)) fun r H2 hr e2 h2 => by
      rw [hD]
      refine k r H2 (e.trans e2) ?_
      rw [hd]
      exact .tup (st_of h2) (.cons (.str _) (.cons (.str _) .nil))
    refine q_asg (ev_find (ev_var rfl) (flag (Ex.refl H))) fun H1 e1 => ?_
    have ff := PyProof.Rows.fact_find z fl
    refine q_when (b := decide (Txt.find z fl < 0 ∨ Txt.find z fl + (fl.length : Int) ≠ (z.length : Int))) (et_is (et_or (et_test (ev_op (ev_var rfl) ev_c rv_I0)) fun _ => et_test (ev_op (ev_op (ev_var rfl) (ev_cb (ea_cons (flag e1) ea_nil) (rc_lenS (K := K) (z := fl) (by omega))) rv_I0) (ev_cb (ea_cons (ev_var rfl) ea_nil) (rc_lenS (K := K) (z := z) (by omega))) (rv_ne rfl))) ?_) (fun hb H2 e2 => ?_) (fun hb H2 e2 => ?_)
    · rw [vint_inj, Bool.eq_iff_iff, Bool.or_eq_true, decide_eq_true_iff, Bool.not_eq_true', decide_eq_false_iff_not, decide_eq_true_iff]
    · have hb := of_decide_eq_true hb
      refine tupR rfl (e1.trans e2) ?_
      unfold dueF
      rw [if_pos hb]
    have hb := of_decide_eq_false hb
    have E2 := e1.trans e2
    obtain ⟨n, hn⟩ := Int.eq_ofNat_of_zero_le (show 0 ≤ Txt.find z fl by omega)
    have due : dueF fl ps z = match tkn (lp ps) [] ((TL.tl z).take n) with
        | none => .inl "body"
        | some l => if l.length ≤ 200 then .inr l else .inl "body" := by
      unfold dueF
      rw [if_neg hb, hn]
      rfl
    have zl : (TL.tl z).length ≤ 80000 := by rw [← TL.len_tl]; exact hz
    have tl_ : ((TL.tl z).take n).length ≤ 80000 := by rw [List.length_take]; omega
    refine q_asg (v := tknV (tkn (lp ps) [] ((TL.tl z).take n))) (ev_call (ea_cons (ev_var rfl) (ea_cons (x := .str (mk ((TL.tl z).take n))) (ev_is (ev_slS (z := z) (ev_var rfl) eo_none (eo_some (i := (n : Int)) (ev_is (ev_var rfl) (by rw [hn]))) (by omega)) (congrArg V.str (mk_eq (tl_first z n)))) ea_nil))
      fun H4 e4 Q4 q4 E4 => ⟨_, _, fl, ps, rfl, by rw [mk_len]; omega, hv.mono (E2.trans e4), g, q4⟩) fun H3 e3 => ?_
    have E3 := E2.trans e3
    cases hk : tkn (lp ps) [] ((TL.tl z).take n) with
    | none =>
      rw [hk] at due
      refine (et_and (b := true) (et_is (et_test (ev_op (ev_var rfl) ev_c rv_notN)) (show (!decide (tknV none = V.non)) = false from rfl)) fun z => absurd z (by decide)) H3 (Ex.refl H3) _ fun H4 e4 => iteF ?_
      exact tupR (D := { nx := fun _ H' => Q .non H', rt := Q }) (p := "body") rfl (E3.trans e4) due
    | some r =>
      rw [hk] at due
      have rl := tkn_len hk
      refine (et_is (et_and (et_is (et_test (ev_op (ev_var rfl) ev_c rv_notN)) (show (!decide (tknV (some r) = V.non)) = true from rfl)) fun _ => et_test (ev_op (ev_cb (ea_cons (ev_var rfl) ea_nil) (rc_lenS (K := K) (z := mk r) (by rw [mk_len]; omega))) ev_c rv_I0)) (show _ = decide (r.length ≤ 200) by rw [Bool.true_and, mk_len, decide_eq_decide]; omega)) H3 (Ex.refl H3) _ fun H4 e4 => ?_
      by_cases hr2 : r.length ≤ 200
      · rw [decide_eq_true hr2]
        refine iteT (lst_i (cons_i ⟨_, rfl, ⟨by show 1 ≤ sizeLine; decide, fun q hq => k q _ ((E3.trans e4).trans (Ex.new hq)) ?_⟩⟩))
        rw [due.trans (if_pos hr2)]
        exact .lst (sq_of upd_same) (.cons (.str _) .nil)
      · rw [decide_eq_false hr2]
        refine iteF ?_
        exact tupR (D := { nx := fun _ H' => Q .non H', rt := Q }) (p := "body") rfl (E3.trans e4) (due.trans (if_neg hr2))
end
end K09
namespace L2
open PySem PySem.Spec PyProof.Rows Evl
mutual
theorem Ds.up {K : PySem.W.Frag} {H H' : Hp} (e : Ex H H') : ∀ (d : PyData) {v : V}, Ds K H v d → Ds K H' v d
  | .none, _, .non => .non
  | .bool _, _, .bl b => .bl b
  | .int _, _, .int i => .int i
  | .str _, _, .str x => .str x
  | .list ds, _, .lst h n a => .lst (ex_l e h) n (Ds.ups e ds a)
  | .tuple ds, _, .tup h a => .tup (ex_t e h) (Ds.ups e ds a)
  | .dict _, _, .one h => .one (e _ _ h)
  | .dict _, _, .emp h => .emp (e _ _ h)
theorem Ds.ups {K : PySem.W.Frag} {H H' : Hp} (e : Ex H H') : ∀ (ds : List PyData) {vs : List V}, DsAll K H vs ds → DsAll K H' vs ds
  | [], _, .nil => .nil
  | d :: ds, _, .cons h a => .cons (Ds.up e d h) (Ds.ups e ds a)
end
end L2
namespace L2
open PySem PySem.Spec PyProof.Rows
/-- a def as it stands behind the top, its code object known -/
structure FunC (K : PySem.W.Frag) (x qual : Str) (st : Stmt) (f : Addr) (fd : FuncData) (c : Addr) : Prop where
  ex : ∃ (oc : Value) (od : Option Addr) (kV doc pm : Value) (an : Option Addr) (ct : Value) (osl : Array (Option Value)),
    fd = PySem.W.fnOf x qual (defArgs st) (defBody st) (defScope st) .none kV doc pm an (.ref c) ct ∧ K.lookup f = some ⟨oc, od, .func fd, osl⟩ ∧ PySem.W.codeIn K (.ref c) qual = true
  kp : PySem.W.keepIn K (.ref f) = true
section
variable {P : Program} {w : World} {K : PySem.W.Frag} {mg : Str → Option Value} {base : Heap}
theorem FunC.fn {x qual : Str} {st : Stmt} {f c : Addr} {fd : FuncData} (F : FunC K x qual st f fd c) : Fun K x qual st f fd := by
  obtain ⟨oc, od, kV, doc, pm, an, ct, osl, h⟩ := F.ex
  exact ⟨⟨oc, od, kV, doc, pm, an, .ref c, ct, osl, h⟩, F.kp⟩
/-- such a def, walked where no repr runs -/
theorem FunC.okG {x qual : Str} {st : Stmt} {f c : Addr} {fd : FuncData} {N ps : List Str} {k : Nat} {sp : Sp} (F : FunC K x qual st f fd c) (S : FnScope N ps (defScope st)) (len : ∀ vs H Q E, sp vs H Q E → vs.length = ps.length)
    (hbody : ∀ (A : Around) (outer : List Env) (s : Shared) (H : Hp) (vs : List V) (Q : VK) (E : XK), Qt A → Room k (A.deeper (envOfC qual (defScope st) s.heap.objs.size f (.ref c))) → sp vs H Q E →
      ∃ t, PSs (cxOf CX0 P w K mg base N qual (defScope st) f (.ref c) A outer s H E).nox (defBody st) t ∧ t { nx := fun _ H' => Q .non H', rt := Q } (start N vs) H) : FnG P w K mg base (k + 1) f fd ps sp := by
  obtain ⟨oc, od, kV, doc, pm, an, ct, osl, rfl, lk, hcd⟩ := F.ex
  refine ⟨len, fun A outer s H args us vs Q E gd room e0 bound rel hsp => ?_⟩
  obtain ⟨t, ht, hq⟩ := hbody A outer s H vs Q E gd (room.deeper _) hsp
  have many := len _ _ _ _ hsp
  have inK : K.In s.heap := e0.mod.kin.keeps fun b o e => (e0.bs b o e).1
  have free : s.heap.NoLimit := e0.mod.nolimit.keeps fun b o e => (e0.bs b o e).1
  refine codeAny_call_function room.depth (inK _ _ lk) rfl S.co S.gen rfl (PySem.W.codeRec_of inK hcd) (bound _ _ _ _ ?_)
  have kinds : ∀ y ∈ ps.zip us, (defScope st).names.lookup y.1 = some .local ∨ ((defScope st).names.lookup y.1 = some .cell ∧ ((cellsFrom (s.heap.objs.size + 1) (defScope st).names []).lookup y.1).isSome = true) := by
    rintro ⟨n, v⟩ hy
    exact (S.par n (List.of_mem_zip hy).1).imp id fun q => ⟨q, PySem.W.cellsFrom_some _ _ _ (.inl q)⟩
  refine wpAny_newFunctionEnv_cells S.kind kinds fun env he s1 x => ?_
  cases he
  refine ⟨free.keeps x.toInCall.keep, codeAny_func ?_⟩
  refine wpAny_mono (ht.nox.run [] s1 (start N vs) H _ (inv_start S room.hd e0 many rel x) hq) (fun fl s' hs => ?_) fun e s' hs => hs
  cases fl with
  | ret u =>
    obtain ⟨v, σ', H', J, rv, q⟩ := hs
    exact ⟨v, H', J.os, J.bare, J.base, J.hok, rv, q⟩
  | next =>
    obtain ⟨σ', H', J, q⟩ := hs
    exact ⟨V.non, H', J.os, J.bare, J.base, J.hok, rfl, q⟩
  | brk => exact (hs.choose_spec.choose_spec.2).elim
  | cont => exact (hs.choose_spec.choose_spec.2).elim
end
end L2
namespace K09
open PySem L2 Evl Gr ClX OwX OpX StX LamX LamY EXC ClK RdX StS EqT EnT SrtT Fr
/-- what stays: all but the pen and the tables -/
def Still (p : Addr) (H H' : Hp) : Prop := ∀ b o, H b = some o → b ≠ p → (∀ ps, o ≠ .tbl ps) → H' b = some o
section
variable {p l a : Addr} {H H' H2 : Hp} {cells : List Int} {m n : Nat} {T : List (Addr × Str)}
theorem still_keep (k : Keep p H H') : Still p H H' := fun b o h hb _ => k b o h hb
theorem still_ext (e : ExtN H H') : Still p H H' := fun b o h _ hn => e b o h hn
theorem still_ex (e : Ex H H') : Still p H H' := fun b o h _ _ => e b o h
theorem Still.trans (h : Still p H H') (h' : Still p H' H2) : Still p H H2 := fun b o hb n1 n2 => h' b o (h b o hb n1 n2) n1 n2
theorem Still.refl : Still p H H := fun _ _ h _ _ => h
theorem still_lst {xs : List V} (k : Still p H H') (h : H a = some (.lst xs)) (n : a ≠ p) : H' a = some (.lst xs) := k _ _ h n fun _ z => by cases z
theorem still_tup {xs : List V} (hP : PenAt H p l cells m) (k : Still p H H') (h : H a = some (.tup xs)) : H' a = some (.tup xs) := by
  obtain ⟨_, _, hp, _⟩ := hP
  exact k _ _ h (fun z => by rw [z, hp] at h; cases h) fun _ z => by cases z
theorem pen_there (hP : PenAt H p l cells m) : H p ≠ none := fun z => by
  obtain ⟨_, _, hp, _⟩ := hP
  rw [hp] at z
  cases z
theorem pen_lst (hP : PenAt H p l cells m) : ∃ xs, H p = some (.lst xs) := by
  obtain ⟨_, _, hp, _⟩ := hP
  exact ⟨_, hp⟩
/-- the pen stays where its list and its cells do -/
theorem pen_still (hP : PenAt H p l cells m) (k : Still p H H') (same : H' p = H p) : PenAt H' p l cells m := by
  obtain ⟨c, r, h1, h2, h3⟩ := hP
  refine ⟨c, r, same.trans h1, k _ _ h2 (fun z => ?_) (fun ps z => by cases z), h3⟩
  rw [z, h1] at h2
  have e := HO.lst.inj (Option.some.inj h2)
  cases cells with
  | nil => cases e
  | cons x xs => cases e
theorem pen_ext (hP : PenAt H p l cells m) (e : ExtN H H') : PenAt H' p l cells m := by
  obtain ⟨xs, hp⟩ := pen_lst hP
  exact pen_still hP (still_ext e) ((e _ _ hp fun ps z => by cases z).trans hp.symm)
theorem tabs_keep (h : Tabs T H) (hP : PenAt H p l cells m) (k : Keep p H H') : Tabs T H' := fun q hq => by
  obtain ⟨_, _, hp, _⟩ := hP
  obtain ⟨ps, h1, h2, h3⟩ := h q hq
  refine ⟨ps, k _ _ h1 (fun z => by rw [z, hp] at h1; cases h1), h2, fun pos cv hc => ?_⟩
  obtain ⟨c, e1, e2⟩ := h3 pos cv hc
  exact ⟨c, e1, k _ _ e2 (fun z => by rw [z, hp] at e2; unfold CodeO at e2; cases e2)⟩
theorem PlanAt.still {v : V} {f : Str} {ps : List Pr} (hP : PenAt H p l cells m) (kp : Still p H H') (h : PlanAt H v f ps) : PlanAt H' v f ps := by
  obtain ⟨t, b, xs, h1, h2, h3, h4⟩ := h
  obtain ⟨c, r, hp, _⟩ := hP
  refine ⟨t, b, xs, h1, kp _ _ h2 (fun z => ?_) (fun ps z => by cases z), kp _ _ h3 (fun z => ?_) (fun ps z => by cases z), h4.to fun t q e => kp _ _ e (fun z => ?_) fun ps z => by cases z⟩
  · rw [z, hp] at h2
    cases h2
  · rw [z, hp] at h3
    have e := HO.lst.inj (Option.some.inj h3)
    subst e
    obtain ⟨t, q, e, _⟩ := h4.at (k := 1) (x := V.int c) rfl
    cases e
  · rw [z, hp] at e
    cases e
end
/-- what repr shows -/
structure Shown (K : PySem.W.Frag) (H : Hp) (v : V) (d : PyData) : Prop where
  ds : Ds K H v d
  sh : d.showable = true
  dp : d.depth ≤ 60
  sz : d.shown.length ≤ sizeLine
theorem Shown.mono {K : PySem.W.Frag} {H H' : Hp} {v : V} {d : PyData} (e : Ex H H') (h : Shown K H v d) : Shown K H' v d := ⟨Ds.up e d h.ds, h.sh, h.dp, h.sz⟩
theorem RuleAt.still {K : PySem.W.Frag} {C p l o : Addr} {cells : List Int} {m : Nat} {H H' : Hp} {f : Str} {ps : List Pr} (hP : PenAt H p l cells m) (k : Still p H H') (h : RuleAt K C H o f ps) : RuleAt K C H' o f ps := by
  obtain ⟨dx, q, vs, h1, h2, h3, h4⟩ := h
  obtain ⟨_, _, hp, _⟩ := hP
  have up : ∀ {a : Addr} {u : HO}, H a = some u → (∀ xs, u ≠ .lst xs) → (∀ ps, u ≠ .tbl ps) → H' a = some u := fun e n t => k _ _ e (fun z => by
    rw [z, hp] at e
    exact n _ (Option.some.inj e).symm) t
  refine ⟨dx, q, vs, up h1 (fun _ z => by cases z) (fun _ z => by cases z), ?_, h3.to fun t p e => up e (fun _ z => by cases z) (fun _ z => by cases z), h4⟩
  rcases h2 with (h | ⟨w, h⟩) | h
  · exact .inl (.inl (up h (fun _ z => by cases z) (fun _ z => by cases z)))
  · exact .inl (.inr ⟨w, up h (fun _ z => by cases z) (fun _ z => by cases z)⟩)
  · exact .inr h
/-! ### _law_heard -/
abbrev sHd : Stmt := top 37
abbrev nHd : List Str := ["_law_ask", "_law_caught", "_law_found", "error"]
theorem scHd : FnScope nHd ["_law_ask"] (defScope sHd) := ⟨rfl, rfl, rfl, by decide +kernel, rfl, by decide +kernel, by decide +kernel⟩
/-- what is told of an error; the heap at the start is H0 -/
def HdE (K : PySem.W.Frag) (cL cF cC : Addr) (H0 : Hp) (Q : VK) : XK := fun cls d H1 => ∃ dd vs, d = some dd ∧ ((cls = .ref cL ∧ ∃ v d0, H1 dd = some (.xd [("value", v)]) ∧ Shown K H1 v d0 ∧ vs = [V.str "letter", .str d0.shown]) ∨
  (cls = .ref cF ∧ ∃ v, H1 dd = some (.xd [("part", v)]) ∧ vs = [V.str "frame", v]) ∨ (cls = .ref cC ∧ ∃ v, H1 dd = some (.xd [("part", v)]) ∧ vs = [V.str "clashing", v])) ∧ ∀ H2 l, Ex H0 H2 → H2 l = some (.tup vs) → Q (.ref l) H2
def THd (K : PySem.W.Frag) (cL cF cC : Addr) : (XK → Hp → VK → Prop) → Hp → VK → Prop := fun tl H Q => ∀ H1, Ex H H1 → tl (fun cls d H' => Ex H1 H' ∧ HdE K cL cF cC H Q cls d H') H1 fun v H2 => [v].length ≤ sizeLine ∧ ∀ l, H2 l = none → Q (.ref l) (upd H2 l (.lst [v]))
structure HdK (K : PySem.W.Frag) (mg : Str → Option Value) (B cL cF cC : Addr) : Prop where
  gP : mg "PostError" = some (.ref B)
  gL : mg "BadLetter" = some (.ref cL)
  gF : mg "BadFrame" = some (.ref cF)
  gC : mg "Clashing" = some (.ref cC)
  inst : mg "isinstance" = none
  repr : mg "repr" = none
  len : mg "len" = none
  hit : ∀ x ∈ [cL, cF, cC], PySem.W.exmOne K (.ref x) (.ref B) = some true
  kit : ∀ x ∈ [cL, cF, cC], ∀ y ∈ [cL, cF, cC], PySem.W.kitOne K (.ref x) (.ref y) = some (decide (y = x))
  ne1 : cF ≠ cL
  ne2 : cC ≠ cL
  ne3 : cC ≠ cF
  xc : ∀ x ∈ [cL, cF, cC], XcC K x
  fl : PySem.W.findIn K (.ref cL) "value" = some none
  ff : PySem.W.findIn K (.ref cF) "part" = some none
  fc : PySem.W.findIn K (.ref cC) "part" = some none
section
variable {K : PySem.W.Frag} {σ : L2.St} {H : Hp} {ta tb te tl : TE}
theorem ev_xcF {a C d : Addr} {fs : List (Str × V)} {v : V} {f : Str} (h : Ev te σ H (.ref a)) (ha : H a = some (ExC (.ref C) (some d) a)) (hd : H d = some (.xd fs)) (xc : XcC K C) (own : PySem.W.findIn K (.ref C) f = some none) (l : fs.lookup f = some v) : Ev (tXcF K f te) σ H v := fun H1 e Q q =>
  h H1 e _ fun H2 e2 => ⟨a, C, d, fs, v, rfl, (e.trans e2) _ _ ha, (e.trans e2) _ _ hd, xc, own, l, q H2 e2⟩
theorem rc_xc {a C D d : Addr} {fs : List (Str × V)} {b : Bool} (ha : H a = some (ExC (.ref C) (some d) a)) (hd : H d = some (.xd fs)) (xc : XcC K C) (hk : PySem.W.kitOne K (.ref C) (.ref D) = some b) : RC (rXc K) [.ref a, .ref D] H (.bl b) := fun H1 e Q q =>
  ⟨a, C, some d, _, _, b, rfl, .own D, e _ _ ha, fun dd z => ⟨fs, by cases z; exact e _ _ hd⟩, xc, hk, q H1 (Ex.refl H1)⟩
theorem rc_shown {v : V} {d : PyData} (h : Shown K H v d) : RC (rRepr K) [v] H (.str d.shown) := fun H1 e Q q => ⟨v, d, rfl, Ds.up e d h.ds, h.sh, h.dp, h.sz, q H1 (Ex.refl H1)⟩
end
theorem heard_gives {X : Cx} {q : Str} {g : Addr} {cdg : Value} {B cL cF cC : Addr} {k : Nat} (gd : Qt X.A) (hr : Room k X.A) (T : HdK X.K X.mg B cL cF cC) : GivesS X nHd "_law_heard" (defScope sHd) g cdg (defBody sHd) "_law_ask" q (THd X.K cL cF cC) := by
  intro f c' s H Q tl act hc h
  have hu : (X.A.deeper (PyProof.Rows.envOfC "_law_heard" (defScope sHd) s.heap.objs.size g cdg)).units + 64 < cLine := by
    have := hr.un
    show X.A.units + 3 + 64 < cLine
    omega
  refine ⟨_, (pss_cons (ps_par (i := 1) (j := 2) rfl scHd.nd rfl rfl (by decide) rfl rfl (pa_cons pe_non (pa_cons (pe_lst pa_nil) pa_nil)) (by rfl))
      (pss_cons (ps_try_held (X := (cxOf C8.CX0 X.prog X.w X.K X.mg X.base nHd "_law_heard" (defScope sHd) g cdg X.A X.stack s H C8.E0).nox) (c := .ref B) (i := 3)
      (tb := fun W D σ H => σ[0]? = some (some (.ref f)) ∧ H c' = some (CodeO c' q) ∧ ∃ E : XK, (∀ cls d G', E cls d G' → W cls d σ G') ∧ tl E H fun v H1 => [v].length ≤ sizeLine ∧ ∀ l, H1 l = none → D.rt (.ref l) (upd H1 l (.lst [v])))
      rfl rfl rfl scHd.nd rfl rfl ⟨rfl, by decide, .inl T.gP⟩ (fun W pn xe tk _ => ?_) (fun a oe cls d pn _ _ => (pss_one (ps_set (i := 1) scHd.nd rfl (.inl rfl) (pv 3)))))
      (pss_cons (ps_if (pt_val (pe_callB call_xc (by rfl) T.inst (by decide +kernel) (pa_cons (pv 1) (pa_cons (pe_glob (v := .ref cL) (by rfl) T.gL (by rfl)) pa_nil))))
      (pss_one (ps_expr (pe_bm PySem.F.plainAttrs_list PySem.F.slot_list_append PySem.F.type_list_append mt_append (pv 2) (pa_cons (pe_tup (pa_cons pe_str (pa_cons (pe_callB (call_reprD gd hu) (by rfl) T.repr (by decide +kernel) (pa_cons (pe_xcF (pv 1)) pa_nil)) pa_nil))) pa_nil)))) pss_nil)
      (pss_cons (ps_if (pt_val (pe_callB call_xc (by rfl) T.inst (by decide +kernel) (pa_cons (pv 1) (pa_cons (pe_glob (v := .ref cF) (by rfl) T.gF (by rfl)) pa_nil))))
      (pss_one (ps_expr (pe_bm PySem.F.plainAttrs_list PySem.F.slot_list_append PySem.F.type_list_append mt_append (pv 2) (pa_cons (pe_tup (pa_cons pe_str (pa_cons (pe_xcF (pv 1)) pa_nil))) pa_nil)))) pss_nil)
      (pss_cons (ps_if (pt_val (pe_callB call_xc (by rfl) T.inst (by decide +kernel) (pa_cons (pv 1) (pa_cons (pe_glob (v := .ref cC) (by rfl) T.gC (by rfl)) pa_nil))))
      (pss_one (ps_expr (pe_bm PySem.F.plainAttrs_list PySem.F.slot_list_append PySem.F.type_list_append mt_append (pv 2) (pa_cons (pe_tup (pa_cons pe_str (pa_cons (pe_xcF (pv 1)) pa_nil))) pa_nil)))) pss_nil)
      (pss_one (ps_ret (pe_ifExp (pt_cmpR op_eq (pe_callB call_len_seq (by rfl) T.len PySem.boot_len (pa_cons (pv 2) pa_nil)) pe_int (nomark _)) (pe_ix ix_list (pv 2) pe_int (fun _ _ => rfl)) (pe_tup (pa_cons pe_str pa_nil)))))))))), ?_⟩
  · refine ⟨fun pins s' σ H D I h' => ?_⟩
    have hp := act W pn xe ⟨239, 16, 239, 24⟩ ⟨239, 16, 239, 26⟩ tk
    have hq := pss_one (ps_ret (pos := ⟨239, 8, 239, 27⟩) (pe_lst (pos := ⟨239, 15, 239, 27⟩) (pa_cons hp pa_nil)))
    exact hq.run pins s' σ H D I h'
  · have mL : cL ∈ [cL, cF, cC] := by simp
    have mF : cF ∈ [cL, cF, cC] := by simp
    have mC : cC ∈ [cL, cF, cC] := by simp
    have n1 : cL ≠ cF := fun e => T.ne1 e.symm
    have n2 : cL ≠ cC := fun e => T.ne2 e.symm
    have n3 : cF ≠ cC := fun e => T.ne3 e.symm
    refine q_par (cons_i (c_i (cons_i (lst_i ⟨by show 0 ≤ sizeLine; decide, fun b hb => ⟨_, _, rfl, ?_⟩⟩))))
    have eb := Ex.new (o := .lst []) hb
    refine ⟨rfl, eb _ _ hc, fun cls d H' => Ex (upd H b (.lst [])) H' ∧ HdE X.K cL cF cC H Q cls d H', fun cls d H1 hE => ?_, h _ eb⟩
    obtain ⟨e1, dd, vs, rfl, hE, kk⟩ := hE
    have hb1 := e1 _ _ (upd_same : (upd H b (.lst [])) b = some (.lst []))
    have E1 := eb.trans e1
    have fin : ∀ {a : Addr} {H9 : Hp} {t : Addr} {D : Ends}, D.rt = Q → Ex H H9 → H9 b = some (.lst [.ref t]) → H9 t = some (.tup vs) →
        tRet (tIf (tTest (tOp rEq (tCB (fun xs H Q => ∃ p ys, xs = [V.ref p] ∧ (SqL X.K H p ys ∨ SqT X.K H p ys) ∧ Q (.int ys.length) H) (tCons (tVar 2) tNil)) (tC (.int 1)))) (tOp (rIxL X.K) (tVar 2) (tC (.int 0))) (tTup (tCons (tC (.str "odd")) tNil))) D [some (.ref f), some (.ref a), some (.ref b), none] H9 := fun {a H9 t D} hD e9 hb9 ht9 => by
      refine s_ret (v := .ref t) (ev_if (b := true) (et_is (et_test (ev_op (ev_lenSq (ev_var rfl) (sq_of hb9)) ev_c (rv_eq rfl))) rfl) (fun _ => ev_op (ev_var rfl) ev_c (rv_ixL (sq_of hb9) rfl)) fun z => absurd z (by decide)) fun H10 e10 => ?_
      rw [hD]
      exact kk H10 t (e9.trans e10) (e10 _ _ ht9)
    have isi : ∀ {x y a : Addr} {H2 : Hp} {fs : List (Str × V)}, x ∈ [cL, cF, cC] → y ∈ [cL, cF, cC] → H2 a = some (ExC (.ref x) (some dd) a) → H2 dd = some (.xd fs) → EvT (tB (tCB (rXc X.K) (tCons (tVar 1) (tCons (tC (.ref y)) tNil)))) [some (.ref f), some (.ref a), some (.ref b), none] H2 (decide (y = x)) := fun hx hy ha hd => et_B (ev_cb (ea_cons (ev_var rfl) (ea_cons ev_c ea_nil)) (rc_xc ha hd (T.xc _ hx) (T.kit _ hx _ hy)))
    have put : ∀ {a : Addr} {H2 : Hp} {t : TA} {D : Ends}, Ex H1 H2 → EvA t [some (.ref f), some (.ref a), some (.ref b), none] H2 vs → vs.length ≤ 10 → (∀ u H3, Ex H H3 → H3 b = some (.lst [.ref u]) → H3 u = some (.tup vs) → (∀ c o, c ≠ b → H2 c = some o → H3 c = some o) → D.nx [some (.ref f), some (.ref a), some (.ref b), none] H3) →
        tDrop (tBM X.K "list" rAppend (tVar 2) (tCons (tTup t) tNil)) D [some (.ref f), some (.ref a), some (.ref b), none] H2 := fun {a H2 t D} e2 ht hl kn => by
      refine s_appU (e2 _ _ hb1) (ev_var rfl) (eu_tup ht (by omega)) (by show 0 < _; omega) fun u H3 hu e3 h3 => ?_
      have hb3 := e3 _ _ (e2 _ _ hb1)
      have ub : u ≠ b := fun z => by rw [z, hb3] at h3; cases h3
      refine kn u _ (Ex.mut (E1.trans (e2.trans e3)) hb) upd_same (by rw [upd_ne ub]; exact h3) fun c o hc ho => by rw [upd_ne hc]; exact e3 _ _ ho
    have off : ∀ {c : Addr} {o : HO}, H1 c = some o → (∀ xs, o ≠ .lst xs) → c ≠ b := fun h1 h2 z => by
      rw [z, hb1] at h1
      exact h2 _ (Option.some.inj h1).symm
    have start : ∀ {x : Addr} {fs : List (Str × V)}, H1 dd = some (.xd fs) → ∀ a, H1 a = none → ∃ H2, H2 = upd H1 a (ExC (.ref x) (some dd) a) ∧ Ex H1 H2 ∧ H2 a = some (ExC (.ref x) (some dd) a) ∧ H2 dd = some (.xd fs) ∧ a ≠ b := fun hd a ha => by
      refine ⟨_, rfl, Ex.new ha, upd_same, (Ex.new ha) _ _ hd, fun z => ?_⟩
      rw [z, hb1] at ha
      cases ha
    rcases hE with ⟨rfl, v, d0, hd, hs, rfl⟩ | ⟨rfl, v, hd, rfl⟩ | ⟨rfl, v, hd, rfl⟩
    · refine ⟨T.hit _ mL, fun a ha => ?_⟩
      obtain ⟨H2, eH, e2, ha2, hd2, ab⟩ := start (x := cL) hd a ha
      refine ⟨_, rfl, ?_⟩
      dsimp only [gName, List.set]
      rw [← eH]
      have db := off hd (fun _ z => by cases z)
      refine q_when (b := true) (et_is (isi mL mL ha2 hd2) (decide_eq_true rfl)) (fun _ H3 e3 => ?_) (fun z => absurd z (by decide))
      refine put (e2.trans e3) (ea_cons ev_c (ea_cons (ev_cb (ea_cons (ev_xcF (ev_var rfl) (e3 _ _ ha2) (e3 _ _ hd2) (T.xc _ mL) T.fl rfl) ea_nil) (rc_shown (hs.mono (e2.trans e3)))) ea_nil)) (by show 2 ≤ 10; decide) fun t H4 E4 hb4 ht4 keep4 => ?_
      have ha4 := keep4 a _ ab (e3 _ _ ha2)
      have hd4 := keep4 dd _ db (e3 _ _ hd2)
      refine q_when (b := false) (et_is (isi mL mF ha4 hd4) (decide_eq_false T.ne1)) (fun z => absurd z (by decide)) (fun _ H5 e5 => ?_)
      refine q_when (b := false) (et_is (isi mL mC (e5 _ _ ha4) (e5 _ _ hd4)) (decide_eq_false T.ne2)) (fun z => absurd z (by decide)) (fun _ H6 e6 => ?_)
      exact fin rfl (E4.trans (e5.trans e6)) ((e5.trans e6) _ _ hb4) ((e5.trans e6) _ _ ht4)
    · refine ⟨T.hit _ mF, fun a ha => ?_⟩
      obtain ⟨H2, eH, e2, ha2, hd2, ab⟩ := start (x := cF) hd a ha
      refine ⟨_, rfl, ?_⟩
      dsimp only [gName, List.set]
      rw [← eH]
      have db := off hd (fun _ z => by cases z)
      refine q_when (b := false) (et_is (isi mF mL ha2 hd2) (decide_eq_false n1)) (fun z => absurd z (by decide)) (fun _ H3 e3 => ?_)
      refine q_when (b := true) (et_is (isi mF mF (e3 _ _ ha2) (e3 _ _ hd2)) (decide_eq_true rfl)) (fun _ H4 e4 => ?_) (fun z => absurd z (by decide))
      have e34 := e3.trans e4
      refine put (e2.trans e34) (ea_cons ev_c (ea_cons (ev_xcF (ev_var rfl) (e34 _ _ ha2) (e34 _ _ hd2) (T.xc _ mF) T.ff rfl) ea_nil)) (by show 2 ≤ 10; decide) fun t H5 E5 hb5 ht5 keep5 => ?_
      have ha5 := keep5 a _ ab (e34 _ _ ha2)
      have hd5 := keep5 dd _ db (e34 _ _ hd2)
      refine q_when (b := false) (et_is (isi mF mC ha5 hd5) (decide_eq_false T.ne3)) (fun z => absurd z (by decide)) (fun _ H6 e6 => ?_)
      exact fin rfl (E5.trans e6) (e6 _ _ hb5) (e6 _ _ ht5)
    · refine ⟨T.hit _ mC, fun a ha => ?_⟩
      obtain ⟨H2, eH, e2, ha2, hd2, ab⟩ := start (x := cC) hd a ha
      refine ⟨_, rfl, ?_⟩
      dsimp only [gName, List.set]
      rw [← eH]
      have db := off hd (fun _ z => by cases z)
      refine q_when (b := false) (et_is (isi mC mL ha2 hd2) (decide_eq_false n2)) (fun z => absurd z (by decide)) (fun _ H3 e3 => ?_)
      refine q_when (b := false) (et_is (isi mC mF (e3 _ _ ha2) (e3 _ _ hd2)) (decide_eq_false n3)) (fun z => absurd z (by decide)) (fun _ H4 e4 => ?_)
      have e34 := e3.trans e4
      refine q_when (b := true) (et_is (isi mC mC (e34 _ _ ha2) (e34 _ _ hd2)) (decide_eq_true rfl)) (fun _ H5 e5 => ?_) (fun z => absurd z (by decide))
      have e35 := e34.trans e5
      refine put (e2.trans e35) (ea_cons ev_c (ea_cons (ev_xcF (ev_var rfl) (e35 _ _ ha2) (e35 _ _ hd2) (T.xc _ mC) T.fc rfl) ea_nil)) (by show 2 ≤ 10; decide) fun t H6 E6 hb6 ht6 keep6 => ?_
      exact fin rfl E6 hb6 ht6
/-- _law_heard(lambda: body) -/
theorem pe_heard {X : Cx} {T : List (Addr × Str)} {scope : Scope} {params : Arguments} {body : Expr} {c Pc fH B cL cF cC : Addr} {fdH : FuncData} {t : XK → TE} {p lpos pos : PySem.Pos}
    (hg : Gl X "_law_heard") (gH : X.mg "_law_heard" = some (.ref fH)) (FH : Fun X.K "_law_heard" "_law_heard" sHd fH fdH) (bH : Binds X.K fdH ["_law_ask"] []) (HK : HdK X.K X.mg B cL cF cC) (gd : Qt X.A)
    (TB : TabB X.base X.mg c Pc) (hcode : X.env.code = .ref c) (hT : (Pc, X.env.qual ++ nm) ∈ T) (hu : ∀ p ∈ T, p.1 = Pc → p.2 = X.env.qual ++ nm) (hr : Room 8 X.A) (L : LamS X.env.scope scope) (hdef : defaultsOf params X.env = ([], []))
    (hbind : ∀ (q : Str) (cl : List (Str × Addr)) (pm cv ctv : Value), bindArgs (PySem.W.kla_fn nm q params body scope cl pm cv ctv) ⟨[], []⟩ = pure [])
    (hbody : ∀ (A : Around) (outer : List Env) (s : Shared) (H : Hp) (E : XK) (f c' : Addr), Room 6 (A.deeper (lamEnv X scope s.heap.objs.size f c')) → PE (lamCx X A outer s H E scope f c') body (t E)) :
    PE X (.Call (.Name "_law_heard" p) [.Lambda params body scope lpos] [] pos) (tLam T (THd X.K cL cF cC) t) := by
  obtain ⟨ocH, odH, kVH, docH, pmH, anH, cdH, ctH, oslH, rfl, lkH, hcH⟩ := FH.ex
  exact pe_lamcallS (T := T) (TT := THd X.K cL cF cC) (k := 6) (N := nHd) (a := "_law_ask") hg gH FH.kp lkH hcH bH scHd rfl (.inl rfl) (heard_gives gd hr HK) TB hcode hT hu hr L hdef hbind hbody
/-! ### what is heard -/
structure Aft (p l : Addr) (cells : List Int) (m : Nat) (T : List (Addr × Str)) (H H' : Hp) : Prop where
  st : Still p H H'
  pen : PenAt H' p l cells m
  tabs : Tabs T H'
section
variable {K : PySem.W.Frag} {C p l cL cF cC : Addr} {T : List (Addr × Str)} {σ : L2.St} {H H' H2 : Hp} {cells : List Int} {m : Nat} {Q : VK}
theorem aft_of {H1 : Hp} (hP : PenAt H p l cells m) (x : ExtN H H1) (t : Tabs T H1) (e : Ex H1 H') : Aft p l cells m T H H' := ⟨(still_ext x).trans (still_ex e), (pen_ext hP x).mono e (Nat.le_refl m), t.ext e⟩
theorem Aft.ex (h : Aft p l cells m T H H') (e : Ex H' H2) : Aft p l cells m T H H2 := ⟨h.st.trans (still_ex e), h.pen.mono e (Nat.le_refl m), h.tabs.ext e⟩
theorem Aft.trans (h : Aft p l cells m T H H') (h' : Aft p l cells m T H' H2) : Aft p l cells m T H H2 := ⟨h.st.trans h'.st, h'.pen, h'.tabs⟩
theorem Aft.refl (hP : PenAt H p l cells m) (t : Tabs T H) : Aft p l cells m T H H := ⟨Still.refl, hP, t⟩
/-- an error with a part goes out: it is told -/
theorem told_part {cX : Addr} {w : Str} {v : V} {H0 H1 H3 : Hp} (e : Ex H1 H3) (hw : (cX = cF ∧ w = "frame") ∨ (cX = cC ∧ w = "clashing")) (k : ∀ H4 r, Ex H0 H4 → H4 r = some (.tup [.str w, v]) → Q (.ref r) H4) : Out1 cX "part" v H3 (fun cls d H' => Ex H1 H' ∧ HdE K cL cF cC H0 Q cls d H') := fun d H' _ e3 hd => by
  rcases hw with ⟨rfl, rfl⟩ | ⟨rfl, rfl⟩
  · exact ⟨e.trans e3, d, _, rfl, .inr (.inl ⟨rfl, v, hd, rfl⟩), k⟩
  · exact ⟨e.trans e3, d, _, rfl, .inr (.inr ⟨rfl, v, hd, rfl⟩), k⟩
theorem told_value {v : V} {d0 : PyData} {H0 H1 H3 : Hp} (e : Ex H1 H3) (hs : Shown K H3 v d0) (k : ∀ H4 r, Ex H0 H4 → H4 r = some (.tup [.str "letter", .str d0.shown]) → Q (.ref r) H4) : Out1 cL "value" v H3 (fun cls d H' => Ex H1 H' ∧ HdE K cL cF cC H0 Q cls d H') := fun d H' _ e3 hd =>
  ⟨e.trans e3, d, _, rfl, .inl ⟨rfl, v, d0, hd, hs.mono e3, rfl⟩, k⟩
end
end K09
namespace OwX
open PySem PySem.Spec PyProof.Rows L2 StX OpX
section
variable {X : Cx} {CX : CXT} {k : Nat} {C f : Addr} {fd : FuncData} {ps ks : List Str} {sp : Sp} {o : Expr} {m : Str} {pos apos : Pos} {ta : TE} {tk : TA} {pl : Sem Bool} {kws : List Keyword} {g : List Value → List Value → List Value} {gV : List V → List V → List V} {E : XK}
/-- o.m(k = v, ..), keywords alone, with what goes out of it -/
theorem pe_methKE (he : PE X o ta) (c : Cls X.K C) (hm : Meth X.K C m f) (F : FnOk X.prog X.w X.K X.mg X.base CX k f fd ps sp) (hr : Room k X.A) (hx : Passes CX X E) (hb : KBn X.K fd ps 1 ks g gV) (hkw : PK X kws tk)
    (some_ : (backToKw pos (keywordEach kws X.env)).all (·.1.isSome) = true := by rfl) (names : (backToKw pos (keywordEach kws X.env)).filterMap (·.1) = ks := by rfl)
    (none_ : ((backTo pos (starEach [] X.env)).any (·.1) || (backToKw pos (keywordEach kws X.env)).any (·.1.isNone)) = false := by rfl)
    (form : eval (.Call (.Attribute o m apos) [] kws pos) X.env = (do let ov ← eval o X.env; standAt apos.atName; let (f, first) ← holding [ov] (getMethod ov m pl); callWith pos f first (backTo pos (starEach [] X.env)) (backToKw pos (keywordEach kws X.env))) := by rfl) :
    PE X (.Call (.Attribute o m apos) [] kws pos) (fun σ H Q => ta σ H fun x H1 => ∃ a dx fs, x = .ref a ∧ H1 a = some (.ins C dx fs) ∧ fs.lookup m = none ∧ tk σ H1 fun zs H2 => zs.length = ks.length ∧ sp (gV [.ref a] zs) H2 Q E) := by
  refine ⟨fun pins s σ H Q I h => PySem.W.methodCall_KW (pl := pl) (thn (he.run pins s σ H _ I h) fun u s1 ⟨x, H1, J, rx, a, dx, fs, ex, ea, l, q⟩ => ?_) form⟩
  subst ex
  cases (show u = Value.ref a from rx)
  refine getmeth_ok J ea c hm l (PySem.W.callWith_KW0 (first := [.ref a]) (h₀ := X.base) J.ok.mod.kin hm.kp some_ ?_ none_)
  refine thn (hkw.run pos pins s1 σ H1 _ J q) fun ws s2 ⟨zs, H2, J2, rz, l2, q2⟩ => ⟨J2.kIn, ?_⟩
  rw [names]
  exact run_fnN (us := [.ref a]) (vs := [.ref a]) F hr hb hx J2 (.cons rfl .nil) rz rfl l2 q2
end
end OwX
namespace K09
open PySem L2 Evl Gr ClX OwX OpX StX LamX LamY EXC ClK RdX StS EqT EnT SrtT Fr
section
variable {K : PySem.W.Frag} {C p l cL cF cC : Addr} {T : List (Addr × Str)} {σ : L2.St} {H H' H1 H2 Hx : Hp} {cells : List Int} {m : Nat} {Q : VK} {i : Nat} {u0 : HO}
/-! the list of what is heard -/
def Hds (H : Hp) (L : Addr) (vss : List (List V)) : Prop := ∃ rs : List Addr, H L = some (.lst (rs.map V.ref)) ∧ rs.length = vss.length ∧ ∀ (i : Nat) r vs, rs[i]? = some r → vss[i]? = some vs → H r = some (.tup vs)
structure HSt (p l : Addr) (cells : List Int) (T : List (Addr × Str)) (H0 H : Hp) (L : Addr) (m : Nat) (vss : List (List V)) : Prop where
  pen : PenAt H p l cells m
  tabs : Tabs T H
  st : Still p H0 H
  hd : Hds H L vss
  new : ∀ o, H0 L = some o → ∃ ps, o = .tbl ps
  lp : L ≠ p
  some_ : vss ≠ []
theorem tabs_upd {g : Addr} {xs : List V} {o : HO} (h : Tabs T H) (hg : H g = some (.lst xs)) : Tabs T (upd H g o) := fun q hq => by
  obtain ⟨ps, h1, h2, h3⟩ := h q hq
  refine ⟨ps, by rw [upd_ne (fun z => by rw [z, hg] at h1; cases h1)]; exact h1, h2, fun pos cv hc => ?_⟩
  obtain ⟨c, e1, e2⟩ := h3 pos cv hc
  exact ⟨c, e1, by rw [upd_ne (fun z => by rw [z, hg] at e2; unfold CodeO at e2; cases e2)]; exact e2⟩
theorem q_hear {H0 : Hp} {L : Addr} {vss : List (List V)} {vs : List V} {t : XK → TE} {tz : TS} {D : Ends} {j n : Nat} (S : HSt p l cells T H0 H L m vss) (few : vss.length ≤ 100) (hi : σ[j]? = some (some (.ref L)))
    (lam : ∀ Q : VK, (∀ r H2, Still p H H2 → PenAt H2 p l cells n → Tabs T H2 → H2 r = some (.tup vs) → Q (.ref r) H2) → tLam T (THd K cL cF cC) t σ H Q) (k : ∀ H3, HSt p l cells T H0 H3 L n (vss ++ [vs]) → (∀ b o, H b = some o → b ≠ p → b ≠ L → (∀ ps, o ≠ .tbl ps) → H3 b = some o) → tz D σ H3) :
    tSeq (tDrop (tBM K "list" rAppend (tVar j) (tCons (tLam T (THd K cL cF cC) t) tNil))) tz D σ H := by
  obtain ⟨rs, hL, len, all⟩ := S.hd
  refine ⟨_, hi, .inl ⟨rfl, _, sq_of hL⟩, lam _ fun r H2 s2 hP2 t2 h2 => ?_⟩
  have hL2 := still_lst s2 hL S.lp
  have rL : r ≠ L := fun z => by rw [z, hL2] at h2; cases h2
  refine ⟨L, rs.map V.ref, .ref r, rfl, rfl, hL2, by rw [List.length_map]; exact sz_lt (by omega), k _ ⟨?_, tabs_upd t2 hL2, ?_, ⟨rs ++ [r], by rw [upd_same, List.map_append]; rfl, by rw [List.length_append, List.length_append, len]; rfl, fun i r' vs' h3 h4 => ?_⟩, S.new, S.lp, by simp⟩ fun b o hb n1 nL n2 => by rw [upd_ne nL]; exact s2 b o hb n1 n2⟩
  · refine hP2.upd' S.lp fun z => ?_
    obtain ⟨_, _, _, h3, _⟩ := hP2
    rw [z, h3] at hL2
    have e := HO.lst.inj (Option.some.inj hL2)
    cases rs with
    | nil =>
      have := S.some_
      cases vss with
      | nil => exact this rfl
      | cons a b => simp at len
    | cons a b =>
      cases cells with
      | nil => cases e
      | cons x xs => cases e
  · intro b o hb n1 n2
    rw [upd_ne (fun z => by
      obtain ⟨ps, e⟩ := S.new o (z ▸ hb)
      exact n2 ps e)]
    exact (S.st.trans s2) b o hb n1 n2
  · rcases Nat.lt_or_ge i rs.length with z | z
    · rw [List.getElem?_append_left z] at h3
      rw [List.getElem?_append_left (by omega)] at h4
      have h5 := all i r' vs' h3 h4
      have ne : r' ≠ L := fun e => by rw [e, hL] at h5; cases h5
      rw [upd_ne ne]
      exact still_tup S.pen s2 h5
    · rw [List.getElem?_append_right z] at h3
      rw [List.getElem?_append_right (by omega), ← len] at h4
      have e0 : i - rs.length = 0 := by
        have := (List.getElem?_eq_some_iff.mp h3).1
        simp at this
        omega
      rw [e0] at h3 h4
      cases h3
      cases h4
      rw [upd_ne rL]
      exact h2
theorem hst_first {H0 : Hp} {L r : Addr} {vs : List V} (s : Still p H0 H) (hP : PenAt H p l cells m) (t : Tabs T H) (h : H r = some (.tup vs)) (hL : H L = none) : HSt p l cells T H0 (upd H L (.lst [.ref r])) L m [vs] := by
  have e := Ex.new (o := .lst [.ref r]) hL
  have lp : L ≠ p := fun z => pen_there hP (z ▸ hL)
  refine ⟨hP.mono e (Nat.le_refl m), t.ext e, s.trans (still_ex e), ⟨[r], upd_same, rfl, fun i r' vs' h3 h4 => ?_⟩, fun o ho => ?_, lp, by simp⟩
  · cases i with
    | zero =>
      cases h3
      cases h4
      exact e _ _ h
    | succ i => simp at h3
  · cases o with
    | tbl ps => exact ⟨ps, rfl⟩
    | _ =>
      have := s L _ ho lp (fun _ z => by cases z)
      rw [hL] at this
      cases this
theorem hds_still {L : Addr} {vss : List (List V)} (hP : PenAt H p l cells m) (k : Still p H H') (lp : L ≠ p) (h : Hds H L vss) : Hds H' L vss := by
  obtain ⟨rs, h1, h2, h3⟩ := h
  exact ⟨rs, still_lst k h1 lp, h2, fun i r vs a b => still_tup hP k (h3 i r vs a b)⟩
theorem hst_ex {H0 : Hp} {L : Addr} {vss : List (List V)} (S : HSt p l cells T H0 H L m vss) (e : Ex H H') : HSt p l cells T H0 H' L m vss :=
  ⟨S.pen.mono e (Nat.le_refl m), S.tabs.ext e, S.st.trans (still_ex e), hds_still S.pen (still_ex e) S.lp S.hd, S.new, S.lp, S.some_⟩
theorem hst_keep {H0 : Hp} {L : Addr} {vss : List (List V)} {n : Nat} (S : HSt p l cells T H0 H L m vss) (k : Keep p H H') (hP : PenAt H' p l cells n) : HSt p l cells T H0 H' L n vss :=
  ⟨hP, tabs_keep S.tabs S.pen k, S.st.trans (still_keep k), hds_still S.pen (still_keep k) S.lp S.hd, S.new, S.lp, S.some_⟩
/-- gives rows: new tuples -/
def EvRows (ta : TA) (σ : L2.St) (H : Hp) (vss : List (List V)) : Prop := ∀ H1, Ex H H1 → ∀ Q : List V → Hp → Prop, (∀ (rs : List Addr) H2, Ex H1 H2 → rs.length = vss.length → (∀ (i : Nat) r vs, rs[i]? = some r → vss[i]? = some vs → H2 r = some (.tup vs)) → Q (rs.map V.ref) H2) → ta σ H1 Q
theorem rows_nil : EvRows tNil σ H [] := fun H1 _ Q q => q [] H1 (Ex.refl H1) rfl fun i r vs h => by simp at h
theorem rows_cons {te : TE} {ta : TA} {vs : List V} {vss : List (List V)} (h : EvU te σ H vs) (hr : EvRows ta σ H vss) : EvRows (tCons te ta) σ H (vs :: vss) := fun H1 e Q q =>
  h H1 e _ fun a H2 _ e2 h2 => hr H2 (e.trans e2) _ fun rs H3 e3 len all => q (a :: rs) H3 (e2.trans e3) (by rw [List.length_cons, List.length_cons, len]) fun i r us h3 h4 => by
    cases i with
    | zero =>
      cases h3
      cases h4
      exact e3 _ _ h2
    | succ i => exact all i r us h3 h4
theorem hds_of {L : Addr} {rs : List Addr} {vss : List (List V)} (hL : H L = none) (len : rs.length = vss.length) (all : ∀ (i : Nat) r vs, rs[i]? = some r → vss[i]? = some vs → H r = some (.tup vs)) : Hds (upd H L (.lst (rs.map V.ref))) L vss :=
  ⟨rs, upd_same, len, fun i r vs a b => (Ex.new hL) _ _ (all i r vs a b)⟩
/-! heard rows as data -/
def vd : V → PyData
  | .str z => .str z
  | .int i => .int i
  | _ => .none
def Scal (vs : List V) : Prop := ∀ v ∈ vs, (∃ z, v = V.str z) ∨ ∃ i, v = V.int i
theorem dp_scal : ∀ {vs : List V}, Scal vs → DpAll K H vs (vs.map vd)
  | [], _ => .nil
  | v :: vs, h => by
    have hr : DpAll K H vs (vs.map vd) := dp_scal fun x hx => h x (List.mem_cons_of_mem _ hx)
    rcases h v List.mem_cons_self with ⟨z, rfl⟩ | ⟨i, rfl⟩
    · exact .cons (.str z) hr
    · exact .cons (.int i) hr
theorem dp_rows : ∀ {rs : List Addr} {vss : List (List V)}, rs.length = vss.length → (∀ (i : Nat) r vs, rs[i]? = some r → vss[i]? = some vs → H r = some (.tup vs)) → (∀ vs ∈ vss, Scal vs) → DpAll K H (rs.map V.ref) (vss.map fun vs => .tuple (vs.map vd))
  | [], [], _, _, _ => .nil
  | [], _ :: _, h, _, _ => by simp at h
  | _ :: _, [], h, _, _ => by simp at h
  | r :: rs, vs :: vss, h, all, sc => .cons (.tup (st_of (all 0 r vs rfl rfl)) (dp_scal (sc vs List.mem_cons_self))) (dp_rows (by simpa using h) (fun i r' vs' a b => all (i + 1) r' vs' a b) fun x hx => sc x (List.mem_cons_of_mem _ hx))
theorem ed_hds {L : Addr} {vss : List (List V)} (hi : σ[i]? = some (some (.ref L))) (h : Hds H L vss) (sc : ∀ vs ∈ vss, Scal vs) : EvD K (tVar i) σ H (.list (vss.map fun vs => .tuple (vs.map vd))) := by
  obtain ⟨rs, h1, h2, h3⟩ := h
  exact ed_of (ev_var hi) fun H5 e => .lst (sq_of (e _ _ h1)) (dp_rows h2 (fun i r vs a b => e _ _ (h3 i r vs a b)) sc)
theorem ed_hdsCat {L : Addr} {vss uss : List (List V)} {ta : TA} (hi : σ[i]? = some (some (.ref L))) (h : Hds H L vss) (ht : EvRows ta σ H uss) (few : vss.length + uss.length ≤ 100) (sc : ∀ vs ∈ vss ++ uss, Scal vs) :
    EvD K (tOp rCat (tVar i) (tLst ta)) σ H (.list ((vss ++ uss).map fun vs => .tuple (vs.map vd))) := fun H5 e Q q => by
  obtain ⟨rs, h1, h2, h3⟩ := h
  refine ⟨_, hi, ht H5 e _ fun us H6 e6 len all => ⟨by rw [List.length_map, len]; exact sz_of (by omega), fun b hb => ?_⟩⟩
  have e7 := Ex.new (o := .lst (us.map V.ref)) hb
  refine ⟨L, b, rs.map V.ref, us.map V.ref, rfl, rfl, (e.trans (e6.trans e7)) _ _ h1, upd_same, by rw [List.length_map, List.length_map, h2, len]; exact sz_of (by omega), fun a ha => ?_⟩
  have e8 := Ex.new (o := .lst (rs.map V.ref ++ us.map V.ref)) ha
  refine q _ _ ((e6.trans e7).trans e8) (.lst (sq_of upd_same) ?_)
  suffices fin : DpAll K (upd (upd H6 b (.lst (us.map V.ref))) a (.lst (rs.map V.ref ++ us.map V.ref))) ((rs ++ us).map V.ref) ((vss ++ uss).map fun vs => .tuple (vs.map vd)) by
    rw [List.map_append (f := V.ref)] at fin
    exact fin
  refine dp_rows (by rw [List.length_append, List.length_append, h2, len]) (fun t r vs a b => ?_) sc
  rcases Nat.lt_or_ge t rs.length with z | z
  · rw [List.getElem?_append_left z] at a
    rw [List.getElem?_append_left (by omega)] at b
    exact (e.trans ((e6.trans e7).trans e8)) _ _ (h3 t r vs a b)
  · rw [List.getElem?_append_right z] at a
    rw [List.getElem?_append_right (by omega), ← h2] at b
    exact (e7.trans e8) _ _ (all _ r vs a b)
end
/-! lists told as data -/
theorem dps_app {K : PySem.W.Frag} {H : Hp} : ∀ {xs ys : List V} {ds es : List PyData}, DpAll K H xs ds → DpAll K H ys es → DpAll K H (xs ++ ys) (ds ++ es)
  | _, _, _, _, .nil, h => h
  | _, _, _, _, .cons a r, h => .cons a (dps_app r h)
theorem dps_rep {K : PySem.W.Frag} {H : Hp} {xs : List V} {ds : List PyData} (h : DpAll K H xs ds) : ∀ n, DpAll K H (List.replicate n xs).flatten (List.replicate n ds).flatten
  | 0 => .nil
  | n + 1 => by
    rw [List.replicate_succ, List.replicate_succ, List.flatten_cons, List.flatten_cons]
    exact dps_app h (dps_rep h n)
theorem dps_len {K : PySem.W.Frag} {H : Hp} : ∀ {xs : List V} {ds : List PyData}, DpAll K H xs ds → xs.length = ds.length
  | _, _, .nil => rfl
  | _, _, .cons _ r => by rw [List.length_cons, List.length_cons, dps_len r]
/-- gives a new list of these data -/
def EvLD (K : PySem.W.Frag) (te : TE) (σ : L2.St) (H : Hp) (ds : List PyData) : Prop := ∀ H1, Ex H H1 → ∀ Q : VK, (∀ l xs H2, Ex H1 H2 → H2 l = some (.lst xs) → DpAll K H2 xs ds → Q (.ref l) H2) → te σ H1 Q
section
variable {K : PySem.W.Frag} {σ : L2.St} {H : Hp} {te ta tb : TE} {d : PyData} {ds es : List PyData}
theorem eld_one (h : EvD K te σ H d) : EvLD K (tLst (tCons te tNil)) σ H [d] := fun H1 e Q q => h H1 e _ fun v H2 e2 hv => ⟨by show 1 ≤ sizeLine; decide, fun l hl => q l [v] _ (e2.trans (Ex.new hl)) upd_same (.cons (dp_up (Ex.new hl) d hv) .nil)⟩
theorem eld_rep {n : Nat} (h : EvLD K te σ H ds) (hn : n ≤ 100) (hd : ds.length * n ≤ 100000) : EvLD K (tOp rRep te (tC (.int (n : Int)))) σ H (List.replicate n ds).flatten := fun H1 e Q q =>
  h H1 e _ fun l xs H2 e2 hl hx => ⟨l, (n : Int), xs, rfl, rfl, hl, by omega, by omega, by rw [Int.toNat_natCast, dps_len hx]; exact sz_of hd, fun p hp => by
    rw [Int.toNat_natCast]
    exact q p _ _ (e2.trans (Ex.new hp)) upd_same (dps_up (Ex.new hp) _ (dps_rep hx n))⟩
theorem eld_cat (ha : EvLD K ta σ H ds) (hb : EvLD K tb σ H es) (hz : ds.length + es.length ≤ 100000) : EvLD K (tOp rCat ta tb) σ H (ds ++ es) := fun H1 e Q q =>
  ha H1 e _ fun l xs H2 e2 hl hx => hb H2 (e.trans e2) _ fun r ys H3 e3 hr hy => ⟨l, r, xs, ys, rfl, rfl, e3 _ _ hl, hr, by rw [dps_len hx, dps_len hy]; exact sz_of hz, fun p hp =>
    q p _ _ ((e2.trans e3).trans (Ex.new hp)) upd_same (dps_up (Ex.new hp) _ (dps_app (dps_up e3 _ hx) hy))⟩
theorem ed_eld (h : EvLD K te σ H ds) : EvD K te σ H (.list ds) := fun H1 e Q q => h H1 e _ fun l xs H2 e2 hl hx => q _ H2 e2 (.lst (sq_of hl) hx)
theorem ed_two {a b : Str} : EvD K (tTup (tCons (tC (.str a)) (tCons (tC (.str b)) tNil))) σ H (.tuple [.str a, .str b]) := ed_T (etu_disp (ea_cons ev_c (ea_cons ev_c ea_nil)) (by show 2 ≤ 100000; decide)) fun _ _ => .cons (.str _) (.cons (.str _) .nil)
end
theorem low_self {n : Nat} {d : PyData} (h : Low n d) : PyData.eqv d d = true := SeqAt.eqv_refl d h.1
/-! ### the methods of rules -/
structure FOp (P : Program) (w : World) (K : PySem.W.Frag) (mg : Str → Option Value) (base : Heap) (C cL cF cC mB mF mP mL : Addr) (dB dF dP dL : FuncData) : Prop where
  G : FCls K C
  hB : Meth K C "body" mB
  oB : FnOk P w K mg base (L2.CX P w) 4 mB dB ["self", "letter"] (spBody K C cL cC)
  bB : Binds K dB ["self", "letter"] []
  kB : KBn K dB ["self", "letter"] 1 ["letter"] (fun us ws => us ++ ws) (fun vs zs => vs ++ zs)
  hF : Meth K C "frame" mF
  oF : FnOk P w K mg base (L2.CX P w) 5 mF dF ["self", "letter"] (spFrame K C cL cC)
  bF : Binds K dF ["self", "letter"] []
  kF : KBn K dF ["self", "letter"] 1 ["letter"] (fun us ws => us ++ ws) (fun vs zs => vs ++ zs)
  hP : Meth K C "puts" mP
  oP : FnOk P w K mg base (L2.CX P w) 5 mP dP ["self", "letter"] (spPuts K C cL cC)
  bP : Binds K dP ["self", "letter"] []
  kP : KBn K dP ["self", "letter"] 1 ["letter"] (fun us ws => us ++ ws) (fun vs zs => vs ++ zs)
  hL : Meth K C "letter_of" mL
  oL : FnOk P w K mg base (L2.CX P w) 4 mL dL ["self", "frame"] (spLof K C cF)
  bL : Binds K dL ["self", "frame"] []
  kL : KBn K dL ["self", "frame"] 1 ["frame"] (fun us ws => us ++ ws) (fun vs zs => vs ++ zs)
/-- no name of a method is a field -/
def NoFld (m : Str) : Prop := ∀ a b : V, ([("flag", a), ("pairs", b)] : List (Str × V)).lookup m = none
theorem nf_b : NoFld "body" := fun _ _ => rfl
theorem nf_f : NoFld "frame" := fun _ _ => rfl
theorem nf_p : NoFld "puts" := fun _ _ => rfl
theorem nf_l : NoFld "letter_of" := fun _ _ => rfl
/-- o.m(k = e) -/
abbrev tMethK (C : Addr) (m : Str) (ks : List Str) (sp : Sp) (E : XK) (ta : TE) (tk : TA) : TE := fun σ H Q => ta σ H fun x H1 => ∃ a dx fs, x = .ref a ∧ H1 a = some (.ins C dx fs) ∧ fs.lookup m = none ∧ tk σ H1 fun zs H2 => zs.length = ks.length ∧ sp ((fun vs zs => vs ++ zs) [.ref a] zs) H2 Q E
section
variable {K : PySem.W.Frag} {C o p l cL cF cC : Addr} {T : List (Addr × Str)} {σ : L2.St} {H : Hp} {cells : List Int} {n : Nat} {Q : VK} {f z m : Str} {ps : List Pr} {ta tb : TE} {sp : Sp} {y : V} {E : XK} {ks : List Str} {i j : Nat}
theorem ev_mt (ha : Ev ta σ H (.ref o)) (hO : RuleAt K C H o f ps) (nm : NoFld m) (hb : Ev tb σ H y) {v : V} (hs : ∀ H1, Ex H H1 → ∀ Q, (∀ H2, Ex H1 H2 → Q v H2) → sp [.ref o, y] H1 Q E) : Ev (tMeth C m sp [] E ta (tCons tb tNil)) σ H v := fun H1 e Q q =>
  ha H1 e _ fun H2 e2 => by
    obtain ⟨dx, qq, vs, h1, _⟩ := hO.mono (e.trans e2)
    exact ⟨o, dx, _, rfl, h1, nm _ _, hb H2 (e.trans e2) _ fun H3 e3 => hs H3 ((e.trans e2).trans e3) Q fun H4 e4 => q H4 ((e2.trans e3).trans e4)⟩
theorem ev_mtK {k1 : Str} (ha : Ev ta σ H (.ref o)) (hO : RuleAt K C H o f ps) (nm : NoFld m) (hb : Ev tb σ H y) {v : V} (hs : ∀ H1, Ex H H1 → ∀ Q, (∀ H2, Ex H1 H2 → Q v H2) → sp [.ref o, y] H1 Q E) : Ev (tMethK C m [k1] sp E ta (tCons tb tNil)) σ H v := fun H1 e Q q =>
  ha H1 e _ fun H2 e2 => by
    obtain ⟨dx, qq, vs, h1, _⟩ := hO.mono (e.trans e2)
    exact ⟨o, dx, _, rfl, h1, nm _ _, hb H2 (e.trans e2) _ fun H3 e3 => ⟨rfl, hs H3 ((e.trans e2).trans e3) Q fun H4 e4 => q H4 ((e2.trans e3).trans e4)⟩⟩
theorem sp_body {t : L} (hO : RuleAt K C H o f ps) (hz : sgB z 0 200 = true) (ht : bodyL (lp ps) [] (TL.tl z) = some t) : ∀ H1, Ex H H1 → ∀ Q, (∀ H2, Ex H1 H2 → Q (.str (mk t)) H2) → spBody K C cL cC [.ref o, .str z] H1 Q E := fun H1 e Q q => ⟨o, f, ps, _, rfl, hO.mono e, .inr ⟨z, rfl, hz, .inr ⟨t, ht, q⟩⟩⟩
theorem sp_frame {t : L} (hO : RuleAt K C H o f ps) (hz : sgB z 0 200 = true) (ht : bodyL (lp ps) [] (TL.tl z) = some t) : ∀ H1, Ex H H1 → ∀ Q, (∀ H2, Ex H1 H2 → Q (.str (mk t ++ f)) H2) → spFrame K C cL cC [.ref o, .str z] H1 Q E := fun H1 e Q q => ⟨o, f, ps, _, rfl, hO.mono e, .inr ⟨z, rfl, hz, .inr ⟨t, ht, q⟩⟩⟩
theorem sp_puts {t : L} (hO : RuleAt K C H o f ps) (hz : sgB z 0 200 = true) (ht : bodyL (lp ps) [] (TL.tl z) = some t) : ∀ H1, Ex H H1 → ∀ Q, (∀ H2, Ex H1 H2 → Q (.int ((t.length : Int) - (z.length : Int))) H2) → spPuts K C cL cC [.ref o, .str z] H1 Q E := fun H1 e Q q => ⟨o, f, ps, _, rfl, hO.mono e, .inr ⟨z, rfl, hz, .inr ⟨t, ht, q⟩⟩⟩
/-- heard: puts that have no end -/
theorem lam_puts (hO : RuleAt K C H o f ps) (hP : PenAt H p l cells n) (hT : Tabs T H) (ho : ∀ H1 (Q : VK), Q (.ref o) H1 → ta σ H1 Q) (hz : ∀ H1 (Q : VK), Q (.str z) H1 → tb σ H1 Q) (nm : NoFld m) (hs : ∀ H2 (Q2 : VK) E, RuleAt K C H2 o f ps → Puts cC H2 E → sp [.ref o, .str z] H2 Q2 E)
    (kE : ∀ r H3, Aft p l cells n T H H3 → H3 r = some (.tup [.str "clashing", .str "puts"]) → Q (.ref r) H3) : tLam T (THd K cL cF cC) (fun E => tMeth C m sp [] E ta (tCons tb tNil)) σ H Q := ⟨hT, fun H1 x1 T1 H2 e2 => by
  have r := (hO.still hP (still_ext x1)).mono e2
  obtain ⟨dx, qq, vs, h1, _⟩ := id r
  refine ho H2 _ ⟨o, dx, _, rfl, h1, nm _ _, hz H2 _ ?_⟩
  exact hs H2 _ _ r (told_part (Ex.refl H2) (.inr ⟨rfl, rfl⟩) fun H4 r e4 h4 => kE r H4 (aft_of hP x1 T1 e4) h4)⟩
end
theorem var_is {σ : L2.St} {i : Nat} {v : V} (h : σ[i]? = some (some v)) (H : Hp) : ∀ Q : VK, Q v H → tVar i σ H Q := fun Q q => ⟨v, h, q⟩
theorem body_str {f z : Str} {ps : List Pr} {t : L} (g : Good f ps) (hz : sgB z 0 200 = true) (ht : bodyL (lp ps) [] (TL.tl z) = some t) : Sgs t ∧ t.length ≤ 60200 := by
  have O := good_pok g
  have lz := sgB_iff.mp hz
  have h1 := body_len O ht
  rw [TL.len_tl] at lz
  simp only [List.length_nil] at h1
  exact ⟨body_sgs O (fun c hc => by cases hc) (sgs_iff.mp lz.1) ht, by omega⟩
section
variable {P : Program} {w : World} {K : PySem.W.Frag} {mg : Str → Option Value} {base : Heap}
/-! ### _law_sent_right -/
abbrev sSR : Stmt := top 39
abbrev nSR : List Str := ["_law_plan_here", "_law_rule_here", "_law_letter_here", "_law_body_here", "_law_heard_here"]
abbrev qSR : Str := ("_law_sent_right" : Str) ++ ".<locals>." ++ "<lambda>"
def spSR (K : PySem.W.Frag) (C : Addr) (T : List (Addr × Str)) : Sp := fun vs H Q _ => ∃ (v : V) (o : Addr) (z f : Str) (ps : List Pr) (p l : Addr) (cells : List Int) (n : Nat), vs = [v, .ref o, .str z] ∧ PlanAt H v f ps ∧ RuleAt K C H o f ps ∧ sgB z 0 200 = true ∧ PenAt H p l cells n ∧ Tabs T H ∧ ∀ H', Aft p l cells n T H H' → Q (.bl true) H'
theorem scSR : FnScope nSR ["_law_plan_here", "_law_rule_here", "_law_letter_here"] (defScope sSR) := ⟨rfl, rfl, rfl, by decide +kernel, rfl, by decide +kernel, by decide +kernel⟩
theorem ok_SR {f fH B cL cF cC C c Pc mB mF mP mL : Addr} {fd fdH dB dF dP dL : FuncData} {T : List (Addr × Str)} (F : FunC K "_law_sent_right" "_law_sent_right" sSR f fd c) (TB : TabB base mg c Pc) (hT : (Pc, qSR) ∈ T) (hu : ∀ p ∈ T, p.1 = Pc → p.2 = qSR)
    (TT : GlbT mg) (HK : HdK K mg B cL cF cC) (FH : Fun K "_law_heard" "_law_heard" sHd fH fdH) (bH : Binds K fdH ["_law_ask"] []) (gH : mg "_law_heard" = some (.ref fH)) (O : FOp P w K mg base C cL cF cC mB mF mP mL dB dF dP dL) (GB : Gfn P w K mg base 2 "_law_body" ["_law_plan_here", "_law_letter_here"] spLbo) :
    FnG P w K mg base 9 f fd ["_law_plan_here", "_law_rule_here", "_law_letter_here"] (spSR K C T) := by
  obtain ⟨fB, fdB, GB, kB, bB, gB⟩ := GB
  refine F.okG scSR (fun vs H Q E h => ?_) (fun A outer s H vs Q E gd hr h => ?_)
  · obtain ⟨v, o, z, f, ps, p, l, cells, n, rfl, _⟩ := h
    rfl
  · obtain ⟨v, o, z, fl, ps, p, l, cells, n, rfl, hv, hO, hz, hP, tabs, k⟩ := h
    have r2 := hr.mono (show 2 ≤ 8 by decide)
    have r4 := hr.mono (show 4 ≤ 8 by decide)
    have r5 := hr.mono (show 5 ≤ 8 by decide)
    refine ⟨_, (pss_cons (ps_set (i := 3) scSR.nd rfl (.inl rfl) (pe_call GB r2 (by rfl) gB kB bB .nil pass0 (pa_cons (pv 0) (pa_cons (pv 2) pa_nil))))
      (pss_cons (ps_if (pt_cmpR op_isN (pv 3) pe_non (nomark _))
        (pss_cons (ps_set (i := 4) scSR.nd rfl (.inl rfl) (pe_lst (pa_cons (pe_heard (X := (cxOf CX0 P w K mg base nSR "_law_sent_right" (defScope sSR) f (.ref c) A outer s H E).nox) (T := T) (t := fun E2 => tMeth C "body" (spBody K C cL cC) [] E2 (tVar 1) (tCons (tVar 2) tNil)) (by rfl) gH FH bH HK gd TB rfl hT hu hr (lamS_by (sc := defScope sSR) (by decide +kernel)) rfl (fun _ _ _ _ _ => rfl)
            (fun A2 outer2 s2 H2 E2 f2 c2 hr2 => pe_meth (E := E2) (pv 1) O.G.cls O.hB O.oB (hr2.mono (show 4 ≤ 6 by decide)) O.bB .nil (passes_call (takes_of rfl rfl rfl rfl) fun _ _ _ _ z => z) (pa_cons (pv 2) pa_nil))) pa_nil)))
      (pss_cons (ps_expr (pe_bm PySem.F.plainAttrs_list PySem.F.slot_list_append PySem.F.type_list_append mt_append (pv 4) (pa_cons (pe_heard (X := (cxOf CX0 P w K mg base nSR "_law_sent_right" (defScope sSR) f (.ref c) A outer s H E).nox) (T := T) (t := fun E2 => tMeth C "frame" (spFrame K C cL cC) [] E2 (tVar 1) (tCons (tVar 2) tNil)) (by rfl) gH FH bH HK gd TB rfl hT hu hr (lamS_by (sc := defScope sSR) (by decide +kernel)) rfl (fun _ _ _ _ _ => rfl)
            (fun A2 outer2 s2 H2 E2 f2 c2 hr2 => pe_meth (E := E2) (pv 1) O.G.cls O.hF O.oF (hr2.mono (show 5 ≤ 6 by decide)) O.bF .nil (passes_call (takes_of rfl rfl rfl rfl) fun _ _ _ _ z => z) (pa_cons (pv 2) pa_nil))) pa_nil)))
      (pss_one (ps_ret (pe_cmpR (op_eqD hr.units) (pv 4) (pe_op op_rep (pe_lst (pa_cons (pe_tup (pa_cons pe_str (pa_cons pe_str pa_nil))) pa_nil)) pe_int) (nomark _)))))) pss_nil)
      (pss_cons (ps_if (pt_cmpR (op_neD hr.units) (pe_lst (pa_cons (pe_meth (E := E0) (pv 1) O.G.cls O.hB O.oB r4 O.bB .nil (passN rfl rfl) (pa_cons (pv 2) pa_nil)) (pa_cons (pe_meth (E := E0) (pv 1) O.G.cls O.hF O.oF r5 O.bF .nil (passN rfl rfl) (pa_cons (pv 2) pa_nil)) (pa_cons (pe_meth (E := E0) (pv 1) O.G.cls O.hP O.oP r5 O.bP .nil (passN rfl rfl) (pa_cons (pv 2) pa_nil)) pa_nil))))
          (pe_lst (pa_cons (pv 3) (pa_cons (pe_op op_add_str (pv 3) (pe_ix ix_tup (pv 0) pe_int (fun _ _ => rfl))) (pa_cons (pe_op op_sub (pe_callB call_len (by rfl) TT.len PySem.boot_len (pa_cons (pv 3) pa_nil)) (pe_callB call_len (by rfl) TT.len PySem.boot_len (pa_cons (pv 2) pa_nil))) pa_nil)))) (nomark _)) (pss_one (ps_ret pe_bl)) pss_nil)
      (pss_one (ps_ret (pe_cmpR (op_eqD hr.units) (pe_lst (pa_cons (pe_methKE (E := E0) (pv 1) O.G.cls O.hB O.oB r4 (passN rfl rfl) O.kB (pk_cons (pv 2) pk_nil)) (pa_cons (pe_methKE (E := E0) (pv 1) O.G.cls O.hF O.oF r5 (passN rfl rfl) O.kF (pk_cons (pv 2) pk_nil)) (pa_cons (pe_methKE (E := E0) (pv 1) O.G.cls O.hP O.oP r5 (passN rfl rfl) O.kP (pk_cons (pv 2) pk_nil)) pa_nil))))
          (pe_lst (pa_cons (pv 3) (pa_cons (pe_op op_add_str (pv 3) (pe_ix ix_tup (pv 0) pe_int (fun _ _ => rfl))) (pa_cons (pe_op op_sub (pe_callB call_len (by rfl) TT.len PySem.boot_len (pa_cons (pv 3) pa_nil)) (pe_callB call_len (by rfl) TT.len PySem.boot_len (pa_cons (pv 2) pa_nil))) pa_nil)))) (nomark _))))))), ?_⟩
    have g := hO.good
    have fl8 := sgB_iff.mp g.flag
    have lz := sgB_iff.mp hz
    refine q_asg (v := bodyV (bodyL (lp ps) [] (TL.tl z))) (ev_call (ea_cons (ev_var rfl) (ea_cons (ev_var rfl) ea_nil)) fun H1 e1 Q1 q1 E1 => ⟨v, z, fl, ps, rfl, by omega, lz.1, hv.mono e1, g, q1⟩) fun H1 e1 => ?_
    have hO1 := hO.mono e1
    have A1 : Aft p l cells n T H H1 := (Aft.refl hP tabs).ex e1
    cases hb : bodyL (lp ps) [] (TL.tl z) with
    | none =>
      refine q_when (b := true) (et_is (et_test (ev_op (ev_var rfl) ev_c rv_isN)) (decide_eq_true rfl)) (fun _ H2 e2 => ?_) (fun z => absurd z (by decide))
      have A2 := A1.ex e2
      refine q_asgR (lst_i (cons_i (lam_puts (p := p) (l := l) (cells := cells) (n := n) (z := z) (f := fl) (ps := ps) (o := o) (hO1.mono e2) A2.pen A2.tabs (var_is rfl) (var_is rfl) nf_b (fun H3 Q2 E3 r3 pu => ⟨o, fl, ps, _, rfl, r3, .inr ⟨z, rfl, hz, .inl ⟨hb, pu⟩⟩⟩) fun r H3 a3 h3 => ⟨by show 1 ≤ sizeLine; decide, fun L hL => ?_⟩)))
      have A3 := A2.trans a3
      have S := hst_first (H0 := H) A3.st A3.pen A3.tabs h3 hL
      have hO3 : RuleAt K C (upd H3 L (.lst [.ref r])) o fl ps := ((hO1.mono e2).still A2.pen a3.st).mono (Ex.new hL)
      refine q_hear (K := K) (cL := cL) (cF := cF) (cC := cC) (n := n) (vs := [.str "clashing", .str "puts"]) S (by decide) rfl (fun Q2 q2 => lam_puts (p := p) (l := l) (cells := cells) (n := n) (z := z) (f := fl) (ps := ps) (o := o) hO3 S.pen S.tabs (var_is rfl) (var_is rfl) nf_f (fun H3 Q2 E3 r3 pu => ⟨o, fl, ps, _, rfl, r3, .inr ⟨z, rfl, hz, .inl ⟨hb, pu⟩⟩⟩) fun r H4 a4 h4 => q2 r H4 a4.st a4.pen a4.tabs h4) fun H4 S4 _ => ?_
      have sh : SeqAt.shaped (.list [.tuple [.str "clashing", .str "puts"], .tuple [.str "clashing", .str "puts"]]) = true := by decide +kernel
      refine s_ret (v := .bl true) (ev_is (ev_eqD (ed_hds rfl S4.hd (fun vs hvs => ?_)) (ed_eld (eld_rep (n := 2) (eld_one ed_two) (by decide) (by decide))) sh sh) (congrArg V.bl (by decide +kernel))) fun H5 e5 => k H5 ⟨S4.st.trans (still_ex e5), S4.pen.mono e5 (Nat.le_refl _), S4.tabs.ext e5⟩
      rcases List.mem_append.mp hvs with h | h
      all_goals
        rw [List.mem_singleton.mp h]
        intro x hx
        simp only [List.mem_cons, List.not_mem_nil, or_false] at hx
        rcases hx with rfl | rfl <;> exact .inl ⟨_, rfl⟩
    | some t =>
      obtain ⟨sgt, tl⟩ := body_str g hz hb
      refine q_when (b := false) (et_is (et_test (ev_op (ev_var rfl) ev_c rv_isN)) (decide_eq_false fun z => by cases z)) (fun z => absurd z (by decide)) (fun _ H2 e2 => ?_)
      have hO2 := hO1.mono e2
      have A2 := A1.ex e2
      have dl : ∀ d ∈ ([.str (mk t), .str (mk t ++ fl), .int ((t.length : Int) - (z.length : Int))] : List PyData), Low 0 d := fun d hd => by
        simp only [List.mem_cons, List.not_mem_nil, or_false] at hd
        rcases hd with rfl | rfl | rfl
        · exact low_str (sg_ok (sg_mk sgt))
        · refine low_str (sg_ok (sgs_iff.mpr ?_))
          rw [TL.tl_append]
          exact sgt.app (sgs_iff.mp fl8.1)
        · exact low_int _
      have sh : SeqAt.shaped (.list [.str (mk t), .str (mk t ++ fl), .int ((t.length : Int) - (z.length : Int))]) = true := low_shaped (low_list (n := 0) dl) (by decide)
      have self := low_self (low_list (n := 0) dl)
      have right : ∀ {x4 : Option V} {H3 : Hp}, Ex H H3 → EvD K (tLst (tCons (tVar 3) (tCons (tOp (fun x y H Q => ∃ i j, x = .str i ∧ y = .str j ∧ i.length + j.length ≤ sizeLine ∧ Q (.str (i ++ j)) H) (tVar 3) (tOp (rIxT K) (tVar 0) (tC (.int 0)))) (tCons (tOp (rI0 fun i j => .int (i - j)) (tCB (fun xs H Q => ∃ x n, xs = [x] ∧ LenV K x H n ∧ Q (.int n) H) (tCons (tVar 3) tNil)) (tCB (fun xs H Q => ∃ x n, xs = [x] ∧ LenV K x H n ∧ Q (.int n) H) (tCons (tVar 2) tNil))) tNil))))
          [some v, some (.ref o), some (.str z), some (.str (mk t)), x4] H3 (.list [.str (mk t), .str (mk t ++ fl), .int ((t.length : Int) - (z.length : Int))]) := fun {x4 H3} e => by
        obtain ⟨tt, l', xs, rfl, ht, hl, hp⟩ := hv.mono e
        refine ed_L (el_lst (ea_cons (ev_var rfl) (ea_cons (ev_addS (ev_var rfl) (ev_op (ev_var rfl) ev_c (rv_ixT_ (st_of ht) (i := 0) rfl)) (by rw [mk_len t]; omega)) (ea_cons (ev_is (ev_op (ev_cb (ea_cons (ev_var rfl) ea_nil) (rc_lenS (K := K) (z := mk t) (by rw [mk_len t]; omega))) (ev_cb (ea_cons (ev_var rfl) ea_nil) (rc_lenS (K := K) (z := z) (by omega))) rv_I0) (by rw [mk_len t])) ea_nil))) (by show 3 ≤ 100000; decide)) fun _ _ => .cons (.str _) (.cons (.str _) (.cons (.int _) .nil))
      refine q_when (b := false) (et_is (et_test (ev_neD (ed_L (el_lst (ea_cons (ev_mt (ev_var rfl) hO2 nf_b (ev_var rfl) (sp_body hO2 hz hb)) (ea_cons (ev_mt (ev_var rfl) hO2 nf_f (ev_var rfl) (sp_frame hO2 hz hb)) (ea_cons (ev_mt (ev_var rfl) hO2 nf_p (ev_var rfl) (sp_puts hO2 hz hb)) ea_nil))) (by show 3 ≤ 100000; decide)) fun _ _ => .cons (.str _) (.cons (.str _) (.cons (.int _) .nil))) (right (e1.trans e2)) sh sh)) (by rw [self]; rfl)) (fun z => absurd z (by decide)) (fun _ H3 e3 => ?_)
      have hO3 := hO2.mono e3
      exact s_ret (v := .bl true) (ev_is (ev_eqD (ed_L (el_lst (ea_cons (ev_mtK (ev_var rfl) hO3 nf_b (ev_var rfl) (sp_body hO3 hz hb)) (ea_cons (ev_mtK (ev_var rfl) hO3 nf_f (ev_var rfl) (sp_frame hO3 hz hb)) (ea_cons (ev_mtK (ev_var rfl) hO3 nf_p (ev_var rfl) (sp_puts hO3 hz hb)) ea_nil))) (by show 3 ≤ 100000; decide)) fun _ _ => .cons (.str _) (.cons (.str _) (.cons (.int _) .nil))) (right ((e1.trans e2).trans e3)) sh sh) (by rw [self])) fun H4 e4 => k H4 ((A2.ex e3).ex e4)
end
end K09
namespace K09
open PySem L2 Evl Gr ClX OwX OpX StX LamX LamY EXC ClK RdX StS EqT EnT SrtT Fr
theorem s_ifE {c : TT} {tu : TS} {D : Ends} {σ : L2.St} {H : Hp} (h : c σ H fun b H1 => if b = true then tu D σ H1 else D.nx σ H1) : tIfS c tu tNext D σ H := h
theorem due_part {f z : Str} {ps : List Pr} {p : Str} (h : dueF f ps z = .inl p) : p = "flag" ∨ p = "body" := by
  unfold dueF at h
  split at h
  · cases h
    exact .inl rfl
  · split at h
    · cases h
      exact .inr rfl
    · split at h
      · cases h
      · cases h
        exact .inr rfl
theorem due_sgs {f z : Str} {ps : List Pr} {l : L} (hz : Sg z = true) (h : dueF f ps z = .inr l) : Sgs l := by
  unfold dueF at h
  split at h
  · cases h
  · split at h
    · cases h
    · rename_i l' hk
      split at h
      · cases h
        exact tkn_sgs (fun c hc => sgs_iff.mp hz c (List.mem_of_mem_take hc)) hk
      · cases h
theorem due_low {f z : Str} {ps : List Pr} (hz : Sg z = true) : Low 1 (dueD (dueF f ps z)) := by
  cases h : dueF f ps z with
  | inl p =>
    refine low_tup (n := 0) fun d hd => ?_
    simp only [List.mem_cons, List.not_mem_nil, or_false] at hd
    rcases hd with rfl | rfl
    · exact low_str (by decide +kernel)
    · rcases due_part h with rfl | rfl <;> exact low_str (by decide +kernel)
  | inr l =>
    refine low_list (n := 0) fun d hd => ?_
    rw [List.mem_singleton.mp hd]
    exact low_str (sg_ok (sg_mk (due_sgs hz h)))
section
variable {K : PySem.W.Frag} {C o p l cL cF cC : Addr} {T : List (Addr × Str)} {σ : L2.St} {H : Hp} {cells : List Int} {n : Nat} {Q : VK} {f z : Str} {ps : List Pr} {td : TE} {tb : XK → TE} {d : PyData}
/-- heard: the letter of a text of signs -/
theorem lam_lof (hO : RuleAt K C H o f ps) (hP : PenAt H p l cells n) (hT : Tabs T H) (sg : Sg z = true) (hz : z.length ≤ 80000) (ask : ∀ H2 (Q2 : VK) E, RuleAt K C H2 o f ps → spLof K C cF [.ref o, .str z] H2 Q2 E → tb E σ H2 Q2)
    (k : ∀ r H3, Aft p l cells n T H H3 → Dp K H3 (.ref r) (dueD (dueF f ps z)) → Q (.ref r) H3) : tLam T (THd K cL cF cC) tb σ H Q := ⟨hT, fun H1 x1 T1 H2 e2 => by
  have r := (hO.still hP (still_ext x1)).mono e2
  refine ask H2 _ _ r ⟨o, f, ps, _, rfl, r, .inr ⟨z, rfl, hz, .inr ⟨sg, ?_⟩⟩⟩
  cases h : dueF f ps z with
  | inl q =>
    refine .inl ⟨q, rfl, told_part (Ex.refl H2) (.inl ⟨rfl, rfl⟩) fun H4 r e4 h4 => k r H4 (aft_of hP x1 T1 e4) ?_⟩
    rw [h]
    exact .tup (st_of h4) (.cons (.str _) (.cons (.str _) .nil))
  | inr u =>
    refine .inr ⟨u, rfl, fun H3 e3 => ⟨by show 1 ≤ sizeLine; decide, fun lx hl => k lx _ (aft_of hP x1 T1 ((e2.trans e3).trans (Ex.new hl))) ?_⟩⟩
    rw [h]
    exact .lst (sq_of upd_same) (.cons (.str _) .nil)⟩
/-- heard != due -/
theorem t_heardNe (lam : ∀ Q : VK, (∀ r H3, Aft p l cells n T H H3 → Dp K H3 (.ref r) d → Q (.ref r) H3) → tLam T (THd K cL cF cC) tb σ H Q) (due : ∀ H3, Aft p l cells n T H H3 → ∀ Q : VK, (∀ r H4, Ex H3 H4 → Dp K H4 (.ref r) d → Q (.ref r) H4) → td σ H3 Q) (low : Low 1 d)
    {Qt : Bool → Hp → Prop} (k : ∀ H4, Aft p l cells n T H H4 → Qt false H4) : tTest (tOp (rNeD K) (tLam T (THd K cL cF cC) tb) td) σ H Qt :=
  op_i (lam _ fun r H3 a3 d3 => due H3 a3 _ fun r2 H4 e4 d4 => ⟨d, d, dp_up e4 d d3, d4, low_shaped low (by decide), low_shaped low (by decide), _, rfl, by
    rw [low_self low]
    exact k H4 (a3.ex e4)⟩)
end
section
variable {P : Program} {w : World} {K : PySem.W.Frag} {mg : Str → Option Value} {base : Heap}
/-! ### _law_read_right -/
abbrev sRR : Stmt := top 43
abbrev nRR : List Str := ["_law_pen_here", "_law_plan_here", "_law_rule_here", "_law_letter_here", "_law_body_here", "_law_frame", "_law_turn", "_law_near"]
abbrev qRR : Str := ("_law_read_right" : Str) ++ ".<locals>." ++ "<lambda>"
def spRR (K : PySem.W.Frag) (C : Addr) (T : List (Addr × Str)) : Sp := fun vs H Q _ => ∃ (v : V) (o : Addr) (z f : Str) (ps : List Pr) (p l : Addr) (cells : List Int) (n : Nat), vs = [.ref p, v, .ref o, .str z] ∧ PlanAt H v f ps ∧ RuleAt K C H o f ps ∧ sgB z 0 200 = true ∧ PenAt H p l cells n ∧ n + 30 ≤ 50000 ∧ cells.length ≤ 63 ∧ Tabs T H ∧ ∀ H', Aft p l cells (n + 30) T H H' → Q (.bl true) H'
theorem scRR : FnScope nRR ["_law_pen_here", "_law_plan_here", "_law_rule_here", "_law_letter_here"] (defScope sRR) := ⟨rfl, rfl, rfl, by decide +kernel, rfl, by decide +kernel, by decide +kernel⟩
theorem ok_RR {f fH B cL cF cC C c Pc mB mF mP mL : Addr} {fd fdH dB dF dP dL : FuncData} {T : List (Addr × Str)} (F : FunC K "_law_read_right" "_law_read_right" sRR f fd c) (TB : TabB base mg c Pc) (hT : (Pc, qRR) ∈ T) (hu : ∀ p ∈ T, p.1 = Pc → p.2 = qRR)
    (S : GlbS mg) (HK : HdK K mg B cL cF cC) (FH : Fun K "_law_heard" "_law_heard" sHd fH fdH) (bH : Binds K fdH ["_law_ask"] []) (gH : mg "_law_heard" = some (.ref fH)) (O : FOp P w K mg base C cL cF cC mB mF mP mL dB dF dP dL) (GB : Gfn P w K mg base 2 "_law_body" ["_law_plan_here", "_law_letter_here"] spLbo)
    (GD : Gfn P w K mg base 3 "_law_due" ["_law_plan_here", "_law_frame"] (spLdu K)) (GE : Gfn P w K mg base 3 "_law_bent" ["_law_pen_here", "_law_frame"] spLbe) : FnG P w K mg base 9 f fd ["_law_pen_here", "_law_plan_here", "_law_rule_here", "_law_letter_here"] (spRR K C T) := by
  obtain ⟨fB, fdB, GB, kB, bB, gB⟩ := GB
  obtain ⟨fD, fdD, GD, kD, bD, gD⟩ := GD
  obtain ⟨fE, fdE, GE, kE, bE, gE⟩ := GE
  refine F.okG scRR (fun vs H Q E h => ?_) (fun A outer s H vs Q E gd hr h => ?_)
  · obtain ⟨v, o, z, f, ps, p, l, cells, n, rfl, _⟩ := h
    rfl
  · obtain ⟨v, o, z, fl, ps, p, l, cells, n, rfl, hv, hO, hz, hP, hm, h63, tabs, k⟩ := h
    have r2 := hr.mono (show 2 ≤ 8 by decide)
    have r3 := hr.mono (show 3 ≤ 8 by decide)
    have r4 := hr.mono (show 4 ≤ 8 by decide)
    refine ⟨_, (pss_cons (ps_set (i := 4) scRR.nd rfl (.inl rfl) (pe_call GB r2 (by rfl) gB kB bB .nil pass0 (pa_cons (pv 1) (pa_cons (pv 3) pa_nil))))
      (pss_cons (ps_set (i := 5) scRR.nd rfl (.inr rfl) (pe_op op_add_str (pe_ifExp (pt_cmpR op_notN (pv 4) pe_non (nomark _)) (pv 4) (pv 3)) (pe_ix ix_tup (pv 1) pe_int (fun _ _ => rfl))))
      (pss_cons (ps_if (pt_cmpR (op_neD hr.units) (pe_heard (X := (cxOf CX0 P w K mg base nRR "_law_read_right" (defScope sRR) f (.ref c) A outer s H E).nox) (T := T) (t := fun E2 => tMeth C "letter_of" (spLof K C cF) [] E2 (tVar 2) (tCons (tVar 5) tNil)) (by rfl) gH FH bH HK gd TB rfl hT hu hr (lamS_by (sc := defScope sRR) (by decide +kernel)) rfl (fun _ _ _ _ _ => rfl)
            (fun A2 outer2 s2 H2 E2 f2 c2 hr2 => pe_meth (E := E2) (pv 2) O.G.cls O.hL O.oL (hr2.mono (show 4 ≤ 6 by decide)) O.bL .nil (passes_call (takes_of rfl rfl rfl rfl) fun _ _ _ _ z => z) (pa_cons (pv 5) pa_nil))) (pe_call GD r3 (by rfl) gD kD bD .nil pass0 (pa_cons (pv 1) (pa_cons (pv 5) pa_nil))) (nomark _)) (pss_one (ps_ret pe_bl)) pss_nil)
      (pss_cons (ps_if (pt_cmpR (op_neD hr.units) (pe_heard (X := (cxOf CX0 P w K mg base nRR "_law_read_right" (defScope sRR) f (.ref c) A outer s H E).nox) (T := T) (t := fun E2 => tMethK C "letter_of" ["frame"] (spLof K C cF) E2 (tVar 2) (tCons (tVar 5) tNil)) (by rfl) gH FH bH HK gd TB rfl hT hu hr (lamS_by (sc := defScope sRR) (by decide +kernel)) rfl (fun _ _ _ _ _ => rfl)
            (fun A2 outer2 s2 H2 E2 f2 c2 hr2 => pe_methKE (E := E2) (pv 2) O.G.cls O.hL O.oL (hr2.mono (show 4 ≤ 6 by decide)) (passes_call (takes_of rfl rfl rfl rfl) fun _ _ _ _ z => z) O.kL (pk_cons (pv 5) pk_nil))) (pe_call GD r3 (by rfl) gD kD bD .nil pass0 (pa_cons (pv 1) (pa_cons (pv 5) pa_nil))) (nomark _)) (pss_one (ps_ret pe_bl)) pss_nil)
      (pss_cons (ps_for PassesOwn.never rfl (pi_range1 (by rfl) S.range (pa_cons pe_int pa_nil)) (pg_name (i := 6) scRR.nd rfl (.inl rfl))
        (pss_cons (ps_set (i := 7) scRR.nd rfl (.inr rfl) (pe_call GE r3 (by rfl) gE kE bE .nil pass0 (pa_cons (pv 0) (pa_cons (pv 5) pa_nil))))
      (pss_one (ps_if (pt_cmpR (op_neD hr.units) (pe_heard (X := (cxOf CX0 P w K mg base nRR "_law_read_right" (defScope sRR) f (.ref c) A outer s H E).nox) (T := T) (t := fun E2 => tMeth C "letter_of" (spLof K C cF) [] E2 (tVar 2) (tCons (tVar 7) tNil)) (by rfl) gH FH bH HK gd TB rfl hT hu hr (lamS_by (sc := defScope sRR) (by decide +kernel)) rfl (fun _ _ _ _ _ => rfl)
            (fun A2 outer2 s2 H2 E2 f2 c2 hr2 => pe_meth (E := E2) (pv 2) O.G.cls O.hL O.oL (hr2.mono (show 4 ≤ 6 by decide)) O.bL .nil (passes_call (takes_of rfl rfl rfl rfl) fun _ _ _ _ z => z) (pa_cons (pv 7) pa_nil))) (pe_call GD r3 (by rfl) gD kD bD .nil pass0 (pa_cons (pv 1) (pa_cons (pv 7) pa_nil))) (nomark _)) (pss_one (ps_ret pe_bl)) pss_nil))))
      (pss_one (ps_ret pe_bl))))))), ?_⟩
    have g := hO.good
    have fl8 := sgB_iff.mp g.flag
    have lz := sgB_iff.mp hz
    refine q_asg (v := bodyV (bodyL (lp ps) [] (TL.tl z))) (ev_call (ea_cons (ev_var rfl) (ea_cons (ev_var rfl) ea_nil)) fun H1 e1 Q1 q1 E1 => ⟨v, z, fl, ps, rfl, by omega, lz.1, hv.mono e1, g, q1⟩) fun H1 e1 => ?_
    -- the frame
    obtain ⟨b, hb, sgb, bl⟩ : ∃ b : L, EvT (tTest (tOp (fun x y H Q => y = V.non ∧ Q (.bl (!decide (x = V.non))) H) (tVar 4) (tC .non))) [some (.ref p), some v, some (.ref o), some (.str z), some (bodyV (bodyL (lp ps) [] (TL.tl z))), none, none, none] H1 (!decide (bodyV (bodyL (lp ps) [] (TL.tl z)) = V.non)) ∧ (Sgs b ∧ b.length ≤ 60200) ∧
        ((!decide (bodyV (bodyL (lp ps) [] (TL.tl z)) = V.non)) = true → bodyV (bodyL (lp ps) [] (TL.tl z)) = .str (mk b)) ∧ ((!decide (bodyV (bodyL (lp ps) [] (TL.tl z)) = V.non)) = false → z = mk b) := by
      cases hb : bodyL (lp ps) [] (TL.tl z) with
      | none => exact ⟨TL.tl z, et_test (ev_op (ev_var rfl) ev_c rv_notN), ⟨sgs_iff.mp lz.1, by rw [← TL.len_tl]; omega⟩, fun z => absurd z (by decide), fun _ => mk_eq rfl⟩
      | some t => exact ⟨t, et_test (ev_op (ev_var rfl) ev_c rv_notN), body_str g hz hb, fun _ => rfl, fun z => absurd ((show (!decide (bodyV (some t) = V.non)) = true from rfl).symm.trans z) (by decide)⟩
    obtain ⟨sgb, bl60⟩ := sgb
    generalize bodyV (bodyL (lp ps) [] (TL.tl z)) = bv at hb bl ⊢
    have fe : Ev (tOp (fun x y H Q => ∃ i j, x = .str i ∧ y = .str j ∧ i.length + j.length ≤ sizeLine ∧ Q (.str (i ++ j)) H) (tIf (tTest (tOp (fun x y H Q => y = V.non ∧ Q (.bl (!decide (x = V.non))) H) (tVar 4) (tC .non))) (tVar 4) (tVar 3)) (tOp (rIxT K) (tVar 1) (tC (.int 0)))) [some (.ref p), some v, some (.ref o), some (.str z), some bv, none, none, none] H1 (.str (mk b ++ fl)) := by
      obtain ⟨tt, l', xs, rfl, ht, hl, hp⟩ := hv.mono e1
      refine ev_addS (ev_if hb (fun h => ?_) (fun h => ?_)) (ev_op (ev_var rfl) ev_c (rv_ixT_ (st_of ht) (i := 0) rfl)) (by rw [mk_len b]; omega)
      · rw [← bl.1 h]
        exact ev_var rfl
      · rw [← bl.2 h]
        exact ev_var rfl
    refine q_asg fe fun H2 e2 => ?_
    have fsg : Sg (mk b ++ fl) = true := sgs_iff.mpr (by
      rw [TL.tl_append]
      exact sgb.app (sgs_iff.mp fl8.1))
    have flen : (mk b ++ fl).length ≤ 60300 := by
      rw [sapp_len, mk_len b]
      omega
    generalize mk b ++ fl = fr at fsg flen ⊢
    have A2 : Aft p l cells n T H H2 := (Aft.refl hP tabs).ex (e1.trans e2)
    have due : ∀ {σ : L2.St} {H3 : Hp} {i : Nat} {y : Str}, σ[1]? = some (some v) → σ[i]? = some (some (.str y)) → Sg y = true → y.length ≤ 80000 → PlanAt H3 v fl ps → ∀ H4, Aft p l cells n T H3 H4 ∨ Still p H3 H4 → ∀ {m : Nat}, PenAt H3 p l cells m → ∀ Q : VK, (∀ r H5, Ex H4 H5 → Dp K H5 (.ref r) (dueD (dueF fl ps y)) → Q (.ref r) H5) → (tCall (spLdu K) [] E0 (tCons (tVar 1) (tCons (tVar i) tNil))) σ H4 Q := fun {σ H3 i y} h1 hi sy ly pl H4 st m hP3 Q q =>
      ⟨_, h1, _, hi, v, y, fl, ps, rfl, ly, sy, pl.still hP3 (st.elim (fun a => a.st) id), g, fun r H' e dp => q r H' e dp⟩
    refine s_ifE (t_heardNe (p := p) (l := l) (cells := cells) (n := n) (d := dueD (dueF fl ps fr)) (fun Q q => lam_lof (p := p) (l := l) (cells := cells) (n := n) (f := fl) (ps := ps) (o := o) (z := fr) (hO.mono (e1.trans e2)) A2.pen A2.tabs fsg (by omega) (fun H4 Q4 E4 r h => by
        obtain ⟨dx, qq, vs, h1, _⟩ := id r
        exact ⟨_, rfl, o, dx, _, rfl, h1, rfl, _, rfl, h⟩) q) (fun H3 a3 => due (i := 5) rfl rfl fsg (by omega) (hv.mono (e1.trans e2)) H3 (.inl a3) A2.pen) (due_low fsg) fun H3 a3 => iteF ?_)
    have A3 := A2.trans a3
    refine s_ifE (t_heardNe (p := p) (l := l) (cells := cells) (n := n) (d := dueD (dueF fl ps fr)) (fun Q q => lam_lof (p := p) (l := l) (cells := cells) (n := n) (f := fl) (ps := ps) (o := o) (z := fr) (hO.still hP A3.st) A3.pen A3.tabs fsg (by omega) (fun H4 Q4 E4 r h => by
        obtain ⟨dx, qq, vs, h1, _⟩ := id r
        exact ⟨_, rfl, o, dx, _, rfl, h1, rfl, _, rfl, rfl, h⟩) q) (fun H4 a4 => due (i := 5) rfl rfl fsg (by omega) (hv.still hP A3.st) H4 (.inl a4) A3.pen) (due_low fsg) fun H4 a4 => iteF ?_)
    have A4 := A3.trans a4
    refine q_forR1 (ea_cons ev_c ea_nil) (by decide) (fun i σ' H' => (∃ x6 x7 : Option V, σ' = [some (.ref p), some v, some (.ref o), some (.str z), some bv, some (.str fr), x6, x7]) ∧ Aft p l cells (n + 10 * i) T H H') (fun H5 e5 => ⟨⟨none, none, rfl⟩, A4.ex e5⟩) ?_ ?_
    · rintro i σ' H5 hi ⟨⟨x6, x7, rfl⟩, A5⟩
      refine q_asgR ⟨_, rfl, _, rfl, p, l, cells, n + 10 * i, fr, rfl, A5.pen, by omega, h63, fsg, by omega, fun y H6 sgy ly hP6 k6 => ?_⟩
      have A6 : Aft p l cells (n + 10 * i + 10) T H H6 := ⟨A5.st.trans (still_keep k6), hP6, tabs_keep A5.tabs A5.pen k6⟩
      refine s_ifE (t_heardNe (p := p) (l := l) (cells := cells) (n := n + 10 * i + 10) (d := dueD (dueF fl ps y)) (fun Q q => lam_lof (p := p) (l := l) (cells := cells) (n := n + 10 * i + 10) (f := fl) (ps := ps) (o := o) (z := y) (hO.still hP A6.st) A6.pen A6.tabs sgy (by omega) (fun H4 Q4 E4 r h => by
          obtain ⟨dx, qq, vs, h1, _⟩ := id r
          exact ⟨_, rfl, o, dx, _, rfl, h1, rfl, _, rfl, h⟩) q) (fun H7 a7 => due (i := 7) rfl rfl sgy (by omega) (hv.still hP A6.st) H7 (.inr a7.st) A6.pen) (due_low sgy) fun H7 a7 => iteF ?_)
      exact ⟨⟨_, _, rfl⟩, A6.trans a7⟩
    · rintro σ' H5 ⟨⟨x6, x7, rfl⟩, A5⟩
      exact s_ret (v := .bl true) ev_c fun H6 e6 => k H6 (A5.ex e6)
end
end K09
namespace K09
open PySem L2 Evl Gr ClX OwX OpX StX LamX LamY EXC ClK RdX StS EqT EnT SrtT Fr
/-! ### picks of which something holds -/
def EvOne (R : Hp → V → Prop) (te : TE) (σ : L2.St) (H : Hp) : Prop := ∀ H1, Ex H H1 → ∀ Q : VK, (∀ x H2, Ex H1 H2 → R H2 x → Q x H2) → te σ H1 Q
def EvAll (R : Hp → V → Prop) (n : Nat) (ta : TA) (σ : L2.St) (H : Hp) : Prop := ∀ H1, Ex H H1 → ∀ Q : List V → Hp → Prop, (∀ xs H2, Ex H1 H2 → xs.length = n → (∀ x ∈ xs, R H2 x) → Q xs H2) → ta σ H1 Q
def UpR (R : Hp → V → Prop) : Prop := ∀ H H' x, Ex H H' → R H x → R H' x
section
variable {R : Hp → V → Prop} {σ : L2.St} {H : Hp} {te : TE} {ta : TA} {n : Nat}
theorem all_nil : EvAll R 0 tNil σ H := fun H1 _ Q q => q [] H1 (Ex.refl H1) rfl fun x h => by cases h
theorem all_cons (up : UpR R) (h : EvOne R te σ H) (hr : EvAll R n ta σ H) : EvAll R (n + 1) (tCons te ta) σ H := fun H1 e Q q =>
  h H1 e _ fun x H2 e2 rx => hr H2 (e.trans e2) _ fun xs H3 e3 len all => q (x :: xs) H3 (e2.trans e3) (by rw [List.length_cons, len]) fun y hy => by
    rcases List.mem_cons.mp hy with rfl | hy
    · exact up _ _ _ e3 rx
    · exact all y hy
theorem one_v {v : V} (h : Ev te σ H v) (r : ∀ H1, R H1 v) : EvOne R te σ H := fun H1 e Q q => h H1 e _ fun H2 e2 => q v H2 e2 (r H2)
theorem one_lstS {xs : List V} (h : EvA ta σ H xs) (hl : xs.length ≤ 100000) (r : ∀ a H1 H2, Ex H H1 → H1 a = none → H2 a = some (.lst xs) → a ≠ sysModules → R H2 (.ref a)) : EvOne R (tLstS ta) σ H := fun H1 e Q q =>
  h H1 e _ fun H2 e2 => ⟨sz_of hl, fun a ha hs => q _ _ (e2.trans (Ex.new ha)) (r a H2 _ (e.trans e2) ha upd_same hs)⟩
theorem one_tup {xs : List V} (h : EvU te σ H xs) (r : ∀ a H1 H2, Ex H H1 → H1 a = none → H2 a = some (.tup xs) → R H2 (.ref a)) : EvOne R te σ H := fun H1 e Q q => h H1 e _ fun a H2 ha e2 h2 => q _ H2 e2 (r a H1 H2 e ha h2)
end
/-- a pick of a display -/
theorem q_pickR {R : Hp → V → Prop} (up : UpR R) {p l : Addr} {cells : List Int} {m n i j : Nat} {σ : L2.St} {H : Hp} {ta : TA} {tz : TS} {D : Ends} (hi : σ[i]? = some (some (.ref p))) (hP : PenAt H p l cells m) (hm : m ≤ 50000) (h63 : cells.length ≤ 63) (h : EvAll R n ta σ H) (n0 : 0 < n) (n1 : n ≤ 1000)
    (k : ∀ x H1 H2, Ex H H1 → R H1 x → PenAt H1 p l cells m → PenAt H2 p l cells (m + 1) → Keep p H1 H2 → tz D (σ.set j (some x)) H2) : tSeq (tAsg (tCall spPick [] E0 (tCons (tVar i) (tCons (tLst ta) tNil))) (gName j)) tz D σ H :=
  ⟨_, hi, h H (Ex.refl H) _ fun xs H1 e1 len all => ⟨by rw [len]; exact sz_of (by omega), fun a ha => by
    have e2 := Ex.new (o := .lst xs) ha
    have hP2 := hP.mono (e1.trans e2) (Nat.le_refl m)
    refine ⟨p, l, a, cells, m, xs, rfl, hP2, hm, h63, upd_same, fun z => ?_, by omega, by omega, fun t x H3 hx hP3 k3 => ?_⟩
    · exact pen_there (hP.mono e1 (Nat.le_refl m)) (z ▸ ha)
    · exact k x _ H3 (e1.trans e2) (up _ _ _ e2 (all x (List.mem_of_getElem? hx))) hP2 hP3 k3⟩⟩
/-! ### what is no letter -/
def oddS : List Str := ["2", "01a", Txt.mul "0" 201, "0 1", "0\n"]
def badS : List Str := ["2", "01a", "0 1", "011\n"]
theorem mul_5 : MulOk "0" 201 := by unfold MulOk; decide +kernel
/-- an odd value, and what it is -/
def Odd (p : Addr) (S : List Str) (H : Hp) (x : V) (d : PyData) : Prop := (x = .non ∧ d = .none) ∨ (x = .int 0 ∧ d = .int 0) ∨ (x = .int 1 ∧ d = .int 1) ∨ (x = .bl true ∧ d = .bool true) ∨ (∃ z, z ∈ S ∧ x = .str z ∧ d = .str z) ∨
  (∃ a, x = .ref a ∧ d = .list [.str "0"] ∧ H a = some (.lst [.str "0"]) ∧ a ≠ sysModules ∧ a ≠ p) ∨ ∃ a, x = .ref a ∧ d = .tuple [.str "0", .str "1"] ∧ H a = some (.tup [.str "0", .str "1"]) ∧ a ≠ p
section
variable {K : PySem.W.Frag} {p : Addr} {S : List Str} {H H' : Hp} {x : V} {d : PyData}
theorem odd_to (k : ∀ a o, H a = some o → a ≠ p → (∀ ps, o ≠ .tbl ps) → H' a = some o) (h : Odd p S H x d) : Odd p S H' x d := by
  rcases h with h | h | h | h | h | ⟨a, h1, h2, h3, h4, h5⟩ | ⟨a, h1, h2, h3, h4⟩
  · exact .inl h
  · exact .inr (.inl h)
  · exact .inr (.inr (.inl h))
  · exact .inr (.inr (.inr (.inl h)))
  · exact .inr (.inr (.inr (.inr (.inl h))))
  · exact .inr (.inr (.inr (.inr (.inr (.inl ⟨a, h1, h2, k _ _ h3 h5 (fun _ z => by cases z), h4, h5⟩)))))
  · exact .inr (.inr (.inr (.inr (.inr (.inr ⟨a, h1, h2, k _ _ h3 h4 (fun _ z => by cases z), h4⟩)))))
theorem odd_up : UpR fun H x => ∃ d, Odd p S H x d := fun H H' x e ⟨d, h⟩ => ⟨d, odd_to (fun _ _ q _ _ => e _ _ q) h⟩
theorem odd_still (k : Still p H H') (h : Odd p S H x d) : Odd p S H' x d := odd_to (fun a o q n t => k a o q n t) h
theorem oddS_no : ∀ z ∈ oddS, sgB z 0 200 = false ∧ z.length ≤ 300 := by
  have : oddS.all (fun z => !sgB z 0 200 && decide (z.length ≤ 300)) = true := by decide +kernel
  intro z hz
  have := List.all_eq_true.mp this z hz
  rw [Bool.and_eq_true, Bool.not_eq_true', decide_eq_true_iff] at this
  exact this
theorem badS_no : ∀ z ∈ badS, Sg z = false ∧ z.length ≤ 300 := by
  have : badS.all (fun z => !Sg z && decide (z.length ≤ 300)) = true := by decide +kernel
  intro z hz
  have := List.all_eq_true.mp this z hz
  rw [Bool.and_eq_true, Bool.not_eq_true', decide_eq_true_iff] at this
  exact this
/-- its kind, where it is no text -/
theorem odd_ty (h : Odd p S H x d) : (∃ z, z ∈ S ∧ x = .str z) ∨ ∃ T : String, TyX K H x (.type T) ∧ kitB T "str" = some false := by
  rcases h with ⟨rfl, _⟩ | ⟨rfl, _⟩ | ⟨rfl, _⟩ | ⟨rfl, _⟩ | ⟨z, h1, h2, _⟩ | ⟨a, rfl, _, h3, _⟩ | ⟨a, rfl, _, h3, _⟩
  · exact .inr ⟨"NoneType", .base .non, by decide +kernel⟩
  · exact .inr ⟨"int", .base (.int 0), by decide +kernel⟩
  · exact .inr ⟨"int", .base (.int 1), by decide +kernel⟩
  · exact .inr ⟨"bool", .base (.bl true), by decide +kernel⟩
  · exact .inl ⟨z, h1, h2⟩
  · exact .inr ⟨"list", .base (.lst h3), by decide +kernel⟩
  · exact .inr ⟨"tuple", .base (.tup h3), by decide +kernel⟩
theorem odd_no (h : Odd p oddS H x d) : SgV K H x 0 200 false := by
  rcases odd_ty (K := K) h with ⟨z, hz, rfl⟩ | ⟨T, h1, h2⟩
  · have b := oddS_no z hz
    have := sgv_str (K := K) (H := H) (z := z) (lo := 0) (hi := 200) (by omega)
    rwa [b.1] at this
  · exact sgv_not h1 h2
/-- what is shown of it -/
def shownOk (d : PyData) : Bool := d.showable && decide (d.depth ≤ 60) && decide (d.shown.length ≤ 1000) && PyData.strOk d.shown
theorem all_shown : (([.none, .int 0, .int 1, .bool true, .list [.str "0"], .tuple [.str "0", .str "1"]] : List PyData) ++ oddS.map PyData.str).all shownOk = true := by decide +kernel
theorem odd_shown (h : Odd p oddS H x d) : Shown K H x d ∧ PyData.strOk d.shown = true := by
  have mem : d ∈ ([.none, .int 0, .int 1, .bool true, .list [.str "0"], .tuple [.str "0", .str "1"]] : List PyData) ++ oddS.map PyData.str := by
    rcases h with ⟨_, rfl⟩ | ⟨_, rfl⟩ | ⟨_, rfl⟩ | ⟨_, rfl⟩ | ⟨z, h1, _, rfl⟩ | ⟨a, _, rfl, _⟩ | ⟨a, _, rfl, _⟩
    · exact List.mem_append_left _ (by simp)
    · exact List.mem_append_left _ (by simp)
    · exact List.mem_append_left _ (by simp)
    · exact List.mem_append_left _ (by simp)
    · exact List.mem_append_right _ (List.mem_map.mpr ⟨z, h1, rfl⟩)
    · exact List.mem_append_left _ (by simp)
    · exact List.mem_append_left _ (by simp)
  have ok := List.all_eq_true.mp all_shown d mem
  unfold shownOk at ok
  rw [Bool.and_eq_true, Bool.and_eq_true, Bool.and_eq_true, decide_eq_true_iff, decide_eq_true_iff] at ok
  obtain ⟨⟨⟨o1, o2⟩, o3⟩, o4⟩ := ok
  refine ⟨⟨?_, o1, o2, sz_of (by omega)⟩, o4⟩
  rcases h with ⟨rfl, rfl⟩ | ⟨rfl, rfl⟩ | ⟨rfl, rfl⟩ | ⟨rfl, rfl⟩ | ⟨z, h1, rfl, rfl⟩ | ⟨a, rfl, rfl, h3, h4, _⟩ | ⟨a, rfl, rfl, h3, _⟩
  · exact .non
  · exact .int 0
  · exact .int 1
  · exact .bl true
  · exact .str z
  · exact .lst (sq_of h3) h4 (.cons (.str _) .nil)
  · exact .tup (st_of h3) (.cons (.str _) (.cons (.str _) .nil))
end
section
variable {K : PySem.W.Frag} {C o p l cL cF cC : Addr} {T : List (Addr × Str)} {σ : L2.St} {H : Hp} {cells : List Int} {n : Nat} {Q : VK} {f z m : Str} {ps : List Pr} {ta tb : TE} {sp : Sp} {x : V} {d : PyData}
/-- heard: no letter -/
theorem lam_odd (hO : RuleAt K C H o f ps) (hP : PenAt H p l cells n) (hT : Tabs T H) (hx : Odd p oddS H x d) (ho : ∀ H1 (Q : VK), Q (.ref o) H1 → ta σ H1 Q) (hz : ∀ H1 (Q : VK), Q x H1 → tb σ H1 Q) (nm : NoFld m) (hs : ∀ H2 (Q2 : VK) E, RuleAt K C H2 o f ps → SgV K H2 x 0 200 false → Out1 cL "value" x H2 E → sp [.ref o, x] H2 Q2 E)
    (kE : ∀ r H3, Aft p l cells n T H H3 → H3 r = some (.tup [.str "letter", .str d.shown]) → Q (.ref r) H3) : tLam T (THd K cL cF cC) (fun E => tMeth C m sp [] E ta (tCons tb tNil)) σ H Q := ⟨hT, fun H1 x1 T1 H2 e2 => by
  have r := (hO.still hP (still_ext x1)).mono e2
  have hx2 := odd_still ((still_ext x1).trans (still_ex e2)) hx
  obtain ⟨dx, qq, vs, h1, _⟩ := id r
  refine ho H2 _ ⟨o, dx, _, rfl, h1, nm _ _, hz H2 _ ?_⟩
  exact hs H2 _ _ r (odd_no hx2) (told_value (Ex.refl H2) (odd_shown hx2).1 fun H4 r e4 h4 => kE r H4 (aft_of hP x1 T1 e4) h4)⟩
/-- heard: no signs -/
theorem lam_bad (hO : RuleAt K C H o f ps) (hP : PenAt H p l cells n) (hT : Tabs T H) (hx : Odd p badS H x d) (ho : ∀ H1 (Q : VK), Q (.ref o) H1 → ta σ H1 Q) (hz : ∀ H1 (Q : VK), Q x H1 → tb σ H1 Q)
    (kE : ∀ r H3, Aft p l cells n T H H3 → H3 r = some (.tup [.str "frame", .str "signs"]) → Q (.ref r) H3) : tLam T (THd K cL cF cC) (fun E => tMeth C "letter_of" (spLof K C cF) [] E ta (tCons tb tNil)) σ H Q := ⟨hT, fun H1 x1 T1 H2 e2 => by
  have r := (hO.still hP (still_ext x1)).mono e2
  have hx2 := odd_still ((still_ext x1).trans (still_ex e2)) hx
  obtain ⟨dx, qq, vs, h1, _⟩ := id r
  refine ho H2 _ ⟨o, dx, _, rfl, h1, nf_l _ _, hz H2 _ ⟨o, f, ps, x, rfl, r, ?_⟩⟩
  have out : BadF cF "signs" H2 (fun cls d H' => Ex H2 H' ∧ HdE K cL cF cC H1 Q cls d H') := told_part (Ex.refl H2) (.inl ⟨rfl, rfl⟩) fun H4 r e4 h4 => kE r H4 (aft_of hP x1 T1 e4) h4
  rcases odd_ty (K := K) hx2 with ⟨y, hy, rfl⟩ | ⟨ty, h1, h2⟩
  · have b := badS_no y hy
    exact .inr ⟨y, rfl, by omega, .inl ⟨b.1, out⟩⟩
  · exact .inl ⟨ty, h1, h2, out⟩⟩
end
theorem due_empty {f : Str} {ps : List Pr} (h : 2 ≤ f.length) : dueF f ps "" = .inl "flag" := by
  unfold dueF
  have l0 : ("" : Str).length = 0 := by decide +kernel
  have ff := PyProof.Rows.fact_find "" f
  rw [l0] at ff ⊢
  rw [if_pos (by omega)]
theorem vd_two {a b : Str} : ([V.str a, V.str b].map vd) = [.str a, .str b] := rfl
section
variable {P : Program} {w : World} {K : PySem.W.Frag} {mg : Str → Option Value} {base : Heap}
/-! ### _law_refused_right -/
abbrev sRF : Stmt := top 44
abbrev nRF : List Str := ["_law_pen_here", "_law_rule_here", "_law_odd", "_law_bad", "_law_heard_here"]
abbrev qRF : Str := ("_law_refused_right" : Str) ++ ".<locals>." ++ "<lambda>"
def spRF (K : PySem.W.Frag) (C : Addr) (T : List (Addr × Str)) : Sp := fun vs H Q _ => ∃ (o : Addr) (f : Str) (ps : List Pr) (p l : Addr) (cells : List Int) (n : Nat), vs = [.ref p, .ref o] ∧ RuleAt K C H o f ps ∧ PenAt H p l cells n ∧ n + 2 ≤ 50000 ∧ cells.length ≤ 63 ∧ Tabs T H ∧ ∀ H', Aft p l cells (n + 2) T H H' → Q (.bl true) H'
theorem scRF : FnScope nRF ["_law_pen_here", "_law_rule_here"] (defScope sRF) := ⟨rfl, rfl, rfl, by decide +kernel, rfl, by decide +kernel, by decide +kernel⟩
theorem ok_RF {f fH B cL cF cC C c Pc mB mF mP mL : Addr} {fd fdH dB dF dP dL : FuncData} {T : List (Addr × Str)} (F : FunC K "_law_refused_right" "_law_refused_right" sRF f fd c) (TB : TabB base mg c Pc) (hT : (Pc, qRF) ∈ T) (hu : ∀ p ∈ T, p.1 = Pc → p.2 = qRF)
    (HK : HdK K mg B cL cF cC) (FH : Fun K "_law_heard" "_law_heard" sHd fH fdH) (bH : Binds K fdH ["_law_ask"] []) (gH : mg "_law_heard" = some (.ref fH)) (O : FOp P w K mg base C cL cF cC mB mF mP mL dB dF dP dL)
    (GP : Gfn P w K mg base 2 "_law_pick" ["_law_pen_here", "_law_some"] spPick) : FnG P w K mg base 9 f fd ["_law_pen_here", "_law_rule_here"] (spRF K C T) := by
  obtain ⟨fP, fdP, GP, kP, bP, gP⟩ := GP
  refine F.okG scRF (fun vs H Q E h => ?_) (fun A outer s H vs Q E gd hr h => ?_)
  · obtain ⟨o, f, ps, p, l, cells, n, rfl, _⟩ := h
    rfl
  · obtain ⟨o, fl, ps, p, l, cells, n, rfl, hO, hP, hm, h63, tabs, k⟩ := h
    have r2 := hr.mono (show 2 ≤ 8 by decide)
    have hun : (A.deeper (PyProof.Rows.envOfC "_law_refused_right" (defScope sRF) s.heap.objs.size f (.ref c))).units + 64 < cLine := by
      have := hr.un
      omega
    refine ⟨_, (pss_cons (ps_set (i := 2) scRF.nd rfl (.inr rfl) (pe_call GP r2 (by rfl) gP kP bP .nil pass0 (pa_cons (pv 0) (pa_cons (pe_lst (pa_cons pe_non (pa_cons pe_int (pa_cons pe_str (pa_cons pe_str (pa_cons (pe_lstS (pa_cons pe_str pa_nil)) (pa_cons (pe_tup (pa_cons pe_str (pa_cons pe_str pa_nil))) (pa_cons pe_int (pa_cons (pe_op op_mulS pe_str pe_int) (pa_cons pe_bl (pa_cons pe_str (pa_cons pe_str pa_nil)))))))))))) pa_nil))))
      (pss_cons (ps_set (i := 3) scRF.nd rfl (.inr rfl) (pe_call GP r2 (by rfl) gP kP bP .nil pass0 (pa_cons (pv 0) (pa_cons (pe_lst (pa_cons pe_non (pa_cons pe_int (pa_cons pe_str (pa_cons pe_str (pa_cons (pe_lstS (pa_cons pe_str pa_nil)) (pa_cons (pe_tup (pa_cons pe_str (pa_cons pe_str pa_nil))) (pa_cons pe_int (pa_cons pe_bl (pa_cons pe_str (pa_cons pe_str pa_nil))))))))))) pa_nil))))
      (pss_cons (ps_set (i := 4) scRF.nd rfl (.inl rfl) (pe_lst (pa_cons (pe_heard (X := (cxOf CX0 P w K mg base nRF "_law_refused_right" (defScope sRF) f (.ref c) A outer s H E).nox) (T := T) (t := fun E2 => tMeth C "body" (spBody K C cL cC) [] E2 (tVar 1) (tCons (tVar 2) tNil)) (by rfl) gH FH bH HK gd TB rfl hT hu hr (lamS_by (sc := defScope sRF) (by decide +kernel)) rfl (fun _ _ _ _ _ => rfl)
            (fun A2 outer2 s2 H2 E2 f2 c2 hr2 => pe_meth (E := E2) (pv 1) O.G.cls O.hB O.oB (hr2.mono (show 4 ≤ 6 by decide)) O.bB .nil (passes_call (takes_of rfl rfl rfl rfl) fun _ _ _ _ z => z) (pa_cons (pv 2) pa_nil))) pa_nil)))
      (pss_cons (ps_expr (pe_bm PySem.F.plainAttrs_list PySem.F.slot_list_append PySem.F.type_list_append mt_append (pv 4) (pa_cons (pe_heard (X := (cxOf CX0 P w K mg base nRF "_law_refused_right" (defScope sRF) f (.ref c) A outer s H E).nox) (T := T) (t := fun E2 => tMeth C "frame" (spFrame K C cL cC) [] E2 (tVar 1) (tCons (tVar 2) tNil)) (by rfl) gH FH bH HK gd TB rfl hT hu hr (lamS_by (sc := defScope sRF) (by decide +kernel)) rfl (fun _ _ _ _ _ => rfl)
            (fun A2 outer2 s2 H2 E2 f2 c2 hr2 => pe_meth (E := E2) (pv 1) O.G.cls O.hF O.oF (hr2.mono (show 5 ≤ 6 by decide)) O.bF .nil (passes_call (takes_of rfl rfl rfl rfl) fun _ _ _ _ z => z) (pa_cons (pv 2) pa_nil))) pa_nil)))
      (pss_cons (ps_expr (pe_bm PySem.F.plainAttrs_list PySem.F.slot_list_append PySem.F.type_list_append mt_append (pv 4) (pa_cons (pe_heard (X := (cxOf CX0 P w K mg base nRF "_law_refused_right" (defScope sRF) f (.ref c) A outer s H E).nox) (T := T) (t := fun E2 => tMeth C "puts" (spPuts K C cL cC) [] E2 (tVar 1) (tCons (tVar 2) tNil)) (by rfl) gH FH bH HK gd TB rfl hT hu hr (lamS_by (sc := defScope sRF) (by decide +kernel)) rfl (fun _ _ _ _ _ => rfl)
            (fun A2 outer2 s2 H2 E2 f2 c2 hr2 => pe_meth (E := E2) (pv 1) O.G.cls O.hP O.oP (hr2.mono (show 5 ≤ 6 by decide)) O.bP .nil (passes_call (takes_of rfl rfl rfl rfl) fun _ _ _ _ z => z) (pa_cons (pv 2) pa_nil))) pa_nil)))
      (pss_cons (ps_expr (pe_bm PySem.F.plainAttrs_list PySem.F.slot_list_append PySem.F.type_list_append mt_append (pv 4) (pa_cons (pe_heard (X := (cxOf CX0 P w K mg base nRF "_law_refused_right" (defScope sRF) f (.ref c) A outer s H E).nox) (T := T) (t := fun E2 => tMeth C "letter_of" (spLof K C cF) [] E2 (tVar 1) (tCons (tVar 3) tNil)) (by rfl) gH FH bH HK gd TB rfl hT hu hr (lamS_by (sc := defScope sRF) (by decide +kernel)) rfl (fun _ _ _ _ _ => rfl)
            (fun A2 outer2 s2 H2 E2 f2 c2 hr2 => pe_meth (E := E2) (pv 1) O.G.cls O.hL O.oL (hr2.mono (show 4 ≤ 6 by decide)) O.bL .nil (passes_call (takes_of rfl rfl rfl rfl) fun _ _ _ _ z => z) (pa_cons (pv 3) pa_nil))) pa_nil)))
      (pss_one (ps_ret (pe_and (pe_cmpR (op_eqD hr.units) (pv 4) (pe_op op_cat (pe_op op_rep (pe_lst (pa_cons (pe_tup (pa_cons pe_str (pa_cons (pe_callB (call_reprD gd hun) (by rfl) HK.repr (by decide +kernel) (pa_cons (pv 2) pa_nil)) pa_nil))) pa_nil)) pe_int) (pe_lst (pa_cons (pe_tup (pa_cons pe_str (pa_cons pe_str pa_nil))) pa_nil))) (nomark _))
        (pe_one (pe_cmpR (op_eqD hr.units) (pe_heard (X := (cxOf CX0 P w K mg base nRF "_law_refused_right" (defScope sRF) f (.ref c) A outer s H E).nox) (T := T) (t := fun E2 => tMeth C "letter_of" (spLof K C cF) [] E2 (tVar 1) (tCons (tC (.str "")) tNil)) (by rfl) gH FH bH HK gd TB rfl hT hu hr (lamS_by (sc := defScope sRF) (by decide +kernel)) rfl (fun _ _ _ _ _ => rfl)
            (fun A2 outer2 s2 H2 E2 f2 c2 hr2 => pe_meth (E := E2) (pv 1) O.G.cls O.hL O.oL (hr2.mono (show 4 ≤ 6 by decide)) O.bL .nil (passes_call (takes_of rfl rfl rfl rfl) fun _ _ _ _ z => z) (pa_cons pe_str pa_nil))) (pe_tup (pa_cons pe_str (pa_cons pe_str pa_nil))) (nomark _)))))))))))), ?_⟩
    have g := hO.good
    have fl8 := sgB_iff.mp g.flag
    -- the two picks
    have np : ∀ {S : List Str} {H0 : Hp} {σ : L2.St} {m : Nat}, PenAt H0 p l cells m → EvOne (fun H x => ∃ d, Odd p S H x d) (tLstS (tCons (tC (.str "0")) tNil)) σ H0 := fun {S H0 σ m} hp0 => one_lstS (ea_cons ev_c ea_nil) (by show 1 ≤ 100000; decide) fun a H1 H2 e1 h1 h2 hs => ⟨_, .inr (.inr (.inr (.inr (.inr (.inl ⟨a, rfl, rfl, h2, hs, fun z => pen_there (hp0.mono e1 (Nat.le_refl _)) (z ▸ h1)⟩)))))⟩
    have nt : ∀ {S : List Str} {H0 : Hp} {σ : L2.St} {m : Nat}, PenAt H0 p l cells m → EvOne (fun H x => ∃ d, Odd p S H x d) (tTup (tCons (tC (.str "0")) (tCons (tC (.str "1")) tNil))) σ H0 := fun {S H0 σ m} hp0 => one_tup (eu_tup (ea_cons ev_c (ea_cons ev_c ea_nil)) (by show 2 ≤ 100000; decide)) fun a H1 H2 e1 h1 h2 => ⟨_, .inr (.inr (.inr (.inr (.inr (.inr ⟨a, rfl, rfl, h2, fun z => pen_there (hp0.mono e1 (Nat.le_refl _)) (z ▸ h1)⟩)))))⟩
    have nn : ∀ {S : List Str} {H0 : Hp} {σ : L2.St}, EvOne (fun H x => ∃ d, Odd p S H x d) (tC .non) σ H0 := one_v ev_c fun _ => ⟨_, .inl ⟨rfl, rfl⟩⟩
    have n0 : ∀ {S : List Str} {H0 : Hp} {σ : L2.St}, EvOne (fun H x => ∃ d, Odd p S H x d) (tC (.int 0)) σ H0 := one_v ev_c fun _ => ⟨_, .inr (.inl ⟨rfl, rfl⟩)⟩
    have n1 : ∀ {S : List Str} {H0 : Hp} {σ : L2.St}, EvOne (fun H x => ∃ d, Odd p S H x d) (tC (.int 1)) σ H0 := one_v ev_c fun _ => ⟨_, .inr (.inr (.inl ⟨rfl, rfl⟩))⟩
    have nb : ∀ {S : List Str} {H0 : Hp} {σ : L2.St}, EvOne (fun H x => ∃ d, Odd p S H x d) (tC (.bl true)) σ H0 := one_v ev_c fun _ => ⟨_, .inr (.inr (.inr (.inl ⟨rfl, rfl⟩)))⟩
    have ns : ∀ {S : List Str} {H0 : Hp} {σ : L2.St} {te : TE} {y : Str}, Ev te σ H0 (.str y) → y ∈ S → EvOne (fun H x => ∃ d, Odd p S H x d) te σ H0 := fun h hy => one_v h fun _ => ⟨_, .inr (.inr (.inr (.inr (.inl ⟨_, hy, rfl, rfl⟩))))⟩
    refine q_pickR (R := fun H x => ∃ d, Odd p oddS H x d) (i := 0) (n := 11) odd_up rfl hP (by omega) h63 (all_cons odd_up nn (all_cons odd_up n0 (all_cons odd_up (ns ev_c (by unfold oddS; simp)) (all_cons odd_up (ns ev_c (by unfold oddS; simp)) (all_cons odd_up (np hP) (all_cons odd_up (nt hP) (all_cons odd_up n1 (all_cons odd_up (ns (ev_mulS ev_c ev_c mul_5) (by unfold oddS; simp)) (all_cons odd_up nb (all_cons odd_up (ns ev_c (by unfold oddS; simp)) (all_cons odd_up (ns ev_c (by unfold oddS; simp)) all_nil))))))))))) (by decide) (by decide) fun x H1 H2 e1 ⟨d, hx1⟩ hP1 hP2 k2 => ?_
    have A2 : Aft p l cells (n + 1) T H H2 := ⟨(still_ex e1).trans (still_keep k2), hP2, tabs_keep (tabs.ext e1) hP1 k2⟩
    have hx2 := odd_still (still_keep k2) hx1
    refine q_pickR (R := fun H x => ∃ d, Odd p badS H x d) (i := 0) (n := 10) odd_up rfl hP2 (by omega) h63 (all_cons odd_up nn (all_cons odd_up n0 (all_cons odd_up (ns ev_c (by unfold badS; simp)) (all_cons odd_up (ns ev_c (by unfold badS; simp)) (all_cons odd_up (np hP2) (all_cons odd_up (nt hP2) (all_cons odd_up n1 (all_cons odd_up nb (all_cons odd_up (ns ev_c (by unfold badS; simp)) (all_cons odd_up (ns ev_c (by unfold badS; simp)) all_nil)))))))))) (by decide) (by decide) fun y H3 H4 e3 ⟨dy, hy3⟩ hP3 hP4 k4 => ?_
    have A4 : Aft p l cells (n + 2) T H H4 := ⟨(A2.st.trans (still_ex e3)).trans (still_keep k4), hP4, tabs_keep (A2.tabs.ext e3) hP3 k4⟩
    have hx4 := odd_still ((still_ex e3).trans (still_keep k4)) hx2
    have hy4 := odd_still (still_keep k4) hy3
    -- the four that are heard
    have told : ∀ {H5 : Hp}, Still p H4 H5 → RuleAt K C H5 o fl ps ∧ Odd p oddS H5 x d ∧ Odd p badS H5 y dy := fun s => ⟨hO.still hP (A4.st.trans s), odd_still s hx4, odd_still s hy4⟩
    refine q_asgR (lst_i (cons_i (lam_odd (p := p) (l := l) (cells := cells) (n := n + 2) (f := fl) (ps := ps) (o := o) (told Still.refl).1 hP4 A4.tabs hx4 (var_is rfl) (var_is rfl) nf_b (fun H5 Q5 E5 r5 s5 out => ⟨o, fl, ps, x, rfl, r5, .inl ⟨s5, out⟩⟩) fun r H5 a5 h5 => ⟨by show 1 ≤ sizeLine; decide, fun L hL => ?_⟩)))
    have S5 := hst_first (H0 := H4) a5.st a5.pen a5.tabs h5 hL
    obtain ⟨t1, t2, t3⟩ := told S5.st
    refine q_hear (K := K) (cL := cL) (cF := cF) (cC := cC) (n := n + 2) (vs := [.str "letter", .str d.shown]) S5 (by show 1 ≤ 100; decide) rfl (fun Q6 q6 => lam_odd (p := p) (l := l) (cells := cells) (n := n + 2) (f := fl) (ps := ps) (o := o) t1 S5.pen S5.tabs t2 (var_is rfl) (var_is rfl) nf_f (fun H5 Q5 E5 r5 s5 out => ⟨o, fl, ps, x, rfl, r5, .inl ⟨s5, out⟩⟩) fun r H6 a6 h6 => q6 r H6 a6.st a6.pen a6.tabs h6) fun H6 S6 _ => ?_
    obtain ⟨u1, u2, u3⟩ := told S6.st
    refine q_hear (K := K) (cL := cL) (cF := cF) (cC := cC) (n := n + 2) (vs := [.str "letter", .str d.shown]) S6 (by show 2 ≤ 100; decide) rfl (fun Q6 q6 => lam_odd (p := p) (l := l) (cells := cells) (n := n + 2) (f := fl) (ps := ps) (o := o) u1 S6.pen S6.tabs u2 (var_is rfl) (var_is rfl) nf_p (fun H5 Q5 E5 r5 s5 out => ⟨o, fl, ps, x, rfl, r5, .inl ⟨s5, out⟩⟩) fun r H6 a6 h6 => q6 r H6 a6.st a6.pen a6.tabs h6) fun H7 S7 _ => ?_
    obtain ⟨w1, w2, w3⟩ := told S7.st
    refine q_hear (K := K) (cL := cL) (cF := cF) (cC := cC) (n := n + 2) (vs := [.str "frame", .str "signs"]) S7 (by show 3 ≤ 100; decide) rfl (fun Q6 q6 => lam_bad (p := p) (l := l) (cells := cells) (n := n + 2) (f := fl) (ps := ps) (o := o) w1 S7.pen S7.tabs w3 (var_is rfl) (var_is rfl) fun r H6 a6 h6 => q6 r H6 a6.st a6.pen a6.tabs h6) fun H8 S8 _ => ?_
    obtain ⟨v1, v2, v3⟩ := told S8.st
    obtain ⟨shn, sok⟩ := odd_shown (K := K) v2
    have lowL : Low 0 (.str d.shown) := low_str sok
    have rows : Low 2 (.list [.tuple [.str "letter", .str d.shown], .tuple [.str "letter", .str d.shown], .tuple [.str "letter", .str d.shown], .tuple [.str "frame", .str "signs"]]) := by
      have r1 : Low 1 (.tuple [.str "letter", .str d.shown]) := low_tup (n := 0) fun e he => by
        simp only [List.mem_cons, List.not_mem_nil, or_false] at he
        rcases he with rfl | rfl
        · exact low_str (by decide +kernel)
        · exact lowL
      have r2 : Low 1 (.tuple [.str "frame", .str "signs"]) := low_tup (n := 0) fun e he => by
        simp only [List.mem_cons, List.not_mem_nil, or_false] at he
        rcases he with rfl | rfl <;> exact low_str (by decide +kernel)
      refine low_list (n := 1) fun e he => ?_
      simp only [List.mem_cons, List.not_mem_nil, or_false] at he
      rcases he with rfl | rfl | rfl | rfl
      · exact r1
      · exact r1
      · exact r1
      · exact r2
    have scal : ∀ vs ∈ ([[.str "letter", .str d.shown]] ++ [[.str "letter", .str d.shown]] ++ [[.str "letter", .str d.shown]] ++ [[.str "frame", .str "signs"]] : List (List V)), Scal vs := fun vs hvs => by
      simp only [List.mem_append, List.mem_cons, List.not_mem_nil, or_false] at hvs
      intro e he
      rcases hvs with ((rfl | rfl) | rfl) | rfl
      all_goals
        simp only [List.mem_cons, List.not_mem_nil, or_false] at he
        rcases he with rfl | rfl <;> exact .inl ⟨_, rfl⟩
    have right : EvD K (tOp rCat (tOp rRep (tLst (tCons (tTup (tCons (tC (.str "letter")) (tCons (tCB (rRepr K) (tCons (tVar 2) tNil)) tNil))) tNil)) (tC (.int 3))) (tLst (tCons (tTup (tCons (tC (.str "frame")) (tCons (tC (.str "signs")) tNil))) tNil))) [some (.ref p), some (.ref o), some x, some y, some (.ref L)] H8 (.list [.tuple [.str "letter", .str d.shown], .tuple [.str "letter", .str d.shown], .tuple [.str "letter", .str d.shown], .tuple [.str "frame", .str "signs"]]) :=
      ed_eld (eld_cat (eld_rep (n := 3) (eld_one (ed_T (etu_disp (ea_cons ev_c (ea_cons (ev_cb (ea_cons (ev_var rfl) ea_nil) (rc_shown shn)) ea_nil)) (by show 2 ≤ 100000; decide)) fun _ _ => .cons (.str _) (.cons (.str _) .nil))) (by decide) (by show 1 * 3 ≤ 100000; decide)) (eld_one ed_two) (by show 3 + 1 ≤ 100000; decide))
    have left := ed_hds (K := K) (σ := [some (.ref p), some (.ref o), some x, some y, some (.ref L)]) (i := 4) rfl S8.hd scal
    have first := ev_eqD left right (low_shaped rows (by decide)) (low_shaped rows (by decide))
    have self := low_self rows
    refine s_retR (first H8 (Ex.refl H8) _ fun H9 e9 => ?_)
    have A9 : Aft p l cells (n + 2) T H H9 := (⟨A4.st.trans S8.st, S8.pen, S8.tabs⟩ : Aft p l cells (n + 2) T H H8).ex e9
    refine ⟨true, congrArg V.bl self, ?_⟩
    rw [if_pos rfl]
    have due := due_empty (f := fl) (ps := ps) (by omega)
    have l0 : ("" : Str).length = 0 := by decide +kernel
    refine op_i (lam_lof (p := p) (l := l) (cells := cells) (n := n + 2) (f := fl) (ps := ps) (o := o) (z := "") (hO.still hP A9.st) A9.pen A9.tabs (by decide +kernel) (by rw [l0]; omega) (fun H4 Q4 E4 r h => by
        obtain ⟨dx, qq, vs, h1, _⟩ := id r
        exact ⟨_, rfl, o, dx, _, rfl, h1, rfl, h⟩) fun r Ha aa da => ?_)
    rw [due] at da
    have dl : Low 1 (dueD (.inl "flag")) := due ▸ due_low (f := fl) (ps := ps) (z := "") (by decide +kernel)
    exact (ed_two (K := K) (σ := [some (.ref p), some (.ref o), some x, some y, some (.ref L)]) (H := Ha)) Ha (Ex.refl Ha) _ fun u Hb eb du => ⟨dueD (.inl "flag"), dueD (.inl "flag"), dp_up eb _ da, du, low_shaped dl (by decide), low_shaped dl (by decide), by
      rw [low_self dl]
      exact k Hb ((A9.trans aa).ex eb)⟩
end
end K09
namespace K09
open PySem L2 Evl Gr ClX OwX OpX StX LamX LamY EXC ClK RdX StS EqT EnT SrtT StM Fr
abbrev sLaw : Stmt := top 45
abbrev nLaw : List Str := ["_law_script", "_law_pen_here", "_law_lap", "_law_plan_here", "_law_letter_here", "_law_rule_here", "_law_two", "_law_endless", "_law_long"]
abbrev qLaw : Str := ("law" : Str) ++ ".<locals>." ++ "<lambda>"
theorem scLaw : FnScope nLaw ["_law_script"] (defScope sLaw) := ⟨rfl, rfl, rfl, by decide +kernel, rfl, by decide +kernel, by decide +kernel⟩
theorem or_no {t u : TT} {σ : L2.St} {H : Hp} {Q : Bool → Hp → Prop} (h : EvT t σ H false) (k : ∀ H1, Ex H H1 → u σ H1 Q) : tOr t u σ H Q := h H (Ex.refl H) _ fun H1 e => iteF (k H1 e)
section
variable {K : PySem.W.Frag} {C p l cR cT cM cL cF cC : Addr} {T : List (Addr × Str)} {σ : L2.St} {H : Hp} {cells : List Int} {n : Nat} {Q : VK} {i : Nat} {E : XK} {ta : TA} {tb te : TE} {f z m : Str} {ps qs : List Pr} {sp : Sp} {y v : V} {d : PyData} {tl : XK → TE}
/-- a rule that is made of a flag and pairs as they are passed -/
theorem eru_make (h : EvPp ta σ H ps) (g : Good f qs) (pm : ps.Perm qs) : EvRu K C (tMakeR C (spInitA K C cR cM) E (tCons (tC (.str f)) ta)) σ H f qs := fun H1 e Q q =>
  cons_i (c_i (h H1 e _ fun xs H2 e2 hx o dx ho hd hn => init_told ho hd hn (by
    have := g.many
    have := pm.length_eq
    rw [hx.len]
    omega) (made_ok g hx pm fun qs' g' pm' => by
      obtain rfl := good_one g' g (pm'.trans pm)
      exact fun o H3 e3 r => q o H3 (e2.trans e3) r)))
theorem eru_sim {w q : Str} (hw : sgB w 1 7 = true) (hq : sgB q 1 1 = true) (ef : w ++ flip1 q = f) (g : Good f [(w, q)]) : EvRu K C (tSMeth C (spSim K C cR) E0 (tC (.ref C)) (tCons (tC (.str w)) (tCons (tC (.str q)) tNil))) σ H f [(w, q)] := fun H1 e Q k => by
  subst ef
  exact ⟨rfl, cons_i (c_i (cons_i (c_i ⟨_, _, rfl, .inr ⟨w, rfl, hw, .inr ⟨q, rfl, hq, g, fun o H2 e2 r => k o H2 e2 r⟩⟩⟩)))⟩
theorem ev_mtU (ha : EvRu K C te σ H f ps) (nm : NoFld m) (hb : ∀ H1, Ex H H1 → Ev tb σ H1 y) (hs : ∀ o H1, RuleAt K C H1 o f ps → ∀ Q, (∀ H2, Ex H1 H2 → Q v H2) → sp [.ref o, y] H1 Q E) : Ev (tMeth C m sp [] E te (tCons tb tNil)) σ H v := fun H1 e Q q =>
  ha H1 e _ fun o H2 e2 r => by
    obtain ⟨dx, qq, vs, h1, _⟩ := id r
    exact ⟨o, dx, _, rfl, h1, nm _ _, hb H2 (e.trans e2) H2 (Ex.refl H2) _ fun H3 e3 => hs o H3 (r.mono e3) Q fun H4 e4 => q H4 ((e2.trans e3).trans e4)⟩
theorem t_heardNe2 (lam : ∀ Q : VK, (∀ r H3, Aft p l cells n T H H3 → Dp K H3 (.ref r) d → Q (.ref r) H3) → tLam T (THd K cL cF cC) tl σ H Q) (due : ∀ H3, Aft p l cells n T H H3 → EvD K te σ H3 d) (low : Low 1 d)
    {Qt : Bool → Hp → Prop} (k : ∀ H4, Aft p l cells n T H H4 → Qt false H4) : tTest (tOp (rNeD K) (tLam T (THd K cL cF cC) tl) te) σ H Qt :=
  op_i (lam _ fun r H3 a3 d3 => due H3 a3 H3 (Ex.refl H3) _ fun v H4 e4 d4 => ⟨d, d, dp_up e4 d d3, d4, low_shaped low (by decide), low_shaped low (by decide), _, rfl, by
    rw [low_self low]
    exact k H4 (a3.ex e4)⟩)
end
theorem good_by {f : Str} {ps : List Pr} (h1 : sgB f 2 8 = true) (h2 : ps.all (fun p => sgB p.1 1 8 && sgB p.2 1 1) = true) (h3 : ps.length ≤ 4) (h4 : ps.Pairwise fun p q => ltB p.1 q.1 = true) : Good f ps := ⟨h1, fun p hp => by
  have := List.all_eq_true.mp h2 p hp
  simpa [PairOk] using this, h3, h4⟩
abbrev qTwo : List Pr := [("01", "1"), ("1", "0")]
abbrev qEnd : List Pr := [("0", "0")]
abbrev qLong : List Pr := [("01", "0"), ("01010101", "1"), ("10", "1"), ("1011", "1")]
theorem g_two : Good "0011" qTwo := good_by (by decide +kernel) (by decide +kernel) (by decide) (by decide +kernel)
theorem g_end : Good "000" qEnd := good_by (by decide +kernel) (by decide +kernel) (by decide) (by decide +kernel)
theorem g_long : Good "000" qLong := good_by (by decide +kernel) (by decide +kernel) (by decide) (by decide +kernel)
theorem g_one : Good "011" [("01", "0")] := good_by (by decide +kernel) (by decide +kernel) (by decide) (by decide +kernel)
theorem p_two : ([("1", "0"), ("01", "1")] : List Pr).Perm qTwo := by decide +kernel
theorem p_long : ([("01", "0"), ("10", "1"), ("01010101", "1"), ("1011", "1")] : List Pr).Perm qLong := by decide +kernel
theorem b_two : (bodyL (lp qTwo) [] (TL.tl "101")).isSome = true := by decide +kernel
theorem b_end : bodyL (lp qEnd) [] (TL.tl "10") = none := by decide +kernel
theorem b_end2 : bodyL (lp qEnd) [] (TL.tl "11") = some (TL.tl "11") := by decide +kernel
theorem b_long : bodyL (lp qLong) [] (TL.tl "10") = some (TL.tl "10101010111") := by decide +kernel
theorem b_one : bodyL (lp [("01", "0")]) [] (TL.tl "0101") = some (TL.tl "010010") := by decide +kernel
theorem d_long : dueF "000" qLong "10101010111000" = .inr (TL.tl "10") := by decide +kernel
theorem mk_tl (z : Str) : mk (TL.tl z) = z := (mk_eq rfl).symm
end K09
namespace K09
open PySem L2 Evl Gr ClX OwX OpX StX LamX LamY EXC ClK RdX StS EqT EnT SrtT StM Fr
section
variable {P : Program} {w : World} {K : PySem.W.Frag} {mg : Str → Option Value} {base : Heap}
def spLaw (K : PySem.W.Frag) (T : List (Addr × Str)) : Sp := fun vs H Q _ => ∃ (a : Addr) (ns : List Int), vs = [.ref a] ∧ SqL K H a (ns.map V.int) ∧ ns.length ≤ 63 ∧ Tabs T H ∧ ∀ H', Q (.bl true) H'
theorem ok_Law {f fH fI fSi pS B cR cM cL cF cC C c Pc mB mF mP mL f6 f7 f8 : Addr} {mc : Value} {fd fdH fdSi dB dF dP dL fd6 fd7 fd8 : FuncData} {T : List (Addr × Str)} (F : FunC K "law" "law" sLaw f fd c) (TB : TabB base mg c Pc) (hT : (Pc, qLaw) ∈ T) (hu : ∀ p ∈ T, p.1 = Pc → p.2 = qLaw)
    (N : FName K mg C mc) (S : GlbS mg) (HK : HdK K mg B cL cF cC) (FH : Fun K "_law_heard" "_law_heard" sHd fH fdH) (bH : Binds K fdH ["_law_ask"] []) (gH : mg "_law_heard" = some (.ref fH)) (O : FOp P w K mg base C cL cF cC mB mF mP mL dB dF dP dL)
    (M : Mk K C fI) (FI : FnR P w K mg base (L2.CX P w) 4 fI (spInitA K C cR cM)) (hSim : SMet K C mc "simple" pS fSi) (FS : FnOk P w K mg base (L2.CX P w) 6 fSi fdSi ["watch", "put"] (spSim K C cR)) (bS : Binds K fdSi ["watch", "put"] [])
    (GPe : Gfn P w K mg base 1 "_law_pen" ["_law_script"] (spPen K)) (GPl : Gfn P w K mg base 4 "_law_plan" ["_law_pen_here"] spPlan) (GLe : Gfn P w K mg base 3 "_law_letter" ["_law_pen_here"] spLle) (GRu : Gfn P w K mg base 7 "_law_rule" ["_law_plan_here"] (spLru K C)) (GBo : Gfn P w K mg base 2 "_law_body" ["_law_plan_here", "_law_letter_here"] spLbo)
    (G6 : FnG P w K mg base 9 f6 fd6 ["_law_plan_here", "_law_rule_here", "_law_letter_here"] (spSR K C T)) (k6 : PySem.W.keepIn K (.ref f6) = true) (b6 : Binds K fd6 ["_law_plan_here", "_law_rule_here", "_law_letter_here"] []) (g6 : mg "_law_sent_right" = some (.ref f6))
    (G7 : FnG P w K mg base 9 f7 fd7 ["_law_pen_here", "_law_plan_here", "_law_rule_here", "_law_letter_here"] (spRR K C T)) (k7 : PySem.W.keepIn K (.ref f7) = true) (b7 : Binds K fd7 ["_law_pen_here", "_law_plan_here", "_law_rule_here", "_law_letter_here"] []) (g7 : mg "_law_read_right" = some (.ref f7))
    (G8 : FnG P w K mg base 9 f8 fd8 ["_law_pen_here", "_law_rule_here"] (spRF K C T)) (k8 : PySem.W.keepIn K (.ref f8) = true) (b8 : Binds K fd8 ["_law_pen_here", "_law_rule_here"] []) (g8 : mg "_law_refused_right" = some (.ref f8)) :
    FnG P w K mg base 10 f fd ["_law_script"] (spLaw K T) := by
  obtain ⟨f1, fd1, G1, k1, b1, g1⟩ := GPe
  obtain ⟨f2, fd2, G2, k2, b2, g2⟩ := GPl
  obtain ⟨f3, fd3, G3, k3, b3, g3⟩ := GLe
  obtain ⟨f4, fd4, G4, k4, b4, g4⟩ := GRu
  obtain ⟨f5, fd5, G5, k5, b5, g5⟩ := GBo
  refine F.okG scLaw (fun vs H Q E h => ?_) (fun A outer s H vs Q E gd hr h => ?_)
  · obtain ⟨a, ns, rfl, _⟩ := h
    rfl
  · obtain ⟨a, ns, rfl, hS, h63, tabs, k⟩ := h
    have r1 := hr.mono (show 1 ≤ 9 by decide)
    have r2 := hr.mono (show 2 ≤ 9 by decide)
    have r3 := hr.mono (show 3 ≤ 9 by decide)
    have r4 := hr.mono (show 4 ≤ 9 by decide)
    have r5 := hr.mono (show 5 ≤ 9 by decide)
    have r6 := hr.mono (show 6 ≤ 9 by decide)
    have r7 := hr.mono (show 7 ≤ 9 by decide)
    have r8 := hr.mono (show 8 ≤ 9 by decide)
    refine ⟨_, (pss_cons (ps_set (i := 1) scLaw.nd rfl (.inl rfl) (pe_call G1 r1 (by rfl) g1 k1 b1 .nil pass0 (pa_cons (pv 0) pa_nil)))
      (pss_cons (ps_for PassesOwn.never rfl (pi_range1 (by rfl) S.range (pa_cons pe_int pa_nil)) (pg_name (i := 2) scLaw.nd rfl (.inl rfl))
        (pss_cons (ps_par (i := 3) (j := 4) rfl scLaw.nd rfl rfl (by decide) rfl rfl (pa_cons (pe_call G2 r4 (by rfl) g2 k2 b2 .nil pass0 (pa_cons (pv 1) pa_nil)) (pa_cons (pe_call G3 r3 (by rfl) g3 k3 b3 .nil pass0 (pa_cons (pv 1) pa_nil)) pa_nil)) (by rfl))
      (pss_cons (ps_set (i := 5) scLaw.nd rfl (.inl rfl) (pe_call G4 r7 (by rfl) g4 k4 b4 .nil pass0 (pa_cons (pv 3) pa_nil)))
      (pss_one (ps_if (PW.pt (pw_or (pt_not (pt_val (pe_callG G6 gd hr (by rfl) g6 k6 b6 (pa_cons (pv 3) (pa_cons (pv 5) (pa_cons (pv 4) pa_nil)))))) (pw_or (pt_not (pt_val (pe_callG G7 gd hr (by rfl) g7 k7 b7 (pa_cons (pv 1) (pa_cons (pv 3) (pa_cons (pv 5) (pa_cons (pv 4) pa_nil))))))) (pw_or1 (pt_not (pt_val (pe_callG G8 gd hr (by rfl) g8 k8 b8 (pa_cons (pv 1) (pa_cons (pv 5) pa_nil))))))))) (pss_one (ps_ret pe_bl)) pss_nil)))))
      (pss_cons (ps_set (i := 6) scLaw.nd rfl (.inl rfl) (pe_makeR (E := E0) M FI r5 (by rfl) N.g (passN rfl rfl) (pa_cons pe_str (pa_cons (pe_tup (pa_cons pe_str (pa_cons pe_str pa_nil))) (pa_cons (pe_tup (pa_cons pe_str (pa_cons pe_str pa_nil))) pa_nil)))))
      (pss_cons (ps_asg (pe_tup (pa_cons (pe_makeR (E := E0) M FI r5 (by rfl) N.g (passN rfl rfl) (pa_cons pe_str (pa_cons (pe_tup (pa_cons pe_str (pa_cons pe_str pa_nil))) pa_nil))) (pa_cons (pe_makeR (E := E0) M FI r5 (by rfl) N.g (passN rfl rfl) (pa_cons pe_str (pa_cons (pe_tup (pa_cons pe_str (pa_cons pe_str pa_nil))) (pa_cons (pe_tup (pa_cons pe_str (pa_cons pe_str pa_nil))) (pa_cons (pe_tup (pa_cons pe_str (pa_cons pe_str pa_nil))) (pa_cons (pe_tup (pa_cons pe_str (pa_cons pe_str pa_nil))) pa_nil)))))) pa_nil)))
        (pg_tup rfl (pgs_cons (pg_name (i := 7) scLaw.nd rfl (.inr rfl)) (pgs_cons (pg_name (i := 8) scLaw.nd rfl (.inl rfl)) pgs_nil))))
      (pss_cons (ps_if (PW.pt (pw_or (pt_cmpR op_ne (pe_meth (E := E0) (pv 8) O.G.cls O.hB O.oB r4 O.bB .nil (passN rfl rfl) (pa_cons pe_str pa_nil)) pe_str (nomark _)) (pw_or (pt_cmpR op_ne (pe_meth (E := E0) (pv 8) O.G.cls O.hP O.oP r5 O.bP .nil (passN rfl rfl) (pa_cons pe_str pa_nil)) pe_int (nomark _))
          (pw_or1 (pt_cmpR op_ne (pe_meth (E := E0) (pv 8) O.G.cls O.hL O.oL r4 O.bL .nil (passN rfl rfl) (pa_cons pe_str pa_nil)) pe_str (nomark _)))))) (pss_one (ps_ret pe_bl)) pss_nil)
      (pss_cons (ps_if (PW.pt (pw_or (pt_cmpR op_ne (pe_meth (E := E0) (pv 6) O.G.cls O.hB O.oB r4 O.bB .nil (passN rfl rfl) (pa_cons pe_str pa_nil)) (pe_call G5 r2 (by rfl) g5 k5 b5 .nil pass0 (pa_cons (pe_tup (pa_cons pe_str (pa_cons (pe_lst (pa_cons (pe_tup (pa_cons pe_str (pa_cons pe_str pa_nil))) (pa_cons (pe_tup (pa_cons pe_str (pa_cons pe_str pa_nil))) pa_nil))) pa_nil))) (pa_cons pe_str pa_nil))) (nomark _))
          (pw_or1 (pt_cmpR (op_neD hr.units) (pe_heard (X := (cxOf CX0 P w K mg base nLaw "law" (defScope sLaw) f (.ref c) A outer s H E).nox) (T := T) (t := fun E2 => tMeth C "frame" (spFrame K C cL cC) [] E2 (tVar 7) (tCons (tC (.str "10")) tNil)) (by rfl) gH FH bH HK gd TB rfl hT hu r8 (lamS_by (sc := defScope sLaw) (by decide +kernel)) rfl (fun _ _ _ _ _ => rfl)
            (fun A2 outer2 s2 H2 E2 f2 c2 hr2 => pe_meth (E := E2) (pv 7) O.G.cls O.hF O.oF (hr2.mono (show 5 ≤ 6 by decide)) O.bF .nil (passes_call (takes_of rfl rfl rfl rfl) fun _ _ _ _ z => z) (pa_cons pe_str pa_nil))) (pe_tup (pa_cons pe_str (pa_cons pe_str pa_nil))) (nomark _))))) (pss_one (ps_ret pe_bl)) pss_nil)
      (pss_one (ps_ret (pe_and (pe_cmpR op_eq (pe_meth (E := E0) (pv 7) O.G.cls O.hF O.oF r5 O.bF .nil (passN rfl rfl) (pa_cons pe_str pa_nil)) pe_str (nomark _))
        (pe_one (pe_cmpR op_eq (pe_meth (E := E0) (pe_smeth (E := E0) (pe_glob (v := .ref C) (by rfl) N.g rfl) N.rd hSim (fnR0 FS bS) r6 (passN rfl rfl) (pa_cons pe_str (pa_cons pe_str pa_nil))) O.G.cls O.hF O.oF r5 O.bF .nil (passN rfl rfl) (pa_cons pe_str pa_nil)) pe_str (nomark _)))))))))))), ?_⟩
    refine ⟨_, rfl, a, ns, rfl, hS, h63, fun p l H1 hp0 _ e1 hP => ?_⟩
    have T1 := tabs.ext e1
    refine q_forR1 (ea_cons ev_c ea_nil) (by decide) (fun i σ' H' => (∃ x2 x3 x4 x5 : Option V, σ' = [some (.ref a), some (.ref p), x2, x3, x4, x5, none, none, none]) ∧ PenAt H' p l ns (152 * i) ∧ Tabs T H') (fun H2 e2 => ⟨⟨none, none, none, none, rfl⟩, hP.mono e2 (Nat.le_refl _), T1.ext e2⟩) ?_ ?_
    · rintro i σ' H2 hi ⟨⟨x2, x3, x4, x5, rfl⟩, hP2, T2⟩
      refine q_par (cons_i ⟨_, rfl, p, l, ns, 152 * i, rfl, hP2, by omega, h63, fun v fl ps H3 pl hv hP3 k3 => cons_i ⟨_, rfl, p, l, ns, _, rfl, hP3, by omega, h63, fun z H4 hz hP4 k4 => ⟨_, _, rfl, ?_⟩⟩⟩)
      have T3 := tabs_keep T2 hP2 k3
      have T4 := tabs_keep T3 hP3 k4
      have hv4 := hv.keep hP3 k4
      refine q_asgR ⟨_, rfl, v, fl, ps, rfl, hv4, pl.good, fun o H5 e5 r5' => ?_⟩
      have hv5 := hv4.mono e5
      have hP5 := hP4.mono e5 (Nat.le_refl _)
      have T5 := T4.ext e5
      refine s_ifE ⟨_, rfl, _, rfl, _, rfl, v, o, z, fl, ps, p, l, ns, _, rfl, hv5, r5', hz, hP5, T5, fun H6 A6 => ⟨true, rfl, iteF ?_⟩⟩
      refine ⟨_, rfl, _, rfl, _, rfl, _, rfl, v, o, z, fl, ps, p, l, ns, _, rfl, hv5.still hP5 A6.st, r5'.still hP5 A6.st, hz, A6.pen, by omega, h63, A6.tabs, fun H7 A7 => ⟨true, rfl, iteF ?_⟩⟩
      refine ⟨_, rfl, _, rfl, o, fl, ps, p, l, ns, _, rfl, (r5'.still hP5 A6.st).still A6.pen A7.st, A7.pen, by omega, h63, A7.tabs, fun H8 A8 => ⟨true, rfl, iteF ?_⟩⟩
      exact ⟨⟨_, _, _, _, rfl⟩, A8.pen.le (by omega), A8.tabs⟩
    rintro σ' H2 ⟨⟨x2, x3, x4, x5, rfl⟩, hP2, T2⟩
    refine q_asgR ((eru_make (C := C) (cR := cR) (cM := cM) (E := E0) (show EvPp _ [some (.ref a), some (.ref p), x2, x3, x4, x5, none, none, none] H2 [("1", "0"), ("01", "1")] from epp_cons (ep_tup ev_c ev_c) (epp_cons (ep_tup ev_c ev_c) epp_nil)) g_two p_two) H2 (Ex.refl H2) _ fun ot H3 e3 rt => ?_)
    refine q_asgG (tup_i (cons_i ((eru_make (C := C) (cR := cR) (cM := cM) (E := E0) (show EvPp _ [some (.ref a), some (.ref p), x2, x3, x4, x5, some (.ref ot), none, none] H3 [("0", "0")] from epp_cons (ep_tup ev_c ev_c) epp_nil) g_end (List.Perm.refl _)) H3 (Ex.refl H3) _ fun oe H4 e4 re =>
      cons_i ((eru_make (C := C) (cR := cR) (cM := cM) (E := E0) (show EvPp _ [some (.ref a), some (.ref p), x2, x3, x4, x5, some (.ref ot), none, none] H4 [("01", "0"), ("10", "1"), ("01010101", "1"), ("1011", "1")] from epp_cons (ep_tup ev_c ev_c) (epp_cons (ep_tup ev_c ev_c) (epp_cons (ep_tup ev_c ev_c) (epp_cons (ep_tup ev_c ev_c) epp_nil)))) g_long p_long) H4 (Ex.refl H4) _ fun ol H5 e5 rl =>
        ⟨by show 2 ≤ sizeLine; decide, fun t ht => ⟨t, _, rfl, st_of upd_same, rfl, _, _, rfl, _, _, rfl, rfl, ?_⟩⟩))))
    have e6 := Ex.new (H := H5) (o := .tup [.ref oe, .ref ol]) ht
    have E6 := (e3.trans (e4.trans e5)).trans e6
    have rt6 := rt.mono ((e4.trans e5).trans e6)
    have re6 := re.mono (e5.trans e6)
    have rl6 := rl.mono e6
    have hP6 := hP2.mono E6 (Nat.le_refl _)
    have T6 := T2.ext E6
    show tSeq _ _ _ [some (.ref a), some (.ref p), x2, x3, x4, x5, some (.ref ot), some (.ref oe), some (.ref ol)] (upd H5 t (.tup [.ref oe, .ref ol]))
    generalize upd H5 t (.tup [.ref oe, .ref ol]) = H6 at e6 E6 rt6 re6 rl6 hP6 T6 ⊢
    have z10 : sgB "10" 0 200 = true := by decide +kernel
    have z11 : sgB "11" 0 200 = true := by decide +kernel
    have z101 : sgB "101" 0 200 = true := by decide +kernel
    have z0101 : sgB "0101" 0 200 = true := by decide +kernel
    refine q_when (b := false) (et_is (et_or (et_test (ev_op (ev_mt (ev_var rfl) rl6 nf_b ev_c (sp_body rl6 z10 b_long)) ev_c (rv_ne rfl))) fun _ => et_or (et_test (ev_op (ev_mt (ev_var rfl) rl6 nf_p ev_c (sp_puts rl6 z10 b_long)) ev_c (rv_ne rfl))) fun _ =>
      et_test (ev_op (ev_mt (v := .str (mk (TL.tl "10"))) (ev_var rfl) rl6 nf_l ev_c fun H7 e7 Q7 q7 => ⟨ol, _, _, _, rfl, rl6.mono e7, .inr ⟨_, rfl, by decide +kernel, .inr ⟨by decide +kernel, .inr ⟨_, d_long, q7⟩⟩⟩⟩) ev_c (rv_ne rfl))) (by decide +kernel)) (fun hb => absurd hb (by decide)) (fun _ H7 e7 => ?_)
    have rt7 := rt6.mono e7
    have re7 := re6.mono e7
    obtain ⟨u, hu2⟩ := Option.isSome_iff_exists.mp b_two
    have plan : EvPl (tTup (tCons (tC (.str "0011")) (tCons (tLst (tCons (tTup (tCons (tC (.str "01")) (tCons (tC (.str "1")) tNil))) (tCons (tTup (tCons (tC (.str "1")) (tCons (tC (.str "0")) tNil))) tNil))) tNil))) [some (.ref a), some (.ref p), x2, x3, x4, x5, some (.ref ot), some (.ref oe), some (.ref ol)] H7 "0011" qTwo := epl_tup ev_c (epp_cons (ep_tup ev_c ev_c) (epp_cons (ep_tup ev_c ev_c) epp_nil)) (by decide)
    have own : Ev (tCall spLbo [] E0 (tCons (tTup (tCons (tC (.str "0011")) (tCons (tLst (tCons (tTup (tCons (tC (.str "01")) (tCons (tC (.str "1")) tNil))) (tCons (tTup (tCons (tC (.str "1")) (tCons (tC (.str "0")) tNil))) tNil))) tNil))) (tCons (tC (.str "101")) tNil))) [some (.ref a), some (.ref p), x2, x3, x4, x5, some (.ref ot), some (.ref oe), some (.ref ol)] H7 (.str (mk u)) := fun H8 e8 Q8 q8 =>
      cons_i (plan H8 e8 _ fun v H9 e9 hv => cons_i (c_i ⟨v, "101", "0011", qTwo, rfl, by decide +kernel, by decide +kernel, hv, g_two, by
        rw [hu2]
        exact fun Ha ea => q8 Ha (e9.trans ea)⟩))
    refine s_ifE (or_no (et_is (et_test (ev_op (ev_mt (ev_var rfl) rt7 nf_b ev_c (sp_body rt7 z101 hu2)) own (rv_ne rfl))) (by simp)) fun H8 e8 => t_heardNe2 (p := p) (l := l) (cells := ns) (n := 152 * Int.toNat 9) (d := .tuple [.str "clashing", .str "puts"]) (fun Q9 q9 => lam_puts (p := p) (l := l) (cells := ns) (n := 152 * Int.toNat 9) (z := "10") (f := "000") (ps := qEnd) (o := oe) (re7.mono e8) (hP6.mono (e7.trans e8) (Nat.le_refl _)) (T6.ext (e7.trans e8)) (var_is rfl) (fun H1 Q q => q) nf_f
        (fun H9 Q9 E9 r9 pu => ⟨oe, _, _, _, rfl, r9, .inr ⟨_, rfl, z10, .inl ⟨b_end, pu⟩⟩⟩) fun r H9 a9 h9 => q9 r H9 a9 (.tup (st_of h9) (.cons (.str _) (.cons (.str _) .nil)))) (fun H9 a9 => ed_two) (low_tup (n := 0) fun e he => by
          simp only [List.mem_cons, List.not_mem_nil, or_false] at he
          rcases he with rfl | rfl <;> exact low_str (by decide +kernel)) fun H9 a9 => iteF ?_)
    have re9 := (re7.mono e8).still (hP6.mono (e7.trans e8) (Nat.le_refl _)) a9.st
    refine s_ret (v := .bl true) (ev_is (ev_andV (ev_op (ev_mt (ev_var rfl) re9 nf_f ev_c (sp_frame re9 z11 b_end2)) ev_c (rv_eq rfl)) fun _ => ev_op (ev_mtU (v := .str (mk (TL.tl "010010") ++ "011")) (eru_sim (K := K) (C := C) (cR := cR) (f := "011") (w := "01") (q := "0") (by decide +kernel) (by decide +kernel) (by decide +kernel) g_one) nf_f (fun _ _ => ev_c) fun o Ha ra Qa qa => sp_frame ra z0101 b_one Ha (Ex.refl Ha) Qa qa) ev_c (rv_eq rfl)) (by decide +kernel)) fun Hz ez => k Hz
end
end K09
namespace K09
open PySem L2 Evl Gr ClX OwX OpX StX LamX LamY EXC ClK RdX StS EqT EnT SrtT StM Fr
/-- a def of the text named x, its full name y, where it stands -/
structure FQ (K : PySem.W.Frag) (x y : Str) (st : Stmt) (f : Addr) : Prop where
  l : ∃ (oc : Value) (od : Option Addr) (kV doc pm : Value) (an : Option Addr) (cdv ct : Value) (osl : Array (Option Value)),
    K.lookup f = some ⟨oc, od, .func (PySem.W.fnOf x y (defArgs st) (defBody st) (defScope st) .none kV doc pm an cdv ct), osl⟩ ∧ PySem.W.codeIn K cdv y = true
  k : PySem.W.keepIn K (.ref f) = true
theorem FQ.fn {K : PySem.W.Frag} {x y : Str} {st : Stmt} {f : Addr} (h : FQ K x y st f) : ∃ fd, Fun K x y st f fd := by
  obtain ⟨oc, od, kV, doc, pm, an, cdv, ct, osl, h1, h2⟩ := h.l
  exact ⟨_, fun_mk h1 h2 h.k⟩
/-- .. with its code object at c, the table of which is at P -/
structure FC (K : PySem.W.Frag) (x : Str) (st : Stmt) (f c P : Addr) : Prop where
  l : ∃ (oc : Value) (od : Option Addr) (kV doc pm : Value) (an : Option Addr) (ct : Value) (osl : Array (Option Value)),
    K.lookup f = some ⟨oc, od, .func (PySem.W.fnOf x x (defArgs st) (defBody st) (defScope st) .none kV doc pm an (.ref c) ct), osl⟩ ∧ PySem.W.codeIn K (.ref c) x = true
  k : PySem.W.keepIn K (.ref f) = true
  t : ∃ (e : Value) (dd : Option Addr) (vs : Array Value) (sl : Array (Option Value)), K.lookup c = some ⟨e, dd, .fields vs, sl⟩ ∧ vs[11]? = some (.ref P)
theorem FC.fn {K : PySem.W.Frag} {x : Str} {st : Stmt} {f c P : Addr} (h : FC K x st f c P) : ∃ (kV doc pm : Value) (an : Option Addr) (ct : Value), FunC K x x st f (PySem.W.fnOf x x (defArgs st) (defBody st) (defScope st) .none kV doc pm an (.ref c) ct) c := by
  obtain ⟨oc, od, kV, doc, pm, an, ct, osl, h1, h2⟩ := h.l
  exact ⟨kV, doc, pm, an, ct, ⟨oc, od, kV, doc, pm, an, ct, osl, rfl, h1, h2⟩, h.k⟩
theorem FC.tab {K : PySem.W.Frag} {x : Str} {st : Stmt} {f c P : Addr} (h : FC K x st f c P) (a : PySem.W.nsIn K mainGlobals x = some (some (.ref f))) : PySem.W.tabIn K x = some (c, P) := by
  obtain ⟨oc, od, kV, doc, pm, an, ct, osl, h1, h2⟩ := h.l
  obtain ⟨e, dd, vs, sl, h3, h4⟩ := h.t
  unfold PySem.W.tabIn
  rw [a]
  show (match K.lookup f with
    | some ⟨_, _, .func fd, _⟩ => _
    | _ => none) = _
  rw [h1]
  show (match K.lookup c with
    | some ⟨_, _, .fields vs, _⟩ => _
    | _ => none) = _
  rw [h3]
  show (match (vs[11]? : Option Value) with
    | some (.ref P) => some (c, P)
    | _ => none) = _
  rw [h4]
theorem noTab {K : PySem.W.Frag} {h : Heap} {P : Addr} (X : K.In h) (n : PySem.W.noTabs K = true) (e : h.get? P = some { cls := .none, data := .fields #[] }) : K.lookup P = none := by
  cases z : K.lookup P with
  | none => rfl
  | some o =>
    have e2 := X _ _ z
    rw [e] at e2
    cases e2
    have h2 := List.all_eq_true.mp n (P, _) (PySem.W.mem_of_lookupK z)
    exact absurd (show false = true from h2) Bool.false_ne_true
theorem kit_self {K : PySem.W.Frag} {C : Addr} : PySem.W.kitOne K (.ref C) (.ref C) = some true := by
  unfold PySem.W.kitOne
  rw [if_pos (by simp)]
theorem uniq_of {T : List (Addr × Str)} : (T.map Prod.fst).Nodup → ∀ {P : Addr} {x : Str}, (P, x) ∈ T → ∀ p ∈ T, p.1 = P → p.2 = x := by
  induction T with
  | nil => exact fun _ P x h => absurd h (by simp)
  | cons t T ih =>
    intro nd P x h p hp e
    rw [List.map_cons, List.nodup_cons] at nd
    rcases List.mem_cons.mp h with h | h <;> rcases List.mem_cons.mp hp with hp | hp
    · rw [hp, ← h]
    · exact absurd (List.mem_map.mpr ⟨p, hp, e.trans (congrArg Prod.fst h)⟩) nd.1
    · exact absurd (List.mem_map.mpr ⟨(P, x), h, (e.symm.trans (congrArg Prod.fst hp) : P = t.1)⟩) nd.1
    · exact ih nd.2 h p hp e
theorem all3 {P : Addr → Prop} {a b c : Addr} (ha : P a) (hb : P b) (hc : P c) : ∀ x ∈ [a, b, c], P x := fun x hx => by
  rcases List.mem_cons.mp hx with h | hx
  · rw [h]
    exact ha
  · rcases List.mem_cons.mp hx with h | hx
    · rw [h]
      exact hb
    · rw [List.mem_singleton.mp hx]
      exact hc
theorem all_mk {l : PySem.W.OpenLaw} {w : World} {K : PySem.W.Frag} {h : Heap} {mg : Str → Option Value} {fa fSg fSw fLe fPb fSb fLb fWo fIp fCa fPe fDr fPi fPl fGg fRt fRu fLp fBo fHd fLl fTa fDu fBt fSr cSr PSr fRr cRr PRr fRf cRf PRf fLa cLa PLa mIn mBd mFr mPu mLo mSi mRd C pRd pSi B cL fL cF fF cR fR cT fT cC fC cM fM : Addr} {mc : Value} (X : K.In h) (G : h.Ns mainGlobals mg) (hfa : mg "law" = some (.ref fa)) (hTab : ∀ x, x ∈ (["_law_sent_right", "_law_read_right", "_law_refused_right", "law"] : List Str) → ∀ c P, PySem.W.tabIn K x = some (c, P) → PySem.W.CodeHd h c P ∧ h.get? P = some { cls := .none, data := .fields #[] })
    (aSg : PySem.W.nsIn K mainGlobals "is_signs" = some (some (.ref fSg)))
    (hSg : FQ K "is_signs" "is_signs" (top 3) fSg)
    (aSw : PySem.W.nsIn K mainGlobals "is_signs_within" = some (some (.ref fSw)))
    (hSw : FQ K "is_signs_within" "is_signs_within" (top 4) fSw)
    (aLe : PySem.W.nsIn K mainGlobals "is_letter" = some (some (.ref fLe)))
    (hLe : FQ K "is_letter" "is_letter" (top 5) fLe)
    (aPb : PySem.W.nsIn K mainGlobals "put_behind" = some (some (.ref fPb)))
    (hPb : FQ K "put_behind" "put_behind" (top 16) fPb)
    (aSb : PySem.W.nsIn K mainGlobals "sent_behind" = some (some (.ref fSb)))
    (hSb : FQ K "sent_behind" "sent_behind" (top 17) fSb)
    (aLb : PySem.W.nsIn K mainGlobals "letter_of_body" = some (some (.ref fLb)))
    (hLb : FQ K "letter_of_body" "letter_of_body" (top 18) fLb)
    (aWo : PySem.W.nsIn K mainGlobals "words_of" = some (some (.ref fWo)))
    (hWo : FQ K "words_of" "words_of" (top 20) fWo)
    (aIp : PySem.W.nsIn K mainGlobals "is_pair" = some (some (.ref fIp)))
    (hIp : FQ K "is_pair" "is_pair" (top 23) fIp)
    (aCa : PySem.W.nsIn K mainGlobals "can_stand" = some (some (.ref fCa)))
    (hCa : FQ K "can_stand" "can_stand" (top 24) fCa)
    (aPe : PySem.W.nsIn K mainGlobals "_law_pen" = some (some (.ref fPe)))
    (hPe : FQ K "_law_pen" "_law_pen" (top 28) fPe)
    (aDr : PySem.W.nsIn K mainGlobals "_law_draw" = some (some (.ref fDr)))
    (hDr : FQ K "_law_draw" "_law_draw" (top 29) fDr)
    (aPi : PySem.W.nsIn K mainGlobals "_law_pick" = some (some (.ref fPi)))
    (hPi : FQ K "_law_pick" "_law_pick" (top 30) fPi)
    (aPl : PySem.W.nsIn K mainGlobals "_law_plan" = some (some (.ref fPl)))
    (hPl : FQ K "_law_plan" "_law_plan" (top 31) fPl)
    (aGg : PySem.W.nsIn K mainGlobals "_law_signs" = some (some (.ref fGg)))
    (hGg : FQ K "_law_signs" "_law_signs" (top 32) fGg)
    (aRt : PySem.W.nsIn K mainGlobals "_law_rule_text" = some (some (.ref fRt)))
    (hRt : FQ K "_law_rule_text" "_law_rule_text" (top 33) fRt)
    (aRu : PySem.W.nsIn K mainGlobals "_law_rule" = some (some (.ref fRu)))
    (hRu : FQ K "_law_rule" "_law_rule" (top 34) fRu)
    (aLp : PySem.W.nsIn K mainGlobals "_law_put" = some (some (.ref fLp)))
    (hLp : FQ K "_law_put" "_law_put" (top 35) fLp)
    (aBo : PySem.W.nsIn K mainGlobals "_law_body" = some (some (.ref fBo)))
    (hBo : FQ K "_law_body" "_law_body" (top 36) fBo)
    (aHd : PySem.W.nsIn K mainGlobals "_law_heard" = some (some (.ref fHd)))
    (hHd : FQ K "_law_heard" "_law_heard" (top 37) fHd)
    (aLl : PySem.W.nsIn K mainGlobals "_law_letter" = some (some (.ref fLl)))
    (hLl : FQ K "_law_letter" "_law_letter" (top 38) fLl)
    (aTa : PySem.W.nsIn K mainGlobals "_law_taken" = some (some (.ref fTa)))
    (hTa : FQ K "_law_taken" "_law_taken" (top 40) fTa)
    (aDu : PySem.W.nsIn K mainGlobals "_law_due" = some (some (.ref fDu)))
    (hDu : FQ K "_law_due" "_law_due" (top 41) fDu)
    (aBt : PySem.W.nsIn K mainGlobals "_law_bent" = some (some (.ref fBt)))
    (hBt : FQ K "_law_bent" "_law_bent" (top 42) fBt)
    (aSr : PySem.W.nsIn K mainGlobals "_law_sent_right" = some (some (.ref fSr)))
    (hSr : FC K "_law_sent_right" (top 39) fSr cSr PSr)
    (aRr : PySem.W.nsIn K mainGlobals "_law_read_right" = some (some (.ref fRr)))
    (hRr : FC K "_law_read_right" (top 43) fRr cRr PRr)
    (aRf : PySem.W.nsIn K mainGlobals "_law_refused_right" = some (some (.ref fRf)))
    (hRf : FC K "_law_refused_right" (top 44) fRf cRf PRf)
    (aLa : PySem.W.nsIn K mainGlobals "law" = some (some (.ref fLa)))
    (hLa : FC K "law" (top 45) fLa cLa PLa)
    (nPP : ([PSr, PRr, PRf, PLa] : List Addr).Nodup)
    (hNT : PySem.W.noTabs K = true)
    (aC : PySem.W.nsIn K mainGlobals "FrameRule" = some (some (.ref C)))
    (rd : PySem.W.readsIn K C mc = true)
    (ga : PySem.W.specialIn K (.ref C) "__getattribute__" = some (some (.builtin "type.__getattribute__")))
    (cls : Cls K C)
    (nfl : NoAttr K C "flag")
    (npa : NoAttr K C "pairs")
    (makes : PySem.W.makesIn K C = true)
    (kC : PySem.W.keepIn K (.ref C) = true)
    (tRd : CMet K C mc "read" pRd mRd)
    (tSi : SMet K C mc "simple" pSi mSi)
    (aIn : PySem.W.findIn K (.ref C) "__init__" = some (some (.ref mIn)))
    (tIn : PySem.W.isFn K (.ref mIn) = true)
    (hIn : FQ K "__init__" "FrameRule.__init__" (sFr 0) mIn)
    (aBd : PySem.W.findIn K (.ref C) "body" = some (some (.ref mBd)))
    (tBd : PySem.W.isFn K (.ref mBd) = true)
    (hBd : FQ K "body" "FrameRule.body" (sFr 2) mBd)
    (aFr : PySem.W.findIn K (.ref C) "frame" = some (some (.ref mFr)))
    (tFr : PySem.W.isFn K (.ref mFr) = true)
    (hFr : FQ K "frame" "FrameRule.frame" (sFr 3) mFr)
    (aPu : PySem.W.findIn K (.ref C) "puts" = some (some (.ref mPu)))
    (tPu : PySem.W.isFn K (.ref mPu) = true)
    (hPu : FQ K "puts" "FrameRule.puts" (sFr 4) mPu)
    (aLo : PySem.W.findIn K (.ref C) "letter_of" = some (some (.ref mLo)))
    (tLo : PySem.W.isFn K (.ref mLo) = true)
    (hLo : FQ K "letter_of" "FrameRule.letter_of" (sFr 5) mLo)
    (hSi : FQ K "simple" "FrameRule.simple" (sFr 1) mSi)
    (hRd : FQ K "read" "FrameRule.read" (sFr 10) mRd)
    (cs : PySem.W.specialIn K (.builtin "object.__class__") "__get__" = some (some (.builtin "getset_descriptor.__get__")))
    (ct : PySem.W.takesIn K (.builtin "object.__class__") = some true)
    (gB : PySem.W.nsIn K mainGlobals "PostError" = some (some (.ref B)))
    (bB : PySem.W.subIn K (.ref B) (.type "BaseException") = some true)
    (dB : PySem.W.hasDictIn K B = true)
    (tyB : PySem.W.typeIn K (.ref B) = some (.type "type"))
    (xL : CF K "BadLetter" "BadLetter.__init__" (sCls 8) cL fL B)
    (xL0 : PySem.W.findIn K (.ref cL) "value" = some none)
    (xF : CF K "BadFrame" "BadFrame.__init__" (sCls 9) cF fF B)
    (xF0 : PySem.W.findIn K (.ref cF) "part" = some none)
    (xR : CF K "BadRule" "BadRule.__init__" (sCls 10) cR fR B)
    (xR0 : PySem.W.findIn K (.ref cR) "part" = some none)
    (xT : CF K "BadText" "BadText.__init__" (sCls 11) cT fT B)
    (xT0 : PySem.W.findIn K (.ref cT) "line" = some none)
    (xT1 : PySem.W.findIn K (.ref cT) "word" = some none)
    (xC : CF K "Clashing" "Clashing.__init__" (sCls 12) cC fC B)
    (xC0 : PySem.W.findIn K (.ref cC) "part" = some none)
    (xM : CF K "TooMany" "TooMany.__init__" (sCls 13) cM fM B)
    (xM0 : PySem.W.findIn K (.ref cM) "what" = some none)
    (xM1 : PySem.W.findIn K (.ref cM) "most" = some none)
    (n1 : cF ≠ cL)
    (n2 : cC ≠ cL)
    (n3 : cC ≠ cF)
    (nLB : cL ≠ B)
    (nFB : cF ≠ B)
    (nCB : cC ≠ B)
    (zm : ∃ t, PySem.W.nsIn K mainGlobals "MOST_PAIRS" = some (some (.int 4 t)))
    (z8 : ∃ t, PySem.W.nsIn K mainGlobals "MOST_WORD_SIGNS" = some (some (.int 8 t)))
    (zl : ∃ t, PySem.W.nsIn K mainGlobals "MOST_LETTER_SIGNS" = some (some (.int 200 t)))
    (z_isinstance : PySem.W.nsIn K mainGlobals "isinstance" = some (none))
    (z_int : PySem.W.nsIn K mainGlobals "int" = some (none))
    (z_bool : PySem.W.nsIn K mainGlobals "bool" = some (none))
    (z_str : PySem.W.nsIn K mainGlobals "str" = some (none))
    (z_len : PySem.W.nsIn K mainGlobals "len" = some (none))
    (z_abs : PySem.W.nsIn K mainGlobals "abs" = some (none))
    (z_list : PySem.W.nsIn K mainGlobals "list" = some (none))
    (z_range : PySem.W.nsIn K mainGlobals "range" = some (none))
    (z_tuple : PySem.W.nsIn K mainGlobals "tuple" = some (none))
    (z_divmod : PySem.W.nsIn K mainGlobals "divmod" = some (none))
    (z_enumerate : PySem.W.nsIn K mainGlobals "enumerate" = some (none))
    (z_set : PySem.W.nsIn K mainGlobals "set" = some (none))
    (z_sorted : PySem.W.nsIn K mainGlobals "sorted" = some (none))
    (z_max : PySem.W.nsIn K mainGlobals "max" = some (none))
    (z_repr : PySem.W.nsIn K mainGlobals "repr" = some (none))
    : LawAtG l w K 10 63 "_law_script" mg fa h := by
  have eLa := hfa.symm.trans (PySem.W.mg_of X G aLa)
  cases eLa
  have gSg := PySem.W.mg_of X G aSg
  obtain ⟨dSg, FSg⟩ := hSg.fn
  have bSg : Binds K dSg ["value"] [] := FSg.binds fun _ _ _ _ _ _ us hl => match us, hl with | [_], _ => rfl
  have gSw := PySem.W.mg_of X G aSw
  obtain ⟨dSw, FSw⟩ := hSw.fn
  have bSw : Binds K dSw ["value", "least", "most"] [] := FSw.binds fun _ _ _ _ _ _ us hl => match us, hl with | [_, _, _], _ => rfl
  have gLe := PySem.W.mg_of X G aLe
  obtain ⟨dLe, FLe⟩ := hLe.fn
  have bLe : Binds K dLe ["value"] [] := FLe.binds fun _ _ _ _ _ _ us hl => match us, hl with | [_], _ => rfl
  have gPb := PySem.W.mg_of X G aPb
  obtain ⟨dPb, FPb⟩ := hPb.fn
  have bPb : Binds K dPb ["signs", "pairs"] [] := FPb.binds fun _ _ _ _ _ _ us hl => match us, hl with | [_, _], _ => rfl
  have gSb := PySem.W.mg_of X G aSb
  obtain ⟨dSb, FSb⟩ := hSb.fn
  have bSb : Binds K dSb ["signs", "sign", "pairs"] [] := FSb.binds fun _ _ _ _ _ _ us hl => match us, hl with | [_, _, _], _ => rfl
  have gLb := PySem.W.mg_of X G aLb
  obtain ⟨dLb, FLb⟩ := hLb.fn
  have bLb : Binds K dLb ["body", "pairs"] [] := FLb.binds fun _ _ _ _ _ _ us hl => match us, hl with | [_, _], _ => rfl
  have gWo := PySem.W.mg_of X G aWo
  obtain ⟨dWo, FWo⟩ := hWo.fn
  have bWo : Binds K dWo ["text"] [] := FWo.binds fun _ _ _ _ _ _ us hl => match us, hl with | [_], _ => rfl
  have gIp := PySem.W.mg_of X G aIp
  obtain ⟨dIp, FIp⟩ := hIp.fn
  have bIp : Binds K dIp ["value"] [] := FIp.binds fun _ _ _ _ _ _ us hl => match us, hl with | [_], _ => rfl
  have gCa := PySem.W.mg_of X G aCa
  obtain ⟨dCa, FCa⟩ := hCa.fn
  have bCa : Binds K dCa ["words", "at"] [] := FCa.binds fun _ _ _ _ _ _ us hl => match us, hl with | [_, _], _ => rfl
  have gPe := PySem.W.mg_of X G aPe
  obtain ⟨dPe, FPe⟩ := hPe.fn
  have bPe : Binds K dPe ["_law_script"] [] := FPe.binds fun _ _ _ _ _ _ us hl => match us, hl with | [_], _ => rfl
  have gDr := PySem.W.mg_of X G aDr
  obtain ⟨dDr, FDr⟩ := hDr.fn
  have bDr : Binds K dDr ["_law_pen_here", "_law_many"] [] := FDr.binds fun _ _ _ _ _ _ us hl => match us, hl with | [_, _], _ => rfl
  have gPi := PySem.W.mg_of X G aPi
  obtain ⟨dPi, FPi⟩ := hPi.fn
  have bPi : Binds K dPi ["_law_pen_here", "_law_some"] [] := FPi.binds fun _ _ _ _ _ _ us hl => match us, hl with | [_, _], _ => rfl
  have gPl := PySem.W.mg_of X G aPl
  obtain ⟨dPl, FPl⟩ := hPl.fn
  have bPl : Binds K dPl ["_law_pen_here"] [] := FPl.binds fun _ _ _ _ _ _ us hl => match us, hl with | [_], _ => rfl
  have gGg := PySem.W.mg_of X G aGg
  obtain ⟨dGg, FGg⟩ := hGg.fn
  have bGg : Binds K dGg ["_law_pen_here", "_law_many"] [] := FGg.binds fun _ _ _ _ _ _ us hl => match us, hl with | [_, _], _ => rfl
  have gRt := PySem.W.mg_of X G aRt
  obtain ⟨dRt, FRt⟩ := hRt.fn
  have bRt : Binds K dRt ["_law_plan_here"] [] := FRt.binds fun _ _ _ _ _ _ us hl => match us, hl with | [_], _ => rfl
  have gRu := PySem.W.mg_of X G aRu
  obtain ⟨dRu, FRu⟩ := hRu.fn
  have bRu : Binds K dRu ["_law_plan_here"] [] := FRu.binds fun _ _ _ _ _ _ us hl => match us, hl with | [_], _ => rfl
  have gLp := PySem.W.mg_of X G aLp
  obtain ⟨dLp, FLp⟩ := hLp.fn
  have bLp : Binds K dLp ["_law_plan_here", "_law_sent"] [] := FLp.binds fun _ _ _ _ _ _ us hl => match us, hl with | [_, _], _ => rfl
  have gBo := PySem.W.mg_of X G aBo
  obtain ⟨dBo, FBo⟩ := hBo.fn
  have bBo : Binds K dBo ["_law_plan_here", "_law_letter_here"] [] := FBo.binds fun _ _ _ _ _ _ us hl => match us, hl with | [_, _], _ => rfl
  have gHd := PySem.W.mg_of X G aHd
  obtain ⟨dHd, FHd⟩ := hHd.fn
  have bHd : Binds K dHd ["_law_ask"] [] := FHd.binds fun _ _ _ _ _ _ us hl => match us, hl with | [_], _ => rfl
  have gLl := PySem.W.mg_of X G aLl
  obtain ⟨dLl, FLl⟩ := hLl.fn
  have bLl : Binds K dLl ["_law_pen_here"] [] := FLl.binds fun _ _ _ _ _ _ us hl => match us, hl with | [_], _ => rfl
  have gTa := PySem.W.mg_of X G aTa
  obtain ⟨dTa, FTa⟩ := hTa.fn
  have bTa : Binds K dTa ["_law_plan_here", "_law_body_here"] [] := FTa.binds fun _ _ _ _ _ _ us hl => match us, hl with | [_, _], _ => rfl
  have gDu := PySem.W.mg_of X G aDu
  obtain ⟨dDu, FDu⟩ := hDu.fn
  have bDu : Binds K dDu ["_law_plan_here", "_law_frame"] [] := FDu.binds fun _ _ _ _ _ _ us hl => match us, hl with | [_, _], _ => rfl
  have gBt := PySem.W.mg_of X G aBt
  obtain ⟨dBt, FBt⟩ := hBt.fn
  have bBt : Binds K dBt ["_law_pen_here", "_law_frame"] [] := FBt.binds fun _ _ _ _ _ _ us hl => match us, hl with | [_, _], _ => rfl
  have gSr := PySem.W.mg_of X G aSr
  obtain ⟨kVSr, docSr, pmSr, anSr, ctSr, FSr⟩ := hSr.fn
  obtain ⟨CSr, ESr⟩ := hTab "_law_sent_right" (by decide) _ _ (hSr.tab aSr)
  have bSr : Binds K _ ["_law_plan_here", "_law_rule_here", "_law_letter_here"] [] := FSr.fn.binds fun _ _ _ _ _ _ us hl => match us, hl with | [_, _, _], _ => rfl
  have gRr := PySem.W.mg_of X G aRr
  obtain ⟨kVRr, docRr, pmRr, anRr, ctRr, FRr⟩ := hRr.fn
  obtain ⟨CRr, ERr⟩ := hTab "_law_read_right" (by decide) _ _ (hRr.tab aRr)
  have bRr : Binds K _ ["_law_pen_here", "_law_plan_here", "_law_rule_here", "_law_letter_here"] [] := FRr.fn.binds fun _ _ _ _ _ _ us hl => match us, hl with | [_, _, _, _], _ => rfl
  have gRf := PySem.W.mg_of X G aRf
  obtain ⟨kVRf, docRf, pmRf, anRf, ctRf, FRf⟩ := hRf.fn
  obtain ⟨CRf, ERf⟩ := hTab "_law_refused_right" (by decide) _ _ (hRf.tab aRf)
  have bRf : Binds K _ ["_law_pen_here", "_law_rule_here"] [] := FRf.fn.binds fun _ _ _ _ _ _ us hl => match us, hl with | [_, _], _ => rfl
  have gLa := PySem.W.mg_of X G aLa
  obtain ⟨kVLa, docLa, pmLa, anLa, ctLa, FLa⟩ := hLa.fn
  obtain ⟨CLa, ELa⟩ := hTab "law" (by decide) _ _ (hLa.tab aLa)
  obtain ⟨eIn, MIn⟩ := hIn.fn
  obtain ⟨eBd, MBd⟩ := hBd.fn
  have cBd : Binds K eBd ["self", "letter"] [] := MBd.binds fun _ _ _ _ _ _ us hl => match us, hl with | [_, _], _ => rfl
  have kBd : KBn K eBd ["self", "letter"] 1 ["letter"] (fun us ws => us ++ ws) (fun vs zs => vs ++ zs) := MBd.kb 1 (fun us ws => us ++ ws) (fun r s => r.append s) fun _ _ _ _ _ _ us ws l1 l2 => match us, l1, ws, l2 with | [_], _, [_], _ => rfl
  obtain ⟨eFr, MFr⟩ := hFr.fn
  have cFr : Binds K eFr ["self", "letter"] [] := MFr.binds fun _ _ _ _ _ _ us hl => match us, hl with | [_, _], _ => rfl
  have kFr : KBn K eFr ["self", "letter"] 1 ["letter"] (fun us ws => us ++ ws) (fun vs zs => vs ++ zs) := MFr.kb 1 (fun us ws => us ++ ws) (fun r s => r.append s) fun _ _ _ _ _ _ us ws l1 l2 => match us, l1, ws, l2 with | [_], _, [_], _ => rfl
  obtain ⟨ePu, MPu⟩ := hPu.fn
  have cPu : Binds K ePu ["self", "letter"] [] := MPu.binds fun _ _ _ _ _ _ us hl => match us, hl with | [_, _], _ => rfl
  have kPu : KBn K ePu ["self", "letter"] 1 ["letter"] (fun us ws => us ++ ws) (fun vs zs => vs ++ zs) := MPu.kb 1 (fun us ws => us ++ ws) (fun r s => r.append s) fun _ _ _ _ _ _ us ws l1 l2 => match us, l1, ws, l2 with | [_], _, [_], _ => rfl
  obtain ⟨eLo, MLo⟩ := hLo.fn
  have cLo : Binds K eLo ["self", "frame"] [] := MLo.binds fun _ _ _ _ _ _ us hl => match us, hl with | [_, _], _ => rfl
  have kLo : KBn K eLo ["self", "frame"] 1 ["frame"] (fun us ws => us ++ ws) (fun vs zs => vs ++ zs) := MLo.kb 1 (fun us ws => us ++ ws) (fun r s => r.append s) fun _ _ _ _ _ _ us ws l1 l2 => match us, l1, ws, l2 with | [_], _, [_], _ => rfl
  obtain ⟨eSi, MSi⟩ := hSi.fn
  have cSi : Binds K eSi ["watch", "put"] [] := MSi.binds fun _ _ _ _ _ _ us hl => match us, hl with | [_, _], _ => rfl
  obtain ⟨eRd, MRd⟩ := hRd.fn
  have cRd : Binds K eRd ["cls", "text"] [] := MRd.binds fun _ _ _ _ _ _ us hl => match us, hl with | [_, _], _ => rfl
  obtain ⟨dL, FL⟩ := xL.fn
  have bL : Binds K dL ["self", "value"] [] := FL.binds fun _ _ _ _ _ _ us hl => match us, hl with | [_, _], _ => rfl
  obtain ⟨dF, FF⟩ := xF.fn
  have bF : Binds K dF ["self", "part"] [] := FF.binds fun _ _ _ _ _ _ us hl => match us, hl with | [_, _], _ => rfl
  obtain ⟨dR, FR⟩ := xR.fn
  have bR : Binds K dR ["self", "part"] [] := FR.binds fun _ _ _ _ _ _ us hl => match us, hl with | [_, _], _ => rfl
  obtain ⟨dT, FT⟩ := xT.fn
  have bT : Binds K dT ["self", "line", "word"] [] := FT.binds fun _ _ _ _ _ _ us hl => match us, hl with | [_, _, _], _ => rfl
  obtain ⟨dC, FC⟩ := xC.fn
  have bC : Binds K dC ["self", "part"] [] := FC.binds fun _ _ _ _ _ _ us hl => match us, hl with | [_, _], _ => rfl
  obtain ⟨dM, FM⟩ := xM.fn
  have bM : Binds K dM ["self", "what", "most"] [] := FM.binds fun _ _ _ _ _ _ us hl => match us, hl with | [_, _, _], _ => rfl
  have m_isinstance := PySem.W.mg_none_of X G z_isinstance
  have m_int := PySem.W.mg_none_of X G z_int
  have m_bool := PySem.W.mg_none_of X G z_bool
  have m_str := PySem.W.mg_none_of X G z_str
  have m_len := PySem.W.mg_none_of X G z_len
  have m_abs := PySem.W.mg_none_of X G z_abs
  have m_list := PySem.W.mg_none_of X G z_list
  have m_range := PySem.W.mg_none_of X G z_range
  have m_tuple := PySem.W.mg_none_of X G z_tuple
  have m_divmod := PySem.W.mg_none_of X G z_divmod
  have m_enumerate := PySem.W.mg_none_of X G z_enumerate
  have m_set := PySem.W.mg_none_of X G z_set
  have m_sorted := PySem.W.mg_none_of X G z_sorted
  have m_max := PySem.W.mg_none_of X G z_max
  have m_repr := PySem.W.mg_none_of X G z_repr
  have TT : GlbT mg := ⟨m_isinstance, m_int, m_bool, m_str, m_len⟩
  have TS : GlbS mg := ⟨m_len, m_range, m_tuple, m_list⟩
  have TG : Glb mg := ⟨m_int, m_abs, m_len, m_list⟩
  have TD : GlbD mg := ⟨zm.imp fun _ e => PySem.W.mg_of X G e, m_divmod⟩
  have TI : GlbI mg := ⟨m_enumerate, m_set, m_sorted⟩
  have TP : GlbP mg := ⟨z8.imp fun _ e => PySem.W.mg_of X G e, m_max⟩
  have N : FName K mg C mc := ⟨PySem.W.mg_of X G aC, ⟨rd, ga⟩⟩
  have GC : FCls K C := ⟨cls, nfl, npa⟩
  have M : Mk K C mIn := ⟨makes, aIn, tIn, kC⟩
  have CGK : CG K := ⟨cs, ct⟩
  have HK : HdK K mg B cL cF cC := ⟨PySem.W.mg_of X G gB, PySem.W.mg_of X G xL.b.aC, PySem.W.mg_of X G xF.b.aC, PySem.W.mg_of X G xC.b.aC, m_isinstance, m_repr, m_len, all3 (xL.b.caught bB dB tyB) (xF.b.caught bB dB tyB) (xC.b.caught bB dB tyB), all3 (all3 (xL.b.kit xL.b nLB) (xL.b.kit xF.b nFB) (xL.b.kit xC.b nCB)) (all3 (xF.b.kit xL.b nLB) (xF.b.kit xF.b nFB) (xF.b.kit xC.b nCB)) (all3 (xC.b.kit xL.b nLB) (xC.b.kit xF.b nFB) (xC.b.kit xC.b nCB)), n1, n2, n3, all3 (xL.b.xc CGK) (xF.b.xc CGK) (xC.b.xc CGK), xL0, xF0, xC0⟩
  refine ⟨PySem.W.fnOf "law" "law" (defArgs sLaw) (defBody sLaw) (defScope sLaw) .none kVLa docLa pmLa anLa (.ref cLa) ctLa, [(cSr, PSr), (cRr, PRr), (cRf, PRf), (cLa, PLa)], spLaw K [(PSr, qSR), (PRr, qRR), (PRf, qRF), (PLa, qLaw)], ?_, ?_, ?_, fun s v => .of_eq rfl, ?_, fun base _ _ TB => ?_⟩
  · intro p hp
    simp only [List.mem_cons, List.not_mem_nil, or_false] at hp
    rcases hp with rfl | rfl | rfl | rfl
    · exact ESr
    · exact ERr
    · exact ERf
    · exact ELa
  · intro p hp
    simp only [List.mem_cons, List.not_mem_nil, or_false] at hp
    rcases hp with rfl | rfl | rfl | rfl
    · exact noTab X hNT ESr
    · exact noTab X hNT ERr
    · exact noTab X hNT ERf
    · exact noTab X hNT ELa
  · intro p hp
    simp only [List.mem_cons, List.not_mem_nil, or_false] at hp
    rcases hp with rfl | rfl | rfl | rfl
    · exact CSr
    · exact CRr
    · exact CRf
    · exact CLa
  · intro H a ns hl hH hS
    refine ⟨a, ns, rfl, hS, hl, fun p hp => ?_, fun _ => rfl⟩
    simp only [List.mem_cons, List.not_mem_nil, or_false] at hp
    rcases hp with rfl | rfl | rfl | rfl
    · exact .nil (hH _ (List.mem_cons_self ..))
    · exact .nil (hH _ (List.mem_cons_of_mem _ (List.mem_cons_self ..)))
    · exact .nil (hH _ (List.mem_cons_of_mem _ (List.mem_cons_of_mem _ (List.mem_cons_self ..))))
    · exact .nil (hH _ (List.mem_cons_of_mem _ (List.mem_cons_of_mem _ (List.mem_cons_of_mem _ (List.mem_cons_self ..)))))
  have ND : (([(PSr, qSR), (PRr, qRR), (PRf, qRF), (PLa, qLaw)] : List (Addr × Str)).map Prod.fst).Nodup := nPP
  have TBSr := TB (cSr, PSr) (List.mem_cons_self ..)
  have iSr : (PSr, qSR) ∈ ([(PSr, qSR), (PRr, qRR), (PRf, qRF), (PLa, qLaw)] : List (Addr × Str)) := (List.mem_cons_self ..)
  have TBRr := TB (cRr, PRr) (List.mem_cons_of_mem _ (List.mem_cons_self ..))
  have iRr : (PRr, qRR) ∈ ([(PSr, qSR), (PRr, qRR), (PRf, qRF), (PLa, qLaw)] : List (Addr × Str)) := (List.mem_cons_of_mem _ (List.mem_cons_self ..))
  have TBRf := TB (cRf, PRf) (List.mem_cons_of_mem _ (List.mem_cons_of_mem _ (List.mem_cons_self ..)))
  have iRf : (PRf, qRF) ∈ ([(PSr, qSR), (PRr, qRR), (PRf, qRF), (PLa, qLaw)] : List (Addr × Str)) := (List.mem_cons_of_mem _ (List.mem_cons_of_mem _ (List.mem_cons_self ..)))
  have TBLa := TB (cLa, PLa) (List.mem_cons_of_mem _ (List.mem_cons_of_mem _ (List.mem_cons_of_mem _ (List.mem_cons_self ..))))
  have iLa : (PLa, qLaw) ∈ ([(PSr, qSR), (PRr, qRR), (PRf, qRF), (PLa, qLaw)] : List (Addr × Str)) := (List.mem_cons_of_mem _ (List.mem_cons_of_mem _ (List.mem_cons_of_mem _ (List.mem_cons_self ..))))
  have BL : GOne l.prog w K mg base "BadLetter" "value" cL fL dL := ⟨xL.b.ox, xL.a1, xL.t1, ok_I1 xL FL ⟨rfl, rfl, rfl, by decide +kernel, rfl, by decide +kernel, by decide +kernel⟩ rfl rfl rfl (by decide +kernel) (by decide +kernel) xL0, bL, PySem.W.mg_of X G xL.b.aC⟩
  have BF : GOne l.prog w K mg base "BadFrame" "part" cF fF dF := ⟨xF.b.ox, xF.a1, xF.t1, ok_I1 xF FF ⟨rfl, rfl, rfl, by decide +kernel, rfl, by decide +kernel, by decide +kernel⟩ rfl rfl rfl (by decide +kernel) (by decide +kernel) xF0, bF, PySem.W.mg_of X G xF.b.aC⟩
  have BR : GOne l.prog w K mg base "BadRule" "part" cR fR dR := ⟨xR.b.ox, xR.a1, xR.t1, ok_I1 xR FR ⟨rfl, rfl, rfl, by decide +kernel, rfl, by decide +kernel, by decide +kernel⟩ rfl rfl rfl (by decide +kernel) (by decide +kernel) xR0, bR, PySem.W.mg_of X G xR.b.aC⟩
  have BT : GTwo l.prog w K mg base "BadText" "line" "word" cT fT dT := ⟨xT.b.ox, xT.a1, xT.t1, ok_I2 xT FT ⟨rfl, rfl, rfl, by decide +kernel, rfl, by decide +kernel, by decide +kernel⟩ rfl rfl rfl rfl (by decide +kernel) (by decide +kernel) (by decide +kernel) (by decide +kernel) xT0 xT1, bT, PySem.W.mg_of X G xT.b.aC⟩
  have BC : GOne l.prog w K mg base "Clashing" "part" cC fC dC := ⟨xC.b.ox, xC.a1, xC.t1, ok_I1 xC FC ⟨rfl, rfl, rfl, by decide +kernel, rfl, by decide +kernel, by decide +kernel⟩ rfl rfl rfl (by decide +kernel) (by decide +kernel) xC0, bC, PySem.W.mg_of X G xC.b.aC⟩
  have BM : GTwo l.prog w K mg base "TooMany" "what" "most" cM fM dM := ⟨xM.b.ox, xM.a1, xM.t1, ok_I2 xM FM ⟨rfl, rfl, rfl, by decide +kernel, rfl, by decide +kernel, by decide +kernel⟩ rfl rfl rfl rfl (by decide +kernel) (by decide +kernel) (by decide +kernel) (by decide +kernel) xM0 xM1, bM, PySem.W.mg_of X G xM.b.aC⟩
  have oSg : FnOk l.prog w K mg base CX0 1 fSg dSg ["value"] (spSigns K) := ok_signs FSg TT
  have GSg : Gfn l.prog w K mg base 1 "is_signs" ["value"] (spSigns K) := ⟨_, _, oSg, hSg.k, bSg, gSg⟩
  have oSw : FnOk l.prog w K mg base CX0 2 fSw dSw ["value", "least", "most"] (spSignsW K) := ok_signsW FSw TT FSg bSg gSg
  have GSw : Gfn l.prog w K mg base 2 "is_signs_within" ["value", "least", "most"] (spSignsW K) := ⟨_, _, oSw, hSw.k, bSw, gSw⟩
  have oLe : FnOk l.prog w K mg base CX0 3 fLe dLe ["value"] (spLet K) := ok_Let FLe (zl.imp fun _ e => PySem.W.mg_of X G e) GSw
  have GLe : Gfn l.prog w K mg base 3 "is_letter" ["value"] (spLet K) := ⟨_, _, oLe, hLe.k, bLe, gLe⟩
  have oIp : FnOk l.prog w K mg base CX0 3 fIp dIp ["value"] (spIsP K) := ok_IsP FIp TT TS GSw
  have GIp : Gfn l.prog w K mg base 3 "is_pair" ["value"] (spIsP K) := ⟨_, _, oIp, hIp.k, bIp, gIp⟩
  have oCa : FnOk l.prog w K mg base CX0 3 fCa dCa ["words", "at"] (spCan K) := ok_Can FCa TD GSw
  have GCa : Gfn l.prog w K mg base 3 "can_stand" ["words", "at"] (spCan K) := ⟨_, _, oCa, hCa.k, bCa, gCa⟩
  have oPb : FnOk l.prog w K mg base CX0 1 fPb dPb ["signs", "pairs"] (spPut K) := ok_Put FPb TT
  have GPb : Gfn l.prog w K mg base 1 "put_behind" ["signs", "pairs"] (spPut K) := ⟨_, _, oPb, hPb.k, bPb, gPb⟩
  have oSb : FnOk l.prog w K mg base CX0 2 fSb dSb ["signs", "sign", "pairs"] (spSent K) := ok_Sent FSb TT TP GPb
  have GSb : Gfn l.prog w K mg base 2 "sent_behind" ["signs", "sign", "pairs"] (spSent K) := ⟨_, _, oSb, hSb.k, bSb, gSb⟩
  have oLb : FnOk l.prog w K mg base CX0 2 fLb dLb ["body", "pairs"] (spLob K) := ok_Lob FLb TT TP GPb
  have GLb : Gfn l.prog w K mg base 2 "letter_of_body" ["body", "pairs"] (spLob K) := ⟨_, _, oLb, hLb.k, bLb, gLb⟩
  have oIn : FnR l.prog w K mg base (L2.CX l.prog w) 4 mIn (spInitA K C cR cM) := ok_Init (mc := mc) MIn GC TT TS TD TI BR BM GSw GIp
  have oSi : FnOk l.prog w K mg base (L2.CX l.prog w) 6 mSi eSi ["watch", "put"] (spSim K C cR) := ok_Sim MSi N M oIn BR GSw
  have oWo : FnOk l.prog w K mg base (L2.CX l.prog w) 3 fWo dWo ["text"] (spWo K cT) := ok_Wo FWo TT BT
  have oRd : FnOk l.prog w K mg base (L2.CX l.prog w) 6 mRd eRd ["cls", "text"] (spRead K C cT) := ok_Read (mc := mc) MRd TT TS M oIn BT oWo hWo.k bWo gWo GCa
  have oBd : FnOk l.prog w K mg base (L2.CX l.prog w) 4 mBd eBd ["self", "letter"] (spBody K C cL cC) := ok_Body MBd GC BL BC GLe GSb
  have oFr : FnOk l.prog w K mg base (L2.CX l.prog w) 5 mFr eFr ["self", "letter"] (spFrame K C cL cC) := ok_Frame MFr GC ⟨aBd, tBd, hBd.k⟩ oBd cBd
  have oPu : FnOk l.prog w K mg base (L2.CX l.prog w) 5 mPu ePu ["self", "letter"] (spPuts K C cL cC) := ok_Puts MPu TT GC ⟨aBd, tBd, hBd.k⟩ oBd cBd
  have oLo : FnOk l.prog w K mg base (L2.CX l.prog w) 4 mLo eLo ["self", "frame"] (spLof K C cF) := ok_Lof MLo TT GC BF GSg GLe GLb
  have OO : FOp l.prog w K mg base C cL cF cC mBd mFr mPu mLo eBd eFr ePu eLo := ⟨GC, ⟨aBd, tBd, hBd.k⟩, oBd, cBd, kBd, ⟨aFr, tFr, hFr.k⟩, oFr, cFr, kFr, ⟨aPu, tPu, hPu.k⟩, oPu, cPu, kPu, ⟨aLo, tLo, hLo.k⟩, oLo, cLo, kLo⟩
  have oPe : FnOk l.prog w K mg base CX0 1 fPe dPe ["_law_script"] (spPen K) := ok_pen FPe TG
  have GPe : Gfn l.prog w K mg base 1 "_law_pen" ["_law_script"] (spPen K) := ⟨_, _, oPe, hPe.k, bPe, gPe⟩
  have oDr : FnOk l.prog w K mg base CX0 1 fDr dDr ["_law_pen_here", "_law_many"] (spDraw) := ok_draw FDr TG
  have GDr : Gfn l.prog w K mg base 1 "_law_draw" ["_law_pen_here", "_law_many"] (spDraw) := ⟨_, _, oDr, hDr.k, bDr, gDr⟩
  have oPi : FnOk l.prog w K mg base CX0 2 fPi dPi ["_law_pen_here", "_law_some"] (spPick) := ok_pick FPi TG FDr bDr gDr
  have GPi : Gfn l.prog w K mg base 2 "_law_pick" ["_law_pen_here", "_law_some"] (spPick) := ⟨_, _, oPi, hPi.k, bPi, gPi⟩
  have oPz : FnOk l.prog w K mg base CX0 2 fPi dPi ["_law_pen_here", "_law_some"] (spPickS) := ok_pickS FPi TG FDr bDr gDr
  have GPz : Gfn l.prog w K mg base 2 "_law_pick" ["_law_pen_here", "_law_some"] (spPickS) := ⟨_, _, oPz, hPi.k, bPi, gPi⟩
  have oGg : FnOk l.prog w K mg base CX0 3 fGg dGg ["_law_pen_here", "_law_many"] (spSg) := ok_Sg FGg TS GPz
  have GGg : Gfn l.prog w K mg base 3 "_law_signs" ["_law_pen_here", "_law_many"] (spSg) := ⟨_, _, oGg, hGg.k, bGg, gGg⟩
  have oPl : FnOk l.prog w K mg base CX0 4 fPl dPl ["_law_pen_here"] (spPlan) := ok_Plan FPl TT TS TI oDr hDr.k bDr gDr GPi GPz GGg
  have GPl : Gfn l.prog w K mg base 4 "_law_plan" ["_law_pen_here"] (spPlan) := ⟨_, _, oPl, hPl.k, bPl, gPl⟩
  have oRt : FnOk l.prog w K mg base CX0 1 fRt dRt ["_law_plan_here"] (spRt) := ok_Rt FRt
  have GRt : Gfn l.prog w K mg base 1 "_law_rule_text" ["_law_plan_here"] (spRt) := ⟨_, _, oRt, hRt.k, bRt, gRt⟩
  have oRu : FnOk l.prog w K mg base CX0 7 fRu dRu ["_law_plan_here"] (spLru K C) := ok_Lru FRu N tRd oRd cRd GRt
  have GRu : Gfn l.prog w K mg base 7 "_law_rule" ["_law_plan_here"] (spLru K C) := ⟨_, _, oRu, hRu.k, bRu, gRu⟩
  have oLp : FnOk l.prog w K mg base CX0 1 fLp dLp ["_law_plan_here", "_law_sent"] (spLpu) := ok_Lpu FLp TT
  have GLp : Gfn l.prog w K mg base 1 "_law_put" ["_law_plan_here", "_law_sent"] (spLpu) := ⟨_, _, oLp, hLp.k, bLp, gLp⟩
  have oBo : FnOk l.prog w K mg base CX0 2 fBo dBo ["_law_plan_here", "_law_letter_here"] (spLbo) := ok_Lbo FBo TS GLp
  have GBo : Gfn l.prog w K mg base 2 "_law_body" ["_law_plan_here", "_law_letter_here"] (spLbo) := ⟨_, _, oBo, hBo.k, bBo, gBo⟩
  have oTa : FnOk l.prog w K mg base CX0 2 fTa dTa ["_law_plan_here", "_law_body_here"] (spLta) := ok_Lta FTa TT GLp
  have GTa : Gfn l.prog w K mg base 2 "_law_taken" ["_law_plan_here", "_law_body_here"] (spLta) := ⟨_, _, oTa, hTa.k, bTa, gTa⟩
  have oDu : FnOk l.prog w K mg base CX0 3 fDu dDu ["_law_plan_here", "_law_frame"] (spLdu K) := ok_Ldu FDu TT GTa
  have GDu : Gfn l.prog w K mg base 3 "_law_due" ["_law_plan_here", "_law_frame"] (spLdu K) := ⟨_, _, oDu, hDu.k, bDu, gDu⟩
  have oLl : FnOk l.prog w K mg base CX0 3 fLl dLl ["_law_pen_here"] (spLle) := ok_Lle FLl TS oDr hDr.k bDr gDr GPi
  have GLl : Gfn l.prog w K mg base 3 "_law_letter" ["_law_pen_here"] (spLle) := ⟨_, _, oLl, hLl.k, bLl, gLl⟩
  have oBt : FnOk l.prog w K mg base CX0 3 fBt dBt ["_law_pen_here", "_law_frame"] (spLbe) := ok_Lbe FBt TT TS oDr hDr.k bDr gDr GPi
  have GBt : Gfn l.prog w K mg base 3 "_law_bent" ["_law_pen_here", "_law_frame"] (spLbe) := ⟨_, _, oBt, hBt.k, bBt, gBt⟩
  have oSr := ok_SR (P := l.prog) (w := w) (T := [(PSr, qSR), (PRr, qRR), (PRf, qRF), (PLa, qLaw)]) FSr TBSr iSr (uniq_of ND iSr) TT HK FHd bHd gHd OO GBo
  have oRr := ok_RR (P := l.prog) (w := w) (T := [(PSr, qSR), (PRr, qRR), (PRf, qRF), (PLa, qLaw)]) FRr TBRr iRr (uniq_of ND iRr) TS HK FHd bHd gHd OO GBo GDu GBt
  have oRf := ok_RF (P := l.prog) (w := w) (T := [(PSr, qSR), (PRr, qRR), (PRf, qRF), (PLa, qLaw)]) FRf TBRf iRf (uniq_of ND iRf) HK FHd bHd gHd OO GPi
  exact ok_Law (T := [(PSr, qSR), (PRr, qRR), (PRf, qRF), (PLa, qLaw)]) FLa TBLa iLa (uniq_of ND iLa) N TS HK FHd bHd gHd OO M oIn tSi oSi cSi GPe GPl GLl GRu GBo oSr hSr.k bSr gSr oRr hRr.k bRr gRr oRf hRf.k bRf gRf
end K09
open PySem PySem.W PyProof.Rows
set_option maxRecDepth 100000 in
set_option maxHeartbeats 0 in
theorem PySem.Challenge.cw_layerpost_k09_letters_framed_and_read_ba_holds : PySem.Challenge.rw_layerpost_k09_letters_framed_and_read_ba.Holds := by
  w_on; o_law; k_head; (case hw => w_witness2)
  k_fill
  refine L2.walkT_of (l := PySem.Challenge.rw_layerpost_k09_letters_framed_and_read_ba) (n := 63) (k := 10) (x := "_law_script") (xs := ["_law_sent_right", "_law_read_right", "_law_refused_right", "law"]) rfl (by decide) rfl ⟨rfl, by decide, by decide⟩ ?R (fun w h Y => PySem.W.km_in_of Y) ?F
  case R =>
    intro y hy
    simp only [List.mem_cons, List.not_mem_nil, or_false] at hy
    rcases hy with rfl | rfl | rfl | rfl <;> decide +kernel
  case F =>
    intro w mg fa h _ KX G hmg hTab
    refine' K09.all_mk KX G hmg hTab ?qaSg ?qhSg ?qaSw ?qhSw ?qaLe ?qhLe ?qaPb ?qhPb ?qaSb ?qhSb ?qaLb ?qhLb ?qaWo ?qhWo ?qaIp ?qhIp ?qaCa ?qhCa ?qaPe ?qhPe ?qaDr ?qhDr ?qaPi ?qhPi ?qaPl ?qhPl ?qaGg ?qhGg ?qaRt ?qhRt ?qaRu ?qhRu ?qaLp ?qhLp ?qaBo ?qhBo ?qaHd ?qhHd ?qaLl ?qhLl ?qaTa ?qhTa ?qaDu ?qhDu ?qaBt ?qhBt ?qaSr ?qhSr ?qaRr ?qhRr ?qaRf ?qhRf ?qaLa ?qhLa ?qnPP ?qhNT ?qaC ?qrd ?qga ?qcls ?qnfl ?qnpa ?qmakes ?qkC ?qtRd ?qtSi ?qaIn ?qtIn ?qhIn ?qaBd ?qtBd ?qhBd ?qaFr ?qtFr ?qhFr ?qaPu ?qtPu ?qhPu ?qaLo ?qtLo ?qhLo ?qhSi ?qhRd ?qcs ?qct ?qgB ?qbB ?qdB ?qtyB ?qxL ?qxL0 ?qxF ?qxF0 ?qxR ?qxR0 ?qxT ?qxT0 ?qxT1 ?qxC ?qxC0 ?qxM ?qxM0 ?qxM1 ?qn1 ?qn2 ?qn3 ?qnLB ?qnFB ?qnCB ?qzm ?qz8 ?qzl ?qz_isinstance ?qz_int ?qz_bool ?qz_str ?qz_len ?qz_abs ?qz_list ?qz_range ?qz_tuple ?qz_divmod ?qz_enumerate ?qz_set ?qz_sorted ?qz_max ?qz_repr
    (case qaSg => k_is)
    (case qhSg => exact ⟨⟨_, _, _, _, _, _, _, _, _, by k_is, by k_is⟩, by k_is⟩)
    (case qaSw => k_is)
    (case qhSw => exact ⟨⟨_, _, _, _, _, _, _, _, _, by k_is, by k_is⟩, by k_is⟩)
    (case qaLe => k_is)
    (case qhLe => exact ⟨⟨_, _, _, _, _, _, _, _, _, by k_is, by k_is⟩, by k_is⟩)
    (case qaPb => k_is)
    (case qhPb => exact ⟨⟨_, _, _, _, _, _, _, _, _, by k_is, by k_is⟩, by k_is⟩)
    (case qaSb => k_is)
    (case qhSb => exact ⟨⟨_, _, _, _, _, _, _, _, _, by k_is, by k_is⟩, by k_is⟩)
    (case qaLb => k_is)
    (case qhLb => exact ⟨⟨_, _, _, _, _, _, _, _, _, by k_is, by k_is⟩, by k_is⟩)
    (case qaWo => k_is)
    (case qhWo => exact ⟨⟨_, _, _, _, _, _, _, _, _, by k_is, by k_is⟩, by k_is⟩)
    (case qaIp => k_is)
    (case qhIp => exact ⟨⟨_, _, _, _, _, _, _, _, _, by k_is, by k_is⟩, by k_is⟩)
    (case qaCa => k_is)
    (case qhCa => exact ⟨⟨_, _, _, _, _, _, _, _, _, by k_is, by k_is⟩, by k_is⟩)
    (case qaPe => k_is)
    (case qhPe => exact ⟨⟨_, _, _, _, _, _, _, _, _, by k_is, by k_is⟩, by k_is⟩)
    (case qaDr => k_is)
    (case qhDr => exact ⟨⟨_, _, _, _, _, _, _, _, _, by k_is, by k_is⟩, by k_is⟩)
    (case qaPi => k_is)
    (case qhPi => exact ⟨⟨_, _, _, _, _, _, _, _, _, by k_is, by k_is⟩, by k_is⟩)
    (case qaPl => k_is)
    (case qhPl => exact ⟨⟨_, _, _, _, _, _, _, _, _, by k_is, by k_is⟩, by k_is⟩)
    (case qaGg => k_is)
    (case qhGg => exact ⟨⟨_, _, _, _, _, _, _, _, _, by k_is, by k_is⟩, by k_is⟩)
    (case qaRt => k_is)
    (case qhRt => exact ⟨⟨_, _, _, _, _, _, _, _, _, by k_is, by k_is⟩, by k_is⟩)
    (case qaRu => k_is)
    (case qhRu => exact ⟨⟨_, _, _, _, _, _, _, _, _, by k_is, by k_is⟩, by k_is⟩)
    (case qaLp => k_is)
    (case qhLp => exact ⟨⟨_, _, _, _, _, _, _, _, _, by k_is, by k_is⟩, by k_is⟩)
    (case qaBo => k_is)
    (case qhBo => exact ⟨⟨_, _, _, _, _, _, _, _, _, by k_is, by k_is⟩, by k_is⟩)
    (case qaHd => k_is)
    (case qhHd => exact ⟨⟨_, _, _, _, _, _, _, _, _, by k_is, by k_is⟩, by k_is⟩)
    (case qaLl => k_is)
    (case qhLl => exact ⟨⟨_, _, _, _, _, _, _, _, _, by k_is, by k_is⟩, by k_is⟩)
    (case qaTa => k_is)
    (case qhTa => exact ⟨⟨_, _, _, _, _, _, _, _, _, by k_is, by k_is⟩, by k_is⟩)
    (case qaDu => k_is)
    (case qhDu => exact ⟨⟨_, _, _, _, _, _, _, _, _, by k_is, by k_is⟩, by k_is⟩)
    (case qaBt => k_is)
    (case qhBt => exact ⟨⟨_, _, _, _, _, _, _, _, _, by k_is, by k_is⟩, by k_is⟩)
    (case qaSr => k_is)
    (case qhSr => exact ⟨⟨_, _, _, _, _, _, _, _, by k_is, by k_is⟩, by k_is, ⟨_, _, _, _, by k_is, rfl⟩⟩)
    (case qaRr => k_is)
    (case qhRr => exact ⟨⟨_, _, _, _, _, _, _, _, by k_is, by k_is⟩, by k_is, ⟨_, _, _, _, by k_is, rfl⟩⟩)
    (case qaRf => k_is)
    (case qhRf => exact ⟨⟨_, _, _, _, _, _, _, _, by k_is, by k_is⟩, by k_is, ⟨_, _, _, _, by k_is, rfl⟩⟩)
    (case qaLa => k_is)
    (case qhLa => exact ⟨⟨_, _, _, _, _, _, _, _, by k_is, by k_is⟩, by k_is, ⟨_, _, _, _, by k_is, rfl⟩⟩)
    (case qnPP => decide +kernel)
    (case qhNT => kernel_rfl)
    (case qaC => k_is)
    (case qrd => exact (show PySem.W.readsIn _ _ (.type "type") = true by k_is))
    (case qga => k_is)
    (case qcls => exact ⟨by k_is, by k_is, by k_is, by k_is⟩)
    (case qnfl => exact (by unfold L2.NoAttr; k_is))
    (case qnpa => exact (by unfold L2.NoAttr; k_is))
    (case qmakes => k_is)
    (case qkC => k_is)
    (case qtRd => exact ⟨by k_is, ⟨_, by k_is⟩, by k_is⟩)
    (case qtSi => exact ⟨by k_is, ⟨_, by k_is⟩, by k_is⟩)
    (case qaIn => k_is)
    (case qtIn => k_is)
    (case qhIn => exact ⟨⟨_, _, _, _, _, _, _, _, _, by k_is, by k_is⟩, by k_is⟩)
    (case qaBd => k_is)
    (case qtBd => k_is)
    (case qhBd => exact ⟨⟨_, _, _, _, _, _, _, _, _, by k_is, by k_is⟩, by k_is⟩)
    (case qaFr => k_is)
    (case qtFr => k_is)
    (case qhFr => exact ⟨⟨_, _, _, _, _, _, _, _, _, by k_is, by k_is⟩, by k_is⟩)
    (case qaPu => k_is)
    (case qtPu => k_is)
    (case qhPu => exact ⟨⟨_, _, _, _, _, _, _, _, _, by k_is, by k_is⟩, by k_is⟩)
    (case qaLo => k_is)
    (case qtLo => k_is)
    (case qhLo => exact ⟨⟨_, _, _, _, _, _, _, _, _, by k_is, by k_is⟩, by k_is⟩)
    (case qhSi => exact ⟨⟨_, _, _, _, _, _, _, _, _, by k_is, by k_is⟩, by k_is⟩)
    (case qhRd => exact ⟨⟨_, _, _, _, _, _, _, _, _, by k_is, by k_is⟩, by k_is⟩)
    (case qcs => k_is)
    (case qct => k_is)
    (case qgB => k_is)
    (case qbB => k_is)
    (case qdB => k_is)
    (case qtyB => k_is)
    (case qxL => exact ⟨⟨by k_is, ⟨_, _, _, _, _, _, _, _, _, _, _, _, _, _, by k_is⟩, by k_is, by k_is, by k_is, by k_is, by k_is, by k_is⟩, by k_is, ⟨_, _, _, _, _, _, _, _, _, by k_is, by k_is⟩, by k_is, by k_is⟩)
    (case qxL0 => k_is)
    (case qxF => exact ⟨⟨by k_is, ⟨_, _, _, _, _, _, _, _, _, _, _, _, _, _, by k_is⟩, by k_is, by k_is, by k_is, by k_is, by k_is, by k_is⟩, by k_is, ⟨_, _, _, _, _, _, _, _, _, by k_is, by k_is⟩, by k_is, by k_is⟩)
    (case qxF0 => k_is)
    (case qxR => exact ⟨⟨by k_is, ⟨_, _, _, _, _, _, _, _, _, _, _, _, _, _, by k_is⟩, by k_is, by k_is, by k_is, by k_is, by k_is, by k_is⟩, by k_is, ⟨_, _, _, _, _, _, _, _, _, by k_is, by k_is⟩, by k_is, by k_is⟩)
    (case qxR0 => k_is)
    (case qxT => exact ⟨⟨by k_is, ⟨_, _, _, _, _, _, _, _, _, _, _, _, _, _, by k_is⟩, by k_is, by k_is, by k_is, by k_is, by k_is, by k_is⟩, by k_is, ⟨_, _, _, _, _, _, _, _, _, by k_is, by k_is⟩, by k_is, by k_is⟩)
    (case qxT0 => k_is)
    (case qxT1 => k_is)
    (case qxC => exact ⟨⟨by k_is, ⟨_, _, _, _, _, _, _, _, _, _, _, _, _, _, by k_is⟩, by k_is, by k_is, by k_is, by k_is, by k_is, by k_is⟩, by k_is, ⟨_, _, _, _, _, _, _, _, _, by k_is, by k_is⟩, by k_is, by k_is⟩)
    (case qxC0 => k_is)
    (case qxM => exact ⟨⟨by k_is, ⟨_, _, _, _, _, _, _, _, _, _, _, _, _, _, by k_is⟩, by k_is, by k_is, by k_is, by k_is, by k_is, by k_is⟩, by k_is, ⟨_, _, _, _, _, _, _, _, _, by k_is, by k_is⟩, by k_is, by k_is⟩)
    (case qxM0 => k_is)
    (case qxM1 => k_is)
    (case qn1 => decide +kernel)
    (case qn2 => decide +kernel)
    (case qn3 => decide +kernel)
    (case qnLB => decide +kernel)
    (case qnFB => decide +kernel)
    (case qnCB => decide +kernel)
    (case qzm => exact ⟨_, by k_is⟩)
    (case qz8 => exact ⟨_, by k_is⟩)
    (case qzl => exact ⟨_, by k_is⟩)
    (case qz_isinstance => k_is)
    (case qz_int => k_is)
    (case qz_bool => k_is)
    (case qz_str => k_is)
    (case qz_len => k_is)
    (case qz_abs => k_is)
    (case qz_list => k_is)
    (case qz_range => k_is)
    (case qz_tuple => k_is)
    (case qz_divmod => k_is)
    (case qz_enumerate => k_is)
    (case qz_set => k_is)
    (case qz_sorted => k_is)
    (case qz_max => k_is)
    (case qz_repr => k_is)
