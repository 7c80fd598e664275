import PyProof.Rows.All
import Wide.All
import OpenK.AllK
import Wide.FinOn
import HandS.ForMost
import HandS.Star
import HandS.SlotsOwn
import HandS.OwnEq
import HandS.Defaults
import HandS.RaiseMore
import HandS.ClsMeth
import HandS.Codes
import KE.KCallOwn
import KE.KOpsOwn
import HandS.Evl
import HandS.Iter
import HandS.IterVal
import HandS.Records
import HandS.TupMul
import KE.KOwnIter
import HandS.SetFor
import HandS.Strs
import HandS.TupSets
import HandS.SortKw
import PyProof.Rows.SortStr
import HandS.CallLocal
import HandS.Walk
import KE.GoesMore
import KE.GoesEnum
import HandS.Wide
import HandS.IsInst
import HandS.StrMore
import HandS.TupAny
import HandS.Conv
import HandS.Keys
import HandS.Text
import HandS.Deep
import HandS.ForExc
import HandS.ExcInit
import HandS.ExcValue
import HandS.ExcField
import KE.KExcIs
import HandS.ExcIs
import HandS.Steps
import HandS.Lambda
import HandS.Dict
import HandS.Style
import HandS.EndTab
import HandS.MakeKw
import KE.KNest
import PySem.Challenge.RW_layerpost_k23_rounds_made_and_joined
set_option Elab.async false
set_option linter.all false
set_option maxRecDepth 100000
set_option maxHeartbeats 8000000
/-! str of an own instance; str of an int or a text; C.m() of a static method; o.m(k = v) -/
namespace OwX
open PySem PySem.Spec PyProof.Rows L2 ClX StX
/-- a class's own __str__ -/
structure StrIn (K : PySem.W.Frag) (C g : Addr) : Prop where
  there : PySem.W.findIn K (.ref C) "__str__" = some (some (.ref g))
  isDef : PySem.W.isFn K (.ref g) = true
section
variable {X : Cx} {CX : CXT} {n : Nat} {C g : Addr} {sp : Sp} {E : XK}
theorem call_strI (c : StrIn X.K C g) (F : FnR X.prog X.w X.K X.mg X.base CX n g sp) (hr : Room (n + 2) X.A) (hx : Passes CX X E) :
    CallR X (.type "str") (fun xs H Q => ∃ a, xs = [.ref a] ∧ InsC X H a C ∧ sp [.ref a] H (fun v H' => ∃ y, v = .str y ∧ Q v H') E) := by
  intro pins s σ H xs us Q I r h
  obtain ⟨a, rfl, ha, q⟩ := h
  obtain ⟨u, rfl, ru⟩ := vals1 r
  cases (show u = Value.ref a from ru)
  obtain ⟨ox, od, J, _⟩ := insC_at I ha
  refine PySem.W.kso_call hr.in1.in1.units0 I.kIn J c.there c.isDef ?_
  refine wpAny_mono (wpAny_call (SlX.run_at (us := [.ref a]) (ws := [.ref a]) F hr.in1.in1 I.env0.in1.in1 hx I (.cons rfl .nil) q)) (fun v s' back => ?_) fun _ _ z => z
  obtain ⟨v', H', I', rv, y, ey, qy⟩ := back
  subst ey
  obtain ⟨t, et⟩ := (show ∃ t, v = Value.str y t from rv)
  subst et
  exact ⟨.str y, H', I', ⟨t, rfl⟩, qy⟩
/-- of an int that is not too long, and of a text -/
theorem call_strV : CallR X (.type "str") (fun xs H Q => (∃ i, xs = [.int i] ∧ i.natAbs.log2 < 1920 ∧ Q (.str (toString i)) H) ∨ ∃ a, xs = [.str a] ∧ Q (.str a) H) := fun pins s σ H xs us Q I r h =>
  h.elim (fun hi => call_str_int pins s σ H xs us Q I r hi) fun ha => SkE.call_str_str pins s σ H xs us Q I r ha
end
section
variable {X : Cx} {k : Nat} {C p f : Addr} {mc : Value} {fd : FuncData} {ps ks : List Str} {sp : Sp} {o : Expr} {m : Str} {pos apos : Pos} {ta : TE} {tk : TA} {pl : Sem Bool} {kws : List Keyword} {g : List Value → List Value → List Value} {gV : List V → List V → List V}
/-- o.m(k = v, ..), keywords alone -/
theorem pe_methKw (he : PE X o ta) (c : Cls X.K C) (hm : Meth X.K C m f) (F : FnOk X.prog X.w X.K X.mg X.base CX0 k f fd ps sp) (hr : Room k X.A) (hb : KBn X.K fd ps 1 ks g gV) (hkw : PK X kws tk)
    (some_ : (backToKw pos (keywordEach kws X.env)).all (·.1.isSome) = true := by rfl) (names : (backToKw pos (keywordEach kws X.env)).filterMap (·.1) = ks := by rfl)
    (none_ : ((backTo pos (starEach [] X.env)).any (·.1) || (backToKw pos (keywordEach kws X.env)).any (·.1.isNone)) = false := by rfl)
    (form : eval (.Call (.Attribute o m apos) [] kws pos) X.env = (do let ov ← eval o X.env; standAt apos.atName; let (f, first) ← holding [ov] (getMethod ov m pl); callWith pos f first (backTo pos (starEach [] X.env)) (backToKw pos (keywordEach kws X.env))) := by rfl) :
    PE X (.Call (.Attribute o m apos) [] kws pos) (fun σ H Q => ta σ H fun x H1 => ∃ a dx fs, x = .ref a ∧ H1 a = some (.ins C dx fs) ∧ fs.lookup m = none ∧ tk σ H1 fun zs H2 => zs.length = ks.length ∧ sp (gV [.ref a] zs) H2 Q E0) := by
  refine ⟨fun pins s σ H Q I h => PySem.W.methodCall_KW (pl := pl) (thn (he.run pins s σ H _ I h) fun u s1 ⟨x, H1, J, rx, a, dx, fs, ex, ea, l, q⟩ => ?_) form⟩
  subst ex
  cases (show u = Value.ref a from rx)
  refine getmeth_ok J ea c hm l (PySem.W.callWith_KW0 (first := [.ref a]) (h₀ := X.base) J.ok.mod.kin hm.kp some_ ?_ none_)
  refine thn (hkw.run pos pins s1 σ H1 _ J q) fun ws s2 ⟨zs, H2, J2, rz, l2, q2⟩ => ⟨J2.kIn, ?_⟩
  rw [names]
  exact run_fnN (us := [.ref a]) (vs := [.ref a]) F hr hb pass0 J2 (.cons rfl .nil) rz rfl l2 q2
end
end OwX
/-! operators of own classes, for instances with a dict or with slots -/
namespace OpX
open PySem PySem.Spec PyProof.Rows L2 StX
section
variable {prog : Program} {w : World} {A : Around} {E : Value → Shared → Prop} {s : Shared} {K : PySem.W.Frag} {x y C f L : Addr} {h₀ : Heap} {m : Str → Option Value} {ox oy : Obj} {od od' : Option Obj}
/-- some answer came -/
def Told (Q : Value → Shared → Prop) (r : Option Value) (s' : Shared) : Prop := ∃ v, r = some v ∧ Q v s'
/-- what an operator's first try told is the operator's word -/
theorem told_pure {M : Model} {B : Around} {F : Value → Shared → Prop} {Q : Value → Shared → Prop} {t : Sem (Option Value)} {k : Option Value → Sem Value} {s' : Shared} (h : wpAny M B t (Told Q) F s') (hk : ∀ v, k (some v) = pure v) : wpAny M B (t >>= k) Q F s' :=
  wpAny_bind (wpAny_mono h (fun r s'' ⟨v, e, q⟩ => by rw [e, hk]; exact wpAny_pure q) fun _ _ z => z)
open Builtin in
/-- object's own != asks the class's == and turns its bool about -/
theorem turned {Q : Value → Shared → Prop} {b : Value} (hu : A.in1.units < cLine) (X : K.In s.heap) (I : PySem.W.InstAt s.heap x ox C od) (hm : PySem.W.mroIn K C (.type "object") = some true)
    (hs : PySem.W.findIn K (.ref C) "__eq__" = some (some (.ref f))) (hf : PySem.W.isFn K (.ref f) = true)
    (h : wpAny (model prog w) A.in1 (call (.ref f) [.ref x, b]) (fun r s' => ∃ c, r = .bool c ∧ Q (.bool (!c)) s') E s) : wpAny (model prog w) A (call (.builtin "object.__ne__") [.ref x, b]) Q E s := by
  refine wpAny_call (codeAny_call_builtin PySem.F.slot_object_ne.plain PySem.F.entry_object_ne (PySem.W.check_slot (i := "object.__ne__") (owner := "object") (n := "__ne__") (by decide +kernel) (by decide +kernel) (I.type.andThen (PySem.W.looks_mroIn X hm)) (PySem.F.args_object_ne_2 _ _) ?_))
  show wpAny _ _ (Builtin.«object.__ne__» _) _ _ _
  unfold Builtin.«object.__ne__»
  exact wpAny_bind (m := slotArgs "__ne__" 1 _) (wpAny_pure (wpAny_bind (m := cRoomFor _ _) (wpAny_cRoomFor hu (wpAny_bind (m := callSpecialIfBound? (.ref x) (Str.ofString "__eq__") _)
    (PySem.W.ifBound_K X I hs hf (wpAny_mono h (fun r s' ⟨c, e, q⟩ => by
      subst e
      exact wpAny_bind (m := truthy (.bool c)) (wpAny_truthy_bool (wpAny_pure q))) fun _ _ z => z))))))
/-- x != y, both of one class that has an own == and object's != -/
theorem ne_same {Q : Value → Shared → Prop} (hu : A.units < cLine) (hu1 : A.in1.units < cLine) (X : K.In s.heap) (I : PySem.W.InstAt s.heap x ox C od) (J : PySem.W.InstAt s.heap y oy C od')
    (hne : PySem.W.findIn K (.ref C) "__ne__" = some (some (.builtin "object.__ne__"))) (hm : PySem.W.mroIn K C (.type "object") = some true) (hs : PySem.W.findIn K (.ref C) "__eq__" = some (some (.ref f))) (hf : PySem.W.isFn K (.ref f) = true)
    (h : wpAny (model prog w) A.in1 (call (.ref f) [.ref x, .ref y]) (fun r s' => ∃ c, r = .bool c ∧ Q (.bool (!c)) s') E s) : wpAny (model prog w) A (richCompare .NotEq (.ref x) (.ref y)) Q E s := by
  have word := turned (Q := fun v s' => Q v s' ∧ ∃ c, v = .bool c) hu1 X I hm hs hf (wpAny_mono h (fun r s' ⟨c, e, q⟩ => ⟨c, e, q, _, rfl⟩) fun _ _ z => z)
  have bnd : PySem.W.Looks (model prog w) s.heap (bindSpecial (.builtin "object.__ne__") (.ref x)) (.builtin "object.__ne__", [.ref x]) := PySem.W.Looks.of_pure (PySem.F.slot_object_ne.bind _)
  have asked : wpAny (model prog w) A (call (.builtin "object.__ne__") ([.ref x] ++ [.ref y]) >>= fun v => pure (some v)) (Told fun v s' => Q v s' ∧ ∃ c, v = .bool c) E s := wpAny_bind (wpAny_mono word (fun v s' q => wpAny_pure ⟨v, rfl, q⟩) fun _ _ z => z)
  have tried : wpAny (model prog w) A (tryCompare (.ref x) (cmpInfo .NotEq).2.1 (.ref y)) (Told Q) E s := by
    unfold tryCompare callSpecialIfBound? bindSpecialIfBound?
    refine wpAny_bind (wpAny_holding (wpAny_bind (wpAny_bind (wpAny_bind (I.type.here ((PySem.W.looks_findIn X hne).here (wpAny_bind (wpAny_askSetting (wpAny_ite ?_)))))))))
    split
    · refine wpAny_bind (bnd.here (wpAny_pure ?_))
      exact wpAny_mono asked (fun r s' ⟨v, e, q, c, ec⟩ => by
        subst e ec
        exact wpAny_pure ⟨_, rfl, q⟩) fun _ _ z => z
    · refine wpAny_tryCatch (wpAny_bind (bnd.here (wpAny_pure ?_)))
      exact wpAny_mono asked (fun r s' ⟨v, e, q, c, ec⟩ => by
        subst e ec
        exact wpAny_pure ⟨_, rfl, q⟩) fun _ _ z => z
  have same : (Value.ref C != Value.ref C) = false := by simp
  unfold richCompare
  rw [oneThing_ref]
  refine wpAny_holding (wpAny_bind (wpAny_cRoomFor hu (wpAny_bind (I.type.here (wpAny_bind (J.type.here ?_))))))
  rw [same, if_neg Bool.false_ne_true]
  exact wpAny_bind (wpAny_pure (told_pure tried fun _ => rfl))
end
section
variable {X : Cx} {CX : CXT} {n : Nat} {C g : Addr} {sp : Sp} {E : XK}
/-- x op y: both of the class at C -/
def rS (X : Cx) (C : Addr) (sp : Sp) (E : XK) : R2 := fun x y H Q => ∃ a b, x = .ref a ∧ y = .ref b ∧ InsC X H a C ∧ InsC X H b C ∧ sp [.ref a, .ref b] H Q E
/-- x op i: x of the class at C, i an int -/
def rI (X : Cx) (C : Addr) (sp : Sp) (E : XK) : R2 := fun x y H Q => ∃ a i, x = .ref a ∧ y = .int i ∧ InsC X H a C ∧ sp [.ref a, .int i] H Q E
/-- i op x: the reflected one -/
def rR (X : Cx) (C : Addr) (sp : Sp) (E : XK) : R2 := fun x y H Q => ∃ a i, x = .int i ∧ y = .ref a ∧ InsC X H a C ∧ sp [.ref a, .int i] H Q E
/-- the def of an operator -/
structure Has (K : PySem.W.Frag) (C g : Addr) (name : Str) : Prop where
  at_ : PySem.W.findIn K (.ref C) name = some (some (.ref g))
  fn : PySem.W.isFn K (.ref g) = true
theorem run_own {pins : List (Addr × Obj)} {σ : L2.St} {H : Hp} {s : Shared} {Q : VK} {us : List Value} {vs : List V} (F : FnR X.prog X.w X.K X.mg X.base CX n g sp) (hr : Room n X.A) (hx : Passes CX X E) (I : Inv X pins σ H s) (r : Vals vs us)
    (q : sp vs H Q E) : wpAny (model X.prog X.w) X.A (call (.ref g) us) (PySem.W.CmpBack (EP X pins σ Q)) X.xe s := by
  refine wpAny_mono (wpAny_call (run_fnR F hr hx I r q)) (fun w s' z => ?_) fun _ _ x => x
  obtain ⟨z', H', I', rz, qz⟩ := z
  exact SlX.cmpback rz ⟨z', H', I', rz, qz⟩
theorem op_binS {op : Operator} (hc : PySem.W.selfFirst X.K C = true) (h : Has X.K C g (PySem.dunder op.info.2)) (F : FnR X.prog X.w X.K X.mg X.base CX n g sp) (hr : Room n X.A) (hx : Passes CX X E) :
    OpR X (binaryOp op) (rS X C sp E) := by
  intro pins s σ H x y v u Q I rx ry hq
  obtain ⟨a, b, rfl, rfl, ha, hb, q⟩ := hq
  cases (show v = Value.ref a from rx)
  cases (show u = Value.ref b from ry)
  obtain ⟨ox, od, J, _⟩ := insC_at I ha
  obtain ⟨ox', od', J', _⟩ := insC_at I hb
  obtain ⟨m, hF⟩ := I.fr
  exact PySem.W.binop_K hF I.ok.mod.kin J J'.type hc h.at_ h.fn (run_own (us := [.ref a, .ref b]) (vs := [.ref a, .ref b]) F hr hx I (.cons rfl (.cons rfl .nil)) q)
theorem op_binI {op : Operator} {fo ro rc : Option Value} (hc : PySem.W.selfFirst X.K C = true) (h : Has X.K C g (PySem.dunder op.info.2)) (hrf : PySem.W.findIn X.K (.ref C) (dunderR op.info.2) = some rc) (hp : rc = none ∨ ∃ g : Addr, rc = some (.ref g))
    (h1 : PySem.W.findIn X.K (.type "int") (PySem.dunder op.info.2) = some fo) (h2 : PySem.W.findIn X.K (.type "int") (dunderR op.info.2) = some ro) (hsub : PySem.W.subIn X.K (.type "int") (.ref C) = some false)
    (F : FnR X.prog X.w X.K X.mg X.base CX n g sp) (hr : Room n X.A) (hx : Passes CX X E) : OpR X (binaryOp op) (rI X C sp E) := by
  intro pins s σ H x y v u Q I rx ry hq
  obtain ⟨a, i, rfl, rfl, ha, q⟩ := hq
  cases (show v = Value.ref a from rx)
  obtain ⟨t, e⟩ := (show ∃ t, u = Value.int i t from ry)
  subst e
  obtain ⟨ox, od, J, _⟩ := insC_at I ha
  obtain ⟨m, hF⟩ := I.fr
  exact PySem.W.ksp_binT (T := "int") hF I.ok.mod.kin J rfl hc h.at_ h.fn hrf hp h1 h2 hsub (run_own (us := [.ref a, .int i t]) (vs := [.ref a, .int i]) F hr hx I (.cons rfl (.cons ⟨t, rfl⟩ .nil)) q)
/-- x == y: x of the class at C; y an instance of a class that is not below C -/
def rEqO (X : Cx) (C : Addr) (sp : Sp) (E : XK) : R2 := fun x y H Q => ∃ a b C', x = .ref a ∧ y = .ref b ∧ InsC X H a C ∧ InsC X H b C' ∧ PySem.W.notFirst X.K C (.ref C') = true ∧ sp [.ref a, .ref b] H Q E
theorem op_eqO {op : CmpOp} (hop : ∀ a b, compareOp op a b = richCompare op a b) (h : Has X.K C g (cmpInfo op).2.1) (F : FnR X.prog X.w X.K X.mg X.base CX n g sp)
    (hr : Room n X.A) (hx : Passes CX X E) : OpR X (compareOp op) (rEqO X C sp E) := by
  intro pins s σ H x y v u Q I rx ry hq
  obtain ⟨a, b, C', rfl, rfl, ha, hb, hn, q⟩ := hq
  cases (show v = Value.ref a from rx)
  cases (show u = Value.ref b from ry)
  obtain ⟨ox, od, J, _⟩ := insC_at I ha
  obtain ⟨ox', od', J', _⟩ := insC_at I hb
  obtain ⟨m, hF⟩ := I.fr
  rw [hop]
  exact PySem.W.cmp_K (op := op) (tb := .ref C') hr.units0 hF I.ok.mod.kin J J'.type hn h.at_ h.fn (run_own (us := [.ref a, .ref b]) (vs := [.ref a, .ref b]) F hr hx I (.cons rfl (.cons rfl .nil)) q)
/-- x != y, both of the class at C, which has an own == -/
def rNeO (X : Cx) (C : Addr) (sp : Sp) (E : XK) : R2 := fun x y H Q => ∃ a b, x = .ref a ∧ y = .ref b ∧ InsC X H a C ∧ InsC X H b C ∧ sp [.ref a, .ref b] H (fun v H' => ∃ c, v = .bl c ∧ Q (.bl (!c)) H') E
theorem op_neO (h : Has X.K C g "__eq__") (hne : PySem.W.findIn X.K (.ref C) "__ne__" = some (some (.builtin "object.__ne__"))) (hm : PySem.W.mroIn X.K C (.type "object") = some true) (F : FnR X.prog X.w X.K X.mg X.base CX n g sp)
    (hr : Room (n + 1) X.A) (hx : Passes CX X E) : OpR X (compareOp .NotEq) (rNeO X C sp E) := fun pins s σ H x y v u Q I rx ry ⟨a, b, ex, ey, ha, hb, q⟩ => by
  subst ex ey
  cases (show v = Value.ref a from rx)
  cases (show u = Value.ref b from ry)
  obtain ⟨ox, od, J, _⟩ := insC_at I ha
  obtain ⟨ox', od', J', _⟩ := insC_at I hb
  refine ne_same hr.units0 hr.in1.units0 I.kIn J J' hne hm h.at_ h.fn (wpAny_mono (wpAny_call (SlX.run_at (us := [.ref a, .ref b]) (ws := [.ref a, .ref b]) F hr.in1 I.env0.in1 hx I (.cons rfl (.cons rfl .nil)) q)) (fun r s' back => ?_) fun _ _ z => z)
  obtain ⟨_, H', I', rr, c, ec, qc⟩ := back
  subst ec
  cases (show r = Value.bool c from rr)
  exact ⟨c, rfl, .bl (!c), H', I', rfl, qc⟩
end
end OpX
/-! a static method called off its class -/
namespace StM
open PySem PySem.Spec PyProof.Rows L2 ClX
/-- C.m is a staticmethod: its record at p, its def at g -/
structure SMet (K : PySem.W.Frag) (C : Addr) (mc : Value) (m : Str) (p g : Addr) : Prop where
  at_ : PySem.W.findCls K (.ref C) mc m = some (.get (.builtin "staticmethod.__get__") (.ref p) .none (.ref C))
  rc : ∃ rest, PySem.W.recIn K p "staticmethod" = some (.ref g :: rest)
  kp : PySem.W.keepIn K (.ref g) = true
/-- e.m(..), e the class at C -/
def tSMeth (C : Addr) (sp : Sp) (E : XK) (ta : TE) (t : TA) : TE := fun σ H Q => ta σ H fun x H1 => x = .ref C ∧ t σ H1 fun vs H2 => sp vs H2 Q E
section
variable {X : Cx} {CX : CXT} {k : Nat} {C p g : Addr} {mc : Value} {sp : Sp} {E : XK} {o e : Expr} {es : List Expr} {m : Str} {pos apos : Pos} {ta : TE} {t : TA} {pl : Sem Bool}
theorem pe_smeth (he : PE X o ta) (r : CRead X.K C mc) (c : SMet X.K C mc m p g) (F : FnR X.prog X.w X.K X.mg X.base CX k g sp) (hr : Room k X.A) (hx : Passes CX X E) (ha : PA X (e :: es) t)
    (hst : starEach (e :: es) X.env = (false, eval e X.env) :: starEach es X.env := by rfl) (hpl : (backTo pos (starEach es X.env)).any (·.1) = false := by rfl)
    (ht : eval (.Call (.Attribute o m apos) (e :: es) [] pos) X.env = (do
      let ov ← eval o X.env
      standAt apos.atName
      let (f, first) ← holding [ov] (getMethod ov m pl)
      callWith pos f first (backTo pos (starEach (e :: es) X.env)) (backToKw pos (keywordEach [] X.env))) := by rfl) :
    PE X (.Call (.Attribute o m apos) (e :: es) [] pos) (tSMeth C sp E ta t) := by
  refine ⟨fun pins s σ H Q I h => ?_⟩
  refine PySem.W.methodCall_KW (pl := pl) (thn (he.run pins s σ H _ I h) fun u s1 ⟨x, H1, I1, rx, ex, q⟩ => ?_) ht
  subst ex
  obtain rfl : u = Value.ref C := rx
  obtain ⟨rest, hp⟩ := c.rc
  refine PySem.W.method_cls I1.kIn r.ga (PySem.W.cls_bind I1.kIn r.rd c.at_ ?_)
  refine wpAny_call (PySem.W.sm_get (s := { s1 with toks := s1.toks + 1 }) I1.kIn hp (PySem.W.handed_on rfl ?_))
  have I2 : Inv X pins σ H1 { s1 with toks := s1.toks + 1 } := I1.tok _
  refine PySem.W.callWith_K (h₀ := X.base) I2.ok.mod.kin c.kp (thn (ha.run pos pins _ σ H1 _ I2 q) fun us s3 ⟨vs, H2, I3, rv, q2⟩ => ⟨I3.kIn, ?_⟩) hst hpl
  exact wpAny_call (run_fnR (us := us) (vs := vs) F hr hx I3 rv q2)
end
end StM
/-! x == y, y a tuple; C.m(k = v, ..) of a static method -/
namespace EqT
open PySem PySem.Spec PyProof.Rows L2 StX OpX
section
variable {X : Cx} {CX : CXT} {n : Nat} {C g : Addr} {sp : Sp} {E : XK}
/-- x == y: x of the class at C; y a tuple -/
def rEqT (X : Cx) (C : Addr) (sp : Sp) (E : XK) : R2 := fun x y H Q => ∃ a b ys, x = .ref a ∧ y = .ref b ∧ InsC X H a C ∧ SqT X.K H b ys ∧ PySem.W.notFirst X.K C (.type "tuple") = true ∧ sp [.ref a, .ref b] H Q E
theorem op_eqT {op : CmpOp} (hop : ∀ a b, compareOp op a b = richCompare op a b) (h : Has X.K C g (cmpInfo op).2.1) (F : FnR X.prog X.w X.K X.mg X.base CX n g sp)
    (hr : Room n X.A) (hx : Passes CX X E) : OpR X (compareOp op) (rEqT X C sp E) := by
  intro pins s σ H x y v u Q I rx ry hq
  obtain ⟨a, b, ys, rfl, rfl, ha, hb, hn, q⟩ := hq
  cases (show v = Value.ref a from rx)
  cases (show u = Value.ref b from ry)
  obtain ⟨ox, od, J, _⟩ := insC_at I ha
  obtain ⟨its, rv, ⟨o, ho, hc, nn, hd⟩, _⟩ := I.tuple hb
  have ty : PySem.W.Looks (model X.prog X.w) s.heap (typeOf (.ref b)) (.type "tuple") := fun A Q E s k q => wpAny_typeOf_ref (k _ _ ho) (by rw [hc]; exact q)
  obtain ⟨m, hF⟩ := I.fr
  rw [hop]
  exact PySem.W.cmp_K (op := op) (tb := .type "tuple") hr.units0 hF I.ok.mod.kin J ty hn h.at_ h.fn (run_own (us := [.ref a, .ref b]) (vs := [.ref a, .ref b]) F hr hx I (.cons rfl (.cons rfl .nil)) q)
end
end EqT
namespace StM
open PySem PySem.Spec PyProof.Rows L2 ClX
/-- e.m(k = v, ..), e the class at C -/
def tSMethK (C : Addr) (n : Nat) (sp : Sp) (gV : List V → List V → List V) (E : XK) (ta : TE) (tk : TA) : TE := fun σ H Q => ta σ H fun x H1 => x = .ref C ∧ tk σ H1 fun zs H2 => zs.length = n ∧ sp (gV [] zs) H2 Q E
section
variable {X : Cx} {k : Nat} {C p f : Addr} {mc : Value} {fd : FuncData} {ps ks : List Str} {sp : Sp} {o : Expr} {m : Str} {pos apos : Pos} {ta : TE} {tk : TA} {pl : Sem Bool} {kws : List Keyword} {g : List Value → List Value → List Value} {gV : List V → List V → List V}
theorem pe_smethK (he : PE X o ta) (r : CRead X.K C mc) (c : SMet X.K C mc m p f) (F : FnOk X.prog X.w X.K X.mg X.base CX0 k f fd ps sp) (hr : Room k X.A) (hb : KBn X.K fd ps 0 ks g gV) (hkw : PK X kws tk)
    (some_ : (backToKw pos (keywordEach kws X.env)).all (·.1.isSome) = true := by rfl) (names : (backToKw pos (keywordEach kws X.env)).filterMap (·.1) = ks := by rfl)
    (none_ : ((backTo pos (starEach [] X.env)).any (·.1) || (backToKw pos (keywordEach kws X.env)).any (·.1.isNone)) = false := by rfl)
    (form : eval (.Call (.Attribute o m apos) [] kws pos) X.env = (do let ov ← eval o X.env; standAt apos.atName; let (f, first) ← holding [ov] (getMethod ov m pl); callWith pos f first (backTo pos (starEach [] X.env)) (backToKw pos (keywordEach kws X.env))) := by rfl) :
    PE X (.Call (.Attribute o m apos) [] kws pos) (tSMethK C ks.length sp gV E0 ta tk) := by
  refine ⟨fun pins s σ H Q I h => PySem.W.methodCall_KW (pl := pl) (thn (he.run pins s σ H _ I h) fun u s1 ⟨x, H1, J, rx, ex, q⟩ => ?_) form⟩
  subst ex
  cases (show u = Value.ref C from rx)
  obtain ⟨rest, hp⟩ := c.rc
  refine PySem.W.method_cls J.kIn r.ga (PySem.W.cls_bind J.kIn r.rd c.at_ (wpAny_call (PySem.W.sm_get (s := { s1 with toks := s1.toks + 1 }) J.kIn hp (PySem.W.handed_on rfl ?_))))
  have J2 : Inv X pins σ H1 { s1 with toks := s1.toks + 1 } := J.tok _
  refine PySem.W.callWith_KW0 (first := []) (h₀ := X.base) J2.ok.mod.kin c.kp some_ ?_ none_
  refine thn (hkw.run pos pins _ σ H1 _ J2 q) fun ws s2 ⟨zs, H2, I2, rz, l2, q2⟩ => ⟨I2.kIn, ?_⟩
  rw [names]
  exact run_fnN (us := []) (vs := []) F hr hb pass0 I2 .nil rz rfl l2 q2
end
end StM
/-! operators of own classes: an int on the left, +=, in, len, truth, [] -/
namespace OpX
open PySem PySem.Spec PyProof.Rows L2 StX
section
variable {prog : Program} {w : World} {A : Around} {E : Value → Shared → Prop} {s : Shared} {K : PySem.W.Frag} {x C f L : Addr} {h₀ : Heap} {m : Str → Option Value} {ox : Obj} {od : Option Obj} {b tb : Value}
open Builtin in
/-- an int does not know an instance -/
theorem intMul_ref {Q : Value → Shared → Prop} {i : Int} {t : Tok} (ho : s.heap.get? x = some ox) (hd : ox.data = .plain) (h : Q .notImplemented s) : wpAny (model prog w) A (call (.builtin "int.__mul__") [.int i t, .ref x]) Q E s := by
  refine wpAny_call (codeAny_call_builtin PySem.F.slot_int_mul.plain PySem.F.entry_int_mul (PySem.F.slot_int_mul.check _ _ _ _ _ _ _ _ (typeIs_int _ _ _) (PySem.F.args_int_mul_2 _ _) ?_))
  unfold Builtin.«int.__mul__»
  unfold Int.intBinary
  refine wpAny_bind (m := slotArgs "__mul__" 1 _) (wpAny_pure ?_)
  refine wpAny_bind (m := Int.intOfSelf _) (wpAny_bind (m := asInt? _) (wpAny_pure (wpAny_pure ?_)))
  refine wpAny_bind (m := asInt? (.ref x)) (wpAny_bind (wpAny_load ho ?_))
  rw [hd]
  exact wpAny_pure (wpAny_bind (wpAny_rule (wpAny_pure h)))
/-- i * x, x of a class with * on both sides: an int declines, the class's reflected one is asked -/
theorem bin1_rint {i : Int} {t : Tok} {g : Addr} {Q : Value → Shared → Prop} (X : K.In s.heap) (I : PySem.W.InstAt s.heap x ox C od) (hd : ox.data = .plain) (hc : PySem.W.selfFirst K C = true) (hm : PySem.W.findIn K (.ref C) (PySem.dunder "mul") = some (some (.ref g)))
    (hs : PySem.W.findIn K (.ref C) (dunderR "mul") = some (some (.ref f))) (hf : PySem.W.isFn K (.ref f) = true) (hsub : PySem.W.subIn K (.ref C) (.type "int") = some false)
    (h : wpAny (model prog w) A (call (.ref f) [.ref x, .int i t]) (PySem.W.CmpBack Q) E s) : wpAny (model prog w) A (binaryOp1 "mul" (.int i t) (.ref x)) (Told Q) E s := by
  obtain ⟨cd, rest, hcd, hmm⟩ := PySem.W.ksp_first hc
  have mine := PySem.W.fills_K (M := model prog w) X hcd hmm hm
  have apart := PySem.W.looks_subIn (M := model prog w) X hsub
  have plainInt : numberSlotInPython (.type "int") "mul" = pure false := rfl
  have unlike : (Value.type "int" == Value.ref C) = false := by simp
  have answer := PySem.W.ksp_try (name := dunderR "mul") X I hs hf h
  unfold binaryOp1
  refine wpAny_bind (wpAny_typeOf (typeIs_int _ _ _) (wpAny_bind (I.type.here (wpAny_bind (wpAny_of_eq PySem.F.fills_int_mul ?_)))))
  simp only [unlike, Bool.false_eq_true, if_false]
  refine wpAny_bind (mine.here ?_)
  simp only [Bool.and_self, if_true]
  refine wpAny_bind (apart.here ?_)
  simp only [plainInt, Bool.not_false, Bool.and_self, Bool.false_eq_true, if_true, if_false, pure_bind]
  refine wpAny_bind (wpAny_tryMethod_declines (typeIs_int _ _ _) PySem.F.slot_int_mul (intMul_ref I.at_ hd ⟨rfl, ?_⟩))
  simp only [pure_bind]
  exact wpAny_bind (wpAny_mono answer (fun r s' ⟨v, e, q⟩ => by
    subst e
    exact wpAny_bind (wpAny_rule (wpAny_pure ⟨v, rfl, q⟩))) fun _ _ z => z)
/-- x op y, both of one class with an own op -/
theorem bin1_same {nm : String} {y : Addr} {oy : Obj} {od' : Option Obj} {Q : Value → Shared → Prop} (X : K.In s.heap) (I : PySem.W.InstAt s.heap x ox C od) (J : PySem.W.InstAt s.heap y oy C od') (hc : PySem.W.selfFirst K C = true)
    (hs : PySem.W.findIn K (.ref C) (PySem.dunder nm) = some (some (.ref f))) (hf : PySem.W.isFn K (.ref f) = true) (h : wpAny (model prog w) A (call (.ref f) [.ref x, .ref y]) (PySem.W.CmpBack Q) E s) :
    wpAny (model prog w) A (binaryOp1 nm (.ref x) (.ref y)) (Told Q) E s := by
  obtain ⟨cd, rest, hcd, hmm⟩ := PySem.W.ksp_first hc
  have answer := PySem.W.ksp_try (name := PySem.dunder nm) X I hs hf h
  have alike : (Value.ref C == Value.ref C) = true := by simp
  unfold binaryOp1
  refine wpAny_bind (I.type.here (wpAny_bind (J.type.here (wpAny_bind ((PySem.W.fills_K (M := model prog w) X hcd hmm hs).here ?_)))))
  simp only [alike, pure_bind, Bool.and_false, Bool.false_and, Bool.false_eq_true, if_true, if_false]
  exact wpAny_bind (wpAny_mono answer (fun r s' ⟨v, e, q⟩ => by
    subst e
    exact wpAny_pure ⟨v, rfl, q⟩) fun _ _ z => z)
theorem mul_of_bin1 {M : Model} {a b : Value} {Q : Value → Shared → Prop} (h : wpAny M A (binaryOp1 "mul" a b) (Told Q) E s) : wpAny M A (binaryOp .Mult a b) Q E s := by
  unfold binaryOp
  exact wpAny_holding (told_pure (t := binaryOp1 "mul" a b) h fun _ => rfl)
/-- a class of the text whose only base is object, without an own in-place operator -/
structure NoI (K : PySem.W.Frag) (C : Addr) (nm : String) : Prop where
  mro : (PySem.W.clsIn K C).any (fun cd => cd.mro == [.ref C, .type "object"]) = true
  own : PySem.W.findIn K (.ref C) (dunderI nm) = some none
  obj : PySem.W.findIn K (.type "object") (dunderI nm) = some none
theorem fillsI_no {M : Model} {h : Heap} {nm : String} {add : Bool} (X : K.In h) (N : NoI K C nm) : PySem.W.Looks M h (fillsInplaceSlot (.ref C) nm add) false := by
  intro A Q E s k q
  obtain ⟨cd, hc, hm⟩ := PySem.W.any_some N.mro
  have hm' : cd.mro = [.ref C, .type "object"] := beq_iff_eq.mp hm
  unfold fillsInplaceSlot
  refine wpAny_bind ((PySem.W.looks_clsIn X hc).andThen (f := fun cd => pure cd.mro) .now A _ E s k ?_)
  rw [hm', List.anyM_cons]
  refine wpAny_bind (wpAny_bind (PySem.W.looks_findIn X N.own A _ E s k (wpAny_pure ?_)))
  simp only [Bool.false_eq_true, if_false]
  rw [List.anyM_cons]
  refine wpAny_bind (wpAny_bind (PySem.W.looks_findIn X N.obj A _ E s k (wpAny_pure ?_)))
  simp only [Bool.false_eq_true, if_false]
  exact wpAny_pure q
theorem inp_of_bin1 {op : Operator} {b : Value} {Q : Value → Shared → Prop} (X : K.In s.heap) (I : PySem.W.InstAt s.heap x ox C od) (N : NoI K C op.info.2) (h : wpAny (model prog w) A (binaryOp1 op.info.2 (.ref x) b) (Told Q) E s) :
    wpAny (model prog w) A (inplaceOp op (.ref x) b) Q E s := by
  unfold inplaceOp
  refine wpAny_holding (wpAny_bind (I.type.here (wpAny_bind ((fillsI_no X N).here ?_))))
  rw [if_neg Bool.false_ne_true]
  exact told_pure h fun _ => rfl
end
section
variable {X : Cx} {CX : CXT} {n : Nat} {C g g' : Addr} {sp : Sp} {E : XK}
theorem op_rmul (hc : PySem.W.selfFirst X.K C = true) (hm : PySem.W.findIn X.K (.ref C) (PySem.dunder "mul") = some (some (.ref g'))) (h : Has X.K C g (dunderR "mul")) (hsub : PySem.W.subIn X.K (.ref C) (.type "int") = some false)
    (F : FnR X.prog X.w X.K X.mg X.base CX n g sp) (hr : Room n X.A) (hx : Passes CX X E) : OpR X (binaryOp .Mult) (rR X C sp E) := by
  intro pins s σ H x y v u Q I rx ry hq
  obtain ⟨a, i, rfl, rfl, ha, q⟩ := hq
  cases (show u = Value.ref a from ry)
  obtain ⟨t, e⟩ := (show ∃ t, v = Value.int i t from rx)
  subst e
  obtain ⟨ox, od, J, hd⟩ := insC_at I ha
  exact mul_of_bin1 (bin1_rint I.kIn J hd hc hm h.at_ h.fn hsub (run_own (us := [.ref a, .int i t]) (vs := [.ref a, .int i]) F hr hx I (.cons rfl (.cons ⟨t, rfl⟩ .nil)) q))
theorem op_inS {op : Operator} (hc : PySem.W.selfFirst X.K C = true) (N : NoI X.K C op.info.2) (h : Has X.K C g (PySem.dunder op.info.2)) (F : FnR X.prog X.w X.K X.mg X.base CX n g sp) (hr : Room n X.A) (hx : Passes CX X E) :
    OpR X (inplaceOp op) (rS X C sp E) := by
  intro pins s σ H x y v u Q I rx ry hq
  obtain ⟨a, b, rfl, rfl, ha, hb, q⟩ := hq
  cases (show v = Value.ref a from rx)
  cases (show u = Value.ref b from ry)
  obtain ⟨ox, od, J, _⟩ := insC_at I ha
  obtain ⟨ox', od', J', _⟩ := insC_at I hb
  exact inp_of_bin1 I.kIn J N (bin1_same I.kIn J J' hc h.at_ h.fn (run_own (us := [.ref a, .ref b]) (vs := [.ref a, .ref b]) F hr hx I (.cons rfl (.cons rfl .nil)) q))
end
end OpX
/-! own containers: len, truth by len, in, [..], for .. in over iter(a tuple); a tuple taken once -/
namespace OwC
open PySem PySem.Spec PyProof.Rows L2 StX OpX ItX
section
variable {prog : Program} {w : World} {A : Around} {E : Value → Shared → Prop} {s : Shared} {K : PySem.W.Frag} {x C f : Addr} {ox : Obj} {od : Option Obj}
open Builtin in
/-- a class without __bool__, with __len__: its objects' truth is that of their length -/
theorem truth_len {g : Value} {Q : Bool → Shared → Prop} (X : K.In s.heap) (I : PySem.W.InstAt s.heap x ox C od) (nb : PySem.W.findIn K (.ref C) "__bool__" = some none) (hl : PySem.W.findIn K (.ref C) "__len__" = some (some (.ref f))) (hf : PySem.W.isFn K (.ref f) = true)
    (h : wpAny (model prog w) A.in1 (call (.ref f) [.ref x]) (fun v s' => ∃ n t, v = .int n t ∧ 0 ≤ n ∧ n < 2 ^ 63 ∧ ∀ tk, Q (n != 0) { s' with toks := tk }) E s) : wpAny (model prog w) A (truthy (.ref x)) Q E s := by
  have asked : wpAny (model prog w) A (runValue (.builtin "len" ⟨[.ref x], []⟩)) (fun r s' => ∃ n t, r = .int n t ∧ Q (n != 0) s') E s := by
    refine wpAny_runValue (codeAny_builtin entry_len ?_)
    rw [Around.under_plainId plain_len _]
    unfold Builtin.«len»
    refine wpAny_bind (m := oneArg "len" _) (wpAny_pure (wpAny_bind (m := callSpecial? (.ref x) (Str.ofString "__len__")) (PySem.W.special_fn X I hl (beq_iff_eq.mp hf) (wpAny_mono h (fun r s' back => ?_) fun _ _ z => z))))
    obtain ⟨n, t, rfl, n0, n1, q⟩ := back
    refine wpAny_bind (wpAny_holding (wpAny_pure (wpAny_bind (wpAny_letGo ?_))))
    have low : ¬ n < 0 := Int.not_lt.mpr n0
    have high : ¬ n ≥ 2 ^ 63 := Int.not_le.mpr n1
    simp only [low, high, if_false]
    exact wpAny_bind (wpAny_mkInt (wpAny_pure ⟨n, _, rfl, q _⟩))
  unfold truthy
  refine wpAny_bind (m := callSpecial? (.ref x) (Str.ofString "__bool__")) (wpAny_bind (wpAny_bind (I.type.here ((PySem.W.looks_findIn X nb).here (wpAny_pure ?_)))))
  refine wpAny_bind (wpAny_bind (I.type.here ((PySem.W.looks_findIn X hl).here ?_)))
  rw [if_neg (show ¬ (some (Value.ref f)).isNone = true from Bool.false_ne_true)]
  refine wpAny_bind (wpAny_mono asked (fun r s' ⟨n, t, e, q⟩ => ?_) fun _ _ z => z)
  subst e
  exact wpAny_pure q
end
section
variable {X : Cx} {CX : CXT} {n : Nat} {C g : Addr} {sp : Sp} {E : XK}
/-- len(x), x of the class at C -/
def rLenO (X : Cx) (C : Addr) (sp : Sp) (E : XK) : List V → Hp → VK → Prop := fun xs H Q => ∃ a, xs = [.ref a] ∧ InsC X H a C ∧ sp [.ref a] H (fun v H' => ∃ i : Int, v = .int i ∧ 0 ≤ i ∧ i < 2 ^ 63 ∧ Q (.int i) H') E
theorem call_lenO (h : Has X.K C g "__len__") (F : FnR X.prog X.w X.K X.mg X.base CX n g sp) (hr : Room (n + 1) X.A) (hx : Passes CX X E) : CallR X (.builtin "len") (rLenO X C sp E) := by
  intro pins s σ H xs us Q I r hq
  obtain ⟨a, rfl, ha, q⟩ := hq
  obtain ⟨u, rfl, ru⟩ := vals1 r
  cases (show u = Value.ref a from ru)
  obtain ⟨ox, od, J, _⟩ := insC_at I ha
  obtain ⟨m, hF⟩ := I.fr
  refine PySem.W.len_K hF I.ok.mod.kin J h.at_ h.fn (wpAny_mono (wpAny_call (SlX.run_at (us := [.ref a]) (ws := [.ref a]) F hr.in1 I.env0.in1 hx I (.cons rfl .nil) q)) (fun v s' back => ?_) fun _ _ z => z)
  obtain ⟨v', H', I', rv, i, ei, h0, h1, qi⟩ := back
  subst ei
  obtain ⟨t, et⟩ := (show ∃ t, v = Value.int i t from rv)
  subst et
  exact ⟨⟨h0, h1⟩, .int i, H', I'.tok _, ⟨_, rfl⟩, qi⟩
/-- the truth of x, x of the class at C -/
def rTruO (X : Cx) (C : Addr) (sp : Sp) (E : XK) : V → Hp → (Bool → Hp → Prop) → Prop := fun x H Q => ∃ a, x = .ref a ∧ InsC X H a C ∧ sp [.ref a] H (fun v H' => ∃ i : Int, v = .int i ∧ 0 ≤ i ∧ i < 2 ^ 63 ∧ Q (i != 0) H') E
theorem tru_own (h : Has X.K C g "__len__") (nb : PySem.W.findIn X.K (.ref C) "__bool__" = some none) (F : FnR X.prog X.w X.K X.mg X.base CX n g sp) (hr : Room (n + 1) X.A) (hx : Passes CX X E) : TruR X (rTruO X C sp E) := by
  intro pins s σ H x v Q I rx hq
  obtain ⟨a, rfl, ha, q⟩ := hq
  cases (show v = Value.ref a from rx)
  obtain ⟨ox, od, J, _⟩ := insC_at I ha
  refine truth_len (g := .ref g) I.kIn J nb h.at_ h.fn (wpAny_mono (wpAny_call (SlX.run_at (us := [.ref a]) (ws := [.ref a]) F hr.in1 I.env0.in1 hx I (.cons rfl .nil) q)) (fun v s' back => ?_) fun _ _ z => z)
  obtain ⟨v', H', I', rv, i, ei, h0, h1, qi⟩ := back
  subst ei
  obtain ⟨t, et⟩ := (show ∃ t, v = Value.int i t from rv)
  exact ⟨i, t, et, h0, h1, fun tk => ⟨H', I'.tok tk, qi⟩⟩
/-- y in x, x of the class at C -/
def rInO (X : Cx) (C : Addr) (sp : Sp) (E : XK) : R2 := fun y x H Q => ∃ a, x = .ref a ∧ InsC X H a C ∧ sp [.ref a, y] H (fun v H' => ∃ b, v = .bl b ∧ Q (.bl b) H') E
theorem op_inO (h : Has X.K C g "__contains__") (F : FnR X.prog X.w X.K X.mg X.base CX n g sp) (hr : Room n X.A) (hx : Passes CX X E) : OpR X (compareOp .In) (rInO X C sp E) := by
  intro pins s σ H y x v u Q I ry rx hq
  obtain ⟨a, rfl, ha, q⟩ := hq
  cases (show u = Value.ref a from rx)
  obtain ⟨ox, od, J, _⟩ := insC_at I ha
  obtain ⟨m, hF⟩ := I.fr
  refine PySem.W.in_K hF I.ok.mod.kin J h.at_ h.fn (wpAny_mono (wpAny_call (run_fnR (us := [.ref a, v]) (vs := [.ref a, y]) F hr hx I (.cons rfl (.cons ry .nil)) q)) (fun r s' back => ?_) fun _ _ z => z)
  obtain ⟨r', H', I', rr, b, eb, qb⟩ := back
  subst eb
  cases (show r = Value.bool b from rr)
  exact wpAny_truthy_bool ⟨.bl b, H', I', rfl, qb⟩
/-- x[y], x of the class at C -/
def rIxO (X : Cx) (C : Addr) (sp : Sp) (E : XK) : R2 := fun x y H Q => ∃ a, x = .ref a ∧ InsC X H a C ∧ sp [.ref a, y] H Q E
theorem ix_own (h : Has X.K C g "__getitem__") (hf : PySem.W.fnIn X.K g = true) (F : FnR X.prog X.w X.K X.mg X.base CX n g sp) (hr : Room (n + 1) X.A) (hx : Passes CX X E) {value slice : Expr}
    (hsl : ∀ x i, subscripted slice true (.ref x) i = runValue (.builtin "lifetime.subscript" ⟨[.ref x, i], []⟩)) {pins : List (Addr × Obj)} {s : Shared} {σ : L2.St} {H : Hp} {x y : V} {v u : Value} {Q : VK} (I : Inv X pins σ H s) (rx : RelV x v) (ry : RelV y u)
    (hq : rIxO X C sp E x y H Q) : wpAny (model X.prog X.w) X.A (subscriptTail value slice v u) (EP X pins σ Q) X.xe s := by
  obtain ⟨a, rfl, ha, q⟩ := hq
  cases (show v = Value.ref a from rx)
  obtain ⟨ox, od, J, _⟩ := insC_at I ha
  obtain ⟨m, hF⟩ := I.fr
  exact PySem.W.sub_K hF I.ok.mod.kin J h.at_ hf h.fn (wpAny_call (SlX.run_at (us := [.ref a, u]) (ws := [.ref a, y]) F hr.in1 I.env0.in1 hx I (.cons rfl (.cons ry .nil)) q)) (hsl _ _)
theorem pe_ixO {a b : Expr} {ta tb : TE} {pos : Pos} (h : Has X.K C g "__getitem__") (hf : PySem.W.fnIn X.K g = true) (F : FnR X.prog X.w X.K X.mg X.base CX n g sp) (hr : Room (n + 1) X.A) (hx : Passes CX X E) (ha : PE X a ta) (hb : PE X b tb)
    (hsl : ∀ x i, subscripted b true (.ref x) i = runValue (.builtin "lifetime.subscript" ⟨[.ref x, i], []⟩) := by intro _ _; with_unfolding_all rfl) : PE X (.Subscript a b pos) (tOp (rIxO X C sp E) ta tb) := by
  refine ⟨fun pins s σ H Q I hq => ?_⟩
  exact Subscript_ (binT ha hb I hq fun v u s2 x y H2 I2 rx ry q => ix_own h hf F hr hx hsl I2 rx ry q)
end
/-! ### iter(a tuple), and walks over objects whose __iter__ gives one -/
abbrev tIt (t : Addr) : Obj := { cls := .type "tuple_iterator", data := .fields #[.ref t, .int 0 0] }
/-- the iterator of the tuple at t, as it begins, at it -/
def ItT (t it : Addr) : HO := .ext fun h => h.IsTupleIter it t 0
theorem itT_ok {P : Program} {w : World} {H : Hp} {h : Heap} {t it : Addr} (e : h.get? it = some (tIt t)) : ObjOk P w H h it (ItT t it) := ⟨⟨_, e, rfl, rfl⟩, ⟨_, e⟩, fun _ _ q k => q.at fun o z => k o z⟩
theorem iter_tup {prog : Program} {w : World} {A : Around} {E : Value → Shared → Prop} {s : Shared} {t : Addr} {items : Array Value} {Q : Value → Shared → Prop} (ht : s.heap.IsTuple t items) (h : Q (.ref s.heap.objs.size) { s with heap := s.heap.push (tIt t) }) :
    wpAny (model prog w) A (call (.builtin "iter") [.ref t]) Q E s :=
  Calls.call_function_entry (by decide +kernel) (by decide +kernel) PySem.W.kdk_entry_iter (PySem.W.kdk_args_iter (.ref t)) (by
    unfold Builtin.«iter»
    exact wpAny_bind (m := someArgs "iter" 1 2 _) (wpAny_of_eq (a := [Value.ref t]) (by first | rfl | kernel_rfl!) (wpAny_bind (m := pyIter (.ref t)) (wpAny_pyIter_tuple ht (wpAny_pure ⟨_, rfl, h⟩)))))
/-- something that H knows stands at n or above -/
def Old (n : Nat) (H : Hp) : Prop := ∃ b u, H b = some u ∧ n ≤ b
def rIterT (K : PySem.W.Frag) : List V → Hp → VK → Prop := fun xs H Q => ∃ t ys n, xs = [.ref t] ∧ SqT K H t ys ∧ Old n H ∧ ∀ it, H it = none → n ≤ it → Q (.ref it) (upd H it (ItT t it))
/-- tuple(a list), told with its age -/
def rTupA (K : PySem.W.Frag) (n : Nat) : List V → Hp → VK → Prop := fun xs H Q => ∃ l ys, xs = [.ref l] ∧ SqL K H l ys ∧ ∀ p, H p = none → n ≤ p → Q (.ref p) (upd H p (.tup ys))
section
variable {X : Cx} {CX : CXT} {n : Nat} {C g : Addr} {sp : Nat → Sp} {E : XK}
theorem call_iterT : CallR X (.builtin "iter") (rIterT X.K) := by
  intro pins s σ H xs us Q I r hq
  obtain ⟨t, ys, n, rfl, ht, ⟨b, u0, hb, nb⟩, q⟩ := hq
  obtain ⟨u, rfl, ru⟩ := vals1 r
  cases (show u = Value.ref t from ru)
  obtain ⟨its, rv, at_, _⟩ := I.tuple ht
  have far : n ≤ s.heap.objs.size := Nat.le_trans nb (Nat.le_of_lt (I.hok.lt hb))
  exact iter_tup (items := its.toArray) at_ ⟨.ref s.heap.objs.size, _, I.laid (t' := s.toks) (fun b u e => Heap.get?_push_of_some _ e) (Nat.le_refl _) (itT_ok (Heap.get?_push_size _ rfl)), rfl, q _ (I.hok.fresh (Nat.le_refl _)) far⟩
/-- tl gives an object of the class at C; its __iter__ hands back the iterator of a tuple at t, made anew -/
def iOwn (X : Cx) (C : Addr) (sp : Nat → Sp) (E : XK) (tl : TE) : TI := fun σ H R => tl σ H fun x H1 => ∃ a, x = .ref a ∧ InsC X H1 a C ∧
  sp X.s_0.heap.objs.size [.ref a] H1 (fun v H2 => ∃ it t, v = .ref it ∧ H2 it = some (ItT t it) ∧ X.s_0.heap.objs.size ≤ it ∧ R (Itt X.K t) (dropH H2 it)) E
theorem pi_own {tg l : Expr} {tl : TE} (h : Has X.K C g "__iter__") (F : ∀ m, FnR X.prog X.w X.K X.mg X.base CX n g (sp m)) (hr : Room n X.A) (hx : Passes CX X E) (hl : PE X l tl) : PI X tg l (iOwn X C sp E tl) := by
  refine ⟨fun pins s σ H R I hq => ?_⟩
  refine thn (hl.run pins s σ H _ I hq) fun v s1 ⟨x, H1, I1, r1, a, ex, ha, q⟩ => ?_
  subst ex
  cases (show v = Value.ref a from r1)
  obtain ⟨ox, od, J, _⟩ := insC_at I1 ha
  obtain ⟨m, hF⟩ := I1.fr
  refine PySem.W.owit_iter hF I1.ok.mod.kin J h.at_ h.fn (wpAny_mono (wpAny_call (run_fnR (us := [.ref a]) (vs := [.ref a]) (F _) hr hx I1 (.cons rfl .nil) q)) (fun u s2 back => ?_) fun _ _ z => z)
  obtain ⟨v2, H2, I2, r2, it, t, e2, hit, age, k⟩ := back
  subst e2
  cases (show u = Value.ref it from r2)
  have st : s2.heap.IsTupleIter it t 0 := (I2.hok it _ hit).1
  unfold PySem.W.OwitIt
  refine wpAny_specialOf (name := Str.ofString "__next__") st.typeIs PySem.F.slot_tuple_iterator_next.lookup ?_
  refine ⟨it, [it], _, _, dropH H2 it, rfl, inv_drop I2 hit, turn_tuple t it, st, fun b hb => ?_, k⟩
  obtain rfl := List.mem_singleton.mp hb
  exact inv_fp I2 hit age
theorem call_tupA : CallR X (.type "tuple") (rTupA X.K X.s_0.heap.objs.size) := fun pins s σ H xs us Q I r hq => by
  obtain ⟨l, ys, rfl, hl, q⟩ := hq
  obtain ⟨u, rfl, ru⟩ := vals1 r
  cases (show u = Value.ref l from ru)
  obtain ⟨its, rv, pl, hz⟩ := I.list hl
  exact call_tuple_list pl.isList (fun h' kp => by
    have J : Inv X pins σ H { s with heap := h' } := I.kept (t' := s.toks) kp
    exact ⟨.ref h'.objs.size, _, J.laid (t' := s.toks) (fun b o e => Heap.get?_push_of_some _ e) (Nat.le_refl _) (show ObjOk X.prog X.w _ _ _ (.tup ys) from ⟨hz, its, rv, IsTup.new _ _⟩), rfl, q _ (J.hok.fresh (Nat.le_refl _)) J.sz⟩) (by
    have len := rv.length
    rw [List.size_toArray]
    omega)
end
end OwC
/-! set(a list of texts), sorted(it) -/
namespace StS
open PySem PySem.Spec PyProof.Rows L2
/-- the text of a row of a set, and what such a row is -/
def rowT (e : Int × Value) : Str := strOf e.2
def RowT (P : Program) (w : World) (e : Int × Value) : Prop := ∃ k t, e.2 = .str k t ∧ e.1 = (PySem.strKind P w).hash k
/-- at a stands a set of the texts ks, in the order of its rows; its table rises and may be walked -/
def TxS (P : Program) (w : World) (h : Heap) (a : Addr) (ks : List Str) : Prop := ∃ (o : Obj) (es : Array (Int × Value)) (ep : Nat) (t : SetTable), (h.get? a = some o ∧ o.ExactSet ∧ o.data = .set es ep t) ∧
  ((∀ e ∈ es.toList, RowT P w e) ∧ es.toList.map rowT = ks ∧ ks.Nodup) ∧ (es.size < scanBound ∧ t.fits es.size = true) ∧ Ris t.place.toList ∧ (w.params.followText "set-order" = true ∨ t.led = true)
section
variable {P : Program} {w : World} {h h' : Heap} {a : Addr} {ks : List Str}
theorem TxS.at (R : TxS P w h a ks) (k : ∀ o, h.get? a = some o → h'.get? a = some o) : TxS P w h' a ks := by
  obtain ⟨o, es, ep, t, ⟨ho, q⟩, r⟩ := R
  exact ⟨o, es, ep, t, ⟨k o ho, q⟩, r⟩
theorem row_is {e : Int × Value} (r : RowT P w e) (k : Str) : (PySem.strKind P w).is k e.2 = true ↔ rowT e = k := by
  obtain ⟨k0, t, h1, _⟩ := r
  have mine : (PySem.strKind P w).is k0 e.2 = true := by rw [h1]; exact strKind_is P w k0 t
  rw [KeyKind.is_eq_decide mine k, decide_eq_true_iff, show rowT e = k0 by unfold rowT; rw [h1]; rfl]
  exact eq_comm
theorem rows_elems {l : List (Int × Value)} (g : ∀ e ∈ l, RowT P w e) : ElemsOf (PySem.strKind P w) l := fun e he => by
  obtain ⟨k, t, h1, h2⟩ := g e he
  exact ⟨⟨k, by rw [h1]; exact strKind_is P w k t, h2⟩, by rw [h1]; rfl⟩
theorem TxS.len (R : TxS P w h a ks) : ∃ (o : Obj) (es : Array (Int × Value)) (ep : Nat) (t : SetTable), h.get? a = some o ∧ es.size = ks.length := by
  obtain ⟨o, es, ep, t, ⟨ho, _⟩, ⟨_, e, _⟩, _⟩ := R
  exact ⟨o, es, ep, t, ho, by rw [← e, List.length_map, Array.length_toList]⟩
end
section
variable {P : Program} {w : World} {A : Around} {E : Value → Shared → Prop} {s : Shared} {a : Addr} {ks : List Str}
/-- behind the new row: the table may be laid anew -/
theorem settle {g : Bool → Sem Unit} (quiet : ∀ (b : Bool) (s1 : Shared) (Q : Unit → Shared → Prop), Q () s1 → wpAny (model P w) A (g b) Q E s1) {o : Obj} {es es1 : Array (Int × Value)} {ep : Nat} {t t2 : SetTable}
    (ho : s.heap.get? a = some o) (hx : o.ExactSet) (hd : o.data = .set es ep t) (rows : ∀ e ∈ es1.toList, RowT P w e) (once : (es1.toList.map rowT).Nodup) (few : es1.size < scanBound) (fit : t2.fits es1.size = true) (ris : Ris t2.place.toList)
    (led : w.params.followText "set-order" = true ∨ t2.led = true) {old : Bool} {R : Option Bool → Shared → Prop} (out : ∀ h' ks', Heap.SameBut a s.heap h' → ks'.Perm (es1.toList.map rowT) → TxS P w h' a ks' → R (some true) { s with heap := h' }) :
    wpAny (model P w) A (do
        storeSet a es1 t2
        if (!old && t2.tooFull) = true then do
            g (relayAll t2 es1 (SetTable.grown es1.size)).2.2
            storeSet a (relayAll t2 es1 (SetTable.grown es1.size)).1 (relayAll t2 es1 (SetTable.grown es1.size)).2.1
            pure (some true)
          else pure (some true)) R E s := by
  have stored := store_at (es' := es1) (t' := t2) ho hd
  have but1 := Heap.SameBut.update s.heap a (Obj.putSet es1 t2)
  refine wpAny_bind (wpAny_storeSet_of ho hd ?_ (fits_of_scanBound few))
  split
  · have q1 := relayAll_perm t2 es1 (SetTable.grown es1.size)
    have q2 := relayAll_fits t2 es1 (SetTable.grown es1.size)
    have q3 := relayAll_ris t2 es1 (SetTable.grown es1.size)
    have q4 := relayAll_led t2 es1 (SetTable.grown es1.size)
    revert q1 q2 q3 q4
    generalize relayAll t2 es1 (SetTable.grown es1.size) = Z
    obtain ⟨es2, t3, gave⟩ := Z
    dsimp only
    intro q1 q2 q3 q4
    have size : es2.size = es1.size := by rw [← Array.length_toList, q1.length_eq, Array.length_toList]
    have few2 : es2.size < scanBound := size ▸ few
    refine wpAny_bind (quiet _ _ _ (wpAny_bind (wpAny_storeSet_of stored rfl ?_ (fits_of_scanBound few2))))
    exact wpAny_pure (out _ (es2.toList.map rowT) (but1.trans (Heap.SameBut.update _ a _)) (q1.map rowT) ⟨_, es2, _, t3, ⟨store_at stored rfl, hx, rfl⟩, ⟨fun e he => rows e (q1.mem_iff.mp he), rfl, (q1.map rowT).nodup_iff.mpr once⟩, ⟨few2, q2⟩, q3,
      led.imp id fun z => q4.trans z⟩)
  · exact wpAny_pure (out _ _ but1 (List.Perm.refl _) ⟨_, es1, _, t2, ⟨stored, hx, rfl⟩, ⟨rows, rfl, once⟩, ⟨few, fit⟩, ris, led⟩)
/-- a text is added -/
theorem add {k : Str} {tk : Tok} {Q : Bool → Shared → Prop} (R : TxS P w s.heap a ks) (room : ks.length + 1 < scanBound)
    (out : ∀ b h' ks', Heap.SameBut a s.heap h' → (k ∈ ks ∧ ks' = ks ∨ k ∉ ks ∧ ks'.Perm (k :: ks)) → TxS P w h' a ks' → Q b { s with heap := h' }) :
    wpAny (model P w) A (setAddHashed a (.str k tk) ((PySem.strKind P w).hash k)) Q E s := by
  obtain ⟨o, es, ep, t, ⟨ho, hx, hd⟩, ⟨rows, ek, once⟩, ⟨few, fit⟩, ris, led⟩ := id R
  have size : es.size = ks.length := by rw [← ek, List.length_map, Array.length_toList]
  have mine : (PySem.strKind P w).is k (.str k tk) = true := strKind_is P w k tk
  have scan : (Value.str k tk).scannable = true := rfl
  have elems := rows_elems rows
  have within : k ∈ ks ↔ ∃ e ∈ es.toList, (PySem.strKind P w).is k e.2 = true := by
    rw [← ek, List.mem_map]
    exact ⟨fun ⟨e, he, q⟩ => ⟨e, he, (row_is (rows e he) k).mpr q⟩, fun ⟨e, he, q⟩ => ⟨e, he, (row_is (rows e he) k).mp q⟩⟩
  have calm : ∀ (b : Bool) (s1 : Shared) (Q' : Unit → Shared → Prop), Q' () s1 → wpAny (model P w) A (match b with | true => rule "set.scan.the-table-gave-way" | false => pure ()) Q' E s1 := fun b s1 Q' q => by
    cases b
    · exact wpAny_pure q
    · exact wpAny_rule q
  unfold setAddHashed setAddHashedIn
  refine wpAny_holding (wpAny_bind (wpAny_setState_of ho hd fit ?_))
  dsimp only
  rw [byScan_of scan few elems, if_pos rfl]
  unfold setAddByScan
  refine wpAny_bind (wpAny_bind (wpAny_rule (wpAny_bind (wpAny_setScan_of mine ho hd fit elems ?_))))
  cases found : List.findIdx? (fun e => (PySem.strKind P w).is k e.2) es.toList with
  | some j =>
    dsimp only
    obtain ⟨lt, is, _⟩ := List.findIdx?_eq_some_iff_getElem.mp found
    exact wpAny_pure (wpAny_pure (out _ s.heap ks (Heap.SameBut.refl a s.heap) (.inl ⟨within.mpr ⟨_, List.getElem_mem lt, is⟩, rfl⟩) R))
  | none =>
    dsimp only
    have new : k ∉ ks := fun z => by
      obtain ⟨e, he, q⟩ := within.mp z
      have := List.findIdx?_eq_none_iff.mp found e he
      rw [q] at this
      cases this
    have q1 := layNew_perm t es ((PySem.strKind P w).hash k) (.str k tk)
    have q2 := layNew_fits t es ((PySem.strKind P w).hash k) (.str k tk)
    have q3 := layNew_ris t es ((PySem.strKind P w).hash k) (.str k tk) ris
    have q4 := layNew_led t es ((PySem.strKind P w).hash k) (.str k tk)
    revert q1 q2 q3 q4
    generalize layNew t es ((PySem.strKind P w).hash k) (.str k tk) = Z
    obtain ⟨es1, t1, old, gave⟩ := Z
    dsimp only
    intro q1 q2 q3 q4
    have pm : es1.toList.Perm (((PySem.strKind P w).hash k, Value.str k tk) :: es.toList) := by
      rw [Array.toList_push] at q1
      exact q1.trans (List.perm_append_singleton _ _)
    have pk : (es1.toList.map rowT).Perm (k :: ks) := by
      have := pm.map rowT
      rwa [List.map_cons, ek] at this
    have rows1 : ∀ e ∈ es1.toList, RowT P w e := fun e he => by
      rcases List.mem_cons.mp (pm.mem_iff.mp he) with z | z
      · exact z ▸ ⟨k, tk, rfl, rfl⟩
      · exact rows e z
    have few1 : es1.size < scanBound := by
      have := pm.length_eq
      rw [Array.length_toList, List.length_cons, Array.length_toList, size] at this
      omega
    have once1 : (es1.toList.map rowT).Nodup := pk.nodup_iff.mpr (List.nodup_cons.mpr ⟨new, once⟩)
    have led1 : w.params.followText "set-order" = true ∨ t1.led = true := led.imp id fun z => q4.trans z
    refine wpAny_bind (calm _ _ _ ?_)
    split
    · refine wpAny_bind ?_
      rw [hashByValue_scannable 8 scan]
      refine wpAny_pure (settle (fun b s1 Q' q => calm b s1 Q' q) ho hx hd rows1 once1 few1 ?_ ?_ ?_ fun h' ks' sb p r => ?_)
      · first | (split <;> first | exact q2 | exact SetTable.fits_plain_off q2) | exact q2
      · first | (split <;> exact q3) | exact q3
      · first | (split <;> exact led1) | exact led1
      · dsimp only
        exact wpAny_pure (out _ h' ks' sb (.inr ⟨new, p.trans pk⟩) r)
    · refine wpAny_bind (wpAny_pure ?_)
      rw [if_pos rfl]
      refine settle (fun b s1 Q' q => calm b s1 Q' q) ho hx hd rows1 once1 few1 q2 q3 led1 fun h' ks' sb p r => ?_
      dsimp only
      exact wpAny_pure (out _ h' ks' sb (.inr ⟨new, p.trans pk⟩) r)
end
end StS
namespace StS
open PySem PySem.Spec PyProof.Rows L2
section
variable {P : Program} {w : World} {A : Around} {E : Value → Shared → Prop} {s : Shared}
/-- the same texts, each once -/
def Same (ks xs : List Str) : Prop := ks.Nodup ∧ (∀ k, k ∈ ks ↔ k ∈ xs) ∧ ks.length ≤ xs.length
abbrev blank (w : World) : Obj := { cls := .type "set", dict := none, data := .set #[] 0 (.fresh 0 0 (!w.params.followText "set-order")) }
def Done (P : Program) (w : World) (s : Shared) (xs : List Str) (s2 : Shared) : Prop := ∃ hp tk ks, s2 = { s with heap := hp, toks := tk } ∧ TxS P w hp s.heap.objs.size ks ∧ Same ks xs ∧ ∀ b u, s.heap.get? b = some u → hp.get? b = some u
theorem blank_tx {h : Heap} {a : Addr} (e : h.get? a = some (blank w)) : TxS P w h a [] := by
  refine ⟨_, #[], 0, .fresh 0 0 (!w.params.followText "set-order"), ⟨e, ⟨rfl, rfl, rfl⟩, rfl⟩, ⟨fun e he => absurd he (by simp), rfl, List.nodup_nil⟩, ⟨by unfold scanBound; decide, ?_⟩, ?_, ?_⟩
  · rfl
  · exact List.Pairwise.nil
  · cases q : w.params.followText "set-order" with
    | true => exact .inl rfl
    | false => exact .inr rfl
/-- one text after the other -/
theorem goes {I : Addr} {fp wr : List Addr} {G : Array GenState → Array GenState → Prop} {n : Nat} {Pv : Nat → Value → Prop} {St : Nat → Shared → Prop} {R : Result → Shared → Prop} (W : WalksS P w A.in1 I fp wr G n Pv St) (S : Addr) (apart : S ∉ fp) (xs : List Str) (many : n = xs.length)
    (few : xs.length + 1 < scanBound) (tells : ∀ i v, Pv i v → ∃ t, v = .str (xs.getD i Str.empty) t) (left : Nat) : ∀ (i : Nat) (s : Shared) (ks : List Str), n = i + left → St i s → TxS P w s.heap S ks → Same ks (xs.take i) →
      (∀ s' ks', Moved (S :: wr) G s s' → TxS P w s'.heap S ks' → Same ks' xs → R (.ok (.ret .none)) s') → codeAny (model P w) A (.builtin "set.update.loop" ⟨[.ref S, .ref I], []⟩) R s := by
  have off : S ∉ wr := fun z => apart (W.sub _ z)
  have more : ∀ b ∈ wr, b ∈ S :: wr := fun b z => List.mem_cons_of_mem _ z
  induction left with
  | zero =>
    intro i s ks hn st set same out
    have all : xs.take i = xs := List.take_of_length_le (by omega)
    rw [all] at same
    have hin : n = i := hn
    subst hin
    refine codeAny_builtin F.entry_set_update_loop (by
      rw [Around.under_plainId F.plain_set_update_loop _]
      exact wpAny_bind (m := pyNext (.ref I)) (W.done s _ _ st fun s' hm => wpAny_pure (out s' ks (hm.mono more) (set.at fun o e => hm.heap S o off e) same)))
  | succ left ih =>
    intro i s ks hn st set same out
    have lt : i < n := by omega
    refine codeAny_builtin F.entry_set_update_loop (by
      rw [Around.under_plainId F.plain_set_update_loop _]
      refine wpAny_bind (m := pyNext (.ref I)) (W.item i s _ _ lt st fun v s' hP st' hm => ?_)
      obtain ⟨t, rfl⟩ := tells i v hP
      have set' : TxS P w s'.heap S ks := set.at fun o e => hm.heap S o off e
      show wpAny _ A.in1 (holding [Value.str (xs.getD i Str.empty) t] (setAdd S (.str (xs.getD i Str.empty) t)) >>= _) _ _ s'
      have room : ks.length + 1 < scanBound := by
        have := same.2.2
        rw [List.length_take] at this
        omega
      have at_i : xs[i]? = some (xs.getD i Str.empty) := by
        rw [List.getD_eq_getElem?_getD, List.getElem?_eq_getElem (by omega)]
        rfl
      unfold setAdd
      refine wpAny_bind (wpAny_holding (wpAny_holding (wpAny_bind ((PySem.strKind P w).pyHash (k := xs.getD i Str.empty) (strKind_is _ _ _ _) (add (s := { s' with toks := s'.toks + 1 }) set' room fun b h2 ks2 sb which set2 => ?_)))))
      have same2 : Same ks2 (xs.take (i + 1)) := by
        obtain ⟨s1, s2, s3⟩ := same
        rw [List.take_add_one, at_i]
        rcases which with ⟨hin, rfl⟩ | ⟨hout, pm⟩
        · refine ⟨s1, fun k => ?_, by rw [List.length_append]; omega⟩
          rw [List.mem_append]
          refine ⟨fun z => .inl ((s2 k).mp z), fun z => z.elim (s2 k).mpr fun z => ?_⟩
          have e : k = xs.getD i Str.empty := by simpa using z
          rw [e]
          exact hin
        · refine ⟨pm.nodup_iff.mpr (List.nodup_cons.mpr ⟨hout, s1⟩), fun k => ?_, ?_⟩
          · rw [pm.mem_iff, List.mem_cons, List.mem_append, s2 k]
            simp only [Option.toList_some, List.mem_singleton]
            exact Or.comm
          · rw [pm.length_eq, List.length_cons, List.length_append]
            simpa using s3
      refine wpAny_pure ⟨plainId_quiet F.plain_set_update_loop _, ih (i + 1) _ ks2 (by omega) (W.frame _ s' _ _ st' (Nat.le_succ _) fun b hb o e => ?_) set2 same2 fun s3 ks3 mv set3 same3 => ?_⟩
      · exact (sb.2 b fun z => apart (z ▸ hb)).trans e
      · exact out s3 ks3 (Moved.trans W.gtrans ((hm.mono more).then_heap (Nat.le_succ _) fun b o hb e => (sb.2 b fun z => hb (z ▸ List.mem_cons_self)).trans e) mv) set3 same3)
theorem tells_at : ∀ {vs : List Value} {xs : List Str}, StrsAre vs xs → ∀ (i : Nat) (v : Value), vs[i]? = some v → ∃ t, v = .str (xs.getD i Str.empty) t
  | _, _, .nil, i, v, e => by cases e
  | _, _, .cons y t r, 0, v, e => ⟨t, (Option.some.inj e).symm⟩
  | _, _, .cons y t r, i + 1, v, e => tells_at r i v e
theorem blank_at : (s.heap.push (blank w)).get? s.heap.objs.size = some (blank w) := Heap.get?_push_size _ rfl
theorem runs {l : Addr} {its : Array Value} {xs : List Str} (quiet : A.in1.handled = none) (here : s.heap.IsList l its) (are : StrsAre its.toList xs) (few : xs.length + 1 < scanBound) {R : Result → Shared → Prop} (out : ∀ s2, Done P w s xs s2 → R (.ok (.ret .none)) s2) :
    codeAny (model P w) A (.builtin "set.update.loop" ⟨[.ref s.heap.objs.size, .ref (s.heap.objs.size + 1)], []⟩) R { s with heap := (s.heap.push (blank w)).push { cls := .type "list_iterator", data := .fields #[.ref l, .int 0 0] } } := by
  have low : l < s.heap.objs.size := by
    obtain ⟨u, hu, _⟩ := here
    exact Heap.lt_size hu
  have wide : (s.heap.push (blank w)).objs.size = s.heap.objs.size + 1 := Heap.size_push ..
  have many : its.size = xs.length := (Array.length_toList ..).symm.trans are.len_eq
  have apart : s.heap.objs.size ∉ [s.heap.objs.size + 1, l] := fun z => by
    rcases List.mem_cons.mp z with z | z
    · exact absurd z (Nat.ne_of_lt (Nat.lt_succ_self _))
    · exact absurd (List.mem_singleton.mp z) (Nat.ne_of_gt low)
  have old : ∀ b u, s.heap.get? b = some u → ((s.heap.push (blank w)).push { cls := .type "list_iterator", data := .fields #[.ref l, .int 0 0] }).get? b = some u := fun b u e => Heap.get?_push_of_some _ (Heap.get?_push_of_some _ e)
  have iter : ((s.heap.push (blank w)).push { cls := .type "list_iterator", data := .fields #[.ref l, .int 0 0] }).get? (s.heap.objs.size + 1) = some { cls := .type "list_iterator", data := .fields #[.ref l, .int 0 0] } := by
    rw [← wide]
    exact Heap.get?_push_size _ rfl
  refine goes (Walks.list (prog := P) (w := w) quiet (s.heap.objs.size + 1) l (Nat.ne_of_lt (Nat.lt_succ_of_lt low)) its).toS s.heap.objs.size apart xs many few (fun i v hv => tells_at are i v (by rw [Array.getElem?_toList]; exact hv)) its.size 0 _ [] (by omega)
    ⟨⟨_, iter, rfl, rfl⟩, (here.push _).push _⟩ (blank_tx (Heap.get?_push_of_some _ blank_at)) ⟨List.nodup_nil, fun k => by simp, Nat.zero_le _⟩ fun s2 ks moved set same => ?_
  refine out s2 ⟨s2.heap, s2.toks, ks, ?_, set, same, fun b u e => moved.heap b u (fun z => ?_) (old b u e)⟩
  · have a1 := moved.gens
    have a2 := moved.drawn
    have a3 := moved.os
    cases s2
    cases s
    simp only at a1 a2 a3
    subst a1 a2 a3
    rfl
  · have lt := Heap.lt_size e
    rcases List.mem_cons.mp z with z | z
    · exact absurd z (Nat.ne_of_lt lt)
    · exact absurd (List.mem_singleton.mp z) (Nat.ne_of_lt (Nat.lt_succ_of_lt lt))
/-- a new set, told the list's texts -/
theorem fills {l : Addr} {its : Array Value} {xs : List Str} (quiet : A.handled = none) (here : s.heap.IsList l its) (are : StrsAre its.toList xs) (few : xs.length + 1 < scanBound) {B : Around} {R : Result → Shared → Prop} (out : ∀ s2, Done P w s xs s2 → R (.ok (.ret .none)) s2) :
    wpAny (model P w) A (Builtin.«set.__init__» ⟨[.ref s.heap.objs.size, .ref l], []⟩) (fun fin s2 => match fin with | .done f => R (.ok f) s2 | .again c => c.quiet = true ∧ codeAny (model P w) B c R s2) E { s with heap := s.heap.push (blank w) } := by
  have listed : (s.heap.push (blank w)).IsList l its := here.push _
  obtain ⟨⟨ucls, udict, udata, uslots⟩, hu, hc, k, hd⟩ := listed
  simp only at hc hd
  subst hc hd
  have b1 := F.sub_list_set
  have b2 := F.sub_list_frozenset
  have b3 : (Value.type "list" == Value.type "dict") = false := by decide
  have b4 := blank_at (w := w) (s := s)
  unfold Builtin.«set.__init__» noKeywords Builtin.Frozenset.updateFrom
  generalize name : pyIter = walk
  wp_walk
  subst name
  have wide : (s.heap.push (blank w)).objs.size = s.heap.objs.size + 1 := Heap.size_push ..
  refine wpAny_pyIter_list (here.push _) (wpAny_bind (wpAny_runValue ?_))
  rw [wide]
  exact runs (by simp [quiet]) here are few fun s2 z => wpAny_pure (wpAny_pure (out s2 z))
/-- set(xs) -/
theorem makes {l : Addr} {its : Array Value} {xs : List Str} {Q : Value → Shared → Prop} (quiet : A.handled = none) (here : s.heap.IsList l its) (are : StrsAre its.toList xs) (few : xs.length + 1 < scanBound)
    (out : ∀ s2, Done P w s xs s2 → Q (.ref s.heap.objs.size) s2) : wpAny (model P w) A (call (.type "set") [.ref l]) Q E s := by
  have all := F.called_set
  obtain ⟨c0, c1, c2⟩ := all.mro
  have d1 := all.made
  have d2 := all.sub
  have d3 := all.notType
  have d4 := all.canCreate
  have d5 := F.typeCall_set_1 (.ref l)
  refine wpAny_call (codeAny_of_tree ?_)
  show wpAny _ _ (callAny (.type "set") ⟨[.ref l], []⟩) _ _ _
  refine wpAny_pure ⟨Code.quiet_builtin _ (by decide +kernel), codeAny_builtin F.entry_type_call ?_⟩
  rw [Around.under_plain (weight_type_call_type "set" [.ref l] []) rfl]
  repeat (any_goals (first | assumption | wp_step))
  refine codeAny_mono (code_set_led1 (.ref l) (E := E) (Q₁ := fun v s1 => v = .ref s.heap.objs.size ∧ s1 = { s with heap := s.heap.push (blank w) }) ⟨rfl, rfl⟩) fun r s1 h1 => ?_
  cases r with
  | error e => exact h1
  | ok f =>
    cases f with
    | next => exact h1.elim
    | brk => exact h1.elim
    | cont => exact h1.elim
    | ret v =>
      obtain ⟨rfl, rfl⟩ := h1
      have e0 := blank_at (w := w) (s := s)
      have e1 : Shared.TypeIs { s with heap := s.heap.push (blank w) } (.ref s.heap.objs.size) "set" := ⟨_, e0, rfl⟩
      have e2 := all.init.lookup
      have e3 := all.init.bind (.ref s.heap.objs.size)
      repeat (any_goals (first | assumption | wp_step))
      refine codeAny_mono (codeAny_call_builtin (R := wants (fun v s2 => v = .none ∧ Done P w s xs s2) E) all.init.plain F.entry_set_init (check_set_init_1 e1 (fills (by simp [quiet]) here are few fun s2 z => ⟨rfl, z⟩))) fun r s2 h2 => ?_
      cases r with
      | error e => exact h2
      | ok f =>
        cases f with
        | next => exact h2.elim
        | brk => exact h2.elim
        | cont => exact h2.elim
        | ret v =>
          obtain ⟨rfl, z⟩ := h2
          repeat (any_goals (first | assumption | wp_step))
          exact out s2 z
/-- sorted(a set of texts) -/
theorem sorts {a : Addr} {ks : List Str} {Q : Value → Shared → Prop} (R : TxS P w s.heap a ks) (quiet : A.handled = none) (few64 : ks.length < 64)
    (out : ∀ s' p (row : Array Value) (c : Nat) (ys : List Str), (∀ b o, s.heap.get? b = some o → s'.heap.get? b = some o) → s'.gens = s.gens → s'.os = s.os → s.heap.objs.size ≤ p → s'.heap.get? p = some (seqObj "list" row c) → StrsAre row.toList ys → ys.Perm ks → sortedS ys = true → Q (.ref p) s') :
    wpAny (model P w) A (call (.builtin "sorted") [.ref a]) Q E s := by
  obtain ⟨o, es, ep, t, ⟨ho, hx, hd⟩, ⟨rows, ek, once⟩, ⟨few, fit⟩, ris, led⟩ := R
  have size : es.toList.length = ks.length := by rw [← ek, List.length_map]
  refine Calls.call_function_entry kind_sorted plain_sorted entry_sorted (args_sorted1 (.ref a)) (by
    unfold Builtin.«sorted»
    refine wpAny_bind (m := checkCount "sorted" 1 1 _) (wpAny_pure (wpAny_bind (collect_set (A := A.in1) quiet ⟨o, ho, hx.1, hd⟩ fit few ris led fun s1 vs keep lt gens os pm => ?_)))
    have many : vs.length < 64 := by
      rw [pm.length_eq, List.length_map, size]
      exact few64
    have are : StrsAre vs (vs.map strOf) := strsAre_map vs fun v hv => by
      obtain ⟨e, he, q⟩ := List.mem_map.mp (pm.mem_iff.mp hv)
      obtain ⟨k, tk, h1, _⟩ := rows e he
      exact ⟨k, tk, q ▸ h1⟩
    have perm : (vs.map strOf).Perm ks := by
      have := pm.map strOf
      rw [List.map_map] at this
      rw [← ek]
      exact this
    refine wpAny_bind (wpAny_newList ?_ (by rw [sizeLine_eq]; omega))
    have hoL : (s1.heap.push (seqObj "list" vs.toArray 0)).get? s1.heap.objs.size = some (seqObj "list" vs.toArray 0) := Heap.get?_push_size _ rfl
    refine wpAny_bind (wpAny_holding (wpAny_call_entry slot_list_sort ⟨_, hoL, rfl⟩ entry_list_sort (list_sort_treeK strKind_oneLt hoL are.keysOf (fun v₁ v₂ rest e => keyKind_strs (by rw [← e]; exact are)) many fun st' hp hs => ⟨_, rfl, ?_⟩) (args_list_sort _)))
    obtain ⟨ys, y1, y2, y3⟩ := sorted_out_str are hp hs
    obtain ⟨c, hc⟩ := sortedHeap_at (vs := vs) (out := (arrOf st').map (·.2)) hoL
    refine wpAny_pure ⟨_, rfl, out _ s1.heap.objs.size _ c ys (fun b u e => ?_) gens os lt hc y1 (y2.trans perm) y3⟩
    have q := keep b u e
    have small := Heap.lt_size q
    have same : (sortedHeap (s1.heap.push (seqObj "list" vs.toArray 0)) s1.heap.objs.size vs ((arrOf st').map (·.2))).get? b = (s1.heap.push (seqObj "list" vs.toArray 0)).get? b := sortedHeap_old (Nat.ne_of_lt small) (by rw [size_push']; exact Nat.lt_succ_of_lt small)
    exact same.trans (Heap.get?_push_of_some _ q))
end
/-- the set of texts at a, tracked -/
def SetT (P : Program) (w : World) (a : Addr) (ks : List Str) : HO := .ext fun h => TxS P w h a ks
section
variable {X : Cx}
theorem setT_ok {P : Program} {w : World} {H : Hp} {h : Heap} {a : Addr} {ks : List Str} (R : TxS P w h a ks) : ObjOk P w H h a (SetT P w a ks) := by
  obtain ⟨o, es, ep, t, ho, _⟩ := R.len
  exact ⟨R, ⟨o, ho⟩, fun _ _ q k => q.at k⟩
def rSetT (X : Cx) : List V → Hp → VK → Prop := fun vs H Q => ∃ l xs, vs = [.ref l] ∧ SqL X.K H l (xs.map V.str) ∧ xs.length < 1000 ∧ ∀ a ks, H a = none → Same ks xs → Q (.ref a) (upd H a (SetT X.prog X.w a ks))
theorem cr_setT (hc : X.calm = true) : CallR X (.type "set") (rSetT X) := by
  intro pins s σ H vs us Q I r hq
  obtain ⟨l, xs, rfl, hl, hz, q⟩ := hq
  rw [Vals.ref1 r]
  obtain ⟨its, rv, here, _⟩ := I.list hl
  refine makes (I.ok.hd hc) here.isList (xs := xs) (by simpa using rv.strs) (by unfold scanBound; omega) fun s2 z => ?_
  obtain ⟨hp, tk, ks, rfl, R, same, keep⟩ := z
  exact ⟨.ref s.heap.objs.size, _, I.laid (t' := tk) keep (Nat.le_refl _) (setT_ok R), rfl, q _ ks (I.hok.fresh (Nat.le_refl _)) same⟩
def rSortT (X : Cx) : List V → Hp → VK → Prop := fun vs H Q => ∃ a ks, vs = [.ref a] ∧ H a = some (SetT X.prog X.w a ks) ∧ ks.length < 64 ∧ ∀ ys p, ys.Perm ks → sortedS ys = true → H p = none → Q (.ref p) (upd H p (.lst (ys.map V.str)))
theorem cr_sortT (hc : X.calm = true) : CallR X (.builtin "sorted") (rSortT X) := by
  intro pins s σ H vs us Q I r hq
  obtain ⟨a, ks, rfl, ha, hz, q⟩ := hq
  rw [Vals.ref1 r]
  refine sorts ((I.hok a _ ha).1) (I.ok.hd hc) hz fun s' p row c ys keep gens os le at_ are perm srt => ?_
  have new : H p = none := I.hok.fresh le
  have short : (ys.map V.str).length ≤ sizeLine := by rw [List.length_map, perm.length_eq, sizeLine_eq]; omega
  have J : Inv X pins σ (upd H p (.lst (ys.map V.str))) { s with heap := s'.heap, gens := s'.gens, drawn := s'.drawn, toks := s'.toks } :=
    I.call (ch := []) (Un.laid keep le new) (I.hok.laid keep le ⟨short, row.toList, c, vals_of_strs are, at_⟩) (by rw [gens]; exact I.bare) (fun _ z => absurd z (by simp))
  have same : s' = { s with heap := s'.heap, gens := s'.gens, drawn := s'.drawn, toks := s'.toks } := by
    cases s'
    cases s
    cases os
    rfl
  rw [same]
  exact ⟨.ref p, _, J, rfl, q ys p perm srt new⟩
end
end StS
/-! texts in order: one row only -/
namespace StO
open PySem PySem.Spec PyProof.Rows L2
def lt (a b : Str) : Prop := ltCps a.cps.toList b.cps.toList = true
theorem lt_iff {a b : Str} : lt a b ↔ a.cps.toList < b.cps.toList := by
  unfold lt
  rw [ltCps_eq, decide_eq_true_iff]
theorem str_ext {a b : Str} (h : a.cps.toList = b.cps.toList) : a = b := by
  cases a
  cases b
  simp only [Str.mk.injEq]
  exact Array.toList_inj.mp h
theorem lt_irr (a : Str) : ¬ lt a a := fun h => List.lt_irrefl _ (lt_iff.mp h)
theorem lt_tr {a b c : Str} (h : lt a b) (h' : lt b c) : lt a c := lt_iff.mpr (List.lt_trans (lt_iff.mp h) (lt_iff.mp h'))
theorem lt_of_ne {a b : Str} (h : ¬ lt b a) (n : a ≠ b) : lt a b := by
  rw [lt_iff] at h ⊢
  have le : a.cps.toList ≤ b.cps.toList := List.not_lt.mp h
  by_cases z : a.cps.toList < b.cps.toList
  · exact z
  · exact absurd (str_ext (List.le_antisymm le (List.not_lt.mp z))) n
/-- rising, each once -/
theorem chain : ∀ (p : Str) (l : List Str), risingS p l = true → (p :: l).Nodup → (p :: l).Pairwise lt
  | p, [], _, _ => List.pairwise_singleton ..
  | p, x :: r, h, d => by
    have h : (!ltCps x.cps.toList p.cps.toList && risingS x r) = true := h
    obtain ⟨h1, h2⟩ := Bool.and_eq_true_iff.mp h
    obtain ⟨d1, d2⟩ := List.nodup_cons.mp d
    have ih := chain x r h2 d2
    have px : lt p x := lt_of_ne (fun z => by
      have z : ltCps x.cps.toList p.cps.toList = true := z
      rw [z] at h1
      cases h1) fun z => d1 (z ▸ List.mem_cons_self)
    refine List.pairwise_cons.mpr ⟨fun y hy => ?_, ih⟩
    rcases List.mem_cons.mp hy with rfl | hy
    · exact px
    · exact lt_tr px ((List.pairwise_cons.mp ih).1 y hy)
theorem rows {l : List Str} (h : sortedS l = true) (d : l.Nodup) : l.Pairwise lt := by
  cases l with
  | nil => exact List.Pairwise.nil
  | cons x r => exact chain x r h d
theorem one : ∀ {l m : List Str}, l.Pairwise lt → m.Pairwise lt → (∀ z, z ∈ l ↔ z ∈ m) → l = m
  | [], [], _, _, _ => rfl
  | [], y :: m, _, _, h => absurd ((h y).mpr List.mem_cons_self) (by simp)
  | x :: l, [], _, _, h => absurd ((h x).mp List.mem_cons_self) (by simp)
  | x :: l, y :: m, hl, hm, h => by
    obtain ⟨a1, a2⟩ := List.pairwise_cons.mp hl
    obtain ⟨b1, b2⟩ := List.pairwise_cons.mp hm
    have e : x = y := by
      rcases List.mem_cons.mp ((h x).mp List.mem_cons_self) with z | z
      · exact z
      · rcases List.mem_cons.mp ((h y).mpr List.mem_cons_self) with u | u
        · exact u.symm
        · exact absurd (lt_tr (a1 y u) (b1 x z)) (lt_irr x)
    subst e
    refine congrArg (x :: ·) (one a2 b2 fun z => ?_)
    constructor
    · intro hz
      rcases List.mem_cons.mp ((h z).mp (List.mem_cons_of_mem _ hz)) with rfl | q
      · exact absurd (a1 z hz) (lt_irr z)
      · exact q
    · intro hz
      rcases List.mem_cons.mp ((h z).mpr (List.mem_cons_of_mem _ hz)) with rfl | q
      · exact absurd (b1 z hz) (lt_irr z)
      · exact q
end StO
/-! C.m(k = v) of a class method; x(e, ..), x a name of the def that holds a class -/
namespace ClK
open PySem PySem.Spec PyProof.Rows L2 ClX StX
section
variable {X : Cx} {CX : CXT} {k : Nat} {C p g f : Addr} {mc : Value} {fd : FuncData} {ps ks : List Str} {sp : Sp} {E : XK} {o e : Expr} {es : List Expr} {x m : Str} {pos apos p1 : Pos} {ta : TE} {tk t : TA} {pl : Sem Bool} {kws : List Keyword} {gg : List Value → List Value → List Value} {gV : List V → List V → List V} {i : Nat}
/-- C.m(k = v, ..), keywords alone, m a class method -/
theorem pe_cmethK (he : PE X o ta) (r : CRead X.K C mc) (c : CMet X.K C mc m p g) (F : FnOk X.prog X.w X.K X.mg X.base CX k g fd ps sp) (hr : Room k X.A) (hx : Passes CX X E) (hb : KBn X.K fd ps 1 ks gg gV) (hkw : PK X kws tk)
    (some_ : (backToKw pos (keywordEach kws X.env)).all (·.1.isSome) = true := by rfl) (names : (backToKw pos (keywordEach kws X.env)).filterMap (·.1) = ks := by rfl)
    (none_ : ((backTo pos (starEach [] X.env)).any (·.1) || (backToKw pos (keywordEach kws X.env)).any (·.1.isNone)) = false := by rfl)
    (form : eval (.Call (.Attribute o m apos) [] kws pos) X.env = (do let ov ← eval o X.env; standAt apos.atName; let (f, first) ← holding [ov] (getMethod ov m pl); callWith pos f first (backTo pos (starEach [] X.env)) (backToKw pos (keywordEach kws X.env))) := by rfl) :
    PE X (.Call (.Attribute o m apos) [] kws pos) (fun σ H Q => ta σ H fun x H1 => x = .ref C ∧ tk σ H1 fun zs H2 => zs.length = ks.length ∧ sp (gV [.ref C] zs) H2 Q E) := by
  refine ⟨fun pins s σ H Q I h => PySem.W.methodCall_KW (pl := pl) (thn (he.run pins s σ H _ I h) fun u s1 ⟨x, H1, I1, rx, ex, q⟩ => ?_) form⟩
  subst ex
  cases (show u = Value.ref C from rx)
  refine getmethcm_ok I1 r c fun s2 I2 => ?_
  refine PySem.W.callWith_of (P := PySem.W.MethP X.K s1.heap.objs.size g (.ref C)) none_ (PySem.W.keeps_M c.fi) (PyProof.Rows.evalArgs_kw2_nil some_ (thn (hkw.run pos _ s2 σ H1 _ I2 q) fun ws s3 ⟨zs, H2, I3, rz, l2, q2⟩ => ⟨⟨pin_at I3, I3.kIn⟩, ?_⟩))
  rw [names]
  have went : wpAny (model X.prog X.w) X.A (call (.ref s1.heap.objs.size) [] (ks.zip ws)) (EP X ((s1.heap.objs.size, PySem.W.methodObj (.ref g) (.ref C)) :: pins) σ Q) X.xe s3 := by
    refine wpAny_call (PySem.W.method_call (pin_at I3) (codeAny_mono (F.run X.A X.stack s3 H2 ⟨[.ref C], ks.zip ws⟩ (gg [.ref C] ws) (gV [.ref C] zs) Q E hr I3.env0 (hb.to s3 [.ref C] ws I3.kIn rfl (rz.length.symm.trans l2)) (hb.rel (.cons rfl .nil) rz) q2) fun r s' back => ?_))
    match r, back with
    | .error er, z => exact hx _ _ _ _ _ _ I3 z
    | .ok (.ret u), z => exact I3.after z
    | .ok .next, z => exact z.elim
    | .ok .brk, z => exact z.elim
    | .ok .cont, z => exact z.elim
  exact thn went fun _ _ y => unpinE y
/-- x(e, ..), x a name of the def (slot i) that holds the class at C -/
def tMakeL (i : Nat) (C : Addr) (sp : Sp) (E : XK) (t : TA) : TE := fun σ H Q => σ[i]? = some (some (.ref C)) ∧ tMakeR C sp E t σ H Q
theorem pe_makeL (M : Mk X.K C f) (F : FnR X.prog X.w X.K X.mg X.base CX k f sp) (hr : Room (k + 1) X.A) (hN : X.N[i]? = some x) (hv : Vis X.env.scope x) (hx : Passes CX X E) (ha : PA X (e :: es) t)
    (notDebug : (x == ("__debug__" : Str)) = false := by decide) (notDict : (x == ("__classdict__" : Str)) = false := by decide)
    (head : starEach (e :: es) X.env = (false, eval e X.env) :: starEach es X.env := by rfl) (plain : (backTo pos (starEach es X.env)).any (·.1) = false := by rfl) : PE X (.Call (.Name x p1) (e :: es) [] pos) (tMakeL i C sp E t) := by
  refine ⟨fun pins s σ H Q I ⟨hs, h⟩ => ?_⟩
  refine wpAny_Call_Name_kw (thn ((pe_var (pos := p1) (i := i) hN hv notDebug notDict).run pins s σ H (fun v H1 => v = .ref C ∧ H1 = H) I ⟨.ref C, hs, rfl, rfl⟩) fun u s1 ⟨v, H1, I1, r1, ev, eH⟩ => ?_)
  subst ev eH
  cases (show u = Value.ref C from r1)
  exact PySem.W.callWith_K (h₀ := X.base) I1.ok.mod.kin M.kp (thn (ha.run pos pins s1 σ _ _ I1 h) fun us s2 ⟨vs, H2, I2, r, q⟩ => ⟨I2.kIn, run_makeR M F hr hx I2 r q⟩) head plain
end
/-- nothing is let out where nothing is wished -/
theorem passN {P : Program} {w : World} {X : Cx} (hp : X.prog = P) (hw : X.w = w) : Passes (L2.CX P w) X E0 := fun _ _ _ _ _ _ _ ⟨_, _, _, _, _, _, _, _, _, _, _, _, z⟩ => z.elim
end ClK
/-! a tuple times any number from one on; x(*y), x a name of the def that holds a class; an own object beside a list -/
namespace RdX
open PySem PySem.Spec PyProof.Rows L2 StX OpX
/-- t * 1 is t itself -/
theorem once_mul (l : Addr) (items : Array Value) (n : Nat) (dd : Option Addr) (sl : Array (Option Value)) (u : Tok) : Meets (Builtin.«tuple.__mul__» ⟨[.ref l, .int 1 u], []⟩) (fun _ R s => s.heap.get? l = some { cls := .type "tuple", dict := dd, data := .seq items n, slots := sl } ∧ R (.ok (.ret (.ref l))) s) := Meets.of_wp fun prog w A R s hh => by
  rcases s with ⟨hp, gs, ds, tk, sys⟩
  rcases hh with ⟨at_, goal⟩
  have f1 := AutoSeq1.idx_int
  have c0 : (decide ((1 : Int) < -(2 ^ 63)) || decide ((1 : Int) ≥ 2 ^ 63)) = false := by decide
  have c1 : (items.isEmpty || (1 : Int) == 1) = true := by rw [show ((1 : Int) == 1) = true from rfl, Bool.or_true]
  wp_walk using wpAny_loadPart' at_
  repeat (first
    | (refine wpAny_ite_false (decide_eq_false (by rw [c0]; exact Bool.false_ne_true)) ?_; wp_walk using wpAny_loadPart' at_)
    | (refine wpAny_ite_true (decide_eq_true c1) ?_; wp_walk using wpAny_loadPart' at_))
  exact ⟨_, rfl, goal⟩
def rOnce (K : PySem.W.Frag) : R2 := fun x y H Q => ∃ l xs, x = .ref l ∧ y = .int 1 ∧ SqT K H l xs ∧ Q (.ref l) H
section
variable {X : Cx}
theorem op_once : OpR X (binaryOp .Mult) (rOnce X.K) := by
  intro pins s σ H x y v u Q I rx ry hq
  obtain ⟨l, xs, rfl, rfl, hT, q⟩ := hq
  cases (show v = Value.ref l from rx)
  obtain ⟨t, e⟩ := (show ∃ t, u = Value.int 1 t from ry)
  subst e
  obtain ⟨its, r, ⟨⟨cls, dd, data, sl⟩, ho, hc, n, hd⟩, hs⟩ := I.tuple hT
  simp only at hc hd
  subst hc hd
  have kind : s.TypeIs (.ref l) "tuple" := ⟨_, ho, rfl⟩
  exact wpAny_binaryOp_repeat_ref (T := "tuple") (U := "int") (by decide) kind (fun s' => typeIs_int s' 1 t) noFill_tuple_mul F.fills_int_mul F.slot_int_rmul repeat_tuple F.slot_int_index.lookup
    (call_meets F.slot_int_rmul (typeIs_int s 1 t) F.entry_int_rmul (F.args_int_rmul_2 _ _) (int_rmul_tuple 1 t l its.toArray n dd sl) ⟨ho, rfl, kind, call_meets F.slot_tuple_mul kind F.entry_tuple_mul (F.args_tuple_mul_2 _ _) (once_mul l its.toArray n dd sl t) ⟨ho, ⟨.ref l, H, I, rfl, q⟩⟩⟩)
end
section
variable {X : Cx} {CX : CXT} {k n i : Nat} {f C g : Addr} {sp : Sp} {E : XK} {x : Str} {e : Expr} {te : TE} {p q pos : Pos}
/-- C(*y), C a class of the module -/
def tMakeS (X : Cx) (C : Addr) (sp : Sp) (E : XK) (te : TE) : TE := fun σ H Q => te σ H fun y H1 => ∃ a xs, y = V.ref a ∧ (SqT X.K H1 a xs ∨ SqL X.K H1 a xs) ∧ ∀ x dx, H1 x = Option.none → H1 dx = Option.none → dx ≠ x →
  sp (V.ref x :: xs) (upd (upd H1 dx (.own x)) x (.ins C dx [])) (fun v H2 => v = .non ∧ Q (.ref x) H2) E
theorem pe_makeS1 (M : Mk X.K C f) (F : FnR X.prog X.w X.K X.mg X.base CX k f sp) (hr : Room (k + 1) X.A) (hg : Gl X x) (hm : X.mg x = some (.ref C)) (hx : Passes CX X E) (he : PE X e te) (hd : (x == ("__debug__" : Str)) = false := by decide)
    (hst : starEach [.Starred e q] X.env = [(true, eval e X.env)] := by rfl) : PE X (.Call (.Name x p) [.Starred e q] [] pos) (tMakeS X C sp E te) := by
  refine ⟨fun pins s σ H Q I h => wpAny_Call_Name_kw (ld_glob I hg hm (PySem.W.callWith_S (h₀ := X.base) I.ok.mod.kin M.kp (thn (he.run pins s σ H _ I h) fun v s1 z => ?_) hst) hd)⟩
  obtain ⟨y, H1, J, ry, a, xs, ey, hxs, q⟩ := z
  subst ey
  cases (show v = Value.ref a from ry)
  exact star_any J hxs fun us s2 J2 rv => ⟨J2.kIn, run_makeR M F hr hx J2 rv q⟩
/-- x(*y), x a name of the def (slot i) that holds the class at C -/
def tMakeLS (X : Cx) (i : Nat) (C : Addr) (sp : Sp) (E : XK) (te : TE) : TE := fun σ H Q => σ[i]? = some (some (.ref C)) ∧ tMakeS X C sp E te σ H Q
theorem pe_makeLS (M : Mk X.K C f) (F : FnR X.prog X.w X.K X.mg X.base CX k f sp) (hr : Room (k + 1) X.A) (hN : X.N[i]? = some x) (hv : Vis X.env.scope x) (hx : Passes CX X E) (he : PE X e te) (hd : (x == ("__debug__" : Str)) = false := by decide) (hcd : (x == ("__classdict__" : Str)) = false := by decide)
    (hst : starEach [.Starred e q] X.env = [(true, eval e X.env)] := by rfl) : PE X (.Call (.Name x p) [.Starred e q] [] pos) (tMakeLS X i C sp E te) := by
  refine ⟨fun pins s σ H Q I ⟨hs, h⟩ => wpAny_Call_Name_kw (thn ((pe_var (pos := p) (i := i) hN hv hd hcd).run pins s σ H (fun v H1 => v = .ref C ∧ H1 = H) I ⟨.ref C, hs, rfl, rfl⟩) fun u s1 z => ?_)⟩
  obtain ⟨v, H1, J, r1, ev, eH⟩ := z
  subst ev eH
  cases (show u = Value.ref C from r1)
  refine PySem.W.callWith_S (h₀ := X.base) J.ok.mod.kin M.kp (thn (he.run pins s1 σ _ _ J h) fun v s2 z => ?_) hst
  obtain ⟨y, H2, J2, ry, a, xs, ey, hxs, q⟩ := z
  subst ey
  cases (show v = Value.ref a from ry)
  exact star_any J2 hxs fun us s3 J3 rv => ⟨J3.kIn, run_makeR M F hr hx J3 rv q⟩
/-- x == y: x of the class at C, y a list -/
def rEqL (X : Cx) (C : Addr) (sp : Sp) (E : XK) : R2 := fun x y H Q => ∃ a b ys, x = .ref a ∧ y = .ref b ∧ InsC X H a C ∧ SqL X.K H b ys ∧ PySem.W.notFirst X.K C (.type "list") = true ∧ sp [.ref a, .ref b] H Q E
theorem op_eqL {op : CmpOp} (hop : ∀ a b, compareOp op a b = richCompare op a b) (h : Has X.K C g (cmpInfo op).2.1) (F : FnR X.prog X.w X.K X.mg X.base CX n g sp) (hr : Room n X.A) (hx : Passes CX X E) : OpR X (compareOp op) (rEqL X C sp E) := fun pins s σ H x y v u Q I rx ry hq => by
  obtain ⟨a, b, ys, rfl, rfl, ha, hb, hn, q⟩ := hq
  cases (show v = Value.ref a from rx)
  cases (show u = Value.ref b from ry)
  obtain ⟨ox, od, J, _⟩ := insC_at I ha
  obtain ⟨its, rv, pl, _⟩ := I.list hb
  obtain ⟨o, ho, hc, _⟩ := pl.isList
  obtain ⟨m, hF⟩ := I.fr
  have kind : PySem.W.Looks (model X.prog X.w) s.heap (typeOf (.ref b)) (.type "list") := fun _ _ _ _ k z => wpAny_typeOf_ref (k _ _ ho) (by rw [hc]; exact z)
  rw [hop]
  exact PySem.W.cmp_K (op := op) (tb := .type "list") hr.units0 hF I.ok.mod.kin J kind hn h.at_ h.fn (run_own (us := [.ref a, .ref b]) (vs := [.ref a, .ref b]) F hr hx I (.cons rfl (.cons rfl .nil)) q)
end
end RdX
/-! enumerate over a tuple -/
namespace EnT
open PySem PySem.Spec PyProof.Rows L2
/-- the iterator of a tuple, as it begins -/
abbrev tupIt (t : Addr) : Obj := { cls := .type "tuple_iterator", data := .fields #[.ref t, .int 0 0] }
/-- the enumeration over the iterator at n, as it begins -/
abbrev enuAt (n : Addr) : Obj := { cls := .type "enumerate", data := .fields #[.none, .bool false, .ref n, rawInt 0, .none, .none] }
set_option maxHeartbeats 2000000 in
theorem new_enumT (t : Addr) (its : Array Value) : Meets (Builtin.«enumerate.__new__» ⟨[.type "enumerate", .ref t], []⟩)
    (fun _ R s => s.heap.IsTuple t its ∧ R (.ok (.ret (.ref (s.heap.push (tupIt t)).objs.size))) { s with heap := (s.heap.push (tupIt t)).push (enuAt s.heap.objs.size) }) := Meets.of_wp fun P w A R s hh => by
  rcases s with ⟨hp, gs, ds, tk, sys⟩
  rcases hh with ⟨hT, goal⟩
  have kind := sub_enumerate
  have begin_ : ∀ {B : Around} {E : Value → Shared → Prop} {Q : Value → Shared → Prop}, Q (.ref hp.objs.size) ⟨hp.push (tupIt t), gs, ds, tk, sys⟩ → wpAny (model P w) B (pyIter (.ref t)) Q E ⟨hp, gs, ds, tk, sys⟩ := fun q => wpAny_pyIter_tuple hT q
  wp_walk using begin_
  refine wpAny_stack_any (fun _ => wpAny_pure ?_)
  split
  next c _ _ _ _ _ => cases (c == Value.type "enumerate") <;> (wp_walk using begin_; exact ⟨_, rfl, goal⟩)
  next => (wp_walk using begin_; exact ⟨_, rfl, goal⟩)
theorem call_enumT {P : Program} {w : World} {A : Around} {E : Value → Shared → Prop} {s : Shared} {t : Addr} {its : Array Value} {Q : Value → Shared → Prop} (hT : s.heap.IsTuple t its)
    (k : ∀ h', IsEnum h' (s.heap.objs.size + 1) s.heap.objs.size 0 .none → h'.IsTupleIter s.heap.objs.size t 0 → (∀ b o, s.heap.get? b = some o → h'.get? b = some o) → Q (.ref (s.heap.objs.size + 1)) { s with heap := h' }) :
    wpAny (model P w) A (call (.type "enumerate") [.ref t]) Q E s := by
  have sz : (s.heap.push (tupIt t)).objs.size = s.heap.objs.size + 1 := Heap.size_push ..
  have at1 : ((s.heap.push (tupIt t)).push (enuAt s.heap.objs.size)).get? (s.heap.objs.size + 1) = some (enuAt s.heap.objs.size) := sz ▸ Heap.get?_push_size (s.heap.push (tupIt t)) rfl
  have at0 : ((s.heap.push (tupIt t)).push (enuAt s.heap.objs.size)).get? s.heap.objs.size = some (tupIt t) := Heap.get?_push_of_some _ (Heap.get?_push_size _ rfl)
  refine callType_new F.called_enumerate (by decide) (F.typeCall_enumerate_1 _) (F.newCall_enumerate_1 _) (fun obj => F.args_object_init_2 obj _) F.entry_enumerate_new (new_enumT t its) ⟨hT, ?_⟩
  show _ ∧ _
  rw [sz]
  exact ⟨⟨_, at1, rfl⟩, k _ at1 ⟨_, at0, rfl, rfl⟩ fun b o e => Heap.get?_push_of_some _ (Heap.get?_push_of_some _ e)⟩
/-- the tuple at a, turn by turn: each item with its place, in a new pair -/
def Itn (K : PySem.W.Frag) (a : Addr) : It where
  go i H := ∃ (ys : List V) (y : V), SqT K H a ys ∧ ys[i]? = some y
  yld i H v H' := ∃ T y, v = .ref T ∧ H T = none ∧ H' = upd H T (.tup [.int (i : Nat), y]) ∧ ∀ ys, SqT K H a ys → ys[i]? = some y
  stop i H := ∃ ys : List V, SqT K H a ys ∧ ys.length = i
theorem turn_enumT {P : Program} {w : World} {K : PySem.W.Frag} {elts : List Expr} {kk : Nat} {tpos : Pos} (a e it : Addr) :
    Turn P w K (.Tuple elts kk tpos) (Itn K a) [e, it] e (fun i h => (∃ old, IsEnum h e it ((i : Nat) : Int) old) ∧ h.IsTupleIter it a i) where
  mem := List.mem_cons_self ..
  obj := fun i h ⟨⟨old, he⟩, o, ho, _, hd⟩ b hb => by
    rcases List.mem_cons.mp hb with rfl | hb
    · exact ⟨_, he, fun v q => nomatch q⟩
    · obtain rfl := List.mem_singleton.mp hb
      exact ⟨o, ho, fun v q => by rw [hd] at q; cases q⟩
  keep := fun i h h' ⟨⟨old, he⟩, hi⟩ k => ⟨⟨old, k e (List.mem_cons_self ..) _ he⟩, hi.at fun o q => k it (by simp) o q⟩
  item := by
    rintro X rfl rfl rfl hc i pins s σ H E I hf ⟨⟨old, he⟩, hit⟩ ⟨ys, y, hq, hy⟩
    obtain ⟨its, rv, p, hz⟩ := I.tuple hq
    have ht : s.heap.IsTuple a its.toArray := p
    obtain ⟨u, hu, ru⟩ := rv.get hy
    have len : i < its.length := (List.getElem?_eq_some_iff.mp hu).1
    have ai : a ≠ it := fun z => by
      obtain ⟨o1, g1, c1, _⟩ := ht
      obtain ⟨o2, g2, c2, _⟩ := id hit
      rw [z, g2] at g1
      rw [← Option.some.inj g1, c2] at c1
      exact absurd c1 (by decide)
    have ei : e ≠ it := fun z => by
      obtain ⟨o2, g2, c2, _⟩ := id hit
      have g1 : s.heap.get? e = _ := he
      rw [z, g2] at g1
      rw [Option.some.inj g1] at c2
      exact absurd (show Value.type "enumerate" = Value.type "tuple_iterator" from c2) (by decide)
    have ea : e ≠ a := fun z => by
      obtain ⟨o2, g2, c2, _⟩ := ht
      have g1 : s.heap.get? e = _ := he
      rw [z, g2] at g1
      rw [Option.some.inj g1] at c2
      exact absurd (show Value.type "enumerate" = Value.type "tuple" from c2) (by decide)
    refine wpAny_pyNext_enum_itemD (Draws.tuple (A := X.A.in1) (I.ok.hd hc) it a ai its.toArray) he ⟨hit, ht⟩ (by simpa using len) ei (by simp [ei, ea]) fun x h' tk hx ho hst hT sz1 hk => ?_
    have xu : x = u := by
      have : its[i]? = some x := by simpa using hx
      rw [hu] at this
      exact (Option.some.inj this).symm
    subst xu
    have hel : e < s.heap.objs.size := Heap.lt_size he
    have hil : it < s.heap.objs.size := by obtain ⟨_, q, _⟩ := hit; exact Heap.lt_size q
    refine ⟨_, rfl, wpAny_letOwnedTupleGo_enum (s := { s with heap := h', toks := tk + 1 }) ho fun h2 he2 sb => ?_⟩
    have pair : h2.get? s.heap.objs.size = some { cls := .type "tuple", data := .seq #[.int i tk, x] } := (sb.2 _ (Nat.ne_of_gt hel)).trans hT
    have new : ObjOk X.prog X.w (upd H s.heap.objs.size (.tup [.int (i : Nat), y])) h2 s.heap.objs.size (.tup [.int (i : Nat), y]) :=
      ⟨by show 2 ≤ sizeLine; decide, [.int i tk, x], .cons ⟨_, rfl⟩ (.cons ru .nil), ⟨_, pair, rfl, _, rfl⟩⟩
    have J : Inv X pins σ (upd H s.heap.objs.size (.tup [.int (i : Nat), y])) { s with heap := h2, toks := tk + 1 } :=
      I.turnedNew (ch := [e, it]) (fun b o hb q => (sb.2 b fun z => hb (by simp [z])).trans (hk b o (fun z => hb (by simp [z])) (fun z => hb (by simp [z])) q)) hf (Nat.le_refl _) new
    refine ⟨.ref s.heap.objs.size, _, J, rfl, ⟨_, y, rfl, I.hok.fresh (Nat.le_refl _), rfl, fun zs hz => by rw [I.tuple_inj hz hq]; exact hy⟩, ⟨⟨x, ?_⟩, hst.1.at fun o q => (sb.2 it (Ne.symm ei)).trans q⟩, fun b hb => ?_⟩
    · have e1 : ((i + 1 : Nat) : Int) = (i : Int) + 1 := rfl
      rw [e1]
      exact he2
    · have lt : b < s.heap.objs.size := by
        rcases List.mem_cons.mp hb with rfl | hb
        · exact hel
        · obtain rfl := List.mem_singleton.mp hb
          exact hil
      rw [upd_ne (Nat.ne_of_lt lt)]
      exact (hf b hb).1
  done := by
    rintro X rfl rfl rfl hc i pins s σ H E I hf ⟨⟨old, he⟩, hit⟩ ⟨ys, hq, hy⟩
    obtain ⟨its, rv, p, hz⟩ := I.tuple hq
    have ht : s.heap.IsTuple a its.toArray := p
    have hl := rv.length
    obtain ⟨f0, f1, f2, f3, f4, f5⟩ := hf it (by simp)
    have ai : a ≠ it := fun z => by
      obtain ⟨o1, g1, c1, _⟩ := ht
      obtain ⟨o2, g2, c2, _⟩ := id hit
      rw [z, g2] at g1
      rw [← Option.some.inj g1, c2] at c1
      exact absurd c1 (by decide)
    have hi : its.toArray.size = i := by rw [List.size_toArray]; omega
    exact wpAny_pyNext_enum_endD (Draws.tuple (A := X.A.in1) (I.ok.hd hc) it a ai its.toArray) he (hi.symm ▸ ⟨hit, ht⟩) fun h' eb => ⟨rfl, I.turned (t' := s.toks) (fun b o hb z => eb b o hb z) f0 f1 f3 f4 f5⟩
  self := fun A i s Q E ⟨⟨_, he⟩, _⟩ h => wpAny_pyIter_enum he h
/-- enumerate(a tuple) -/
def iEnumT (K : PySem.W.Frag) (ta : TA) : TI := fun σ H R => ta σ H fun vs H1 => ∃ a ys, vs = [.ref a] ∧ SqT K H1 a ys ∧ R (Itn K a) H1
theorem pi_enumT {X : Cx} {e : Expr} {ta : TA} {p pos tpos : Pos} {elts : List Expr} {kk : Nat} (hg : Gl X "enumerate") (hm : X.mg "enumerate" = none) (ha : PA X [e] ta)
    (one : starEach [e] X.env = [(false, eval e X.env)] := by rfl) : PI X (.Tuple elts kk tpos) (.Call (.Name "enumerate" p) [e] [] pos) (iEnumT X.K ta) := by
  refine ⟨fun pins s σ H R I h => Call_ (ld_blt I hg hm boot_enumerate (PyProof.Rows.callWith_type1 (thn (ha.run pos pins s σ H _ I h) fun us s1 ⟨vs, H1, J, r1, a, ys, ev, hq, q⟩ => ?_) one rfl))⟩
  subst ev
  rcases r1 with _ | ⟨r, r0⟩
  cases r0
  cases r
  obtain ⟨its, rv, at_, hz⟩ := J.tuple hq
  refine call_enumT (its := its.toArray) at_ fun h' he hit hk => wpAny_pyIter_enum he ?_
  refine ⟨s1.heap.objs.size + 1, [s1.heap.objs.size + 1, s1.heap.objs.size], _, _, H1, rfl, J.kept (t' := s1.toks) hk, turn_enumT a _ _, ⟨⟨.none, he⟩, hit⟩, fun b hb => ?_, q⟩
  have le : s1.heap.objs.size ≤ b := by
    rcases List.mem_cons.mp hb with rfl | hb
    · exact Nat.le_succ _
    · exact Nat.le_of_eq (List.mem_singleton.mp hb).symm
  exact J.fpOk le (J.hok.fresh le)
theorem walk_enumT {K : PySem.W.Frag} {a : Addr} {ys : List V} : Walk (Itn K a) ys.length (fun H => SqT K H a ys) (YPair (fun i => some (.int (i : Nat))) (fun i => ys[i]?)) :=
  ⟨fun i _ hi q => ⟨ys, ys[i], q, List.getElem?_eq_getElem hi⟩, fun _ q => ⟨ys, q, rfl⟩, fun i H v H' _ q ⟨T, y, h1, h2, h3, h4⟩ => ⟨T, .int (i : Nat), y, h1, h2, h3, rfl, h4 ys q⟩⟩
end EnT
/-! sequences that come round: periods, borders of a row, the least period, the normal form of a growth -/
namespace Gr
/-! ### periods of a sequence -/
def Pd {α : Type} (d : Nat → α) (q : Nat) : Prop := ∀ k, d (k + q) = d k
section
variable {α : Type} {d : Nat → α} {p q n : Nat}
theorem Pd.zero : Pd d 0 := fun _ => rfl
theorem Pd.mul (h : Pd d q) : ∀ j k, d (k + j * q) = d k
  | 0, k => by rw [Nat.zero_mul, Nat.add_zero]
  | j + 1, k => by rw [Nat.succ_mul, ← Nat.add_assoc, h, Pd.mul h j]
theorem Pd.mod (h : Pd d q) (k : Nat) : d (k % q) = d k := by
  have e := Nat.mod_add_div k q
  rw [Nat.mul_comm] at e
  have := Pd.mul h (k / q) (k % q)
  rw [e] at this
  exact this.symm
theorem Pd.sub (hp : Pd d p) (hq : Pd d q) (h : p ≤ q) : Pd d (q - p) := fun k => by
  have e : k + (q - p) + p = k + q := by omega
  rw [← hp (k + (q - p)), e, hq]
theorem Pd.rem (hp : Pd d p) (hq : Pd d q) : Pd d (q % p) := fun k => by
  have e : k + q % p + q / p * p = k + q := by
    have := Nat.mod_add_div q p
    rw [Nat.mul_comm] at this
    omega
  rw [← Pd.mul hp (q / p) (k + q % p), e, hq]
theorem Pd.gcd : ∀ (p q : Nat), Pd d p → Pd d q → Pd d (Nat.gcd p q) := by
  intro p
  induction p using Nat.strongRecOn with
  | ind p ih =>
    intro q hp hq
    rcases Nat.eq_zero_or_pos p with h | h
    · rw [h, Nat.gcd_zero_left]
      exact hq
    · rw [Nat.gcd_rec]
      exact ih (q % p) (Nat.mod_lt _ h) p (hp.rem hq) hp
/-- the least one -/
structure Least (d : Nat → α) (p : Nat) : Prop where
  pos : 0 < p
  pd : Pd d p
  le : ∀ q, 0 < q → Pd d q → p ≤ q
end
/-! ### rows -/
def at' (g : List Int) (i : Nat) : Int := g.getD i 0
/-- the row, again and again -/
def dif (g : List Int) (k : Nat) : Int := at' g (k % g.length)
/-- within the row what stands p further on is the same -/
def Per (g : List Int) (p : Nat) : Prop := ∀ i, i + p < g.length → at' g (i + p) = at' g i
section
variable {g : List Int} {p q : Nat}
theorem dif_pd : Pd (dif g) g.length := fun k => by unfold dif; rw [Nat.add_mod_right]
theorem dif_lt {k : Nat} (h : k < g.length) : dif g k = at' g k := by unfold dif; rw [Nat.mod_eq_of_lt h]
theorem Pd.per (h : Pd (dif g) p) : Per g p := fun i hi => by
  have := h i
  rwa [dif_lt hi, dif_lt (by omega)] at this
theorem Per.mul (h : Per g p) : ∀ j i, i + j * p < g.length → at' g (i + j * p) = at' g i
  | 0, i, _ => by rw [Nat.zero_mul, Nat.add_zero]
  | j + 1, i, hi => by
    rw [Nat.succ_mul, ← Nat.add_assoc] at hi ⊢
    rw [h _ hi, Per.mul h j i (by omega)]
theorem Per.pd (h : Per g p) (hp : 0 < p) (hd : p ∣ g.length) (hn : 0 < g.length) : Pd (dif g) p := fun k => by
  obtain ⟨c, hc⟩ := hd
  have hr : k % g.length < g.length := Nat.mod_lt _ hn
  unfold dif
  rw [Nat.add_mod]
  generalize k % g.length = r at hr
  have hpn : p ≤ g.length := by
    rcases c with _ | c
    · rw [Nat.mul_zero] at hc; omega
    · rw [hc]; exact Nat.le_mul_of_pos_right p (Nat.succ_pos c)
  rcases Nat.lt_or_ge p g.length with h1 | h1
  · rw [Nat.mod_eq_of_lt h1]
    rcases Nat.lt_or_ge (r + p) g.length with h2 | h2
    · rw [Nat.mod_eq_of_lt h2]
      exact h r h2
    · rw [Nat.mod_eq_sub_mod h2, Nat.mod_eq_of_lt (by omega)]
      rcases c with _ | c
      · rw [Nat.mul_zero] at hc; omega
      have e : r + p - g.length + c * p = r := by
        have : p * (c + 1) = c * p + p := by rw [Nat.mul_comm, Nat.succ_mul]
        omega
      have z := h.mul c (r + p - g.length) (by rw [e]; exact hr)
      rw [e] at z
      exact z.symm
  · have e : p = g.length := Nat.le_antisymm hpn h1
    rw [e, Nat.mod_self, Nat.add_zero, Nat.mod_eq_of_lt hr]
end
/-! ### borders: the longest one of each beginning -/
/-- w signs at the end of the first m are the first w -/
def Bd (g : List Int) (m w : Nat) : Prop := w < m ∧ ∀ i, i < w → at' g (m - w + i) = at' g i
structure Lb (g : List Int) (m w : Nat) : Prop where
  bd : Bd g m w
  top : ∀ v, Bd g m v → v ≤ w
section
variable {g : List Int} {m w v : Nat}
theorem bd_zero (h : 0 < m) : Bd g m 0 := ⟨h, fun i hi => absurd hi (Nat.not_lt_zero i)⟩
theorem lb_one : Lb g 1 0 := ⟨bd_zero Nat.one_pos, fun v h => by have := h.1; omega⟩
theorem bd_succ : Bd g (m + 1) (v + 1) ↔ Bd g m v ∧ at' g m = at' g v := by
  constructor
  · rintro ⟨h, a⟩
    have hv : v < m := by omega
    refine ⟨⟨hv, fun i hi => ?_⟩, ?_⟩
    · have := a i (by omega)
      rwa [show m + 1 - (v + 1) + i = m - v + i by omega] at this
    · have := a v (by omega)
      rwa [show m + 1 - (v + 1) + v = m by omega] at this
  · rintro ⟨⟨h, a⟩, e⟩
    refine ⟨by omega, fun i hi => ?_⟩
    rw [show m + 1 - (v + 1) + i = m - v + i by omega]
    rcases Nat.lt_or_ge i v with h1 | h1
    · exact a i h1
    · have : i = v := by omega
      subst this
      rw [show m - i + i = m by omega]
      exact e
/-- a border of a border, and the other way round -/
theorem bd_trans (h : Bd g m w) (h2 : Bd g w v) : Bd g m v := by
  refine ⟨Nat.lt_trans h2.1 h.1, fun i hi => ?_⟩
  have := h.2 (w - v + i) (by have := h2.1; omega)
  rw [show m - w + (w - v + i) = m - v + i by have := h.1; have := h2.1; omega] at this
  rw [this]
  exact h2.2 i hi
theorem bd_down (h : Bd g m w) (h2 : Bd g m v) (hv : v < w) : Bd g w v := by
  refine ⟨hv, fun i hi => ?_⟩
  have a := h.2 (w - v + i) (by omega)
  rw [show m - w + (w - v + i) = m - v + i by have := h.1; omega] at a
  rw [← a]
  exact h2.2 i hi
/-- what the search for the next border keeps: a border, and none that goes on is longer -/
def Srch (g : List Int) (m w : Nat) : Prop := Bd g m w ∧ ∀ v, Bd g m v → at' g m = at' g v → v ≤ w
theorem srch_start (h : Lb g m w) : Srch g m w := ⟨h.bd, fun v b _ => h.top v b⟩
theorem srch_step (h : Srch g m w) (hw : 0 < w) (hne : at' g m ≠ at' g w) {w' : Nat} (b : Lb g w w') : Srch g m w' ∧ w' < w :=
  ⟨⟨bd_trans h.1 b.bd, fun v hv e => by
    have h1 := h.2 v hv e
    have h2 : v ≠ w := fun z => hne (z ▸ e)
    exact b.top v (bd_down h.1 hv (by omega))⟩, b.bd.1⟩
theorem srch_yes (h : Srch g m w) (e : at' g m = at' g w) : Lb g (m + 1) (w + 1) := by
  refine ⟨bd_succ.mpr ⟨h.1, e⟩, fun v hv => ?_⟩
  rcases v with _ | v
  · exact Nat.zero_le _
  · obtain ⟨a, b⟩ := bd_succ.mp hv
    exact Nat.succ_le_succ (h.2 v a b)
theorem srch_no (h : Srch g m 0) (e : at' g m ≠ at' g 0) : Lb g (m + 1) 0 := by
  refine ⟨bd_zero (Nat.succ_pos m), fun v hv => ?_⟩
  rcases v with _ | v
  · exact Nat.le_refl _
  · obtain ⟨a, b⟩ := bd_succ.mp hv
    have : v = 0 := Nat.le_zero.mp (h.2 v a b)
    subst this
    exact absurd b e
end
/-! ### the least period of a row, by its longest border -/
section
variable {g : List Int} {b : Nat}
theorem Per.bd {p : Nat} (h : Per g p) (hp : 0 < p) (hn : p ≤ g.length) : Bd g g.length (g.length - p) := by
  refine ⟨by omega, fun i hi => ?_⟩
  have := h i (by omega)
  rw [show g.length - (g.length - p) + i = i + p by omega]
  exact this
theorem Bd.per (h : Bd g g.length b) : Per g (g.length - b) := fun i hi => by
  have := h.2 i (by have := h.1; omega)
  rwa [Nat.add_comm] at this
theorem least_of (hn : 0 < g.length) (h : Lb g g.length b) : Least (dif g) (if g.length % (g.length - b) = 0 then g.length - b else g.length) := by
  have hb := h.bd.1
  have hq : 0 < g.length - b := by omega
  have per := h.bd.per
  have top : ∀ p, 0 < p → p ≤ g.length → Per g p → g.length - b ≤ p := fun p hp hpn pp => by
    have := h.top _ (pp.bd hp hpn)
    omega
  -- each period of the endless row has a divisor of the length below it that is one too
  have down : ∀ q, 0 < q → Pd (dif g) q → ∃ c, 0 < c ∧ c ∣ g.length ∧ c ≤ q ∧ c ≤ g.length ∧ Pd (dif g) c := fun q hq0 hqd =>
    ⟨Nat.gcd q g.length, Nat.gcd_pos_of_pos_left _ hq0, Nat.gcd_dvd_right _ _, Nat.gcd_le_left _ hq0, Nat.gcd_le_right _ hn, Pd.gcd q g.length hqd dif_pd⟩
  by_cases e : g.length % (g.length - b) = 0
  · rw [if_pos e]
    refine ⟨hq, per.pd hq (Nat.dvd_of_mod_eq_zero e) hn, fun q hq0 hqd => ?_⟩
    obtain ⟨c, c0, _, cq, cn, cd⟩ := down q hq0 hqd
    exact Nat.le_trans (top c c0 cn cd.per) cq
  · rw [if_neg e]
    refine ⟨hn, dif_pd, fun q hq0 hqd => ?_⟩
    obtain ⟨c, c0, cv, cq, cn, cd⟩ := down q hq0 hqd
    rcases Nat.lt_or_ge c g.length with h1 | h1
    · exfalso
      have h2 : g.length - b ≤ c := top c c0 cn cd.per
      obtain ⟨z, hz⟩ := cv
      have h3 : c + c ≤ g.length := by
        rcases z with _ | _ | z
        · rw [Nat.mul_zero] at hz; omega
        · rw [Nat.mul_one] at hz; omega
        · rw [hz, show z + 1 + 1 = z + 2 from rfl, Nat.mul_add, Nat.mul_two]; omega
      have pd : Pd (dif g) (g.length - b) := fun k => by
        have r : k % c < c := Nat.mod_lt _ c0
        have a : dif g (k % c) = dif g k := cd.mod k
        have a2 : dif g (k + (g.length - b)) = dif g (k % c + (g.length - b)) := by
          have e1 := Nat.mod_add_div k c
          rw [Nat.mul_comm] at e1
          have := cd.mul (k / c) (k % c + (g.length - b))
          rw [show k % c + (g.length - b) + k / c * c = k + (g.length - b) by omega] at this
          exact this
        rw [a2, ← a, dif_lt (by omega), dif_lt (by omega)]
        exact per _ (by omega)
      have q2 := Pd.gcd (g.length - b) g.length pd dif_pd
      have g0 : 0 < Nat.gcd (g.length - b) g.length := Nat.gcd_pos_of_pos_left _ hq
      have l1 := top _ g0 (Nat.gcd_le_right _ hn) q2.per
      have l2 := Nat.gcd_le_left (g.length) hq
      have e2 : Nat.gcd (g.length - b) g.length = g.length - b := Nat.le_antisymm l2 l1
      exact e (Nat.mod_eq_zero_of_dvd (e2 ▸ Nat.gcd_dvd_right (g.length - b) g.length))
    · exact Nat.le_trans h1 cq
end
end Gr
namespace Gr
/-! ### sums of beginnings -/
def acc (d : Nat → Int) : Nat → Int
  | 0 => 0
  | n + 1 => acc d n + d n
theorem acc_add (d : Nat → Int) (m : Nat) : ∀ n, acc d (m + n) = acc d m + acc (fun k => d (m + k)) n
  | 0 => by rw [Nat.add_zero]; exact (Int.add_zero _).symm
  | n + 1 => by
    rw [← Nat.add_assoc]
    show acc d (m + n) + d (m + n) = acc d m + (acc _ n + d (m + n))
    rw [acc_add d m n, Int.add_assoc]
theorem acc_congr {d e : Nat → Int} : ∀ n, (∀ k, k < n → d k = e k) → acc d n = acc e n
  | 0, _ => rfl
  | n + 1, h => by
    show acc d n + d n = acc e n + e n
    rw [acc_congr n fun k hk => h k (by omega), h n (Nat.lt_succ_self n)]
theorem acc_mul {d : Nat → Int} {p : Nat} (h : Pd d p) : ∀ j r, acc d (j * p + r) = j * acc d p + acc d r
  | 0, r => by rw [Nat.zero_mul, Nat.zero_add]; show acc d r = ((0 : Nat) : Int) * _ + _; rw [Int.natCast_zero, Int.zero_mul, Int.zero_add]
  | j + 1, r => by
    rw [Nat.succ_mul, show j * p + p + r = p + (j * p + r) by omega, acc_add]
    rw [acc_congr (e := d) (j * p + r) fun k _ => by rw [Nat.add_comm p k]; exact h k]
    rw [acc_mul h j r]
    rw [show ((j + 1 : Nat) : Int) = (j : Int) + 1 from rfl, Int.add_mul, Int.one_mul]
    omega
/-! ### growths -/
/-- the last one of a row -/
def lst (t : List Int) : Int := at' t (t.length - 1)
/-- the value at a number, by told values and gains -/
def val (t g : List Int) (n : Nat) : Int := if n < t.length then at' t n else lst t + acc (dif g) (n - t.length + 1)
section
variable {t t' g g' : List Int} {n : Nat}
theorem val_lt (h : n < t.length) : val t g n = at' t n := if_pos h
/-- from the last told value on -/
theorem val_ge (h0 : 0 < t.length) (k : Nat) : val t g (t.length - 1 + k) = lst t + acc (dif g) k := by
  unfold val
  rcases Nat.eq_zero_or_pos k with h | h
  · subst h
    rw [if_pos (by omega)]
    show at' t (t.length - 1 + 0) = lst t + 0
    rw [Int.add_zero]
    rfl
  · rw [if_neg (by omega), show t.length - 1 + k - t.length + 1 = k by omega]
theorem val_step (h0 : 0 < t.length) (k : Nat) : val t g (t.length - 1 + k + 1) - val t g (t.length - 1 + k) = dif g k := by
  rw [Nat.add_assoc, val_ge h0, val_ge h0]
  show lst t + (acc (dif g) k + dif g k) - (lst t + acc (dif g) k) = dif g k
  omega
/-- the rounds taken at once -/
theorem val_far (h0 : 0 < t.length) (hn : t.length ≤ n) : val t g n = lst t + ((n - t.length + 1) / g.length : Nat) * acc (dif g) g.length + acc (dif g) ((n - t.length + 1) % g.length) := by
  unfold val
  rw [if_neg (by omega)]
  have e := Nat.mod_add_div (n - t.length + 1) g.length
  rw [Nat.mul_comm, Nat.add_comm] at e
  rw [← e, acc_mul dif_pd, e, Int.add_assoc]
/-- the normal form -/
structure NF (t g : List Int) : Prop where
  told : 0 < t.length
  gains : 0 < g.length
  least : Least (dif g) g.length
  few : t.length = 1 ∨ at' t (t.length - 1) - at' t (t.length - 2) ≠ lst g
/-- by how much the values rise -/
def rise (t g : List Int) (n : Nat) : Int := val t g (n + 1) - val t g n
theorem rise_ge (h0 : 0 < t.length) (h : t.length - 1 ≤ n) : rise t g n = dif g (n - (t.length - 1)) := by
  have := val_step (g := g) h0 (n - (t.length - 1))
  rwa [show t.length - 1 + (n - (t.length - 1)) = n by omega] at this
/-- the number of gains is the least number by which the rises come round at last -/
theorem least_end (h : NF t g) {q : Nat} (hq : 0 < q) {m : Nat} (hm : ∀ n, m ≤ n → rise t g (n + q) = rise t g n) : g.length ≤ q := by
  refine h.least.le q hq fun k => ?_
  have a := hm (t.length - 1 + (k + m * g.length)) (by have : m ≤ m * g.length := Nat.le_mul_of_pos_right m h.gains; omega)
  rw [rise_ge h.told (by omega), rise_ge h.told (by omega)] at a
  rw [show t.length - 1 + (k + m * g.length) + q - (t.length - 1) = k + q + m * g.length by omega, show t.length - 1 + (k + m * g.length) - (t.length - 1) = k + m * g.length by omega] at a
  rwa [dif_pd.mul, dif_pd.mul] at a
theorem end_pd (h : NF t g) (n : Nat) (hn : t.length - 1 ≤ n) : rise t g (n + g.length) = rise t g n := by
  rw [rise_ge h.told (by omega), rise_ge h.told hn, show n + g.length - (t.length - 1) = n - (t.length - 1) + g.length by omega]
  exact dif_pd _
theorem at_eq_of {a b : List Int} (hl : a.length = b.length) (h : ∀ i, i < a.length → at' a i = at' b i) : a = b := by
  refine List.ext_getElem? fun i => ?_
  rcases Nat.lt_or_ge i a.length with h1 | h1
  · have := h i h1
    unfold at' at this
    rw [List.getD_eq_getElem?_getD, List.getD_eq_getElem?_getD] at this
    rw [List.getElem?_eq_getElem h1, List.getElem?_eq_getElem (hl ▸ h1)] at this ⊢
    exact congrArg some this
  · rw [List.getElem?_eq_none h1, List.getElem?_eq_none (hl ▸ h1)]
theorem told_le (h : NF t g) (h' : NF t' g') (e : ∀ n, val t g n = val t' g' n) (eg : g.length = g'.length) : t'.length ≤ t.length := by
  rcases Nat.lt_or_ge t.length t'.length with hl | hl
  · exfalso
    have re : ∀ n, rise t g n = rise t' g' n := fun n => by unfold rise; rw [e, e]
    rcases h'.few with z | z
    · have := h.told; omega
    · apply z
      have t0 := h.told
      have a : rise t' g' (t'.length - 2) = at' t' (t'.length - 1) - at' t' (t'.length - 2) := by
        unfold rise
        rw [show t'.length - 2 + 1 = t'.length - 1 by omega, val_lt (by omega), val_lt (by omega)]
      have b : rise t' g' (t'.length - 2 + g.length) = lst g' := by
        have g0 := h.gains
        rw [rise_ge h'.told (by omega), show t'.length - 2 + g.length - (t'.length - 1) = g'.length - 1 by omega, dif_lt (by omega)]
        rfl
      rw [← a, ← b, ← re, ← re]
      exact (end_pd h _ (by omega)).symm
  · exact hl
/-- one normal form -/
theorem nf_one (h : NF t g) (h' : NF t' g') (e : ∀ n, val t g n = val t' g' n) : t = t' ∧ g = g' := by
  have re : ∀ n, rise t g n = rise t' g' n := fun n => by unfold rise; rw [e, e]
  have l1 : g.length ≤ g'.length := least_end h h'.gains (m := t'.length - 1) fun n hn => by rw [re, re]; exact end_pd h' n hn
  have l2 : g'.length ≤ g.length := least_end h' h.gains (m := t.length - 1) fun n hn => by rw [← re, ← re]; exact end_pd h n hn
  have eg : g.length = g'.length := Nat.le_antisymm l1 l2
  have et : t.length = t'.length := Nat.le_antisymm (told_le h' h (fun n => (e n).symm) eg.symm) (told_le h h' e eg)
  refine ⟨at_eq_of et fun i hi => ?_, at_eq_of eg fun i hi => ?_⟩
  · have := e i
    rwa [val_lt hi, val_lt (et ▸ hi)] at this
  · have a := rise_ge (g := g) h.told (n := t.length - 1 + i) (by omega)
    have b := rise_ge (g := g') h'.told (n := t.length - 1 + i) (by omega)
    rw [re, b, show t.length - 1 + i - (t.length - 1) = i by omega, show t.length - 1 + i - (t'.length - 1) = i by omega, dif_lt hi, dif_lt (eg ▸ hi)] at a
    exact a.symm
end
/-! ### told values that the gains give anyway -/
section
variable {t g : List Int} {s : Nat}
/-- the gain that would be i steps ahead of the first one -/
def back (g : List Int) (s : Nat) : Int := at' g (g.length - 1 - s % g.length)
/-- the last s told values are those that the gains give -/
def Spr (t g : List Int) (s : Nat) : Prop := s < t.length ∧ ∀ i, i < s → at' t (t.length - 1 - i) - at' t (t.length - 1 - i - 1) = back g i
theorem spr_zero (h : 0 < t.length) : Spr t g 0 := ⟨h, fun i hi => absurd hi (Nat.not_lt_zero i)⟩
theorem spr_step (h : Spr t g s) (hs : s < t.length - 1) (e : at' t (t.length - 1 - s) - at' t (t.length - 1 - s - 1) = back g s) : Spr t g (s + 1) :=
  ⟨by omega, fun i hi => by
    rcases Nat.lt_or_ge i s with z | z
    · exact h.2 i z
    · rw [show i = s by omega]
      exact e⟩
/-- told values and gains without the last s told values -/
def cutT (t : List Int) (s : Nat) : List Int := t.take (t.length - s)
def cutG (g : List Int) (s : Nat) : List Int := g.drop (g.length - s % g.length) ++ g.take (g.length - s % g.length)
theorem cutT_len (hs : s < t.length) : (cutT t s).length = t.length - s := by
  unfold cutT
  rw [List.length_take]
  omega
theorem cutG_len : (cutG g s).length = g.length := by
  unfold cutG
  rw [List.length_append, List.length_drop, List.length_take]
  omega
theorem at_take {l : List Int} {n i : Nat} (h : i < n) : at' (l.take n) i = at' l i := by
  unfold at'
  rw [List.getD_eq_getElem?_getD, List.getD_eq_getElem?_getD, List.getElem?_take_of_lt h]
theorem at_drop {l : List Int} {n i : Nat} : at' (l.drop n) i = at' l (n + i) := by
  unfold at'
  rw [List.getD_eq_getElem?_getD, List.getD_eq_getElem?_getD, List.getElem?_drop]
theorem at_app {a b : List Int} {i : Nat} : at' (a ++ b) i = if i < a.length then at' a i else at' b (i - a.length) := by
  unfold at'
  rw [List.getD_eq_getElem?_getD, List.getD_eq_getElem?_getD, List.getD_eq_getElem?_getD]
  by_cases h : i < a.length
  · rw [if_pos h, List.getElem?_append_left h]
  · rw [if_neg h, List.getElem?_append_right (by omega)]
/-- the gains turned: each one s places later -/
theorem dif_cut (hg : 0 < g.length) (k : Nat) : dif (cutG g s) (k + s) = dif g k := by
  have hr : s % g.length < g.length := Nat.mod_lt _ hg
  have hk : k % g.length < g.length := Nat.mod_lt _ hg
  unfold dif
  rw [cutG_len, Nat.add_mod]
  unfold cutG
  generalize s % g.length = r at hr ⊢
  generalize k % g.length = q at hk ⊢
  rw [at_app, List.length_drop, show g.length - (g.length - r) = r by omega]
  rcases Nat.lt_or_ge (q + r) g.length with h | h
  · rw [Nat.mod_eq_of_lt h, if_neg (by omega), at_take (by omega), show q + r - r = q by omega]
  · rw [Nat.mod_eq_sub_mod h, Nat.mod_eq_of_lt (by omega), if_pos (by omega), at_drop, show g.length - r + (q + r - g.length) = q by omega]
theorem dif_cut' (hg : 0 < g.length) {k : Nat} (h : s ≤ k) : dif (cutG g s) k = dif g (k - s) := by
  have := dif_cut (s := s) hg (k - s)
  rwa [show k - s + s = k by omega] at this
/-- the gain i places ahead of the first one, told of the turned ones -/
theorem back_cut (hg : 0 < g.length) {i : Nat} (hi : i < s) : dif (cutG g s) (s - 1 - i) = back g i := by
  have p := (dif_pd (g := cutG g s)).mul (i + 1) (s - 1 - i)
  rw [cutG_len] at p
  rw [← p, dif_cut' hg (by have : i + 1 ≤ (i + 1) * g.length := Nat.le_mul_of_pos_right _ hg; omega)]
  unfold dif back
  congr 1
  have hr : i % g.length < g.length := Nat.mod_lt _ hg
  have e := Nat.mod_add_div i g.length
  generalize i % g.length = r at hr e ⊢
  generalize i / g.length = c at e
  have e3 : (i + 1) * g.length = i * g.length + g.length := by rw [Nat.add_mul, Nat.one_mul]
  have e5 : c * g.length = g.length * c := Nat.mul_comm _ _
  have i0 : i ≤ i * g.length := Nat.le_mul_of_pos_right _ hg
  have cl : c ≤ i := by
    have := Nat.le_mul_of_pos_left c hg
    omega
  -- the number of whole rounds left
  have e4 : s - 1 - i + (i + 1) * g.length - s = g.length - 1 - r + (i - c) * g.length := by
    have : (i - c) * g.length = i * g.length - c * g.length := Nat.sub_mul _ _ _
    have le2 : c * g.length ≤ i * g.length := Nat.mul_le_mul_right _ cl
    omega
  rw [e4, Nat.add_mul_mod_self_right, Nat.mod_eq_of_lt (by omega)]
theorem back_zero (hg : 0 < g.length) : back g 0 = lst g := by
  unfold back lst
  rw [Nat.zero_mod, Nat.sub_zero]
/-- what stands s places ahead of the last told value, by the gains -/
theorem spr_told (h : Spr t g s) : ∀ i, i ≤ s → at' t (t.length - 1 - s + i) = lst (cutT t s) + acc (fun k => back g (s - 1 - k)) i
  | 0, _ => by
    have := h.1
    show _ = lst (cutT t s) + 0
    unfold lst
    rw [cutT_len h.1, Int.add_zero]
    unfold cutT
    rw [at_take (by omega), Nat.add_zero, show t.length - s - 1 = t.length - 1 - s by omega]
  | i + 1, hi => by
    have h1 := h.1
    have a := spr_told h i (by omega)
    have b := h.2 (s - 1 - i) (by omega)
    rw [show t.length - 1 - (s - 1 - i) = t.length - 1 - s + (i + 1) by omega, show t.length - 1 - s + (i + 1) - 1 = t.length - 1 - s + i by omega, a] at b
    show _ = lst (cutT t s) + (acc _ i + back g (s - 1 - i))
    omega
/-- the same values -/
theorem val_cut (hg : 0 < g.length) (h : Spr t g s) (n : Nat) : val (cutT t s) (cutG g s) n = val t g n := by
  have h1 := h.1
  have len := cutT_len (t := t) h1
  rcases Nat.lt_or_ge n (t.length - s) with a | a
  · rw [val_lt (by omega), val_lt (by omega)]
    unfold cutT
    rw [at_take a]
  · obtain ⟨k, rfl⟩ : ∃ k, n = t.length - s - 1 + k := ⟨n - (t.length - s - 1), by omega⟩
    have v := val_ge (g := cutG g s) (t := cutT t s) (by omega) k
    rw [len] at v
    rw [v]
    have b : ∀ i, i < s → dif (cutG g s) i = back g (s - 1 - i) := fun i hi => by
      have := back_cut (g := g) (s := s) hg (i := s - 1 - i) (by omega)
      rwa [show s - 1 - (s - 1 - i) = i by omega] at this
    rcases Nat.lt_or_ge k (s + 1) with c | c
    · rw [val_lt (by omega), show t.length - s - 1 + k = t.length - 1 - s + k by omega, spr_told h k (by omega), acc_congr k fun i hi => b i (by omega)]
    · obtain ⟨j, rfl⟩ : ∃ j, k = s + j := ⟨k - s, by omega⟩
      rw [acc_add, acc_congr s b, acc_congr (e := dif g) j fun i _ => by rw [Nat.add_comm s i]; exact dif_cut hg i]
      have l := spr_told h s (Nat.le_refl s)
      rw [show t.length - 1 - s + s = t.length - 1 by omega] at l
      rw [show t.length - s - 1 + (s + j) = t.length - 1 + j by omega, val_ge (by omega)]
      unfold lst at l ⊢
      rw [l]
      omega
theorem least_cut (hg : 0 < g.length) (h : Least (dif g) g.length) : Least (dif (cutG g s)) (cutG g s).length := by
  refine ⟨by rw [cutG_len]; exact hg, dif_pd, fun q hq hp => ?_⟩
  rw [cutG_len]
  refine h.le q hq fun k => ?_
  have := hp (k + s)
  rw [show k + s + q = k + q + s by omega, dif_cut hg, dif_cut hg] at this
  exact this
/-- the search of told values has come to its end: the normal form -/
theorem nf_cut (hg : 0 < g.length) (l : Least (dif g) g.length) (h : Spr t g s) (e : s = t.length - 1 ∨ at' t (t.length - 1 - s) - at' t (t.length - 1 - s - 1) ≠ back g s) : NF (cutT t s) (cutG g s) := by
  have h1 := h.1
  have len := cutT_len (t := t) h1
  refine ⟨by omega, by rw [cutG_len]; exact hg, least_cut hg l, ?_⟩
  rcases e with e | e
  · left
    omega
  · by_cases z : t.length - s = 1
    · left
      omega
    · right
      rw [len]
      unfold cutT
      rw [at_take (by omega), at_take (by omega), show t.length - s - 1 = t.length - 1 - s by omega, show t.length - s - 2 = t.length - 1 - s - 1 by omega]
      have q : lst (cutG g s) = back g s := by
        have a := back_cut (g := g) (s := s + 1) hg (i := s) (Nat.lt_succ_self s)
        have r : dif (cutG g (s + 1)) (s + 1 - 1 - s) = dif (cutG g s) (g.length - 1) := by
          rw [show s + 1 - 1 - s = 0 by omega]
          have p := (dif_pd (g := cutG g (s + 1))).mul (s + 1) 0
          rw [cutG_len] at p
          have m : s + 1 ≤ (s + 1) * g.length := Nat.le_mul_of_pos_right _ hg
          rw [← p, dif_cut' hg (by omega)]
          have p2 := (dif_pd (g := cutG g s)).mul s (g.length - 1)
          rw [cutG_len] at p2
          have m2 : s ≤ s * g.length := Nat.le_mul_of_pos_right _ hg
          have e3 : (s + 1) * g.length = s * g.length + g.length := by rw [Nat.add_mul, Nat.one_mul]
          rw [← p2, dif_cut' hg (by omega)]
          congr 1
          omega
        rw [r, dif_lt (by rw [cutG_len]; omega)] at a
        unfold lst
        rw [cutG_len]
        exact a
      rw [q]
      exact e
end
end Gr
namespace Gr
/-! ### told values and gains of a sequence that rises in rounds at last -/
section
variable {f : Nat → Int} {b l : Nat}
def pT (f : Nat → Int) (b : Nat) : List Int := (List.range b).map f
def pG (f : Nat → Int) (b l : Nat) : List Int := (List.range l).map fun k => f (b + k) - f (b + k - 1)
theorem pT_len : (pT f b).length = b := by unfold pT; rw [List.length_map, List.length_range]
theorem pG_len : (pG f b l).length = l := by unfold pG; rw [List.length_map, List.length_range]
theorem at_map_range {h : Nat → Int} {n i : Nat} (hi : i < n) : at' ((List.range n).map h) i = h i := by
  unfold at'
  rw [List.getD_eq_getElem?_getD, List.getElem?_map, List.getElem?_range hi]
  rfl
theorem val_parted (hb : 0 < b) (hl : 0 < l) (h : ∀ n, b - 1 ≤ n → f (n + l + 1) - f (n + l) = f (n + 1) - f n) (n : Nat) : val (pT f b) (pG f b l) n = f n := by
  have lt := pT_len (f := f) (b := b)
  have lg := pG_len (f := f) (b := b) (l := l)
  rcases Nat.lt_or_ge n b with a | a
  · rw [val_lt (by omega)]
    exact at_map_range a
  · obtain ⟨k, rfl⟩ : ∃ k, n = b - 1 + k := ⟨n - (b - 1), by omega⟩
    have v := val_ge (t := pT f b) (g := pG f b l) (by omega) k
    rw [lt] at v
    rw [v]
    have d : ∀ i, dif (pG f b l) i = f (b - 1 + i + 1) - f (b - 1 + i) := fun i => by
      unfold dif
      rw [lg]
      have hi : i % l < l := Nat.mod_lt _ hl
      have e : at' (pG f b l) (i % l) = f (b + i % l) - f (b + i % l - 1) := at_map_range hi
      rw [e, show b + i % l = b - 1 + i % l + 1 by omega, Nat.add_sub_cancel]
      have p : Pd (fun i => f (b - 1 + i + 1) - f (b - 1 + i)) l := fun i => by
        have := h (b - 1 + i) (by omega)
        rw [show b - 1 + i + l = b - 1 + (i + l) by omega] at this
        exact this
      exact p.mod i
    have la : lst (pT f b) = f (b - 1) := by
      unfold lst
      rw [lt]
      exact at_map_range (by omega)
    rw [la]
    clear v
    induction k with
    | zero => show f (b - 1) + 0 = f (b - 1 + 0); rw [Int.add_zero, Nat.add_zero]
    | succ k ih =>
      show f (b - 1) + (acc _ k + dif (pG f b l) k) = f (b - 1 + (k + 1))
      have ih' : f (b - 1) + acc (dif (pG f b l)) k = f (b - 1 + k) := by
        rcases Nat.lt_or_ge (b - 1 + k) b with c | c
        · have : k = 0 := by omega
          subst this
          show f (b - 1) + 0 = f (b - 1 + 0)
          rw [Int.add_zero, Nat.add_zero]
        · exact ih c
      rw [d k, ← Int.add_assoc, ih', ← Nat.add_assoc]
      omega
end
/-! ### sums -/
section
variable {t g t' g' : List Int}
/-- rises of a growth come round behind its told values, by each number of which its gains are a divisor -/
theorem rise_pd (h0 : 0 < t.length) {l n : Nat} (hd : g.length ∣ l) (hn : t.length - 1 ≤ n) : val t g (n + l + 1) - val t g (n + l) = val t g (n + 1) - val t g n := by
  have a := rise_ge (g := g) h0 (n := n + l) (by omega)
  have b := rise_ge (g := g) h0 hn
  unfold rise at a b
  rw [a, b, show n + l - (t.length - 1) = n - (t.length - 1) + l by omega]
  obtain ⟨c, rfl⟩ := hd
  rw [Nat.mul_comm]
  exact dif_pd.mul c _
theorem val_sum (h0 : 0 < t.length) (h0' : 0 < t'.length) {b l : Nat} (hb : t.length ≤ b) (hb' : t'.length ≤ b) (hl : 0 < l) (hd : g.length ∣ l) (hd' : g'.length ∣ l) (n : Nat) :
    val (pT (fun n => val t g n + val t' g' n) b) (pG (fun n => val t g n + val t' g' n) b l) n = val t g n + val t' g' n := by
  refine val_parted (by omega) hl (fun n hn => ?_) n
  have a := rise_pd (g := g) h0 (l := l) (n := n) hd (by omega)
  have c := rise_pd (g := g') h0' (l := l) (n := n) hd' (by omega)
  omega
/-! ### each value so many times -/
def sc (k : Int) (l : List Int) : List Int := l.map fun x => k * x
theorem sc_len {k : Int} {l : List Int} : (sc k l).length = l.length := List.length_map _
theorem sc_at {k : Int} {l : List Int} {i : Nat} : at' (sc k l) i = k * at' l i := by
  unfold at' sc
  rw [List.getD_eq_getElem?_getD, List.getD_eq_getElem?_getD, List.getElem?_map]
  cases l[i]? with
  | none => show (0 : Int) = k * 0; rw [Int.mul_zero]
  | some x => rfl
theorem acc_sc {k : Int} {d : Nat → Int} : ∀ n, acc (fun i => k * d i) n = k * acc d n
  | 0 => (Int.mul_zero k).symm
  | n + 1 => by
    show acc _ n + k * d n = k * (acc d n + d n)
    rw [acc_sc n, Int.mul_add]
theorem val_sc {k : Int} {n : Nat} : val (sc k t) (sc k g) n = k * val t g n := by
  have d : dif (sc k g) = fun i => k * dif g i := funext fun i => by unfold dif; rw [sc_len, sc_at]
  unfold val
  rw [sc_len]
  by_cases h : n < t.length
  · rw [if_pos h, if_pos h, sc_at]
  · rw [if_neg h, if_neg h, d, acc_sc, Int.mul_add]
    unfold lst
    rw [sc_len, sc_at]
/-! ### begun later -/
/-- the gains turned the other way -/
def rot (g : List Int) (r : Nat) : List Int := g.drop r ++ g.take r
theorem rot_len {r : Nat} (h : r ≤ g.length) : (rot g r).length = g.length := by
  unfold rot
  rw [List.length_append, List.length_drop, List.length_take]
  omega
theorem dif_rot {r : Nat} (h : r < g.length) (k : Nat) : dif (rot g r) k = dif g (k + r) := by
  unfold dif
  rw [rot_len (Nat.le_of_lt h), Nat.add_mod, Nat.mod_eq_of_lt h]
  have hk : k % g.length < g.length := Nat.mod_lt _ (by omega)
  generalize k % g.length = q at hk ⊢
  unfold rot
  rw [at_app, List.length_drop]
  rcases Nat.lt_or_ge (q + r) g.length with c | c
  · rw [Nat.mod_eq_of_lt c, if_pos (by omega), at_drop, Nat.add_comm]
  · rw [Nat.mod_eq_sub_mod c, Nat.mod_eq_of_lt (by omega), if_neg (by omega), at_take (by omega)]
    congr 1
    omega
/-- still within the told values -/
theorem val_shift1 {m : Nat} (hm : m < t.length) (n : Nat) : val (t.drop m) g n = val t g (n + m) := by
  have l : (t.drop m).length = t.length - m := List.length_drop
  rcases Nat.lt_or_ge n (t.length - m) with a | a
  · rw [val_lt (by omega), val_lt (by omega), at_drop, Nat.add_comm]
  · obtain ⟨k, rfl⟩ : ∃ k, n = t.length - m - 1 + k := ⟨n - (t.length - m - 1), by omega⟩
    have v := val_ge (t := t.drop m) (g := g) (by omega) k
    rw [l] at v
    rw [v, show t.length - m - 1 + k + m = t.length - 1 + k by omega, val_ge (by omega)]
    unfold lst
    rw [l, at_drop, show m + (t.length - m - 1) = t.length - 1 by omega]
/-- behind them -/
theorem val_shift2 {m : Nat} (h0 : 0 < t.length) (hg : 0 < g.length) (hm : t.length ≤ m) (n : Nat) : val [val t g m] (rot g ((m - t.length + 1) % g.length)) n = val t g (n + m) := by
  have hr : (m - t.length + 1) % g.length < g.length := Nat.mod_lt _ hg
  have v := val_ge (t := [val t g m]) (g := rot g ((m - t.length + 1) % g.length)) Nat.one_pos n
  rw [show [val t g m].length - 1 + n = n from Nat.zero_add n] at v
  rw [v, show n + m = t.length - 1 + (m - t.length + 1 + n) by omega, val_ge h0, acc_add]
  have e : lst [val t g m] = lst t + acc (dif g) (m - t.length + 1) := by
    show val t g m = _
    have := val_ge (g := g) h0 (m - t.length + 1)
    rwa [show t.length - 1 + (m - t.length + 1) = m by omega] at this
  rw [e, Int.add_assoc]
  congr 2
  refine acc_congr n fun k _ => ?_
  rw [dif_rot hr]
  have p := (dif_pd (g := g)).mul ((m - t.length + 1) / g.length) (k + (m - t.length + 1) % g.length)
  have q := Nat.mod_add_div (m - t.length + 1) g.length
  rw [Nat.mul_comm] at q
  rw [← p]
  congr 1
  omega
end
end Gr
namespace K23
open PySem L2 Evl
def top (i : Nat) : Stmt := PySem.Challenge.pw_layerpost_k23_rounds_made_and_joined.main.body.getD i (.Pass ⟨0, 0, 0, 0⟩)
abbrev sPen : Stmt := top 20
abbrev sDraw : Stmt := top 21
abbrev sPick : Stmt := top 22
/-! ### the pen: a list of the cells, the place, the rest -/
def PenAt (H : Hp) (p l : Addr) (cells : List Int) (m : Nat) : Prop :=
  ∃ (k : Nat) (r : Int), H p = some (.lst [.ref l, .int (k : Int), .int r]) ∧ H l = some (.lst (cells.map V.int)) ∧ k ≤ m
/-- all but p is as it was -/
def Keep (p : Addr) (H H' : Hp) : Prop := ∀ b o, H b = some o → b ≠ p → H' b = some o
theorem Keep.of_ex {p : Addr} {H H' : Hp} (e : Ex H H') : Keep p H H' := fun b o h _ => e b o h
theorem Keep.trans {p : Addr} {H H1 H2 : Hp} (a : Keep p H H1) (b : Keep p H1 H2) : Keep p H H2 := fun c o h n => b c o (a c o h n) n
theorem Keep.upd {p : Addr} {H : Hp} {o : HO} : Keep p H (upd H p o) := fun b u h n => by rw [upd_ne n]; exact h
theorem PenAt.mono {H H' : Hp} {p l : Addr} {cells : List Int} {m n : Nat} (h : PenAt H p l cells m) (e : Ex H H') (hm : m ≤ n) : PenAt H' p l cells n := by
  obtain ⟨k, r, h1, h2, h3⟩ := h
  exact ⟨k, r, e _ _ h1, e _ _ h2, by omega⟩
theorem PenAt.ne {H : Hp} {p l : Addr} {cells : List Int} {m : Nat} (h : PenAt H p l cells m) : l ≠ p := by
  obtain ⟨k, r, h1, h2, _⟩ := h
  refine ne_of h2 h1 ?_
  intro z
  have z2 := HO.lst.inj z
  cases cells with
  | nil => exact absurd z2 (by simp)
  | cons c cs => exact absurd (List.cons.inj z2).1 (by intro q; cases q)
structure Glb (mg : Str → Option Value) : Prop where
  int : mg "int" = none
  abs : mg "abs" = none
  len : mg "len" = none
  list : mg "list" = none
def spDraw : Sp := fun vs H Q _ => ∃ (p l : Addr) (cells : List Int) (m : Nat) (many : Int), vs = [.ref p, .int many] ∧ PenAt H p l cells m ∧ m ≤ 50000 ∧ cells.length ≤ 63 ∧ 0 < many ∧ many ≤ 1000000000 ∧
  ∀ d H', 0 ≤ d → d < many → PenAt H' p l cells (m + 1) → Keep p H H' → Q (.int d) H'
theorem scDraw : FnScope ["_law_pen_here", "_law_many", "_law_digit", "_law_spot", "_law_cell", "_law_great", "_law_mixed"] ["_law_pen_here", "_law_many"] (defScope sDraw) := ⟨rfl, rfl, rfl, by decide +kernel, rfl, by decide +kernel, by decide +kernel⟩
theorem rc_int {i : Int} {H : Hp} : RC (fun xs H Q => (∃ i, xs = [V.int i] ∧ Q (.int i) H) ∨ ∃ k, xs = [V.bl k] ∧ Q (.int (if k then 1 else 0)) H) [.int i] H (.int i) := fun H1 _ _ q => .inl ⟨i, rfl, q H1 (Ex.refl H1)⟩
theorem rc_intB {b : Bool} {H : Hp} : RC (fun xs H Q => (∃ i, xs = [V.int i] ∧ Q (.int i) H) ∨ ∃ k, xs = [V.bl k] ∧ Q (.int (if k then 1 else 0)) H) [.bl b] H (.int (if b then 1 else 0)) := fun H1 _ _ q => .inr ⟨b, rfl, q H1 (Ex.refl H1)⟩
theorem rc_abs {i : Int} {H : Hp} : RC (fun xs H Q => ∃ i, xs = [V.int i] ∧ Q (.int (if i < 0 then -i else i)) H) [.int i] H (.int (if i < 0 then -i else i)) := fun H1 _ _ q => ⟨i, rfl, q H1 (Ex.refl H1)⟩
theorem rc_len {K : PySem.W.Frag} {p : Addr} {xs : List V} {H : Hp} (h : SqL K H p xs) : RC (fun xs H Q => ∃ p ys, xs = [V.ref p] ∧ (SqL K H p ys ∨ SqT K H p ys) ∧ Q (.int ys.length) H) [.ref p] H (.int (xs.length : Int)) := fun H1 e _ q => ⟨p, xs, rfl, .inl (ex_l e h), q H1 (Ex.refl H1)⟩
theorem dpAll_ints {K : PySem.W.Frag} {H : Hp} : ∀ (ns : List Int), DpAll K H (ns.map V.int) (ns.map PyData.int)
  | [] => .nil
  | n :: ns => .cons (.int n) (dpAll_ints ns)
section
variable {P : Program} {w : World} {K : PySem.W.Frag} {mg : Str → Option Value} {base : Heap}
theorem shaped_nil : SeqAt.shaped (.list []) = true := by decide +kernel
theorem canLay_ints : ∀ (ns : List Int), PyData.canLayAll0 (ns.map PyData.int) = true
  | [] => by simp [PyData.canLayAll0]
  | n :: ns => by simp [PyData.canLayAll0, PyData.canLay0, canLay_ints ns]
theorem depth_ints : ∀ (ns : List Int), PyData.depthAll (ns.map PyData.int) = 0
  | [] => rfl
  | n :: ns => by simp [PyData.depthAll, PyData.depth, depth_ints ns]
theorem shaped_ints (ns : List Int) : SeqAt.shaped (.list (ns.map PyData.int)) = true := by
  unfold SeqAt.shaped
  simp [PyData.canLay0, canLay_ints, PyData.depth, depth_ints]
/-- xs != [], xs a list of ints -/
theorem ev_neNil {σ : L2.St} {H : Hp} {ta : TE} {l : Addr} {cells : List Int} (ha : Ev ta σ H (.ref l)) (h : SqL K H l (cells.map V.int)) :
    ∃ b : Bool, Ev (tOp (rNeD K) ta (tLst tNil)) σ H (.bl b) ∧ (b = true → cells ≠ []) := by
  refine ⟨!(PyData.eqv (.list (cells.map PyData.int)) (.list [])), ev_opL (xs := []) ha (el_lst ea_nil (by decide)) (fun p H1 h1 e => ?_), ?_⟩
  · exact fun H2 e2 Q q => ⟨_, _, .lst (ex_l (e.trans e2) h) (dpAll_ints cells), .lst (sq_of (e2 _ _ h1)) .nil, shaped_ints cells, shaped_nil, q H2 (Ex.refl H2)⟩
  · intro hb hc
    subst hc
    exact absurd hb (by decide +kernel)
end
end K23
namespace K23
open PySem L2 Evl
section
variable {P : Program} {w : World} {K : PySem.W.Frag} {mg : Str → Option Value} {base : Heap}
theorem emod_bd (a b : Int) (h : 0 < b) : 0 ≤ a % b ∧ a % b < b := ⟨Int.emod_nonneg a (by omega), Int.emod_lt_of_pos a h⟩
theorem mul_bd {a b A B : Int} (a0 : 0 ≤ a) (aA : a ≤ A) (b0 : 0 ≤ b) (bB : b ≤ B) : 0 ≤ a * b ∧ a * b ≤ A * B := ⟨Int.mul_nonneg a0 b0, Int.mul_le_mul aA bB b0 (by omega)⟩
/-- the last part of a draw: the mixing -/
theorem ok_draw {f : Addr} {fd : FuncData} (F : Fun K "_law_draw" "_law_draw" sDraw f fd) (T : Glb mg) : FnOk P w K mg base CX0 1 f fd ["_law_pen_here", "_law_many"] spDraw := by
  refine F.ok scDraw (fun vs H Q E h => ?_) (fun cdv A outer s H vs Q E hr h => ?_)
  · obtain ⟨p, l, cells, m, many, rfl, _⟩ := h
    rfl
  · obtain ⟨p, l, cells, m, many, rfl, hp, hm, h63, hm0, hm1, k⟩ := h
    refine ⟨_, pss_cons (ps_if (pt_cmpR op_gt (pe_ix ix_list (pv 0) pe_int (fun _ _ => rfl)) pe_int (nomark _)) (pss_cons (ps_set (i := 2) scDraw.nd rfl (.inl rfl) (pe_op op_mod (pe_callTy call_int1 (by rfl) T.int (by decide +kernel) (pa_cons (pe_ix ix_list (pv 0) pe_int (fun _ _ => rfl)) pa_nil)) (pv 1)))
      (pss_cons (ps_asg (pe_op op_fdiv (pe_callTy call_int1 (by rfl) T.int (by decide +kernel) (pa_cons (pe_ix ix_list (pv 0) pe_int (fun _ _ => rfl)) pa_nil)) (pv 1)) (pg_sub (pv 0) pe_int set_list))
      (pss_one (ps_ret (pv 2))))) pss_nil)
      (pss_cons (ps_set (i := 3) scDraw.nd rfl (.inl rfl) (pe_ix ix_list (pv 0) pe_int (fun _ _ => rfl)))
      (pss_cons (ps_asg (pe_op op_add (pv 3) pe_int) (pg_sub (pv 0) pe_int set_list))
      (pss_cons (ps_set (i := 4) scDraw.nd rfl (.inl rfl) (pe_op op_add (pe_op op_mul pe_int (pv 3)) pe_int))
      (pss_cut (ps_if (pt_cmpR (op_neD hr.units) (pe_ix ix_list (pv 0) pe_int (fun _ _ => rfl)) (pe_lst pa_nil) (nomark _)) (pss_one (ps_set (i := 4) scDraw.nd rfl (.inl rfl) (pe_ix ix_list (pe_ix ix_list (pv 0) pe_int (fun _ _ => rfl)) (pe_op op_mod (pe_callTy call_int1 (by rfl) T.int (by decide +kernel) (pa_cons (pv 3) pa_nil)) (pe_callB call_len_seq (by rfl) T.len PySem.boot_len (pa_cons (pe_ix ix_list (pv 0) pe_int (fun _ _ => rfl)) pa_nil))) (fun _ _ => rfl)))) pss_nil)
      (pss_cons (ps_if (PW.pt (pw_and (pt_cmpR op_lt (pv 3) (pe_callB call_len_seq (by rfl) T.len PySem.boot_len (pa_cons (pe_ix ix_list (pv 0) pe_int (fun _ _ => rfl)) pa_nil)) (nomark _)) (pw_and1 (pt_cmpR op_ge (pe_callB call_abs (by rfl) T.abs (by decide +kernel) (pa_cons (pv 4) pa_nil)) (pe_op op_pow pe_int pe_int) (nomark _))))) (pss_cons (ps_set (i := 5) scDraw.nd rfl (.inl rfl) (pe_op op_add (pe_op op_mul pe_int (pe_op op_sub (pe_callB call_abs (by rfl) T.abs (by decide +kernel) (pa_cons (pv 4) pa_nil)) (pe_op op_pow pe_int pe_int))) (pe_callTy call_int1 (by rfl) T.int (by decide +kernel) (pa_cons (pe_cmpR op_lt (pv 4) pe_int (nomark _)) pa_nil))))
      (pss_cons (ps_asg (pe_op op_fdiv (pe_callTy call_int1 (by rfl) T.int (by decide +kernel) (pa_cons (pv 5) pa_nil)) (pv 1)) (pg_sub (pv 0) pe_int set_list))
      (pss_one (ps_ret (pe_op op_mod (pe_callTy call_int1 (by rfl) T.int (by decide +kernel) (pa_cons (pv 5) pa_nil)) (pv 1)))))) pss_nil)
      (pss_cons (ps_set (i := 6) scDraw.nd rfl (.inl rfl) (pe_op op_mod (pe_callTy call_int1 (by rfl) T.int (by decide +kernel) (pa_cons (pe_op op_pow (pe_op op_add (pe_op op_add (pe_op op_mod (pe_callTy call_int1 (by rfl) T.int (by decide +kernel) (pa_cons (pv 4) pa_nil)) pe_int) (pe_op op_mul pe_int (pv 3))) pe_int) pe_int) pa_nil)) pe_int))
      (pss_cons (ps_set (i := 6) scDraw.nd rfl (.inl rfl) (pe_op op_mod (pe_callTy call_int1 (by rfl) T.int (by decide +kernel) (pa_cons (pe_op op_pow (pe_op op_add (pe_op op_add (pe_op op_mul (pv 6) (pe_op op_add (pe_op op_mul pe_int (pv 3)) pe_int)) (pe_op op_mul (pe_op op_mul pe_int (pv 3)) (pv 3))) pe_int) pe_int) pa_nil)) pe_int))
      (pss_one (ps_ret (pe_op op_mod (pe_callTy call_int1 (by rfl) T.int (by decide +kernel) (pa_cons (pe_op op_fdiv (pv 6) pe_int) pa_nil)) (pv 1))))))))))), ?_⟩
    have hpl := hp.ne
    obtain ⟨n, r, h1, h2, hn⟩ := hp
    have many1 : many < 1073741824 := by omega
    refine q_when (et_test (ev_op (ev_op (ev_var rfl) ev_c (rv_ixL (sq_of h1) (atI_nat (j := 2) rfl))) ev_c rv_I0)) (fun hb H1 e1 => ?_) (fun hb H1 e1 => ?_)
    · -- the rest gives a digit
      have r0 : 0 < r := of_decide_eq_true hb
      have g1 := e1 _ _ h1
      refine q_asg (ev_op (ev_cb (ea_cons (ev_op (ev_var rfl) ev_c (rv_ixL (sq_of g1) (atI_nat (j := 2) rfl))) ea_nil) rc_int) (ev_var rfl) (rv_I hm0)) fun H2 e2 => ?_
      have g2 := e2 _ _ g1
      refine q_setL (j := 2) g2 (ev_op (ev_cb (ea_cons (ev_op (ev_var rfl) ev_c (rv_ixL (sq_of g2) (atI_nat (j := 2) rfl))) ea_nil) rc_int) (ev_var rfl) (rv_I ⟨hm0, many1⟩)) (ev_var rfl) ev_c (by show 2 < 3; decide) fun H3 e3 => ?_
      refine s_ret (ev_var rfl) fun H4 e4 => ?_
      have key : ∀ b o, H b = some o → b ≠ p → H4 b = some o := fun b o hb hbp => e4 b o (by rw [upd_ne hbp]; exact e3 _ _ (e2 _ _ (e1 _ _ hb)))
      exact k _ H4 (emod_bd _ _ hm0).1 (emod_bd _ _ hm0).2 ⟨n, _, e4 _ _ upd_same, key _ _ h2 hpl, by omega⟩ key
    · -- at = pen[1]; pen[1] = at + 1
      have g1 := e1 _ _ h1
      refine q_asg (ev_op (ev_var rfl) ev_c (rv_ixL (sq_of g1) (atI_nat (j := 1) rfl))) fun H2 e2 => ?_
      have g2 := e2 _ _ g1
      refine q_setL (j := 1) g2 (ev_op (ev_var rfl) ev_c rv_I0) (ev_var rfl) ev_c (by show 1 < 3; decide) fun H3 e3 => ?_
      have g3 := e3 _ _ g2
      have hl3 : H3 l = some (.lst (cells.map V.int)) := e3 _ _ (e2 _ _ (e1 _ _ h2))
      have kp3 : ∀ b o, H b = some o → b ≠ p → (upd H3 p (.lst ([V.ref l, V.int (n : Int), V.int r].set 1 (V.int ((n : Int) + 1))))) b = some o := fun b o hb hbp => by
        rw [upd_ne hbp]; exact e3 _ _ (e2 _ _ (e1 _ _ hb))
      generalize hH : upd H3 p (.lst ([V.ref l, V.int (n : Int), V.int r].set 1 (V.int ((n : Int) + 1)))) = J at kp3
      have j1 : J p = some (.lst [V.ref l, V.int ((n + 1 : Nat) : Int), V.int r]) := by
        rw [← hH, upd_same]
        rfl
      have j2 : J l = some (.lst (cells.map V.int)) := kp3 _ _ h2 hpl
      have hn0 : (0 : Int) ≤ (n : Int) ∧ (n : Int) ≤ 50000 := ⟨by omega, by omega⟩
      -- cell = 181879 * at + 27077
      refine q_asg (ev_op (ev_op ev_c (ev_var rfl) (rv_I (.inl ⟨by decide, by decide⟩))) ev_c rv_I0) fun H4 e4 => ?_
      have j41 := e4 _ _ j1
      have j42 := e4 _ _ j2
      -- if pen[0] != []: cell = ..
      obtain ⟨bn, evn, hne⟩ := ev_neNil (K := K) (σ := [some (V.ref p), some (V.int many), none, some (V.int (n : Int)), some (V.int (181879 * (n : Int) + 27077)), none, none]) (H := H4) (cells := cells) (l := l)
        (ta := tOp (rIxL K) (tVar 0) (tC (V.int 0))) (ev_op (ev_var rfl) ev_c (rv_ixL (sq_of j41) (atI_nat (j := 0) rfl))) (sq_of j42)
      refine q_cut (M := fun σ' H' => ∃ c : Int, σ' = [some (V.ref p), some (V.int many), none, some (V.int (n : Int)), some (V.int c), none, none] ∧ Ex H4 H') (s_when (et_test evn) (fun hb H5 e5 => ?_) (fun hb H5 e5 => ⟨_, rfl, e5⟩)) ?_
      · have hlen : 0 < cells.length := List.length_pos_iff.mpr (hne hb)
        have hi : 0 ≤ (n : Int) % (cells.length : Int) ∧ (n : Int) % (cells.length : Int) < (cells.length : Int) := emod_bd _ _ (by omega)
        obtain ⟨i, ei⟩ := Int.eq_ofNat_of_zero_le hi.1
        have il : i < cells.length := by have := hi.2; omega
        have lm : ((cells.map V.int).length : Int) = (cells.length : Int) := by rw [List.length_map]
        refine s_asg (v := V.int (cells[i])) (ev_op (y := V.int (i : Int)) (ev_op (ev_var rfl) ev_c (rv_ixL (sq_of (e5 _ _ j41)) (atI_nat (j := 0) rfl)))
          (ev_is (ev_op (ev_cb (ea_cons (ev_var rfl) ea_nil) rc_int) (ev_cb (ea_cons (ev_op (ev_var rfl) ev_c (rv_ixL (sq_of (e5 _ _ j41)) (atI_nat (j := 0) rfl))) ea_nil) (rc_len (sq_of (e5 _ _ j42)))) (rv_I (by rw [lm]; omega))) (by show V.int ((n : Int) % ((cells.map V.int).length : Int)) = _; rw [lm, ei]))
          (rv_ixL (sq_of (e5 _ _ j42)) (atI_nat (by rw [List.getElem?_map, List.getElem?_eq_getElem il]; rfl)))) fun H6 e6 => ⟨_, rfl, e5.trans e6⟩
      rintro σ' H5 ⟨c, rfl, e5⟩
      have k1 := e5 _ _ j41
      have k2 := e5 _ _ j42
      have kp5 : ∀ b o, H b = some o → b ≠ p → H5 b = some o := fun b o hb hbp => e5 _ _ (e4 _ _ (kp3 _ _ hb hbp))
      have lm : ((cells.map V.int).length : Int) = (cells.length : Int) := by rw [List.length_map]
      refine q_when (et_and (et_test (ev_op (ev_var rfl) (ev_cb (ea_cons (ev_op (ev_var rfl) ev_c (rv_ixL (sq_of k1) (atI_nat (j := 0) rfl))) ea_nil) (rc_len (sq_of k2))) rv_I0))
        (fun _ => et_test (ev_op (ev_cb (ea_cons (ev_var rfl) ea_nil) rc_abs) (ev_op ev_c ev_c (rv_I ⟨by decide, by decide, by decide⟩)) rv_I0))) (fun hb H6 e6 => ?_) (fun hb H6 e6 => ?_)
      · -- a great cell
        refine q_asg (ev_op (ev_op ev_c (ev_op (ev_cb (ea_cons (ev_var rfl) ea_nil) rc_abs) (ev_op ev_c ev_c (rv_I ⟨by decide, by decide, by decide⟩)) rv_I0) (rv_I (.inl ⟨by decide, by decide⟩))) (ev_cb (ea_cons (ev_op (ev_var rfl) ev_c rv_I0) ea_nil) rc_intB) rv_I0) fun H7 e7 => ?_
        have k7 := e7 _ _ (e6 _ _ k1)
        refine q_setL (j := 2) k7 (ev_op (ev_cb (ea_cons (ev_var rfl) ea_nil) rc_int) (ev_var rfl) (rv_I ⟨hm0, many1⟩)) (ev_var rfl) ev_c (by show 2 < 3; decide) fun H8 e8 => ?_
        refine s_ret (ev_op (ev_cb (ea_cons (ev_var rfl) ea_nil) rc_int) (ev_var rfl) (rv_I hm0)) fun H9 e9 => ?_
        have key : ∀ b o, H b = some o → b ≠ p → H9 b = some o := fun b o hb hbp => e9 _ _ (by rw [upd_ne hbp]; exact e8 _ _ (e7 _ _ (e6 _ _ (kp5 _ _ hb hbp))))
        exact k _ H9 (emod_bd _ _ hm0).1 (emod_bd _ _ hm0).2 ⟨n + 1, _, e9 _ _ upd_same, key _ _ h2 hpl, by omega⟩ key
      · -- mixed
        have b1 := emod_bd c 2147483549 (by decide)
        refine q_asg (ev_op (ev_cb (ea_cons (ev_op (ev_op (ev_op (ev_op (ev_cb (ea_cons (ev_var rfl) ea_nil) rc_int) ev_c (rv_I (by decide))) (ev_op ev_c (ev_var rfl) (rv_I (.inl ⟨by decide, by decide⟩))) rv_I0) ev_c rv_I0) ev_c
          (rv_I ⟨by decide, by decide, by omega⟩)) ea_nil) rc_int) ev_c (rv_I (by decide))) fun H7 e7 => ?_
        generalize hx : (c % 2147483549 + 151015 * (n : Int) + 20883) ^ (5 : Int).toNat % 2147483647 = x
        have b2 : 0 ≤ x ∧ x < 2147483647 := by rw [← hx]; exact emod_bd _ _ (by decide)
        have b3 := mul_bd b2.1 (by omega : x ≤ 2147483647) (by omega : 0 ≤ 2 * (n : Int) + 1469) (by omega : 2 * (n : Int) + 1469 ≤ 101469)
        have b4 := mul_bd (by omega : 0 ≤ 132655 * (n : Int)) (by omega : 132655 * (n : Int) ≤ 6632750000) hn0.1 hn0.2
        refine q_asg (ev_op (ev_cb (ea_cons (ev_op (ev_op (ev_op (ev_op (ev_var rfl) (ev_op (ev_op ev_c (ev_var rfl) (rv_I (.inl ⟨by decide, by decide⟩))) ev_c rv_I0) (rv_I (.inl ⟨by omega, by omega⟩)))
            (ev_op (ev_op ev_c (ev_var rfl) (rv_I (.inl ⟨by decide, by decide⟩))) (ev_var rfl) (rv_I (.inl ⟨by omega, by omega⟩))) rv_I0) ev_c rv_I0) ev_c (rv_I ⟨by decide, by decide, by omega⟩)) ea_nil) rc_int) ev_c (rv_I (by decide))) fun H8 e8 => ?_
        refine s_ret (ev_op (ev_cb (ea_cons (ev_op (ev_var rfl) ev_c (rv_I ⟨by decide, by decide⟩)) ea_nil) rc_int) (ev_var rfl) (rv_I hm0)) fun H9 e9 => ?_
        have k9 := e9 _ _ (e8 _ _ (e7 _ _ (e6 _ _ k1)))
        have key : ∀ b o, H b = some o → b ≠ p → H9 b = some o := fun b o hb hbp => e9 _ _ (e8 _ _ (e7 _ _ (e6 _ _ (kp5 _ _ hb hbp))))
        exact k _ H9 (emod_bd _ _ hm0).1 (emod_bd _ _ hm0).2 ⟨n + 1, _, k9, key _ _ h2 hpl, by omega⟩ key
end
end K23
namespace K23
open PySem L2 Evl
section
variable {P : Program} {w : World} {K : PySem.W.Frag} {mg : Str → Option Value} {base : Heap}
/-! ### _law_pen -/
def spPen (K : PySem.W.Frag) : Sp := fun vs H Q _ => ∃ (a : Addr) (ns : List Int), vs = [.ref a] ∧ SqL K H a (ns.map V.int) ∧ ns.length ≤ 63 ∧
  ∀ p l H', H p = none → H l = none → Ex H H' → PenAt H' p l ns 0 → Q (.ref p) H'
theorem scPen : FnScope ["_law_script"] ["_law_script"] (defScope sPen) := ⟨rfl, rfl, rfl, by decide +kernel, rfl, by decide +kernel, by decide +kernel⟩
theorem cut63 (xs : List V) (h : xs.length ≤ 63) : cutV xs none (some 63) = xs := by
  have e1 : HT.sIx xs.length 0 none = 0 := rfl
  have e2 : HT.sIx xs.length xs.length (some 63) = min 63 xs.length := rfl
  unfold cutV
  rw [e1, e2, List.drop_zero, Nat.sub_zero, Nat.min_eq_right h, List.take_length]
theorem ok_pen {f : Addr} {fd : FuncData} (F : Fun K "_law_pen" "_law_pen" sPen f fd) (T : Glb mg) : FnOk P w K mg base CX0 1 f fd ["_law_script"] (spPen K) := by
  refine F.ok scPen (fun vs H Q E h => ?_) (fun cdv A outer s H vs Q E hr h => ?_)
  · obtain ⟨a, ns, rfl, _⟩ := h
    rfl
  · obtain ⟨a, ns, rfl, hS, hl, k⟩ := h
    refine ⟨_, pss_one (ps_ret (pe_lst (pa_cons (pe_callTy call_list_of (by rfl) T.list (by decide +kernel) (pa_cons (pe_slice sl_list (pv 0) po_none (po_some pe_int)) pa_nil)) (pa_cons pe_int (pa_cons pe_int pa_nil))))), ?_⟩
    have ev := el_sl (K := K) (σ := [some (V.ref a)]) (H := H) (tl := tNoPart) (th := tPart (tC (.int 63))) (ev_var (i := 0) rfl) eo_none (eo_some ev_c) hS
    rw [cut63 _ (by rw [List.length_map]; exact hl)] at ev
    refine ev H (Ex.refl H) _ fun q H1 hq e1 h1 => ?_
    refine ⟨q, _, rfl, .inl (sq_of h1), fun l hl1 => ?_⟩
    refine ⟨by show 3 ≤ sizeLine; decide, fun p hp => ?_⟩
    have hp1 : p ≠ l := fun z => by
      rw [z, upd_same] at hp
      cases hp
    have hpn : H1 p = none := by rw [upd_ne hp1] at hp; exact hp
    exact k p l _ (fresh_back e1 hpn) (fresh_back e1 hl1) ((e1.trans (Ex.new hl1)).trans (Ex.new hp)) ⟨0, 0, upd_same, by rw [upd_ne hp1.symm, upd_same], Nat.le_refl _⟩
/-! ### _law_pick -/
def spPick : Sp := fun vs H Q _ => ∃ (p l a : Addr) (cells : List Int) (m : Nat) (xs : List V), vs = [.ref p, .ref a] ∧ PenAt H p l cells m ∧ m ≤ 50000 ∧ cells.length ≤ 63 ∧ H a = some (.lst xs) ∧ a ≠ p ∧ 0 < xs.length ∧ xs.length ≤ 1000000 ∧
  ∀ (i : Nat) x H', xs[i]? = some x → PenAt H' p l cells (m + 1) → Keep p H H' → Q x H'
theorem scPick : FnScope ["_law_pen_here", "_law_some"] ["_law_pen_here", "_law_some"] (defScope sPick) := ⟨rfl, rfl, rfl, by decide +kernel, rfl, by decide +kernel, by decide +kernel⟩
theorem ok_pick {f fD : Addr} {fd fdD : FuncData} (F : Fun K "_law_pick" "_law_pick" sPick f fd) (T : Glb mg) (FD : Fun K "_law_draw" "_law_draw" sDraw fD fdD) (bD : Binds K fdD ["_law_pen_here", "_law_many"] []) (gD : mg "_law_draw" = some (.ref fD)) :
    FnOk P w K mg base CX0 2 f fd ["_law_pen_here", "_law_some"] spPick := by
  have GD : FnOk P w K mg base CX0 1 fD fdD ["_law_pen_here", "_law_many"] spDraw := ok_draw FD T
  refine F.ok scPick (fun vs H Q E h => ?_) (fun cdv A outer s H vs Q E hr h => ?_)
  · obtain ⟨p, l, a, cells, m, xs, rfl, _⟩ := h
    rfl
  · obtain ⟨p, l, a, cells, m, xs, rfl, hp, hm, h63, ha, hap, hx0, hx1, k⟩ := h
    refine ⟨_, pss_one (ps_ret (pe_ix ix_list (pv 1) (pe_call GD hr (by rfl) gD FD.kp bD .nil pass0 (pa_cons (pv 0) (pa_cons (pe_callB call_len_seq (by rfl) T.len PySem.boot_len (pa_cons (pv 1) pa_nil)) pa_nil))) (fun _ _ => rfl))), ?_⟩
    refine ⟨_, rfl, _, rfl, _, rfl, a, xs, rfl, .inl (sq_of ha), p, l, cells, m, (xs.length : Int), rfl, hp, hm, h63, by omega, by omega, fun d H' d0 d1 hp' kp => ?_⟩
    obtain ⟨i, rfl⟩ := Int.eq_ofNat_of_zero_le d0
    have hi : i < xs.length := by omega
    have ei : xs[i]? = some xs[i] := List.getElem?_eq_getElem hi
    exact ⟨a, xs, (i : Int), xs[i], rfl, rfl, sq_of (kp _ _ ha hap), atI_nat ei, k i _ H' ei hp' kp⟩
end
end K23
namespace L2
open PySem PySem.Spec PyProof.Rows
section
variable {X : Cx} {k : Nat} {f : Addr} {fd : FuncData} {ps ks : List Str} {sp : Sp} {x : Str} {p pos : Pos} {kws : List Keyword} {tk : TA} {g : List Value → List Value → List Value} {gV : List V → List V → List V}
/-- f(k = v, ..), keywords alone -/
theorem pe_callK0 (F : FnOk X.prog X.w X.K X.mg X.base CX0 k f fd ps sp) (hr : Room k X.A) (hg : Gl X x) (hm : X.mg x = some (.ref f)) (hk : PySem.W.keepIn X.K (.ref f) = true) (hb : KBn X.K fd ps 0 ks g gV) (hkw : PK X kws tk)
    (hall : (backToKw pos (keywordEach kws X.env)).all (·.1.isSome) = true := by rfl) (hks : (backToKw pos (keywordEach kws X.env)).filterMap (·.1) = ks := by rfl) (hdb : (x == ("__debug__" : Str)) = false := by decide)
    (hpl : ((backTo pos (starEach [] X.env)).any (·.1) || (backToKw pos (keywordEach kws X.env)).any (·.1.isNone)) = false := by rfl) :
    PE X (.Call (.Name x p) [] kws pos) (tCallN 0 ks.length sp gV E0 tNil tk) := by
  refine ⟨fun pins s σ H Q I h => ?_⟩
  refine wpAny_Call_Name_kw (ld_glob I hg hm ?_ hdb)
  refine PySem.W.callWith_KW0 (h₀ := X.base) I.ok.mod.kin hk hall ?_ hpl
  refine thn (hkw.run pos pins s σ H _ I h) fun ws s2 ⟨zs, H2, I2, rz, l1, l2, q2⟩ => ⟨I2.kIn, ?_⟩
  rw [hks]
  exact run_fnN (us := []) (vs := []) F hr hb pass0 I2 .nil rz rfl l2 q2
/-- how a def without defaults binds keywords alone -/
theorem Fun.kb {K : PySem.W.Frag} {x qual : Str} {st : Stmt} {f : Addr} {fd : FuncData} {ps ks : List Str} (F : Fun K x qual st f fd) (n : Nat) (g : {α : Type} → List α → List α → List α)
    (hrel : ∀ {vs zs : List V} {us ws : List Value}, Vals vs us → Vals zs ws → Vals (g vs zs) (g us ws))
    (h : ∀ (kV doc pm : Value) (an : Option Addr) (cdv ct : Value) (us ws : List Value), us.length = n → ws.length = ks.length → bindArgs (PySem.W.fnOf x qual (defArgs st) (defBody st) (defScope st) .none kV doc pm an cdv ct) ⟨us, ks.zip ws⟩ = pure (ps.zip (g us ws))) :
    KBn K fd ps n ks (fun us ws => g us ws) (fun vs zs => g vs zs) := by
  obtain ⟨oc, od, kV, doc, pm, an, cdv, ct, osl, rfl, lk, hcd⟩ := F.ex
  exact ⟨fun s us ws _ l1 l2 => .of_eq (h kV doc pm an cdv ct us ws l1 l2), fun r1 r2 => hrel r1 r2⟩
end
end L2
namespace K23
open PySem L2 Evl
abbrev sIsInt : Stmt := top 3
abbrev sWithin : Stmt := top 4
structure GlbT (mg : Str → Option Value) : Prop where
  inst : mg "isinstance" = none
  int : mg "int" = none
  bool : mg "bool" = none
  str : mg "str" = none
  len : mg "len" = none
theorem tyx_mono {K : PySem.W.Frag} {H H' : Hp} {x : V} {t : Value} (e : Ex H H') (h : TyX K H x t) : TyX K H' x t := by
  cases h with
  | base b =>
    refine .base ?_
    cases b with
    | non => exact .non
    | bl b => exact .bl b
    | int i => exact .int i
    | str x => exact .str x
    | flt x => exact .flt x
    | lst q => exact .lst (e _ _ q)
    | frz q => exact .frz (e _ _ q)
    | tup q => exact .tup (e _ _ q)
    | dK q => exact .dK (e _ _ q)
    | dT q => exact .dT (e _ _ q)
    | ins q a b c d f => exact .ins (e _ _ q) a b c d f
  | byt b => exact .byt b
  | set q => exact .set (e _ _ q)
  | kList q c => exact .kList q c
  | kTuple q c => exact .kTuple q c
  | kDict q c => exact .kDict q c
  | fTuple q => exact .fTuple (e _ _ q)
  | fDict q => exact .fDict (e _ _ q)
theorem rc_isi {K : PySem.W.Frag} {H : Hp} {x : V} {a b : String} {r : Bool} (h : TyX K H x (.type a)) (hk : kitB a b = some r) : RC (rIsi K) [x, .ty b] H (.bl r) := fun H1 e _ q => ⟨x, .ty b, .type a, .type b, r, rfl, .ty b, tyx_mono e h, kit_ty hk, q H1 (Ex.refl H1)⟩
section
variable {P : Program} {w : World} {K : PySem.W.Frag} {mg : Str → Option Value} {base : Heap}
/-! ### is_integer -/
def spIsInt (K : PySem.W.Frag) : Sp := fun vs H Q _ => ∃ (x : V) (T : String) (a b : Bool), vs = [x] ∧ TyX K H x (.type T) ∧ kitB T "int" = some a ∧ kitB T "bool" = some b ∧ RetV (.bl (a && !b)) H Q
theorem scIsInt : FnScope ["value"] ["value"] (defScope sIsInt) := ⟨rfl, rfl, rfl, by decide +kernel, rfl, by decide +kernel, by decide +kernel⟩
theorem ok_isInt {f : Addr} {fd : FuncData} (F : Fun K "is_integer" "is_integer" sIsInt f fd) (T : GlbT mg) : FnOk P w K mg base CX0 1 f fd ["value"] (spIsInt K) := by
  refine F.ok scIsInt (fun vs H Q E h => ?_) (fun cdv A outer s H vs Q E hr h => ?_)
  · obtain ⟨x, t, a, b, rfl, _⟩ := h
    rfl
  · obtain ⟨x, t, a, b, rfl, ht, ha, hb, k⟩ := h
    refine ⟨_, pss_one (ps_ret (pe_and (pe_callB call_isi (by rfl) T.inst (by decide +kernel) (pa_cons (pv 0) (pa_cons (pe_bltn (v := .ty "int") (by rfl) T.int (by decide +kernel) rfl) pa_nil)))
      (pe_one (pe_not (pe_callB call_isi (by rfl) T.inst (by decide +kernel) (pa_cons (pv 0) (pa_cons (pe_bltn (v := .ty "bool") (by rfl) T.bool (by decide +kernel) rfl) pa_nil))))))), ?_⟩
    exact s_ret (ev_andV (ev_cb (ea_cons (ev_var rfl) (ea_cons ev_c ea_nil)) (rc_isi ht ha)) fun _ => ev_notV (ev_cb (ea_cons (ev_var rfl) (ea_cons ev_c ea_nil)) (rc_isi ht hb))) k
/-! ### is_within -/
def spWithin (K : PySem.W.Frag) : Sp := fun vs H Q _ => (∃ i lo hi : Int, vs = [.int i, .int lo, .int hi] ∧ RetV (.bl (decide (lo ≤ i) && decide (i ≤ hi))) H Q) ∨
  ∃ (x y z : V) (T : String) (a b : Bool), vs = [x, y, z] ∧ TyX K H x (.type T) ∧ kitB T "int" = some a ∧ kitB T "bool" = some b ∧ (a && !b) = false ∧ RetV (.bl false) H Q
theorem scWithin : FnScope ["value", "least", "most"] ["value", "least", "most"] (defScope sWithin) := ⟨rfl, rfl, rfl, by decide +kernel, rfl, by decide +kernel, by decide +kernel⟩
theorem spv_isInt {H : Hp} {x : V} {t : String} {a b : Bool} (ht : TyX K H x (.type t)) (ha : kitB t "int" = some a) (hb : kitB t "bool" = some b) : SpV (spIsInt K) [x] H (.bl (a && !b)) := fun H1 e Q q E => ⟨x, t, a, b, rfl, tyx_mono e ht, ha, hb, q⟩
theorem kit_int_int : kitB "int" "int" = some true := by decide +kernel
theorem kit_int_bool : kitB "int" "bool" = some false := by decide +kernel
theorem ev_chain {σ : L2.St} {H : Hp} {ta tb tc : TE} {i j l : Int} {f g : Int → Int → Bool} (ha : Ev ta σ H (.int i)) (hb : Ev tb σ H (.int j)) (hc : Ev tc σ H (.int l)) :
    Ev (tChain (rI0 fun i j => .bl (f i j)) (rI0 fun i j => .bl (g i j)) ta tb tc) σ H (.bl (f i j && g j l)) := fun H1 e Q q =>
  ha H1 e _ fun H2 e2 => hb H2 (e.trans e2) _ fun H3 e3 => ⟨i, j, rfl, rfl, f i j, rfl, by
    cases h : f i j with
    | true =>
      simp only [h, Bool.true_and] at q
      exact hc H3 ((e.trans e2).trans e3) _ fun H4 e4 => ⟨j, l, rfl, rfl, q H4 ((e2.trans e3).trans e4)⟩
    | false =>
      simp only [h, Bool.false_and] at q
      exact q H3 (e2.trans e3)⟩
theorem ok_within {f fI : Addr} {fd fdI : FuncData} (F : Fun K "is_within" "is_within" sWithin f fd) (T : GlbT mg) (FI : Fun K "is_integer" "is_integer" sIsInt fI fdI) (bI : Binds K fdI ["value"] []) (gI : mg "is_integer" = some (.ref fI)) :
    FnOk P w K mg base CX0 2 f fd ["value", "least", "most"] (spWithin K) := by
  have GI : FnOk P w K mg base CX0 1 fI fdI ["value"] (spIsInt K) := ok_isInt FI T
  refine F.ok scWithin (fun vs H Q E h => ?_) (fun cdv A outer s H vs Q E hr h => ?_)
  · rcases h with ⟨i, lo, hi, rfl, _⟩ | ⟨x, y, z, t, a, b, rfl, _⟩ <;> rfl
  · have body : ∀ {x y z : V}, vs = [x, y, z] → ∀ {r : Bool}, Ev (tAndV (tCall (spIsInt K) [] E0 (tCons (tVar 0) tNil)) (tChain (rI0 fun i j => .bl (decide (i ≤ j))) (rI0 fun i j => .bl (decide (i ≤ j))) (tVar 1) (tVar 0) (tVar 2))) [some x, some y, some z] H (.bl r) → RetV (.bl r) H Q →
        ∃ t, PSs (cxOf CX0 P w K mg base ["value", "least", "most"] "is_within" (defScope sWithin) f cdv A outer s H E).nox (defBody sWithin) t ∧ t { nx := fun _ H' => Q .non H', rt := Q } (start ["value", "least", "most"] vs) H := by
      rintro x y z rfl r ev k
      exact ⟨_, pss_one (ps_ret (pe_and (pe_call GI hr (by rfl) gI FI.kp bI .nil pass0 (pa_cons (pv 0) pa_nil)) (pe_one (pe_chain op_le op_le (pv 1) (pv 0) (pv 2))))), s_ret ev k⟩
    rcases h with ⟨i, lo, hi, rfl, k⟩ | ⟨x, y, z, t, a, b, rfl, ht, ha, hb, hn, k⟩
    · refine body rfl (ev_andV (a := true) (ev_call (z := .bl true) (ea_cons (ev_var rfl) ea_nil) (spv_isInt (.base (.int i)) kit_int_int kit_int_bool)) fun _ => ev_chain (ev_var rfl) (ev_var rfl) (ev_var rfl)) k
    · refine body rfl (r := false) (ev_andV (a := false) (b := false) (ev_call (ea_cons (ev_var rfl) ea_nil) (by have q := spv_isInt ht ha hb; rw [hn] at q; exact q)) fun z => absurd z (by decide)) k
end
end K23
namespace L2
open PySem PySem.Spec PyProof.Rows
section
variable {X : Cx}
def tNo : TS := fun _ _ _ => False
theorem ps_no {st : Stmt} : PS X st tNo := ⟨fun _ _ _ _ _ _ h => h.elim⟩
end
theorem PI.or {X : Cx} {tg e : Expr} {w1 w2 : TI} (h1 : PI X tg e w1) (h2 : PI X tg e w2) : PI X tg e (fun σ H R => w1 σ H R ∨ w2 σ H R) := ⟨fun pins s σ H R I h => h.elim (h1.run pins s σ H R I) (h2.run pins s σ H R I)⟩
end L2
namespace K23
open PySem L2 Evl Gr
def Sq (K : PySem.W.Frag) (H : Hp) (a : Addr) (xs : List V) : Prop := SqL K H a xs ∨ SqT K H a xs
theorem Sq.mono {K : PySem.W.Frag} {H H' : Hp} {a : Addr} {xs : List V} (e : Ex H H') (h : Sq K H a xs) : Sq K H' a xs := h.elim (fun h => .inl (ex_l e h)) fun h => .inr (ex_t e h)
def vI (g : List Int) : List V := g.map V.int
theorem vI_len {g : List Int} : (vI g).length = g.length := List.length_map _
theorem vI_get {g : List Int} {i : Nat} (h : i < g.length) : (vI g)[i]? = some (V.int (at' g i)) := by
  unfold vI at'
  rw [List.getElem?_map, List.getD_eq_getElem?_getD, List.getElem?_eq_getElem h]
  rfl
theorem rv_ix {K : PySem.W.Frag} {H : Hp} {p : Addr} {xs : List V} {i : Int} {v : V} (h : Sq K H p xs) (ha : atI xs i = some v) : RV (rIx K) (.ref p) (.int i) H v := fun H1 e Q q => by
  rcases h with h | h
  · exact .inl ⟨p, xs, i, v, rfl, rfl, ex_l e h, ha, q H1 (Ex.refl H1)⟩
  · exact .inr (.inl ⟨p, xs, i, v, rfl, rfl, ex_t e h, ha, q H1 (Ex.refl H1)⟩)
theorem rc_lenQ {K : PySem.W.Frag} {p : Addr} {xs : List V} {H : Hp} (h : Sq K H p xs) : RC (fun xs H Q => ∃ p ys, xs = [V.ref p] ∧ (SqL K H p ys ∨ SqT K H p ys) ∧ Q (.int ys.length) H) [.ref p] H (.int (xs.length : Int)) := fun H1 e _ q => ⟨p, xs, rfl, h.mono e, q H1 (Ex.refl H1)⟩
theorem st_asI {K : PySem.W.Frag} {H : Hp} {a : Addr} {g : List Int} (h : H a = some (.lst (vI g))) : Sq K H a (vI g) := .inl (sq_of h)
theorem atI_vI {g : List Int} {i : Nat} (h : i < g.length) : atI (vI g) (i : Int) = some (V.int (at' g i)) := atI_nat (vI_get h)
theorem atI_vlast {g : List Int} (h : 0 < g.length) : atI (vI g) (-1) = some (V.int (at' g (g.length - 1))) := by
  have e : ixN (vI g).length (-1) = some (g.length - 1) := by
    unfold ixN
    rw [vI_len, if_neg (by decide), if_pos (by omega)]
    congr 1
    omega
  unfold atI
  rw [e]
  exact vI_get (by omega)
theorem vI_app {g : List Int} {x : Int} : vI g ++ [V.int x] = vI (g ++ [x]) := by unfold vI; rw [List.map_append]; rfl
theorem vint_inj {x y : Int} : decide (V.int x = V.int y) = decide (x = y) := by
  by_cases h : x = y
  · rw [decide_eq_true h, decide_eq_true (congrArg V.int h)]
  · rw [decide_eq_false h, decide_eq_false fun z => h (V.int.inj z)]
structure GlbS (mg : Str → Option Value) : Prop where
  len : mg "len" = none
  range : mg "range" = none
  tuple : mg "tuple" = none
  list : mg "list" = none
def EvTu (K : PySem.W.Frag) (te : TE) (σ : L2.St) (H : Hp) (xs : List V) : Prop := ∀ H1, Ex H H1 → ∀ Q : VK, (∀ p H2, Ex H1 H2 → SqT K H2 p xs → Q (.ref p) H2) → te σ H1 Q
def rSlQ (K : PySem.W.Frag) : V → Option Int → Option Int → Hp → VK → Prop := fun x lo hi H Q => rSlL K x lo hi H Q ∨ rSlA K x lo hi H Q
theorem sl_seq {X : Cx} : SlR X (rSlQ X.K) := sl_list.or sl_tupA
section
variable {K : PySem.W.Frag} {σ : L2.St} {H : Hp} {te ta tb : TE} {tl th : TO} {a : Addr} {xs ys : List V} {lo hi : Option Int}
theorem cutV_all {n : Nat} (h1 : HT.sIx xs.length 0 lo = 0) (h2 : HT.sIx xs.length xs.length hi = xs.length) : cutV xs lo hi = xs := by
  unfold cutV
  rw [h1, h2, List.drop_zero, Nat.sub_zero, List.take_length]
theorem etu_cut (h : Ev te σ H (.ref a)) (h1 : EvO tl σ H lo) (h2 : EvO th σ H hi) (hs : SqT K H a xs) : EvTu K (tSl (rSlA K) te tl th) σ H (cutV xs lo hi) := fun H1 e Q q =>
  h H1 e _ fun H2 e2 => h1 H2 (e.trans e2) _ fun H3 e3 => h2 H3 ((e.trans e2).trans e3) _ fun H4 e4 =>
    ⟨a, xs, rfl, ex_t (((e.trans e2).trans e3).trans e4) hs, fun z => q a H4 ((e2.trans e3).trans e4) (by rw [cutV_all (n := 0) z.1 z.2]; exact ex_t (((e.trans e2).trans e3).trans e4) hs),
      fun _ p hp => q p _ (((e2.trans e3).trans e4).trans (Ex.new hp)) (st_of upd_same)⟩
theorem etu_cat (h1 : EvTu K ta σ H xs) (h2 : EvTu K tb σ H ys) (hz : xs.length + ys.length ≤ 100000) : EvTu K (tOp (rCatA K) ta tb) σ H (xs ++ ys) := fun H1 e Q q =>
  h1 H1 e _ fun p H2 e2 hp => h2 H2 (e.trans e2) _ fun r H3 e3 hr =>
    ⟨p, r, xs, ys, rfl, rfl, ex_t e3 hp, hr, sz_of hz, fun z => q r H3 (e2.trans e3) (by rw [z]; exact hr), fun _ z => q p H3 (e2.trans e3) (by rw [z, List.append_nil]; exact ex_t e3 hp),
      fun _ _ b hb => q b _ ((e2.trans e3).trans (Ex.new hb)) (st_of upd_same)⟩
theorem etu_of (h : Ev te σ H (.ref a)) (h1 : EvO tl σ H lo) (h2 : EvO th σ H hi) (hs : Sq K H a xs) : EvTu K (tThen (tSl (rSlQ K) te tl th) (kTup K)) σ H (cutV xs lo hi) := fun H1 e Q q =>
  h H1 e _ fun H2 e2 => h1 H2 (e.trans e2) _ fun H3 e3 => h2 H3 ((e.trans e2).trans e3) _ fun H4 e4 => by
    have E := ((e.trans e2).trans e3).trans e4
    have E1 := (e2.trans e3).trans e4
    rcases hs.mono E with z | z
    · exact .inl ⟨a, xs, rfl, z, fun p hp => .inl ⟨p, _, rfl, sq_of upd_same, fun r hr => q r _ ((E1.trans (Ex.new hp)).trans (Ex.new hr)) (st_of upd_same)⟩⟩
    · exact .inr ⟨a, xs, rfl, z, fun c => .inr ⟨a, _, rfl, z, q a H4 E1 (by rw [cutV_all (n := 0) c.1 c.2]; exact z)⟩, fun _ p hp => .inr ⟨p, _, rfl, st_of upd_same, q p _ (E1.trans (Ex.new hp)) (st_of upd_same)⟩⟩
theorem q_asgT {i : Nat} {tz : TS} {D : Ends} (h : EvTu K te σ H xs) (k : ∀ p H1, Ex H H1 → SqT K H1 p xs → tz D (σ.set i (some (.ref p))) H1) : tSeq (tAsg te (gName i)) tz D σ H := h H (Ex.refl H) _ fun p H1 e s => k p H1 e s
end
theorem cut_take {g : List Int} {n : Nat} (h : n ≤ g.length) : cutV (vI g) none (some (n : Int)) = vI (g.take n) := by
  unfold cutV vI
  rw [show HT.sIx (g.map V.int).length 0 none = 0 from rfl, HT.sIx_nat, List.drop_zero, Nat.sub_zero, List.length_map, Nat.min_eq_left h, List.map_take]
theorem cut_drop {g : List Int} {n : Nat} (h : n ≤ g.length) : cutV (vI g) (some (n : Int)) none = vI (g.drop n) := by
  unfold cutV vI
  rw [HT.sIx_none, HT.sIx_nat, List.length_map, Nat.min_eq_left h, List.take_of_length_le (by rw [List.length_drop, List.length_map]; exact Nat.le_refl _), List.map_drop]
theorem ev_fld {K : PySem.W.Frag} {σ : L2.St} {H : Hp} {ta : TE} {o C dx : Addr} {fs : List (Str × V)} {v : V} {f : Str} (ha : Ev ta σ H (.ref o)) (ho : H o = some (.ins C dx fs)) (c : Cls K C) (n : NoAttr K C f) (hf : fs.lookup f = some v) :
    Ev (tFld K ta f) σ H v := fun H1 e Q q => ha H1 e _ fun H2 e2 => ⟨o, C, dx, fs, v, rfl, e2 _ _ (e _ _ ho), c, n, hf, q H2 e2⟩
section
variable {K : PySem.W.Frag} {σ : L2.St} {H H' : Hp} {te ta tb tl : TE} {t : TT} {xs : List V} {p l : Addr} {cells : List Int} {m : Nat} {i : Nat} {D : Ends}
theorem el_ofT (h : EvTu K te σ H xs) : EvL (tCB (rListS K) (tCons te tNil)) σ H xs := fun H1 e Q q =>
  h H1 e _ fun p H2 e2 hp => ⟨p, xs, rfl, .inr hp, fun l hl => q l _ (fresh_back e2 hl) (e2.trans (Ex.new hl)) upd_same⟩
theorem el_lcR2 {ta : TA} {j : Nat} {vs : List Nat} {lo n : Int} (f : Nat → Bool) (v : Nat → V) (h : EvA ta σ H [.int lo, .int n]) (hn : 0 ≤ lo ∧ lo ≤ n ∧ n ≤ 40000) (hw : ∀ x, wipe ((wipe σ vs).set j (some x)) vs = wipe σ vs)
    (ht : ∀ (i : Nat) H1, Ex H H1 → lo + (i : Int) < n → EvT t ((wipe σ vs).set j (some (.int (lo + (i : Int))))) H1 (f i)) (he : ∀ (i : Nat) H1, Ex H H1 → lo + (i : Int) < n → f i = true → Ev te ((wipe σ vs).set j (some (.int (lo + (i : Int))))) H1 (v i)) :
    EvL (tLc (iRng2 ta) (gName j) t te vs) σ H (given (n - lo).toNat f v) := fun H0 e Q q => h H0 e _ fun H1 e1 => ⟨lo, n, rfl, ⟨by omega, by omega, by omega, by omega⟩, fun Dl hD =>
  lc_range (lo := lo) (n := (n - lo).toNat) (Cw H1 f v Dl) ⟨hD, Ex.new hD, upd_same⟩ (fun i H' hi p =>
    ⟨hw _, cw_turn p (by omega) (ht i H1 (e.trans e1) (by omega)) (fun hf => he i H1 (e.trans e1) (by omega) hf)⟩) (fun H' p => q Dl H' (fresh_back e1 p.1) (e1.trans p.2.1) p.2.2)⟩
theorem given_all {n : Nat} {v : Nat → V} : given n (fun _ => true) v = (List.range n).map v := by
  unfold given
  rw [List.filter_eq_self.mpr fun _ _ => rfl]
theorem et_none : EvT (fun σ H Q => Q true H) σ H true := fun H1 _ _ q => q H1 (Ex.refl H1)
def iQ (K : PySem.W.Frag) (tl : TE) : TI := fun σ H R => iList K tl σ H R ∨ iTup K tl σ H R
theorem pi_seq {X : Cx} {tg e : Expr} {tl : TE} (h : PE X e tl) : PI X tg e (iQ X.K tl) := (pi_list h).or (pi_tup h)
theorem el_lcQ {a : Addr} {xs : List V} {tl : TE} {j : Nat} {vs : List Nat} (v : Nat → V) (h : Ev tl σ H (.ref a)) (hx : Sq K H a xs) (hz : xs.length ≤ 40000) (hw : ∀ x, wipe ((wipe σ vs).set j (some x)) vs = wipe σ vs)
    (he : ∀ (i : Nat) (x : V) H1, Ex H H1 → xs[i]? = some x → Ev te ((wipe σ vs).set j (some x)) H1 (v i)) : EvL (tLc (iQ K tl) (gName j) tYes te vs) σ H ((List.range xs.length).map v) := fun H0 e Q q => by
  rcases hx with hx | hx
  · exact .inl (h H0 e _ fun H1 e1 => ⟨a, rfl, ⟨xs, ex_l (e.trans e1) hx⟩, fun Dl hD => lc_it (n := xs.length) (walk_list (xs := xs)) (Cw H1 (fun _ => true) v Dl) ⟨hD, Ex.new hD, upd_same⟩ (fun _ H' _ p => ex_l ((e.trans e1).trans p.2.1) hx)
      (fun k x H' H'' hk p y => by
        obtain ⟨rfl, hx'⟩ := y
        exact ⟨hw _, cw_turn p (by omega) et_none (fun _ => he k x H1 (e.trans e1) hx')⟩)
      (fun H' p => q Dl H' (fresh_back e1 p.1) (e1.trans p.2.1) (by rw [← given_all]; exact p.2.2))⟩)
  · exact .inr (h H0 e _ fun H1 e1 => ⟨a, rfl, ⟨xs, ex_t (e.trans e1) hx⟩, fun Dl hD => lc_it (n := xs.length) (walk_tup (xs := xs)) (Cw H1 (fun _ => true) v Dl) ⟨hD, Ex.new hD, upd_same⟩ (fun _ H' _ p => ex_t ((e.trans e1).trans p.2.1) hx)
      (fun k x H' H'' hk p y => by
        obtain ⟨rfl, hx'⟩ := y
        exact ⟨hw _, cw_turn p (by omega) et_none (fun _ => he k x H1 (e.trans e1) hx')⟩)
      (fun H' p => q Dl H' (fresh_back e1 p.1) (e1.trans p.2.1) (by rw [← given_all]; exact p.2.2))⟩)
theorem sq_ty {a : Addr} {xs : List V} (h : Sq K H a xs) : ∃ T : String, TyX K H (.ref a) (.type T) ∧ (T = "list" ∨ T = "tuple") := by
  rcases h with (h | h) | (h | h)
  · rcases h with h | ⟨o, h⟩
    · exact ⟨"list", .base (.lst h), .inl rfl⟩
    · exact ⟨"list", .base (.frz h), .inl rfl⟩
  · obtain ⟨o, its, n, lk, hc, _⟩ := h
    exact ⟨"list", .kList lk hc, .inl rfl⟩
  · rcases h with h | ⟨o, h⟩
    · exact ⟨"tuple", .base (.tup h), .inr rfl⟩
    · exact ⟨"tuple", .fTuple h, .inr rfl⟩
  · obtain ⟨o, its, n, lk, hc, _⟩ := h
    exact ⟨"tuple", .kTuple lk hc, .inr rfl⟩
theorem sqT_upd {K : PySem.W.Frag} {H : Hp} {o p C dx : Addr} {fs : List (Str × V)} {u : HO} {xs : List V} (h : SqT K H p xs) (ho : H o = some (.ins C dx fs)) : SqT K (upd H o u) p xs := by
  rcases h with (h | ⟨o', h⟩) | h
  · exact .inl (.inl (by rw [upd_ne (fun z => by rw [z, ho] at h; cases h)]; exact h))
  · exact .inl (.inr ⟨o', by rw [upd_ne (fun z => by rw [z, ho] at h; cases h)]; exact h⟩)
  · exact .inr h
theorem eqv_ints : ∀ xs ys : List Int, PyData.eqvAll (xs.map PyData.int) (ys.map PyData.int) = decide (xs = ys)
  | [], [] => by simp [PyData.eqvAll]
  | [], y :: ys => by simp [PyData.eqvAll]
  | x :: xs, [] => by simp [PyData.eqvAll]
  | x :: xs, y :: ys => by
    have ih := eqv_ints xs ys
    simp only [List.map_cons, PyData.eqvAll, PyData.eqv, ih]
    by_cases h : x = y <;> by_cases h2 : xs = ys <;> simp [h, h2]
theorem shaped_tup (ns : List Int) : SeqAt.shaped (.tuple (ns.map PyData.int)) = true := by
  unfold SeqAt.shaped
  simp [PyData.canLay0, canLay_ints, PyData.depth, depth_ints]
theorem ev_eqT {p q : Addr} {xs ys : List Int} (ha : Ev ta σ H (.ref p)) (hb : Ev tb σ H (.ref q)) (hp : SqT K H p (vI xs)) (hq : SqT K H q (vI ys)) : Ev (tOp (rEqD K) ta tb) σ H (.bl (decide (xs = ys))) :=
  ev_op ha hb fun H1 e Q q' => ⟨.tuple (xs.map PyData.int), .tuple (ys.map PyData.int), .tup (ex_t e hp) (dpAll_ints xs), .tup (ex_t e hq) (dpAll_ints ys), shaped_tup xs, shaped_tup ys, by
    have e2 : PyData.eqv (.tuple (xs.map PyData.int)) (.tuple (ys.map PyData.int)) = decide (xs = ys) := by
      rw [← eqv_ints]
      simp [PyData.eqv]
    rw [e2]
    exact q' H1 (Ex.refl H1)⟩
def EvW (p l : Addr) (cells : List Int) (n : Nat) (te : TE) (σ : L2.St) (H : Hp) (R : V → Prop) : Prop := ∀ m H1, Keep p H H1 → PenAt H1 p l cells m → m + n ≤ 50000 → ∀ Q : VK, (∀ v H2, R v → PenAt H2 p l cells (m + n) → Keep p H1 H2 → Q v H2) → te σ H1 Q
theorem w_draw {i : Nat} {tb : TE} {many : Int} (hi : σ[i]? = some (some (.ref p))) (hb : ∀ H1, Keep p H H1 → Ev tb σ H1 (.int many)) (h0 : 0 < many) (h1 : many ≤ 1000000000) (h63 : cells.length ≤ 63) :
    EvW p l cells 1 (tCall spDraw [] E0 (tCons (tVar i) (tCons tb tNil))) σ H (fun v => ∃ d : Nat, v = .int (d : Int) ∧ (d : Int) < many) := fun m H1 kp hP hm Q q =>
  ⟨_, hi, hb H1 kp H1 (Ex.refl H1) _ fun H2 e2 => ⟨p, l, cells, m, many, rfl, hP.mono e2 (Nat.le_refl m), by omega, h63, h0, h1, fun d H3 d0 d1 hP3 k3 => by
    obtain ⟨n, rfl⟩ := Int.eq_ofNat_of_zero_le d0
    exact q _ H3 ⟨n, rfl, d1⟩ hP3 ((Keep.of_ex e2).trans k3)⟩⟩
theorem PenAt.upd' {H : Hp} {p l a : Addr} {cells : List Int} {m : Nat} {o : HO} (h : PenAt H p l cells m) (h1 : a ≠ p) (h2 : a ≠ l) : PenAt (upd H a o) p l cells m := by
  obtain ⟨k, r, q1, q2, q3⟩ := h
  exact ⟨k, r, by rw [upd_ne h1.symm]; exact q1, by rw [upd_ne h2.symm]; exact q2, q3⟩
theorem PenAt.le {H : Hp} {p l : Addr} {cells : List Int} {m n : Nat} (h : PenAt H p l cells m) (hm : m ≤ n) : PenAt H p l cells n := h.mono (Ex.refl H) hm
theorem Keep.mut {p a : Addr} {H H' : Hp} {o : HO} (h : Keep p H H') (ha : H a = none) : Keep p H (L2.upd H' a o) := fun b u hb hn => by
  have : b ≠ a := fun z => by rw [z, ha] at hb; cases hb
  rw [upd_ne this]
  exact h b u hb hn
theorem q_asgR {σ : L2.St} {H : Hp} {te : TE} {i : Nat} {tz : TS} {D : Ends} (h : te σ H fun x H1 => tz D (σ.set i (some x)) H1) : tSeq (tAsg te (gName i)) tz D σ H := h
theorem q_call {σ : L2.St} {H : Hp} {sp : Sp} {dvs vs : List V} {E : XK} {ta : TA} {i : Nat} {tz : TS} {D : Ends} (h : EvA ta σ H vs) (k : ∀ H1, Ex H H1 → sp (vs ++ dvs) H1 (fun v H2 => tz D (σ.set i (some v)) H2) E) :
    tSeq (tAsg (tCall sp dvs E ta) (gName i)) tz D σ H := h H (Ex.refl H) _ k
theorem lst_i {t : TA} {Q : VK} {σ : L2.St} {H : Hp} (h : t σ H fun xs H1 => xs.length ≤ sizeLine ∧ ∀ l, H1 l = none → Q (.ref l) (upd H1 l (.lst xs))) : tLst t σ H Q := h
theorem cons_i {te : TE} {tr : TA} {σ : L2.St} {H : Hp} {Q : List V → Hp → Prop} (h : te σ H fun x H1 => tr σ H1 fun xs H2 => Q (x :: xs) H2) : tCons te tr σ H Q := h
theorem op_i {r : R2} {ta tb : TE} {σ : L2.St} {H : Hp} {Q : VK} (h : ta σ H fun x H1 => tb σ H1 fun y H2 => r x y H2 Q) : tOp r ta tb σ H Q := h
theorem fnR0 {P : Program} {w : World} {K : PySem.W.Frag} {mg : Str → Option Value} {base : Heap} {CX : CXT} {k : Nat} {f : Addr} {fd : FuncData} {ps : List Str} {sp : Sp} (F : FnOk P w K mg base CX k f fd ps sp) (b : Binds K fd ps []) : FnR P w K mg base CX k f sp :=
  (F.raw b .nil).imp fun vs H Q E h => by rw [List.append_nil]; exact h
theorem c_i {x : V} {Q : VK} (h : Q x H) : tC x σ H Q := h
theorem q_par {ta : TA} {i j : Nat} {tz : TS} {D : Ends} (h : ta σ H fun vs H1 => ∃ u v, vs = [u, v] ∧ tz D ((σ.set i (some u)).set j (some v)) H1) : tSeq (tPar i j ta) tz D σ H := h
theorem etu_tuple {K : PySem.W.Frag} {te : TE} {xs : List V} (h : EvL te σ H xs) : EvTu K (tThen te (kTup K)) σ H xs := fun H1 e Q q =>
  h H1 e _ fun p H2 _ e2 h2 => .inl ⟨p, xs, rfl, sq_of h2, fun r hr => q r _ (e2.trans (Ex.new hr)) (st_of upd_same)⟩
def Gfn (P : Program) (w : World) (K : PySem.W.Frag) (mg : Str → Option Value) (base : Heap) (k : Nat) (name : Str) (ps : List Str) (sp : Sp) : Prop :=
  ∃ f fd, FnOk P w K mg base CX0 k f fd ps sp ∧ PySem.W.keepIn K (.ref f) = true ∧ Binds K fd ps [] ∧ mg name = some (.ref f)
theorem sqt_keep {q : Addr} {xs : List V} (hP : PenAt H p l cells m) (kp : Keep p H H') (h : SqT K H q xs) : SqT K H' q xs := by
  obtain ⟨_, _, hp, _⟩ := hP
  rcases h with (h | ⟨o, h⟩) | h
  · exact .inl (.inl (kp _ _ h fun z => by rw [z, hp] at h; cases h))
  · exact .inl (.inr ⟨o, kp _ _ h fun z => by rw [z, hp] at h; cases h⟩)
  · exact .inr h
theorem sql_keep {q : Addr} {xs : List Int} (hP : PenAt H p l cells m) (kp : Keep p H H') (h : SqL K H q (vI xs)) : SqL K H' q (vI xs) := by
  obtain ⟨_, _, hp, _⟩ := hP
  have no : ∀ {k r : Int}, ¬ [V.ref l, V.int k, V.int r] = vI xs := fun e => by
    cases xs with
    | nil => cases e
    | cons x xs => cases e
  rcases h with (h | ⟨o, h⟩) | h
  · exact .inl (.inl (kp _ _ h fun z => by rw [z, hp] at h; exact no (HO.lst.inj (Option.some.inj h))))
  · exact .inl (.inr ⟨o, kp _ _ h fun z => by rw [z, hp] at h; cases h⟩)
  · exact .inr h
theorem yes_i {σ : L2.St} {H : Hp} {A B : Hp → Prop} (h : A H) : tYes σ H (fun b H3 => if b = true then A H3 else B H3) := iteT (A := A H) (B := B H) h
theorem given_none {n : Nat} {v : Nat → V} : given n (fun _ => false) v = vI [] := by
  unfold given
  have f : ∀ l : List Nat, l.filter (fun _ => false) = [] := fun l => by induction l with | nil => rfl | cons a l ih => exact ih
  rw [f]
  rfl
theorem el_noneN {t : TT} {j : Nat} {xs : List V} (hl : EvL tl σ H xs) (h4 : xs.length ≤ 40000) (hw : ∀ x, wipe ((wipe σ [j]).set j (some x)) [j] = wipe σ [j])
    (ht : ∀ (i : Nat) (x : V) H1, Ex H H1 → xs[i]? = some x → EvT t ((wipe σ [j]).set j (some x)) H1 false) : EvL (tLc (iList K tl) (gName j) t (tVar j) [j]) σ H (vI []) := by
  have c := el_lcNL (K := K) (σ := σ) (H := H) (t := t) (te := tVar j) (j := j) (vs := [j]) (fun _ => false) (fun _ => V.non) hl h4 hw ht (fun i x H1 e hi hf => by cases hf)
  rw [given_none] at c
  exact c
theorem el_nil : EvL (tLst tNil) σ H (vI []) := el_lst ea_nil (by decide)
theorem eqv_lists (xs ys : List Int) : PyData.eqv (.list (xs.map PyData.int)) (.list (ys.map PyData.int)) = decide (xs = ys) := by
  have := eqv_ints xs ys
  simpa [PyData.eqv] using this
theorem ev_eqL {xs ys : List Int} (ha : EvL ta σ H (vI xs)) (hb : EvL tb σ H (vI ys)) : Ev (tOp (rEqD K) ta tb) σ H (.bl (decide (xs = ys))) := fun H1 e Q q =>
  ha H1 e _ fun p H2 _ e2 hp => hb H2 (e.trans e2) _ fun r H3 _ e3 hr => ⟨.list (xs.map PyData.int), .list (ys.map PyData.int), .lst (sq_of (e3 _ _ hp)) (dpAll_ints xs), .lst (sq_of hr) (dpAll_ints ys), shaped_ints xs, shaped_ints ys, by rw [eqv_lists]; exact q H3 (e2.trans e3)⟩
theorem eqv_tups (xs ys : List Int) : PyData.eqv (.tuple (xs.map PyData.int)) (.tuple (ys.map PyData.int)) = decide (xs = ys) := by
  have := eqv_ints xs ys
  simpa [PyData.eqv] using this
theorem ev_neTu {xs ys : List Int} (ha : EvTu K ta σ H (vI xs)) (hb : EvTu K tb σ H (vI ys)) : Ev (tOp (rNeD K) ta tb) σ H (.bl (!decide (xs = ys))) := fun H1 e Q q =>
  ha H1 e _ fun p H2 e2 hp => hb H2 (e.trans e2) _ fun r H3 e3 hr => ⟨.tuple (xs.map PyData.int), .tuple (ys.map PyData.int), .tup (ex_t e3 hp) (dpAll_ints xs), .tup hr (dpAll_ints ys), shaped_tup xs, shaped_tup ys, by rw [eqv_tups]; exact q H3 (e2.trans e3)⟩
theorem ev_eqTuG {xs ys : List Int} (ha : EvTu K ta σ H (vI xs)) (hb : EvTu K tb σ H (vI ys)) : Ev (tOp (rEqD K) ta tb) σ H (.bl (decide (xs = ys))) := fun H1 e Q q =>
  ha H1 e _ fun p H2 e2 hp => hb H2 (e.trans e2) _ fun r H3 e3 hr => ⟨.tuple (xs.map PyData.int), .tuple (ys.map PyData.int), .tup (ex_t e3 hp) (dpAll_ints xs), .tup hr (dpAll_ints ys), shaped_tup xs, shaped_tup ys, by rw [eqv_tups]; exact q H3 (e2.trans e3)⟩
theorem ev_lenL {p : Addr} {g : List Int} (h : Ev ta σ H (.ref p)) (hs : SqL K H p (vI g)) : Ev (tCB (fun xs H Q => ∃ p ys, xs = [V.ref p] ∧ (SqL K H p ys ∨ SqT K H p ys) ∧ Q (.int ys.length) H) (tCons ta tNil)) σ H (.int (g.length : Int)) := ev_is (ev_cb (ea_cons h ea_nil) (rc_lenQ (.inl hs))) (by rw [vI_len])
theorem el_listL {p : Addr} {xs : List V} (h : Ev te σ H (.ref p)) (hs : SqL K H p xs) : EvL (tCB (rListS K) (tCons te tNil)) σ H xs := fun H1 e Q q =>
  h H1 e _ fun H2 e2 => ⟨p, xs, rfl, .inl (ex_l (e.trans e2) hs), fun l hl => q l _ (fresh_back e2 hl) (e2.trans (Ex.new hl)) upd_same⟩
theorem etu_tupleP {p : Addr} {xs : List V} (h : Ev te σ H (.ref p)) (hs : SqL K H p xs) : EvTu K (tThen te (kTup K)) σ H xs := fun H1 e Q q =>
  h H1 e _ fun H2 e2 => .inl ⟨p, xs, rfl, ex_l (e.trans e2) hs, fun r hr => q r _ (e2.trans (Ex.new hr)) (st_of upd_same)⟩
theorem el_catN {xs ys : List Int} (ha : EvL ta σ H (vI xs)) (hb : EvL tb σ H (vI ys)) (hz : xs.length + ys.length ≤ 100000) : EvL (tOp rCat ta tb) σ H (vI (xs ++ ys)) := fun H1 e Q k =>
  ha H1 e _ fun p H2 _ e2 hp => hb H2 (e.trans e2) _ fun r H3 _ e3 hr => ⟨p, r, vI xs, vI ys, rfl, rfl, e3 _ _ hp, hr, by rw [vI_len, vI_len]; exact sz_of hz, fun a ha => k a _ (fresh_back (e2.trans e3) ha) ((e2.trans e3).trans (Ex.new ha)) (by rw [upd_same]; unfold vI; rw [List.map_append])⟩
theorem ev_eqLP {p : Addr} {xs ys : List Int} (ha : EvL ta σ H (vI xs)) (hb : Ev tb σ H (.ref p)) (hp : SqL K H p (vI ys)) : Ev (tOp (rEqD K) ta tb) σ H (.bl (decide (xs = ys))) := fun H1 e Q q =>
  ha H1 e _ fun r H2 _ e2 hr => hb H2 (e.trans e2) _ fun H3 e3 => ⟨.list (xs.map PyData.int), .list (ys.map PyData.int), .lst (sq_of (e3 _ _ hr)) (dpAll_ints xs), .lst (ex_l (e.trans (e2.trans e3)) hp) (dpAll_ints ys), shaped_ints xs, shaped_ints ys, by rw [eqv_lists]; exact q H3 (e2.trans e3)⟩
theorem lst_keep {p l q : Addr} {cells : List Int} {m : Nat} {H' : Hp} {xs : List Int} (hP : PenAt H p l cells m) (kp : Keep p H H') (h : H q = some (.lst (vI xs))) : H' q = some (.lst (vI xs)) := by
  obtain ⟨_, _, hp, _⟩ := hP
  have no : ∀ {k r : Int}, ¬ [V.ref l, V.int k, V.int r] = vI xs := fun {k r} e => by
    cases xs with
    | nil => cases e
    | cons x xs => cases e
  exact kp _ _ h fun z => by rw [z, hp] at h; exact no (HO.lst.inj (Option.some.inj h))
theorem tup_keep {p l q : Addr} {cells : List Int} {m : Nat} {H' : Hp} {xs : List V} (hP : PenAt H p l cells m) (kp : Keep p H H') (h : H q = some (.tup xs)) : H' q = some (.tup xs) := by
  obtain ⟨_, _, hp, _⟩ := hP
  exact kp _ _ h fun z => by rw [z, hp] at h; cases h
theorem tup_i {t : TA} {Q : VK} (h : t σ H fun xs H1 => xs.length ≤ sizeLine ∧ ∀ l, H1 l = none → Q (.ref l) (upd H1 l (.tup xs))) : tTup t σ H Q := h
theorem el_catPL {q : Addr} {xs ys : List Int} (ha : Ev ta σ H (.ref q)) (hq : H q = some (.lst (vI xs))) (hb : EvL tb σ H (vI ys)) (hz : xs.length + ys.length ≤ 100000) : EvL (tOp rCat ta tb) σ H (vI (xs ++ ys)) := fun H1 e Q k =>
  ha H1 e _ fun H2 e2 => hb H2 (e.trans e2) _ fun r H3 _ e3 hr => ⟨q, r, vI xs, vI ys, rfl, rfl, (e.trans (e2.trans e3)) _ _ hq, hr, by rw [vI_len, vI_len]; exact sz_of hz, fun a ha => k a _ (fresh_back (e2.trans e3) ha) ((e2.trans e3).trans (Ex.new ha)) (by rw [upd_same]; unfold vI; rw [List.map_append])⟩
theorem etu_fld {o p C dx : Addr} {fs : List (Str × V)} {f : Str} {xs : List V} (ha : Ev ta σ H (.ref o)) (ho : H o = some (.ins C dx fs)) (c : Cls K C) (n : NoAttr K C f) (hf : fs.lookup f = some (.ref p)) (hp : SqT K H p xs) : EvTu K (tFld K ta f) σ H xs := fun H1 e Q q =>
  ev_fld ha ho c n hf H1 e _ fun H2 e2 => q p H2 e2 (ex_t (e.trans e2) hp)
theorem ev_nePP {p q : Addr} {xs ys : List Int} (ha : Ev ta σ H (.ref p)) (hp : SqL K H p (vI xs)) (hb : Ev tb σ H (.ref q)) (hq : SqL K H q (vI ys)) : Ev (tOp (rNeD K) ta tb) σ H (.bl (!decide (xs = ys))) := fun H1 e Q k =>
  ha H1 e _ fun H2 e2 => hb H2 (e.trans e2) _ fun H3 e3 => ⟨.list (xs.map PyData.int), .list (ys.map PyData.int), .lst (ex_l (e.trans (e2.trans e3)) hp) (dpAll_ints xs), .lst (ex_l (e.trans (e2.trans e3)) hq) (dpAll_ints ys), shaped_ints xs, shaped_ints ys, by rw [eqv_lists]; exact k H3 (e2.trans e3)⟩
theorem etu_var {i : Nat} {p : Addr} {xs : List V} (h0 : σ[i]? = some (some (.ref p))) (hs : SqT K H p xs) : EvTu K (tVar i) σ H xs := fun H1 e Q q => ⟨_, h0, q p H1 (Ex.refl H1) (ex_t e hs)⟩
theorem sqt_updL {q Dl : Addr} {xs ys : List V} {u : HO} (s : SqT K H q ys) (hD : H Dl = some (.lst xs)) : SqT K (upd H Dl u) q ys := by
  rcases s with (s | ⟨w, s⟩) | s
  · exact .inl (.inl (by rw [upd_ne (fun e => by rw [e, hD] at s; cases s)]; exact s))
  · exact .inl (.inr ⟨w, by rw [upd_ne (fun e => by rw [e, hD] at s; cases s)]; exact s⟩)
  · exact .inr s
theorem etu_nil : EvTu K (tTup tNil) σ H (vI []) := fun H1 e Q q => ⟨by show 0 ≤ sizeLine; decide, fun p hp => q p _ (Ex.new hp) (st_of upd_same)⟩
theorem for_i {tl : TE} {g : TG} {tu tz : TS} {D : Ends} (h : tl σ H fun x H1 => ∃ a, x = .ref a ∧ (∃ xs, SqL K H1 a xs) ∧ tFor (fun _ _ R => R (Itl K a) H1) g tu { D with nx := tz D } σ H1) : tSeq (tFor (iList K tl) g tu) tz D σ H := h
theorem s_retR {D : Ends} (h : te σ H D.rt) : tRet te D σ H := h
theorem ev_lenT {p : Addr} {g : List Int} (h : Ev ta σ H (.ref p)) (hs : SqT K H p (vI g)) : Ev (tCB (fun xs H Q => ∃ p ys, xs = [V.ref p] ∧ (SqL K H p ys ∨ SqT K H p ys) ∧ Q (.int ys.length) H) (tCons ta tNil)) σ H (.int (g.length : Int)) := ev_is (ev_cb (ea_cons h ea_nil) (rc_lenQ (.inr hs))) (by rw [vI_len])
theorem etu_disp {t : TA} {xs : List V} (h : EvA t σ H xs) (hl : xs.length ≤ 100000) : EvTu K (tTup t) σ H xs := fun H1 e Q q => eu_tup h hl H1 e _ fun p H2 _ e2 h2 => q p H2 e2 (st_of h2)
end
end K23
/-! data told by what they are; comprehensions told by filter and map; slots -/
namespace K23
open PySem L2 Evl Gr
mutual
theorem dp_up {K : PySem.W.Frag} {H H' : Hp} (e : Ex H H') : ∀ (d : PyData) {v : V}, Dp K H v d → Dp K H' v d
  | .none, _, .non => .non
  | .bool _, _, .bl b => .bl b
  | .int _, _, .int i => .int i
  | .str _, _, .str x => .str x
  | .list ds, _, .lst h a => .lst (ex_l e h) (dps_up e ds a)
  | .tuple ds, _, .tup h a => .tup (ex_t e h) (dps_up e ds a)
theorem dps_up {K : PySem.W.Frag} {H H' : Hp} (e : Ex H H') : ∀ (ds : List PyData) {vs : List V}, DpAll K H vs ds → DpAll K H' vs ds
  | [], _, .nil => .nil
  | d :: ds, _, .cons h a => .cons (dp_up e d h) (dps_up e ds a)
end
/-- gives a thing that is d -/
def EvD (K : PySem.W.Frag) (te : TE) (σ : L2.St) (H : Hp) (d : PyData) : Prop := ∀ H1, Ex H H1 → ∀ Q : VK, (∀ v H2, Ex H1 H2 → Dp K H2 v d → Q v H2) → te σ H1 Q
section
variable {K : PySem.W.Frag} {σ : L2.St} {H H' : Hp} {te ta tb tl : TE} {t : TT} {d e : PyData} {ds : List PyData} {xs : List V} {v : V} {a : Addr}
theorem EvD.mono (h : EvD K te σ H d) (e : Ex H H') : EvD K te σ H' d := fun H1 e1 => h H1 (e.trans e1)
theorem ed_of (h : Ev te σ H v) (hd : ∀ H1, Ex H H1 → Dp K H1 v d) : EvD K te σ H d := fun H1 e Q q => h H1 e _ fun H2 e2 => q v H2 e2 (hd H2 (e.trans e2))
theorem ed_L (h : EvL te σ H xs) (hd : ∀ H1, Ex H H1 → DpAll K H1 xs ds) : EvD K te σ H (.list ds) := fun H1 e Q q => h H1 e _ fun p H2 _ e2 hp => q _ H2 e2 (.lst (sq_of hp) (hd H2 (e.trans e2)))
theorem ed_T (h : EvTu K te σ H xs) (hd : ∀ H1, Ex H H1 → DpAll K H1 xs ds) : EvD K te σ H (.tuple ds) := fun H1 e Q q => h H1 e _ fun p H2 e2 hp => q _ H2 e2 (.tup hp (hd H2 (e.trans e2)))
theorem ev_eqD (ha : EvD K ta σ H d) (hb : EvD K tb σ H e) (sd : SeqAt.shaped d = true) (se : SeqAt.shaped e = true) : Ev (tOp (rEqD K) ta tb) σ H (.bl (PyData.eqv d e)) := fun H1 e1 Q q =>
  ha H1 e1 _ fun v H2 e2 hv => hb H2 (e1.trans e2) _ fun u H3 e3 hu => ⟨d, e, dp_up e3 d hv, hu, sd, se, q H3 (e2.trans e3)⟩
theorem ev_neD (ha : EvD K ta σ H d) (hb : EvD K tb σ H e) (sd : SeqAt.shaped d = true) (se : SeqAt.shaped e = true) : Ev (tOp (rNeD K) ta tb) σ H (.bl (!PyData.eqv d e)) := fun H1 e1 Q q =>
  ha H1 e1 _ fun v H2 e2 hv => hb H2 (e1.trans e2) _ fun u H3 e3 hu => ⟨d, e, dp_up e3 d hv, hu, sd, se, q H3 (e2.trans e3)⟩
theorem ev_inD (ha : EvD K ta σ H d) (hb : EvD K tb σ H (.list ds)) (sd : SeqAt.shaped d = true) (se : SeqAt.shaped (.list ds) = true) : Ev (tOp (rInD K) ta tb) σ H (.bl (ds.any fun z => PyData.eqv z d)) := fun H1 e1 Q q =>
  ha H1 e1 _ fun v H2 e2 hv => hb H2 (e1.trans e2) _ fun u H3 e3 hu => ⟨d, ds, dp_up e3 d hv, hu, sd, se, q H3 (e2.trans e3)⟩
end
/-! ### what is not deep -/
def Low (n : Nat) (d : PyData) : Prop := d.canLay0 = true ∧ d.depth ≤ n
theorem lay_all : ∀ {ds : List PyData}, (∀ d ∈ ds, d.canLay0 = true) → PyData.canLayAll0 ds = true
  | [], _ => by simp [PyData.canLayAll0]
  | d :: ds, h => by simp [PyData.canLayAll0, h d List.mem_cons_self, lay_all fun x hx => h x (List.mem_cons_of_mem _ hx)]
theorem depth_all {n : Nat} : ∀ {ds : List PyData}, (∀ d ∈ ds, d.depth ≤ n) → PyData.depthAll ds ≤ n
  | [], _ => by simp [PyData.depthAll]
  | d :: ds, h => by
    simp only [PyData.depthAll]
    exact Nat.max_le.mpr ⟨h d List.mem_cons_self, depth_all fun x hx => h x (List.mem_cons_of_mem _ hx)⟩
theorem low_list {n : Nat} {ds : List PyData} (h : ∀ d ∈ ds, Low n d) : Low (n + 1) (.list ds) := by
  refine ⟨?_, ?_⟩
  · simp only [PyData.canLay0]
    exact lay_all fun d hd => (h d hd).1
  · have := depth_all fun d hd => (h d hd).2
    simp only [PyData.depth]
    omega
theorem low_tup {n : Nat} {ds : List PyData} (h : ∀ d ∈ ds, Low n d) : Low (n + 1) (.tuple ds) := by
  refine ⟨?_, ?_⟩
  · simp only [PyData.canLay0]
    exact lay_all fun d hd => (h d hd).1
  · have := depth_all fun d hd => (h d hd).2
    simp only [PyData.depth]
    omega
theorem low_shaped {n : Nat} {d : PyData} (h : Low n d) (hn : n ≤ 64) : SeqAt.shaped d = true := by
  unfold SeqAt.shaped
  rw [h.1, decide_eq_true (Nat.le_trans h.2 hn)]
  rfl
theorem low_int (i : Int) : Low 0 (.int i) := ⟨by simp [PyData.canLay0], by simp [PyData.depth]⟩
theorem low_str {z : Str} (h : PyData.strOk z = true) : Low 0 (.str z) := ⟨by simp [PyData.canLay0, h], by simp [PyData.depth]⟩
theorem low_non : Low 0 .none := ⟨by simp [PyData.canLay0], by simp [PyData.depth]⟩
theorem eqvAll_map {α : Type} [DecidableEq α] (f : α → PyData) (h : ∀ x y, PyData.eqv (f x) (f y) = decide (x = y)) : ∀ xs ys : List α, PyData.eqvAll (xs.map f) (ys.map f) = decide (xs = ys)
  | [], [] => by simp [PyData.eqvAll]
  | [], y :: ys => by simp [PyData.eqvAll]
  | x :: xs, [] => by simp [PyData.eqvAll]
  | x :: xs, y :: ys => by
    simp only [List.map_cons, PyData.eqvAll, eqvAll_map f h xs ys, h]
    by_cases h1 : x = y <;> by_cases h2 : xs = ys <;> simp [h1, h2]
/-! ### comprehensions -/
def at_ {α : Type} (l : List α) (p : α → Bool) (i : Nat) : Bool := (l[i]?).elim false p
def got {α : Type} (l : List α) (g : α → V) (i : Nat) : V := (l[i]?).elim .non g
theorem at_of {α : Type} {l : List α} {i : Nat} {x : α} {p : α → Bool} (h : l[i]? = some x) : at_ l p i = p x := by unfold at_; rw [h]; rfl
theorem got_of {α : Type} {l : List α} {i : Nat} {x : α} {g : α → V} (h : l[i]? = some x) : got l g i = g x := by unfold got; rw [h]; rfl
theorem all_got {α : Type} (l : List α) : (List.range l.length).map (fun i => l[i]?) = l.map some := by
  refine List.ext_getElem? fun i => ?_
  rw [List.getElem?_map, List.getElem?_map]
  by_cases h : i < l.length
  · rw [List.getElem?_range h, List.getElem?_eq_getElem h]
    show some l[i]? = some (some l[i])
    rw [List.getElem?_eq_getElem h]
  · rw [List.getElem?_eq_none (by rw [List.length_range]; omega), List.getElem?_eq_none (by omega)]
    rfl
theorem given_of {α : Type} (l : List α) (p : α → Bool) (g : α → V) : given l.length (at_ l p) (got l g) = (l.filter p).map g := by
  have e1 : given l.length (at_ l p) (got l g) = (((List.range l.length).map fun i => l[i]?).filter fun o => o.elim false p).map fun o => o.elim V.non g := by
    unfold given
    rw [List.filter_map, List.map_map]
    rfl
  rw [e1, all_got, List.filter_map, List.map_map]
  rfl
theorem nth_map {α : Type} {f : α → V} {l : List α} {i : Nat} {x : V} (h : (l.map f)[i]? = some x) : ∃ y, l[i]? = some y ∧ x = f y := by
  rw [List.getElem?_map] at h
  obtain ⟨y, hy, rfl⟩ := Option.map_eq_some_iff.mp h
  exact ⟨y, hy, rfl⟩
section
variable {K : PySem.W.Frag} {σ : L2.St} {H : Hp} {te ta tl : TE} {t : TT} {α : Type}
/-- [e for x in a list if t] -/
theorem el_mapL (f : α → V) {l : List α} {j : Nat} {vs : List Nat} {a : Addr} (p : α → Bool) (g : α → V) (h : Ev tl σ H (.ref a)) (hx : SqL K H a (l.map f)) (hz : l.length ≤ 40000) (hw : ∀ x, wipe ((wipe σ vs).set j (some x)) vs = wipe σ vs)
    (ht : ∀ x ∈ l, ∀ H1, Ex H H1 → EvT t ((wipe σ vs).set j (some (f x))) H1 (p x)) (he : ∀ x ∈ l, ∀ H1, Ex H H1 → p x = true → Ev te ((wipe σ vs).set j (some (f x))) H1 (g x)) : EvL (tLc (iList K tl) (gName j) t te vs) σ H ((l.filter p).map g) := by
  have c := el_lcL (K := K) (σ := σ) (H := H) (t := t) (te := te) (a := a) (xs := l.map f) (tl := tl) (j := j) (vs := vs) (at_ l p) (got l g) h hx (by rw [List.length_map]; exact hz) hw
    (fun i x H1 e hi => by
      obtain ⟨y, hy, rfl⟩ := nth_map hi
      rw [at_of hy]
      exact ht y (List.mem_of_getElem? hy) H1 e)
    (fun i x H1 e hi hf => by
      obtain ⟨y, hy, rfl⟩ := nth_map hi
      rw [at_of hy] at hf
      rw [got_of hy]
      exact he y (List.mem_of_getElem? hy) H1 e hf)
  rw [List.length_map, given_of] at c
  exact c
theorem el_mapNL (f : α → V) {l : List α} {j : Nat} {vs : List Nat} (p : α → Bool) (g : α → V) (h : EvL tl σ H (l.map f)) (hz : l.length ≤ 40000) (hw : ∀ x, wipe ((wipe σ vs).set j (some x)) vs = wipe σ vs)
    (ht : ∀ x ∈ l, ∀ H1, Ex H H1 → EvT t ((wipe σ vs).set j (some (f x))) H1 (p x)) (he : ∀ x ∈ l, ∀ H1, Ex H H1 → p x = true → Ev te ((wipe σ vs).set j (some (f x))) H1 (g x)) : EvL (tLc (iList K tl) (gName j) t te vs) σ H ((l.filter p).map g) := by
  have c := el_lcNL (K := K) (σ := σ) (H := H) (t := t) (te := te) (xs := l.map f) (tl := tl) (j := j) (vs := vs) (at_ l p) (got l g) h (by rw [List.length_map]; exact hz) hw
    (fun i x H1 e hi => by
      obtain ⟨y, hy, rfl⟩ := nth_map hi
      rw [at_of hy]
      exact ht y (List.mem_of_getElem? hy) H1 e)
    (fun i x H1 e hi hf => by
      obtain ⟨y, hy, rfl⟩ := nth_map hi
      rw [at_of hy] at hf
      rw [got_of hy]
      exact he y (List.mem_of_getElem? hy) H1 e hf)
  rw [List.length_map, given_of] at c
  exact c
/-- [e for x in a tuple if t] -/
theorem el_tup {xs : List V} {j : Nat} {vs : List Nat} (f : Nat → Bool) (v : Nat → V) (h : EvTu K tl σ H xs) (hz : xs.length ≤ 40000) (hw : ∀ x, wipe ((wipe σ vs).set j (some x)) vs = wipe σ vs)
    (ht : ∀ (i : Nat) (x : V) H1, Ex H H1 → xs[i]? = some x → EvT t ((wipe σ vs).set j (some x)) H1 (f i)) (he : ∀ (i : Nat) (x : V) H1, Ex H H1 → xs[i]? = some x → f i = true → Ev te ((wipe σ vs).set j (some x)) H1 (v i)) :
    EvL (tLc (iTup K tl) (gName j) t te vs) σ H (given xs.length f v) := fun H0 e Q q => h H0 e _ fun a H1 e1 hx =>
  ⟨a, rfl, ⟨xs, hx⟩, fun Dl hD => lc_it (n := xs.length) (walk_tup (xs := xs)) (Cw H1 f v Dl) ⟨hD, Ex.new hD, upd_same⟩ (fun _ H' _ p => ex_t p.2.1 hx)
    (fun k x H' H'' hk p y => by
      obtain ⟨rfl, hx'⟩ := y
      exact ⟨hw _, cw_turn p (by omega) (ht k x H1 (e.trans e1) hx') fun hf => he k x H1 (e.trans e1) hx' hf⟩)
    (fun H' p => q Dl H' (fresh_back e1 p.1) (e1.trans p.2.1) p.2.2)⟩
theorem el_mapT (f : α → V) {l : List α} {j : Nat} {vs : List Nat} (p : α → Bool) (g : α → V) (h : EvTu K tl σ H (l.map f)) (hz : l.length ≤ 40000) (hw : ∀ x, wipe ((wipe σ vs).set j (some x)) vs = wipe σ vs)
    (ht : ∀ x ∈ l, ∀ H1, Ex H H1 → EvT t ((wipe σ vs).set j (some (f x))) H1 (p x)) (he : ∀ x ∈ l, ∀ H1, Ex H H1 → p x = true → Ev te ((wipe σ vs).set j (some (f x))) H1 (g x)) : EvL (tLc (iTup K tl) (gName j) t te vs) σ H ((l.filter p).map g) := by
  have c := el_tup (K := K) (σ := σ) (H := H) (t := t) (te := te) (xs := l.map f) (tl := tl) (j := j) (vs := vs) (at_ l p) (got l g) h (by rw [List.length_map]; exact hz) hw
    (fun i x H1 e hi => by
      obtain ⟨y, hy, rfl⟩ := nth_map hi
      rw [at_of hy]
      exact ht y (List.mem_of_getElem? hy) H1 e)
    (fun i x H1 e hi hf => by
      obtain ⟨y, hy, rfl⟩ := nth_map hi
      rw [at_of hy] at hf
      rw [got_of hy]
      exact he y (List.mem_of_getElem? hy) H1 e hf)
  rw [List.length_map, given_of] at c
  exact c
/-- [e for i, x in enumerate(a tuple) if t] -/
theorem el_enT {ta : TA} {a : Addr} {xs : List V} {i j : Nat} {vs : List Nat} (f : Nat → Bool) (v : Nat → V) (h : EvA ta σ H [.ref a]) (hx : SqT K H a xs) (hz : xs.length ≤ 40000) (hw : ∀ x y, wipe (((wipe σ vs).set i (some x)).set j (some y)) vs = wipe σ vs)
    (ht : ∀ (k : Nat) (x : V) H1, Ex H H1 → xs[k]? = some x → EvT t (((wipe σ vs).set i (some (.int (k : Int)))).set j (some x)) H1 (f k)) (he : ∀ (k : Nat) (x : V) H1, Ex H H1 → xs[k]? = some x → f k = true → Ev te (((wipe σ vs).set i (some (.int (k : Int)))).set j (some x)) H1 (v k)) :
    EvL (tLc (EnT.iEnumT K ta) (gTup K 2 (gCons (gName i) (gCons (gName j) gNil))) t te vs) σ H (given xs.length f v) := fun H0 e Q q => h H0 e _ fun H1 e1 =>
  ⟨a, xs, rfl, ex_t (e.trans e1) hx, fun Dl hD => lc_it (n := xs.length) (EnT.walk_enumT (ys := xs)) (Cw H1 f v Dl) ⟨hD, Ex.new hD, upd_same⟩ (fun _ H' _ p => ex_t ((e.trans e1).trans p.2.1) hx)
    (fun k x H' H'' hk p y => by
      obtain ⟨T, x1, y1, rfl, hT, rfl, ex, ey⟩ := y
      obtain rfl := Option.some.inj ex
      have e2 := Ex.new (H := H') (o := .tup [.int (k : Nat), y1]) hT
      have p' : Cw H1 f v Dl k (upd H' T (.tup [.int (k : Nat), y1])) := ⟨p.1, p.2.1.trans e2, e2 _ _ p.2.2⟩
      exact ⟨T, _, rfl, st_of upd_same, rfl, _, _, rfl, _, _, rfl, rfl, hw _ _, cw_turn p' (by omega) (ht k y1 H1 (e.trans e1) ey) fun hf => he k y1 H1 (e.trans e1) ey hf⟩)
    (fun H' p => q Dl H' (fresh_back e1 p.1) (e1.trans p.2.1) p.2.2)⟩
end
/-! ### slots -/
abbrev Slot := Option Str
abbrev abc : Str := "abcdefghijklmnopqrstuvwxyz"
abbrev mt : Str := ""
/-- what is_name tells of a text -/
def nameB (z : Str) : Bool := (decide ((1 : Int) ≤ (z.length : Int)) && decide ((z.length : Int) ≤ 8)) && decide (V.str (Txt.stripChars z abc) = V.str mt)
/-- what may stand in a round -/
def okB : Slot → Bool
  | none => true
  | some z => nameB z && PyData.strOk z && !decide (32 ∈ TL.tl z)
def Oks (l : List Slot) : Prop := ∀ x ∈ l, okB x = true
theorem Oks.app {l m : List Slot} (h : Oks l) (h' : Oks m) : Oks (l ++ m) := fun x hx => (List.mem_append.mp hx).elim (h x) (h' x)
theorem Oks.sub {l m : List Slot} (h : Oks l) (s : ∀ x ∈ m, x ∈ l) : Oks m := fun x hx => h x (s x hx)
theorem Oks.take {l : List Slot} {n : Nat} (h : Oks l) : Oks (l.take n) := h.sub fun _ => List.mem_of_mem_take
theorem Oks.drop {l : List Slot} {n : Nat} (h : Oks l) : Oks (l.drop n) := h.sub fun _ => List.mem_of_mem_drop
theorem ok_name_ {z : Str} (h : okB (some z) = true) : nameB z = true ∧ PyData.strOk z = true ∧ 1 ≤ z.length ∧ z.length ≤ 8 ∧ 32 ∉ TL.tl z := by
  obtain ⟨h0, h3⟩ := Bool.and_eq_true_iff.mp (show (nameB z && PyData.strOk z && !decide (32 ∈ TL.tl z)) = true from h)
  obtain ⟨h1, h2⟩ := Bool.and_eq_true_iff.mp h0
  have h4 : 32 ∉ TL.tl z := fun q => by
    rw [decide_eq_true q] at h3
    cases h3
  refine ⟨h1, h2, ?_⟩
  unfold nameB at h1
  rw [Bool.and_eq_true_iff, Bool.and_eq_true_iff, decide_eq_true_iff, decide_eq_true_iff] at h1
  exact ⟨by omega, by omega, h4⟩
def sv : Slot → V
  | none => .non
  | some z => .str z
def sd : Slot → PyData
  | none => .none
  | some z => .str z
def vS (l : List Slot) : List V := l.map sv
def dS (l : List Slot) : List PyData := l.map sd
theorem vS_len {l : List Slot} : (vS l).length = l.length := List.length_map _
theorem vS_app {l m : List Slot} : vS l ++ vS m = vS (l ++ m) := List.map_append.symm
theorem vS_take {l : List Slot} {n : Nat} : (vS l).take n = vS (l.take n) := List.map_take.symm
theorem vS_drop {l : List Slot} {n : Nat} : (vS l).drop n = vS (l.drop n) := List.map_drop.symm
theorem sv_inj {x y : Slot} : sv x = sv y ↔ x = y := by
  cases x <;> cases y <;> simp [sv]
theorem sv_dec (x y : Slot) : decide (sv x = sv y) = decide (x = y) := by rw [decide_eq_decide]; exact sv_inj
theorem sd_eqv (x y : Slot) : PyData.eqv (sd x) (sd y) = decide (x = y) := by
  cases x with
  | none => cases y <;> simp [sd, PyData.eqv]
  | some z =>
    cases y with
    | none => simp [sd, PyData.eqv]
    | some u =>
      rw [show PyData.eqv (sd (some z)) (sd (some u)) = (z == u) by simp [sd, PyData.eqv], Bool.eq_iff_iff, beq_iff_eq, decide_eq_true_iff, Option.some.injEq]
theorem sd_low {x : Slot} (h : okB x = true) : Low 0 (sd x) := by
  cases x with
  | none => exact low_non
  | some z => exact low_str (ok_name_ h).2.1
theorem dS_low {l : List Slot} (h : Oks l) : ∀ d ∈ dS l, Low 0 d := fun d hd => by
  obtain ⟨x, hx, rfl⟩ := List.mem_map.mp hd
  exact sd_low (h x hx)
theorem dpS {K : PySem.W.Frag} {H : Hp} : ∀ (l : List Slot), DpAll K H (vS l) (dS l)
  | [] => .nil
  | none :: l => .cons .non (dpS l)
  | some z :: l => .cons (.str z) (dpS l)
theorem dpS1 {K : PySem.W.Frag} {H : Hp} (x : Slot) : Dp K H (sv x) (sd x) := by
  cases x with
  | none => exact .non
  | some z => exact .str z
theorem sv_scal (x y : Slot) : scal (sv x) (sv y) = true := by cases x <;> cases y <;> rfl
theorem flat_slot (x : Slot) : flatV (sv x) = true := by cases x <;> rfl
theorem flat_slots (l : List Slot) : (vS l).all flatV = true := by
  unfold vS
  rw [List.all_map]
  exact List.all_eq_true.mpr fun x _ => flat_slot x
theorem eqV_slot (x y : Slot) : eqV (sv x) (sv y) = decide (x = y) := by
  cases x with
  | none => cases y <;> simp [sv, eqV]
  | some z =>
    cases y with
    | none => simp [sv, eqV]
    | some u =>
      rw [show eqV (sv (some z)) (sv (some u)) = (z == u) by simp [sv, eqV], Bool.eq_iff_iff, beq_iff_eq, decide_eq_true_iff, Option.some.injEq]
theorem inV_slot (x : Slot) (l : List Slot) : inV (sv x) (vS l) = decide (x ∈ l) := by
  unfold inV vS
  rw [List.any_map, Bool.eq_iff_iff, List.any_eq_true, decide_eq_true_iff]
  constructor
  · rintro ⟨y, hy, e⟩
    have e : eqV (sv y) (sv x) = true := e
    rw [eqV_slot] at e
    exact of_decide_eq_true e ▸ hy
  · intro h
    refine ⟨x, h, ?_⟩
    show eqV (sv x) (sv x) = true
    rw [eqV_slot]
    exact decide_eq_true rfl
section
variable {K : PySem.W.Frag} {σ : L2.St} {H : Hp} {te ta tb : TE} {l m : List Slot}
theorem ed_SL (h : EvL te σ H (vS l)) : EvD K te σ H (.list (dS l)) := ed_L h fun _ _ => dpS l
theorem ed_ST (h : EvTu K te σ H (vS l)) : EvD K te σ H (.tuple (dS l)) := ed_T h fun _ _ => dpS l
theorem ed_SP {p : Addr} (h : Ev te σ H (.ref p)) (hp : SqL K H p (vS l)) : EvD K te σ H (.list (dS l)) := ed_of h fun _ e => .lst (ex_l e hp) (dpS l)
theorem sh_L (h : Oks l) : SeqAt.shaped (.list (dS l)) = true := low_shaped (low_list (dS_low h)) (by decide)
theorem sh_T (h : Oks l) : SeqAt.shaped (.tuple (dS l)) = true := low_shaped (low_tup (dS_low h)) (by decide)
theorem eqv_SL : PyData.eqv (.list (dS l)) (.list (dS m)) = decide (l = m) := by
  simp only [PyData.eqv]
  exact eqvAll_map sd sd_eqv l m
theorem eqv_ST : PyData.eqv (.tuple (dS l)) (.tuple (dS m)) = decide (l = m) := by
  simp only [PyData.eqv]
  exact eqvAll_map sd sd_eqv l m
theorem ev_eqSL (ol : Oks l) (om : Oks m) (ha : EvD K ta σ H (.list (dS l))) (hb : EvD K tb σ H (.list (dS m))) : Ev (tOp (rEqD K) ta tb) σ H (.bl (decide (l = m))) := ev_is (ev_eqD ha hb (sh_L ol) (sh_L om)) (by rw [eqv_SL])
theorem ev_neSL (ol : Oks l) (om : Oks m) (ha : EvD K ta σ H (.list (dS l))) (hb : EvD K tb σ H (.list (dS m))) : Ev (tOp (rNeD K) ta tb) σ H (.bl (!decide (l = m))) := ev_is (ev_neD ha hb (sh_L ol) (sh_L om)) (by rw [eqv_SL])
theorem ev_eqST (ol : Oks l) (om : Oks m) (ha : EvD K ta σ H (.tuple (dS l))) (hb : EvD K tb σ H (.tuple (dS m))) : Ev (tOp (rEqD K) ta tb) σ H (.bl (decide (l = m))) := ev_is (ev_eqD ha hb (sh_T ol) (sh_T om)) (by rw [eqv_ST])
theorem ev_neST (ol : Oks l) (om : Oks m) (ha : EvD K ta σ H (.tuple (dS l))) (hb : EvD K tb σ H (.tuple (dS m))) : Ev (tOp (rNeD K) ta tb) σ H (.bl (!decide (l = m))) := ev_is (ev_neD ha hb (sh_T ol) (sh_T om)) (by rw [eqv_ST])
end
end K23
/-! an error that was caught, kept in a name behind its suite: isinstance of it, its fields -/
namespace EXC
open PySem PySem.Spec PyProof.Rows L2
/-- a caught error at a: its class, its own dict -/
def ExC (cls : Value) (d : Option Addr) (a : Addr) : HO := .ext fun h => ∃ (oe : Obj) (vs : Array Value), h.get? a = some oe ∧ Zc cls d oe ∧ oe.data = .fields vs
theorem exC_ok {P : Program} {w : World} {H : Hp} {h : Heap} {a : Addr} {cls : Value} {d : Option Addr} {oe : Obj} {vs : Array Value} (e : h.get? a = some oe) (z : Zc cls d oe) (hd : oe.data = .fields vs) : ObjOk P w H h a (ExC cls d a) :=
  ⟨⟨oe, vs, e, z, hd⟩, ⟨oe, e⟩, fun _ _ ⟨o, v, q, r⟩ k => ⟨o, v, k o q, r⟩⟩
section
variable {X : Cx} {pins : List (Addr × Obj)} {σ : L2.St} {H : Hp} {s : Shared} {a : Addr} {o : HO}
/-- what stands there untracked, and did not stand at the entry, is tracked from now on -/
theorem Inv.track {oe : Obj} {vs : Array Value} (I : Inv X pins σ H s) (here : s.heap.get? a = some oe) (hd : oe.data = .fields vs) (n : H a = none) (n0 : X.s_0.heap.get? a = none) (nL : a ≠ X.env.locals) (nP : ∀ p ∈ X.pn ++ pins, p.1 ≠ a)
    (ok : ObjOk X.prog X.w (upd H a o) s.heap a o) : Inv X pins σ (upd H a o) s := by
  have off : ∀ b, b ≠ a → upd H a o b = H b := fun b hb => upd_ne hb
  have ne0 : ∀ b u, X.s_0.heap.get? b = some u → b ≠ a := fun b u e z => by rw [z, n0] at e; cases e
  have neS : ∀ b u, H b = some u → b ≠ a := fun b u e z => by rw [z, n] at e; cases e
  have base : Un X.fs X.ex X.H_0 (upd H a o) X.s_0.heap s.heap := {
    keep := I.base.keep
    slot := I.base.slot
    free := fun b u e m x => by rw [off b (ne0 b u e)]; exact I.base.free b u e m x
    there := I.base.there
    tups := fun b xs e => by
      have q := I.base.tups b xs e
      rw [off b (neS b _ q)]; exact q
    frzs := fun b u v e => by
      have q := I.base.frzs b u v e
      rw [off b (neS b _ q)]; exact q
    tbls := fun b ps e => by
      obtain ⟨m, q⟩ := I.base.tbls b ps e
      exact ⟨m, by rw [off b (neS b _ q)]; exact q⟩ }
  refine ⟨I.ok, I.os, I.bare, base, I.loc, I.cell, ?_, fun x c e => ?_, fun p hp => ?_, I.hok.laidN (fun _ _ e => e) n ok, I.len⟩
  · rw [off _ nL.symm]; exact I.free
  · have ne : c ≠ a := fun z => by
      obtain ⟨v, oc, hc, hv⟩ := I.cell x c e
      rw [z, here] at hc
      cases hc
      rw [hd] at hv
      cases hv
    rw [off _ ne]
    exact I.freeC x c e
  · obtain ⟨q1, q2, q3⟩ := I.pin p hp
    exact ⟨q1, by rw [off _ (nP p hp)]; exact q2, q3⟩
end
/-- what the clause 'except x as n' (n in slot i) wishes of each error of the body; behind it the error is kept -/
def wHeld (K : PySem.W.Frag) (c : Value) (i : Nat) (ts : Addr → Value → Option Addr → TS) (D : Ends) : WX := fun cls d σ H => PySem.W.exmOne K cls c = some true ∧
  ∀ a, H a = none → ts a cls d { nx := fun σ2 H2 => D.nx (σ2.set i none) (upd H2 a (ExC cls d a)), rt := fun _ _ => False, bk := fun _ _ => False, ct := fun _ _ => False } (σ.set i (some (.ref a))) H
section
variable {X : Cx} {x n : Str} {c : Value} {i : Nat} {body suite : List Stmt} {b₀ : Stmt} {np pos pos' : Pos} {tb : WX → TS} {ts : Addr → Value → Option Addr → TS}
theorem ps_try_held (hs : X.stack = X.env :: X.outer) (hf : X.env.frame = some X.env.locals) (hex : X.ex = []) (nd : X.N.Nodup) (at_i : X.N[i]? = some n) (loc : X.env.kindOf n = some .local) (hc : Names X x c)
    (hb : ∀ (W : WX) (pn : List (Addr × Obj)) (xe : Value → Shared → Prop), Takes (X.tr pn xe) W → PassesOwn (model X.prog X.w) X.A X.env xe → PSs (X.tr pn xe) body (tb W))
    (hsu : ∀ (a : Addr) (oe : Obj) (cls : Value) (d : Option Addr) (pn : List (Addr × Obj)), Zc cls d oe → (∃ vs, oe.data = .fields vs) → PSs (X.suite a ((a, oe) :: pn)) (b₀ :: suite) (ts a cls d)) :
    PS X (.Try body [.ExceptHandler (some (.Name x np)) (some n) (b₀ :: suite) pos'] [] [] pos) (fun D σ H => tb (wHeld X.K c i ts D) D σ H) := by
  refine ⟨fun pins s σ H D I h => ?_⟩
  have ok := I.ok
  have frames : X.A.frames = some (X.env :: X.outer) := ok.frames.trans (congrArg some hs)
  let catch' : Value → Shared → Prop := fun e s1 => wpAny (model X.prog X.w) X.A (noteFrame e X.env) (fun _ s2 => wpAny (model X.prog X.w) X.A (setFlight e none) (fun _ s3 =>
    wpAny (model X.prog X.w) X.A (handleBy e X.env [.ExceptHandler (some (.Name x np)) (some n) (b₀ :: suite) pos']) (SP X pins D) X.xe s3) X.xe s2) X.xe s1
  have takes : Takes (X.tr (X.pn ++ pins) catch') (wHeld X.K c i ts D) := by
    rintro u s' ⟨a, B, sI, ps, σ1, H1, cls, d, rfl, J0, nb, up, sky, na, os, ag, hit, next⟩
    have J : Inv X pins σ1 H1 sI := J0.ofTry ok
    rw [show (X.tr (X.pn ++ pins) catch').stack = X.env :: X.outer from hs] at sky
    show wpAny (model X.prog X.w) X.A (noteFrame (.ref a) X.env) _ _ _
    refine Sky.land Zc.steady frames hf sky fun h3 fl3 up3 => ?_
    have J3 : Inv X pins σ1 H1 { s' with heap := h3 } := J.landed nb (by exact fl3.1) (up.trans up3) os ag
    obtain ⟨o3, f3, g3, z3, d3⟩ := fl3.there
    have apart : a ∉ frs (X.env :: X.outer) := fun hm => by
      obtain ⟨_, o, e, hno⟩ := fl3.2.2.1.mem hm
      rw [g3] at e
      cases e
      exact hno _ d3
    have nL : a ≠ X.env.locals := fun z => apart (List.mem_filterMap.mpr ⟨X.env, List.mem_cons_self, by rw [hf, z]⟩)
    have nF : a ∉ X.fs := fun hm => by
      obtain ⟨e, he, q⟩ := List.mem_filterMap.mp hm
      exact apart (List.mem_filterMap.mpr ⟨e, List.mem_cons_of_mem _ he, q⟩)
    have new : sI.heap.get? a = none := by
      cases q : sI.heap.get? a with
      | none => rfl
      | some o =>
        have z := nb a o q (by rw [show (X.tr (X.pn ++ pins) catch').stack = X.env :: X.outer from hs]; exact apart)
        rw [fl3.2.1] at z
        cases z
    have new0 : X.s_0.heap.get? a = none := by
      cases q : X.s_0.heap.get? a with
      | none => rfl
      | some o =>
        obtain ⟨o2, z⟩ := J.base.there a o q (by rw [hex]; exact List.not_mem_nil)
        rw [new] at z
        cases z
    have unpinned : ∀ p ∈ X.pn ++ pins, p.1 ≠ a := fun p hp z => by
      have q := (J.pin p hp).1
      rw [z, new] at q
      cases q
    have S3 := J3.suite g3 d3 na nL nF
    refine wpAny_handleBy_cons (codeAny_handlers_test ?_) (by intro q; cases q)
    have looks : PySem.W.Looks (model X.prog X.w) h3 (typeOf (.ref a)) cls := fun _ _ _ _ k q => wpAny_typeOf_ref (k _ _ g3) (by rw [z3.1]; exact q)
    have hits := PySem.W.exm_one (M := model X.prog X.w) J3.kIn looks hit
    have named : ∀ {Q E : Value → Shared → Prop}, Q c { s' with heap := h3 } → wpAny (model X.prog X.w) (X.A.mark (some (.ref a))) (eval (.Name x np) X.env) Q E { s' with heap := h3 } := fun {Q E} q => by
      obtain ⟨g, nodbg, m | ⟨m, v, w⟩⟩ := hc
      · exact ld_glob (X := X.suite a ((a, o3) :: (X.pn ++ pins))) S3 g m q nodbg
      · exact ld_blt (X := X.suite a ((a, o3) :: (X.pn ++ pins))) S3 g m v q w nodbg
    refine named (hits.here (codeAny_handlers_suite_as (HandSPX.lands_againZ fl3 fun h4 fl4 up4 => ?_)))
    have J4 : Inv X pins σ1 H1 { s' with heap := h4 } := J.landed nb (by exact fl4.1) ((up.trans up3).trans up4) os ag
    obtain ⟨o4, f4, g4, z4, d4⟩ := fl4.there
    refine store_ok (X := X.suite a ((a, o4) :: (X.pn ++ pins))) (v := .ref a) (J4.suite g4 d4 na nL nF) nd at_i (.inl loc) rfl (fun s5 S5 => ?_) (.inr loc)
    refine wpAny_mono ((hsu a o4 cls d (X.pn ++ pins) z4 ⟨_, d4⟩).run [] s5 _ H1 _ S5 (next a na)) (fun fl s6 back => ?_) (fun _ _ z => z.elim)
    cases fl with
    | next =>
      obtain ⟨σ6, H6, S6, q6⟩ := back
      refine gone_ok (X := X.suite a ((a, o4) :: (X.pn ++ pins))) S6 nd at_i loc fun s7 S7 => ?_
      obtain ⟨p1, p2, _⟩ := S7.pin (a, o4) (List.mem_append_left _ List.mem_cons_self)
      exact ⟨_, _, Inv.track (S7.unsuite ok) p1 d4 p2 new0 nL unpinned (exC_ok p1 z4 d4), q6⟩
    | brk =>
      obtain ⟨_, _, _, z⟩ := back
      exact False.elim z
    | cont =>
      obtain ⟨_, _, _, z⟩ := back
      exact False.elim z
    | ret u =>
      obtain ⟨_, _, _, _, _, z⟩ := back
      exact False.elim z
  refine wpAny_Try_except (wpAny_mono ((hb _ _ catch' takes PassesOwn.looking).run [] s σ H D (I.toTry _) h) (fun fl s1 back => ?_) fun _ _ z => z)
  cases fl with
  | next =>
    obtain ⟨σ1, H1, J, q⟩ := back
    exact wpAny_execs_nil ⟨σ1, H1, J.ofTry ok, q⟩
  | brk =>
    obtain ⟨σ1, H1, J, q⟩ := back
    exact ⟨σ1, H1, J.ofTry ok, q⟩
  | cont =>
    obtain ⟨σ1, H1, J, q⟩ := back
    exact ⟨σ1, H1, J.ofTry ok, q⟩
  | ret u =>
    obtain ⟨v, σ1, H1, J, r, q⟩ := back
    exact ⟨v, σ1, H1, J.ofTry ok, r, q⟩
end
/-! ### isinstance of it, a field of it -/
def Dct (H : Hp) (d : Option Addr) : Prop := ∀ dd, d = some dd → ∃ fs, H dd = some (.xd fs)
theorem inst_of {X : Cx} {pins : List (Addr × Obj)} {σ : L2.St} {H : Hp} {s : Shared} {a C : Addr} {d : Option Addr} (I : Inv X pins σ H s) (ha : H a = some (ExC (.ref C) d a)) (hd : Dct H d) : ∃ ox od, PySem.W.InstAt s.heap a ox C od := by
  obtain ⟨⟨oe, vs, ho, hz, hf⟩, _, _⟩ := I.hok a _ ha
  have nc : PySem.W.notCls oe = true := by unfold PySem.W.notCls; rw [hf]
  cases d with
  | none => exact ⟨oe, none, ho, hz.1, nc, by rw [hz.2]; exact True.intro⟩
  | some dd =>
    obtain ⟨fs, e⟩ := hd dd rfl
    obtain ⟨mA, hns, _⟩ := (show ObjOk X.prog X.w H s.heap dd (.xd fs) from I.hok dd _ e)
    obtain ⟨od, hod, _⟩ := lookIn_ns hns
    exact ⟨oe, some od, ho, hz.1, nc, by rw [hz.2]; exact hod⟩
structure XcC (K : PySem.W.Frag) (C : Addr) : Prop where
  hcl : (PySem.W.clsIn K C).isSome = true
  hga : PySem.W.findIn K (.ref C) "__getattribute__" = some (some (.builtin "BaseException.__getattribute__"))
  hgt : PySem.W.findIn K (.ref C) "__getattr__" = some none
  hsub : PySem.W.subIn K (.ref C) (.type "BaseException") = some true
  hdct : PySem.W.hasDictIn K C = true
  ha : PySem.W.findIn K (.ref C) "__class__" = some (some (.builtin "object.__class__"))
  hn : PySem.W.specialIn K (.builtin "object.__class__") "__get__" = some (some (.builtin "getset_descriptor.__get__"))
  htk : PySem.W.takesIn K (.builtin "object.__class__") = some true
  hm : PySem.W.mroIn K C (.type "object") = some true
def rXc (K : PySem.W.Frag) : List V → Hp → VK → Prop := fun xs H Q => ∃ (a C : Addr) (d : Option Addr) (c : V) (u : Value) (b : Bool), xs = [.ref a, c] ∧ ClsV c u ∧ H a = some (ExC (.ref C) d a) ∧ Dct H d ∧ XcC K C ∧ PySem.W.kitOne K (.ref C) u = some b ∧ Q (.bl b) H
theorem call_xc {X : Cx} : CallR X (.builtin "isinstance") (rXc X.K) := by
  intro pins s σ H xs us Q I r h
  obtain ⟨a, C, d, c, u, b, rfl, k, xa, xd, T, e, q⟩ := h
  obtain ⟨u1, u2, rfl, r1, r2⟩ := vals2 r
  have e2 := k.eq r2
  subst e2
  obtain rfl : u1 = Value.ref a := r1
  obtain ⟨ox, od, J⟩ := inst_of I xa xd
  exact PySem.W.kia_one (PySem.W.kitx_exc T.hcl T.hga T.hgt T.hsub T.ha T.hn T.htk T.hm) I.kIn J e (fun z => nomatch z) fun tk => ⟨.bl b, H, I.tok tk, rfl, q⟩
/-- e.f, e a caught error -/
def tXcF (K : PySem.W.Frag) (f : Str) (te : TE) : TE := fun σ H Q => te σ H fun x H1 => ∃ (a C d : Addr) (fs : List (Str × V)) (v : V), x = .ref a ∧ H1 a = some (ExC (.ref C) (some d) a) ∧ H1 d = some (.xd fs) ∧ XcC K C ∧ PySem.W.findIn K (.ref C) f = some none ∧ fs.lookup f = some v ∧ Q v H1
theorem pe_xcF {X : Cx} {e : Expr} {te : TE} {pos : Pos} {n : Str} (he : PE X e te) (hb : attributeBase e n X.env (eval e X.env) = eval e X.env := by rfl) : PE X (.Attribute e n pos) (tXcF X.K n te) := by
  refine ⟨fun pins s σ H Q I h => attr_of hb (thn (he.run pins s σ H _ I h) fun u s1 ⟨x, H1, J, rx, a, C, d, fs, v, ex, ea, ed, T, own, l, q⟩ => ?_)⟩
  subst ex
  obtain rfl : u = Value.ref a := rx
  obtain ⟨⟨oe, vs, ho, hz, hf⟩, _, _⟩ := J.hok a _ ea
  obtain ⟨mA, hns, rel⟩ := (show ObjOk X.prog X.w H1 s1.heap d (.xd fs) from J.hok d _ ed)
  obtain ⟨od, hod, found⟩ := lookIn_ns hns
  obtain ⟨u2, hu, ru⟩ := RelO.some_of (v := v) (o := mA n) (l ▸ rel n)
  have at_ : PySem.W.InstAt s1.heap a oe C (some od) := ⟨ho, hz.1, by unfold PySem.W.notCls; rw [hf], by rw [hz.2]; exact hod⟩
  exact HandSPX.exc_get J.kIn at_ T.hga T.hgt T.hsub (PySem.W.findObj_own T.hdct own rfl (by rw [found, hu])) (handed_of ru) ⟨v, H1, J.tok _, ru, q⟩
end EXC
namespace K23
open PySem L2 Evl
abbrev sCls (i : Nat) : Stmt := inClass (top i) 0
/-- what the written part says of an error class x, PostError at B -/
structure CB (K : PySem.W.Frag) (x : Str) (C B : Addr) : Prop where
  aC : PySem.W.nsIn K mainGlobals x = some (some (.ref C))
  xL : ∃ nm q N bs sn sub ab col dd k0 k1 k2 k3 k5, K.lookup C = some (excClassObj nm q C N bs [.ref B, .type "ValueError", .type "Exception", .type "BaseException", .type "object"] true sn sub ab col dd k0 k1 k2 k3 k5 "ValueError.__new__")
  sa : PySem.W.findIn K (.ref C) "__setattr__" = some (some (.builtin "object.__setattr__"))
  ga : PySem.W.findIn K (.ref C) "__getattribute__" = some (some (.builtin "BaseException.__getattribute__"))
  gg : PySem.W.findIn K (.ref C) "__getattr__" = some none
  cc : PySem.W.findIn K (.ref C) "__class__" = some (some (.builtin "object.__class__"))
  tC : PySem.W.typeIn K (.ref C) = some (.type "type")
  kC : PySem.W.keepIn K (.ref C) = true
/-- .. and of its __init__, the def st -/
structure CF (K : PySem.W.Frag) (x qual : Str) (st : Stmt) (C f B : Addr) : Prop where
  b : CB K x C B
  a1 : PySem.W.findIn K (.ref C) "__init__" = some (some (.ref f))
  l1 : ∃ (oc : Value) (od : Option Addr) (kV doc pm : Value) (an : Option Addr) (cdv ct : Value) (osl : Array (Option Value)),
    K.lookup f = some ⟨oc, od, .func (PySem.W.fnOf "__init__" qual (defArgs st) (defBody st) (defScope st) .none kV doc pm an cdv ct), osl⟩ ∧ PySem.W.codeIn K cdv qual = true
  k1 : PySem.W.keepIn K (.ref f) = true
  t1 : PySem.W.typeIn K (.ref f) = some (.type "function")
structure CG (K : PySem.W.Frag) : Prop where
  sp : PySem.W.specialIn K (.builtin "object.__class__") "__get__" = some (some (.builtin "getset_descriptor.__get__"))
  tk : PySem.W.takesIn K (.builtin "object.__class__") = some true
section
variable {K : PySem.W.Frag} {x qual : Str} {st : Stmt} {C f B : Addr}
theorem CB.cls (T : CB K x C B) : ∃ cd, PySem.W.clsIn K C = some cd ∧ cd.mro = [.ref C, .ref B, .type "ValueError", .type "Exception", .type "BaseException", .type "object"] ∧ cd.hasDict = true := by
  obtain ⟨nm, q, N, bs, sn, sub, ab, col, dd, k0, k1, k2, k3, k5, h⟩ := T.xL
  refine ⟨{ name := nm, bases := bs, mro := .ref C :: [.ref B, .type "ValueError", .type "Exception", .type "BaseException", .type "object"], ns := N, qualname := q, hasDict := true, slotNames := sn, subclasses := sub, abstract := ab, collection := col, hasDel := false }, ?_, rfl, rfl⟩
  unfold PySem.W.clsIn
  rw [h] <;> rfl
theorem CB.mro (T : CB K x C B) (v : Value) : PySem.W.mroIn K C v = some ([Value.ref C, .ref B, .type "ValueError", .type "Exception", .type "BaseException", .type "object"].contains v) := by
  obtain ⟨cd, h1, h2, _⟩ := T.cls
  unfold PySem.W.mroIn
  rw [h1, Option.bind_some, h2]
  rfl
theorem CB.ox (T : CB K x C B) : OexC K C := by
  obtain ⟨nm, q, N, bs, sn, sub, ab, col, dd, k0, k1, k2, k3, k5, h⟩ := T.xL
  exact ⟨⟨nm, q, N, bs, _, sn, sub, ab, col, dd, k0, k1, k2, k3, k5, h, rfl⟩, T.sa, (T.mro _).trans (by rfl), T.tC, T.kC⟩
theorem CB.hd (T : CB K x C B) : PySem.W.hasDictIn K C = true := by
  obtain ⟨cd, h1, h2, h3⟩ := T.cls
  unfold PySem.W.hasDictIn
  rw [h1]
  first | exact h3 | (simp [h3])
theorem CB.xf (T : CB K x C B) : XfC K C := ⟨T.ga, T.gg, (T.mro _).trans (by rfl), T.hd⟩
theorem CB.xc (T : CB K x C B) (G : CG K) : EXC.XcC K C := by
  obtain ⟨cd, h1, _⟩ := T.cls
  exact ⟨by rw [h1]; rfl, T.ga, T.gg, (T.mro _).trans (by rfl), T.hd, T.cc, G.sp, G.tk, (T.mro _).trans (by rfl)⟩
theorem CB.caught (T : CB K x C B) (h1 : PySem.W.subIn K (.ref B) (.type "BaseException") = some true) (h2 : PySem.W.hasDictIn K B = true) (h3 : PySem.W.typeIn K (.ref B) = some (.type "type")) : PySem.W.exmOne K (.ref C) (.ref B) = some true :=
  PySem.W.exm_ref h1 h2 h3 ((T.mro _).trans (by simp))
theorem CF.fn (T : CF K x qual st C f B) : ∃ fd, Fun K "__init__" qual st f fd := by
  obtain ⟨oc, od, kV, doc, pm, an, cdv, ct, osl, h1, h2⟩ := T.l1
  exact ⟨_, fun_mk h1 h2 T.k1⟩
theorem eq_ref (a b : Addr) : (Value.ref a == Value.ref b) = decide (a = b) := by
  by_cases h : a = b
  · subst h
    simp
  · rw [decide_eq_false h]
    exact beq_eq_false_iff_ne.mpr fun z => h (Value.ref.inj z)
/-- isinstance of an instance of C, for another error class D -/
theorem CB.kit {x' : Str} {D : Addr} (T : CB K x C B) (U : CB K x' D B) (h : D ≠ B) : PySem.W.kitOne K (.ref C) (.ref D) = some (decide (D = C)) := by
  unfold PySem.W.kitOne PySem.W.kitCls
  by_cases e : C = D
  · subst e
    rw [if_pos (by simp), decide_eq_true rfl]
  · have e1 : (Value.ref C == Value.ref D) = false := by rw [eq_ref, decide_eq_false e]
    obtain ⟨cd, h1, _⟩ := U.cls
    rw [e1, if_neg Bool.false_ne_true]
    simp only [h1, U.tC, Option.isSome_some, beq_self_eq_true, Bool.and_self, if_true]
    refine (T.mro _).trans ?_
    rw [decide_eq_false (fun z => e z.symm)]
    simp [Ne.symm e, h, Ne.symm h]
theorem CB.kitB' (T : CB K x C B) (hB : ∃ cd, PySem.W.clsIn K B = some cd) (tB : PySem.W.typeIn K (.ref B) = some (.type "type")) : PySem.W.kitOne K (.ref C) (.ref B) = some true := by
  unfold PySem.W.kitOne PySem.W.kitCls
  by_cases e : C = B
  · subst e
    rw [if_pos (by simp)]
  · have e1 : (Value.ref C == Value.ref B) = false := by rw [eq_ref, decide_eq_false e]
    obtain ⟨cd, h1⟩ := hB
    rw [e1, if_neg Bool.false_ne_true]
    simp only [h1, tB, Option.isSome_some, beq_self_eq_true, Bool.and_self, if_true]
    refine (T.mro _).trans ?_
    simp
theorem CB.kitV (T : CB K x C B) : PySem.W.kitOne K (.ref C) (.type "ValueError") = some true := by
  unfold PySem.W.kitOne PySem.W.kitCls
  rw [if_neg (by simp)]
  show (if PySem.W.kitMeta "ValueError" = true then PySem.W.subIn K (.ref C) (.type "ValueError") else none) = some true
  rw [if_pos (by decide +kernel)]
  exact (T.mro _).trans (by rfl)
end
/-! ### __init__ of one field, of two -/
def spI1 (C : Addr) (n : Str) : Sp := fun vs H Q _ => ∃ (a : Addr) (v : V), vs = [.ref a, v] ∧ H a = some (exo a C none) ∧ ∀ d, H d = none → d ≠ a → Q .non (upd (upd H d (exd d [(n, v)])) a (exo a C (some d)))
def spI2 (C : Addr) (n m : Str) : Sp := fun vs H Q _ => ∃ (a : Addr) (v u : V), vs = [.ref a, v, u] ∧ H a = some (exo a C none) ∧ ∀ d, H d = none → d ≠ a → Q .non (upd (upd (upd H d (exd d [(n, v)])) a (exo a C (some d))) d (exd d [(m, u), (n, v)]))
section
variable {P : Program} {w : World} {K : PySem.W.Frag} {mg : Str → Option Value} {base : Heap}
theorem ok_I1 {x qual : Str} {st : Stmt} {C f B : Addr} {fd : FuncData} {n : Str} {p1 p2 p3 p4 : PySem.Pos} (T : CF K x qual st C f B) (F : Fun K "__init__" qual st f fd) (S : FnScope ["self", n] ["self", n] (defScope st)) (hb : defBody st = [Stmt.Assign [.Attribute (.Name "self" p1) n p2] (.Name n p3) p4])
    (l1 : (defScope st).names.lookup ("self" : Str) = some .local) (l2 : (defScope st).names.lookup n = some .local) (hd : (n == ("__debug__" : Str)) = false) (hcd : (n == ("__classdict__" : Str)) = false)
    (hno : PySem.W.findIn K (.ref C) n = some none) : FnOk P w K mg base CX0 1 f fd ["self", n] (spI1 C n) := by
  refine F.ok S (fun vs H Q E h => ?_) (fun cdv A outer s H vs Q E hr h => ?_)
  · obtain ⟨a, v, rfl, _⟩ := h
    rfl
  · obtain ⟨a, v, rfl, ha, k⟩ := h
    rw [hb]
    refine ⟨_, pss_one (ps_ost (pv 0 rfl (.inl l1)) (pv 1 rfl (.inl l2) hd hcd)), ?_⟩
    exact ⟨v, rfl, .ref a, rfl, a, C, rfl, T.b.ox, hno, .inl ⟨ha, fun d hd hda => k d hd hda⟩⟩
theorem ok_I2 {x qual : Str} {st : Stmt} {C f B : Addr} {fd : FuncData} {n m : Str} {p1 p2 p3 p4 q1 q2 q3 q4 : PySem.Pos} (T : CF K x qual st C f B) (F : Fun K "__init__" qual st f fd) (S : FnScope ["self", n, m] ["self", n, m] (defScope st))
    (hb : defBody st = [Stmt.Assign [.Attribute (.Name "self" p1) n p2] (.Name n p3) p4, Stmt.Assign [.Attribute (.Name "self" q1) m q2] (.Name m q3) q4])
    (l1 : (defScope st).names.lookup ("self" : Str) = some .local) (l2 : (defScope st).names.lookup n = some .local) (l3 : (defScope st).names.lookup m = some .local) (hd : (n == ("__debug__" : Str)) = false) (hcd : (n == ("__classdict__" : Str)) = false) (hd2 : (m == ("__debug__" : Str)) = false) (hcd2 : (m == ("__classdict__" : Str)) = false)
    (hno : PySem.W.findIn K (.ref C) n = some none) (hno2 : PySem.W.findIn K (.ref C) m = some none) : FnOk P w K mg base CX0 1 f fd ["self", n, m] (spI2 C n m) := by
  refine F.ok S (fun vs H Q E h => ?_) (fun cdv A outer s H vs Q E hr h => ?_)
  · obtain ⟨a, v, u, rfl, _⟩ := h
    rfl
  · obtain ⟨a, v, u, rfl, ha, k⟩ := h
    rw [hb]
    refine ⟨_, pss_cons (ps_ost (pv 0 rfl (.inl l1)) (pv 1 rfl (.inl l2) hd hcd)) (pss_one (ps_ost (pv 0 rfl (.inl l1)) (pv 2 rfl (.inl l3) hd2 hcd2))), ?_⟩
    refine ⟨v, rfl, .ref a, rfl, a, C, rfl, T.b.ox, hno, .inl ⟨ha, fun d hd hda => ?_⟩⟩
    exact ⟨u, rfl, .ref a, rfl, a, C, rfl, T.b.ox, hno2, .inr ⟨d, _, upd_same, by rw [upd_ne hda]; exact upd_same, by show 1 ≤ 900; decide, k d hd hda⟩⟩
end
end K23
namespace K23
open PySem L2 Evl Gr
abbrev sFrom0 : Stmt := top 5
abbrev sName : Stmt := top 6
abbrev sWo : Stmt := top 15
abbrev sSlot : Stmt := top 17
section
variable {K : PySem.W.Frag} {σ : L2.St} {H : Hp} {te ta tb : TE}
theorem ev_isN {x : V} (h : Ev te σ H x) : Ev (tOp rIsN te (tC .non)) σ H (.bl (decide (x = .non))) := ev_op h ev_c fun H1 _ Q q => ⟨rfl, q H1 (Ex.refl H1)⟩
theorem ev_notN {x : V} (h : Ev te σ H x) : Ev (tOp rNotN te (tC .non)) σ H (.bl (!decide (x = .non))) := ev_op h ev_c fun H1 _ Q q => ⟨rfl, q H1 (Ex.refl H1)⟩
theorem sv_non (x : Slot) : decide (sv x = .non) = x.isNone := by cases x <;> simp [sv]
theorem rc_lenS {z : Str} (h : z.length ≤ 100000) : RC (fun xs H Q => ∃ x n, xs = [x] ∧ LenV K x H n ∧ Q (.int n) H) [.str z] H (.int (z.length : Int)) := fun H1 _ _ q => ⟨.str z, z.length, rfl, ⟨sz_of h, rfl⟩, q H1 (Ex.refl H1)⟩
theorem ev_strip {a b : Str} (ha : Ev ta σ H (.str a)) (hb : Ev tb σ H (.str b)) (h : a.length ≤ 100000) :
    Ev (tBM K "str" (fun x xs H Q => ∃ a b, x = .str a ∧ xs = [.str b] ∧ a.length ≤ sizeLine ∧ Q (.str (Txt.stripChars a b)) H) ta (tCons tb tNil)) σ H (.str (Txt.stripChars a b)) := fun H1 e Q q =>
  ha H1 e _ fun H2 e2 => ⟨rfl, hb H2 (e.trans e2) _ fun H3 e3 => ⟨a, b, rfl, rfl, sz_of h, q H3 (e2.trans e3)⟩⟩
end
section
variable {P : Program} {w : World} {K : PySem.W.Frag} {mg : Str → Option Value} {base : Heap}
/-! ### is_from_zero -/
def spFrom0 : Sp := fun vs H Q _ => ∃ i : Int, vs = [.int i] ∧ RetV (.bl (decide (0 ≤ i))) H Q
theorem scFrom0 : FnScope ["value"] ["value"] (defScope sFrom0) := ⟨rfl, rfl, rfl, by decide +kernel, rfl, by decide +kernel, by decide +kernel⟩
theorem ok_from0 {f fI : Addr} {fd fdI : FuncData} (F : Fun K "is_from_zero" "is_from_zero" sFrom0 f fd) (T : GlbT mg) (FI : Fun K "is_integer" "is_integer" sIsInt fI fdI) (bI : Binds K fdI ["value"] []) (gI : mg "is_integer" = some (.ref fI)) :
    FnOk P w K mg base CX0 2 f fd ["value"] spFrom0 := by
  have GI : FnOk P w K mg base CX0 1 fI fdI ["value"] (spIsInt K) := ok_isInt FI T
  refine F.ok scFrom0 (fun vs H Q E h => ?_) (fun cdv A outer s H vs Q E hr h => ?_)
  · obtain ⟨i, rfl, _⟩ := h
    rfl
  · obtain ⟨i, rfl, k⟩ := h
    refine ⟨_, pss_one (ps_ret (pe_and (pe_call GI hr (by rfl) gI FI.kp bI .nil pass0 (pa_cons (pv 0) pa_nil)) (pe_one (pe_cmpR op_ge (pv 0) pe_int (nomark _))))), ?_⟩
    exact s_ret (ev_is (ev_andV (a := true) (ev_call (z := .bl true) (ea_cons (ev_var rfl) ea_nil) (spv_isInt (.base (.int i)) kit_int_int kit_int_bool)) fun _ => ev_op (ev_var rfl) ev_c rv_I0) (by rfl)) k
/-! ### is_name -/
def spName (K : PySem.W.Frag) : Sp := fun vs H Q _ => (∃ z : Str, vs = [.str z] ∧ z.length ≤ 1000 ∧ RetV (.bl (nameB z)) H Q) ∨
  ∃ (x : V) (T : String), vs = [x] ∧ TyX K H x (.type T) ∧ kitB T "str" = some false ∧ RetV (.bl false) H Q
structure GlbC (mg : Str → Option Value) : Prop where
  most : ∃ t, mg "MOST_NAME_LETTERS" = some (.int 8 t)
  abc : ∃ t, mg "NAME_LETTERS" = some (.str abc t)
theorem scName : FnScope ["value"] ["value"] (defScope sName) := ⟨rfl, rfl, rfl, by decide +kernel, rfl, by decide +kernel, by decide +kernel⟩
theorem kit_str_str : kitB "str" "str" = some true := by decide +kernel
theorem ok_name {f : Addr} {fd : FuncData} (F : Fun K "is_name" "is_name" sName f fd) (T : GlbT mg) (C : GlbC mg) : FnOk P w K mg base CX0 1 f fd ["value"] (spName K) := by
  obtain ⟨t1, g1⟩ := C.most
  obtain ⟨t2, g2⟩ := C.abc
  refine F.ok scName (fun vs H Q E h => ?_) (fun cdv A outer s H vs Q E hr h => ?_)
  · rcases h with ⟨z, rfl, _⟩ | ⟨x, t, rfl, _⟩ <;> rfl
  · rcases h with ⟨z, rfl, hz, k⟩ | ⟨x, t, rfl, ht, hk, k⟩
    all_goals refine ⟨_, pss_cons (ps_if (pt_not (pt_val (pe_callB call_isi (by rfl) T.inst (by decide +kernel) (pa_cons (pv 0) (pa_cons (pe_bltn (v := .ty "str") (by rfl) T.str (by decide +kernel) rfl) pa_nil))))) (pss_one (ps_ret pe_bl)) pss_nil)
      (pss_one (ps_ret (pe_and (pe_chain op_le op_le pe_int (pe_callB call_len (by rfl) T.len PySem.boot_len (pa_cons (pv 0) pa_nil)) (pe_glob (v := .int 8) rfl g1 ⟨_, rfl⟩))
        (pe_one (pe_cmpR op_eq (pe_bm PySem.F.plainAttrs_str PySem.F.slot_str_strip PySem.F.type_str_strip mt_stripChars (pv 0) (pa_cons (pe_glob (v := .str abc) rfl g2 ⟨_, rfl⟩) pa_nil)) pe_str (nomark _)))))), ?_⟩
    · refine q_when (et_not (et_B (ev_cb (ea_cons (ev_var rfl) (ea_cons ev_c ea_nil)) (rc_isi (.base (.str z)) kit_str_str)))) (fun hb => absurd hb (by decide)) (fun _ H1 e1 => ?_)
      refine s_ret (ev_andV (ev_chain ev_c (ev_cb (ea_cons (ev_var rfl) ea_nil) (rc_lenS (by omega))) ev_c) fun _ => ev_op (ev_strip (ev_var rfl) ev_c (by omega)) ev_c (rv_eq rfl)) fun H2 e2 => k H2 (e1.trans e2)
    · refine q_when (et_not (et_B (ev_cb (ea_cons (ev_var rfl) (ea_cons ev_c ea_nil)) (rc_isi ht hk)))) (fun _ H1 e1 => ?_) (fun hb => absurd hb (by decide))
      exact k H1 e1
/-! ### is_slot -/
def spSlot : Sp := fun vs H Q _ => ∃ x : Slot, vs = [sv x] ∧ okB x = true ∧ RetV (.bl true) H Q
theorem scSlot : FnScope ["value"] ["value"] (defScope sSlot) := ⟨rfl, rfl, rfl, by decide +kernel, rfl, by decide +kernel, by decide +kernel⟩
theorem ok_slot {f fN : Addr} {fd fdN : FuncData} (F : Fun K "is_slot" "is_slot" sSlot f fd) (GN : FnOk P w K mg base CX0 1 fN fdN ["value"] (spName K)) (kN : PySem.W.keepIn K (.ref fN) = true) (bN : Binds K fdN ["value"] []) (gN : mg "is_name" = some (.ref fN)) :
    FnOk P w K mg base CX0 2 f fd ["value"] spSlot := by
  refine F.ok scSlot (fun vs H Q E h => ?_) (fun cdv A outer s H vs Q E hr h => ?_)
  · obtain ⟨x, rfl, _⟩ := h
    rfl
  · obtain ⟨x, rfl, hx, k⟩ := h
    refine ⟨_, pss_one (ps_ret (pe_or (pe_cmpR op_isN (pv 0) pe_non (nomark _)) (pe_one (pe_call GN hr (by rfl) gN kN bN .nil pass0 (pa_cons (pv 0) pa_nil))))), ?_⟩
    have first : Ev (tOp rIsN (tVar 0) (tC .non)) [some (sv x)] H (.bl x.isNone) := ev_is (ev_isN (ev_var rfl)) (by rw [sv_non])
    refine s_ret (ev_is (ev_orV (b := true) first fun hn => ?_) (by rw [Bool.or_true])) k
    cases x with
    | none => cases hn
    | some z =>
      obtain ⟨n1, _, _, n4, _⟩ := ok_name_ hx
      refine ev_call (z := .bl true) (ea_cons (ev_var rfl) ea_nil) fun H1 e Q q E => .inl ⟨z, rfl, by omega, ?_⟩
      rw [n1]
      exact q
end
end K23
namespace L2
open PySem PySem.Spec PyProof.Rows
section
variable {X : Cx} {st : Stmt} {t : TS}
/-- a statement that lets nothing out, among such as do -/
theorem PS.calm_ (h : PS X.nox st t) : PS X st t := ⟨fun pins s σ H D I hw => wpAny_mono (h.run pins s σ H D (I.wish _) hw) (fun f s' q => SP.unwish q) fun _ _ z => absurd z id⟩
end
end L2
namespace K23
open PySem L2 Evl Gr StX EnT ClX OpX RdX
abbrev sRd (i : Nat) : Stmt := inClass (top 18) i
structure RName (K : PySem.W.Frag) (mg : Str → Option Value) (C : Addr) (mc : Value) : Prop where
  g : mg "Round" = some (.ref C)
  rd : CRead K C mc
  most : ∃ u, CVal K C mc "MOST" (.int 24) u
structure RCls (K : PySem.W.Frag) (C : Addr) : Prop where
  cls : Cls K C
  slots : NoAttr K C "slots"
/-- a round of these slots stands at o -/
def RdAt (K : PySem.W.Frag) (C : Addr) (H : Hp) (o : Addr) (l : List Slot) : Prop := ∃ dx q, H o = some (.ins C dx [("slots", .ref q)]) ∧ SqT K H q (vS l) ∧ 1 ≤ l.length ∧ l.length ≤ 24 ∧ Oks l
theorem RdAt.mono {K : PySem.W.Frag} {C : Addr} {H H' : Hp} {o : Addr} {l : List Slot} (e : Ex H H') (h : RdAt K C H o l) : RdAt K C H' o l := by
  obtain ⟨dx, q, h1, h2, h3⟩ := h
  exact ⟨dx, q, e _ _ h1, ex_t e h2, h3⟩
theorem RdAt.lens {K : PySem.W.Frag} {C : Addr} {H : Hp} {o : Addr} {l : List Slot} (h : RdAt K C H o l) : 1 ≤ l.length ∧ l.length ≤ 24 ∧ Oks l := by
  obtain ⟨dx, q, h1, h2, h3⟩ := h
  exact h3
theorem RdAt.ins {K : PySem.W.Frag} {C : Addr} {H : Hp} {o : Addr} {l : List Slot} (h : RdAt K C H o l) : ∃ dx fs, H o = some (.ins C dx fs) := by
  obtain ⟨dx, q, h1, _⟩ := h
  exact ⟨dx, _, h1⟩
theorem rd_insC {X : Cx} {C : Addr} {H : Hp} {o : Addr} {l : List Slot} (h : RdAt X.K C H o l) : InsC X H o C := .inr h.ins
theorem ev_slots {K : PySem.W.Frag} {C : Addr} {σ : L2.St} {H : Hp} {ta : TE} {o : Addr} {l : List Slot} (G : RCls K C) (ha : Ev ta σ H (.ref o)) (h : RdAt K C H o l) : EvTu K (tFld K ta "slots") σ H (vS l) := by
  obtain ⟨dx, q, h1, h2, _⟩ := h
  exact etu_fld ha h1 G.cls G.slots rfl h2
def rLenQ (K : PySem.W.Frag) : List V → Hp → VK → Prop := fun xs H Q => ∃ p ys, xs = [V.ref p] ∧ (SqL K H p ys ∨ SqT K H p ys) ∧ Q (.int ys.length) H
section
variable {K : PySem.W.Frag} {C : Addr} {σ : L2.St} {H : Hp} {ta tb : TE} {l : List Slot} {xs : List V}
theorem ev_lenTu (h : EvTu K ta σ H xs) : Ev (tCB (rLenQ K) (tCons ta tNil)) σ H (.int (xs.length : Int)) := fun H1 e Q q => h H1 e _ fun p H2 e2 hp => ⟨p, xs, rfl, .inr hp, q H2 e2⟩
theorem ev_lenSl (G : RCls K C) {o : Addr} (ha : Ev ta σ H (.ref o)) (h : RdAt K C H o l) : Ev (tCB (rLenQ K) (tCons (tFld K ta "slots") tNil)) σ H (.int (l.length : Int)) := ev_is (ev_lenTu (ev_slots G ha h)) (by rw [vS_len])
end
/-! ### what is let out -/
/-- an error of the class at C with two fields goes out -/
def Out2 (C : Addr) (n m : Str) (v u : V) (H : Hp) (E : XK) : Prop := ∀ d H', H d = none → Ex H H' → H' d = some (.xd [(m, u), (n, v)]) → E (.ref C) (some d) H'
theorem Out2.mono {C : Addr} {n m : Str} {v u : V} {H H' : Hp} {E : XK} (e : Ex H H') (h : Out2 C n m v u H E) : Out2 C n m v u H' E := fun d H2 hd e2 h2 => h d H2 (fresh_back e hd) (e.trans e2) h2
theorem raise_two {C : Addr} {n m : Str} {σ : L2.St} {H : Hp} {E : XK} {v u : V} {ta : TA} (h : EvA ta σ H [v, u]) (b : Out2 C n m v u H E) : tMkO C (spI2 C n m) [] ta σ H (fun cls d H' => E cls d H') :=
  h H (Ex.refl H) _ fun H1 e1 => ⟨by show 2 ≤ 1000; decide, fun a ha => ⟨a, v, u, rfl, upd_same, fun d hd hda => ⟨rfl, d, [(m, u), (n, v)], by rw [upd_ne hda.symm]; exact upd_same, upd_same, by rw [upd_ne hda] at hd; exact hd, by
    rw [upd_ne hda] at hd
    refine b d _ (fresh_back e1 hd) (fun c w hc => ?_) upd_same
    have hc1 := e1 _ _ hc
    have na : c ≠ a := ne_of_none hc1 ha
    have nd : c ≠ d := ne_of_none hc1 hd
    rw [upd_ne nd, del_ne na, upd_ne nd, upd_ne na, upd_ne nd, upd_ne na]
    exact hc1⟩⟩⟩
/-- the error class TooMany with its __init__ -/
structure GMany (P : Program) (w : World) (K : PySem.W.Frag) (mg : Str → Option Value) (base : Heap) (CM fM : Addr) (fdM : FuncData) : Prop where
  ox : OexC K CM
  init : PySem.W.findIn K (.ref CM) "__init__" = some (some (.ref fM))
  ty : PySem.W.typeIn K (.ref fM) = some (.type "function")
  ok : FnOk P w K mg base CX0 1 fM fdM ["self", "what", "most"] (spI2 CM "what" "most")
  b : Binds K fdM ["self", "what", "most"] []
  g : mg "TooMany" = some (.ref CM)
abbrev Many (CM : Addr) (H : Hp) (E : XK) : Prop := Out2 CM "what" "most" (.str "slots") (.int 24) H E
structure GlbR (mg : Str → Option Value) : Prop where
  len : mg "len" = none
  enum : mg "enumerate" = none
theorem ev_cval {K : PySem.W.Frag} {σ : L2.St} {H : Hp} {ta : TE} {C : Addr} {mc : Value} {f : Str} {v : V} {u : Value} (ha : Ev ta σ H (.ref C)) (r : CRead K C mc) (k : CVal K C mc f v u) : Ev (tCVal K ta f) σ H v := fun H1 e Q q =>
  ha H1 e _ fun H2 e2 => ⟨C, mc, v, u, rfl, r, k, q H2 e2⟩
theorem q_forE {K : PySem.W.Frag} {σ : L2.St} {H : Hp} {a : Addr} {xs : List V} {ta : TA} {g : TG} {tu tz : TS} {D : Ends} (h : EvA ta σ H [.ref a]) (hx : SqT K H a xs) (Pv : Nat → L2.St → Hp → Prop) (h0 : ∀ H1, Ex H H1 → Pv 0 σ H1) (hl : ∀ i σ' H', i ≤ xs.length → Pv i σ' H' → SqT K H' a xs)
    (hs : ∀ i x σ' H' T, xs[i]? = some x → Pv i σ' H' → H' T = none → g (.ref T) σ' (L2.upd H' T (.tup [.int (i : Nat), x])) fun σ2 H2 => tu { D with nx := Pv (i + 1), ct := Pv (i + 1), bk := tz D } σ2 H2)
    (hd : ∀ σ' H', Pv xs.length σ' H' → tz D σ' H') : tSeq (tFor (iEnumT K ta) g tu) tz D σ H :=
  h H (Ex.refl H) _ fun H1 e1 => ⟨a, xs, rfl, ex_t e1 hx, for_it (D := { D with nx := tz D }) walk_enumT Pv (h0 H1 e1) hl (fun i v σ' H' H2 hi p y => by
    obtain ⟨T, x, z, rfl, hn, rfl, ex, ez⟩ := y
    obtain rfl := Option.some.inj ex
    exact hs i z σ' H' T ez p hn) hd⟩
section
variable {P : Program} {w : World} {K : PySem.W.Frag} {mg : Str → Option Value} {base : Heap}
/-! ### Round.__init__ -/
abbrev nInit : List Str := ["self", "slots", "at", "slot"]
def spInit (K : PySem.W.Frag) (C CM : Addr) : Sp := fun vs H Q E => ∃ (o p dx : Addr) (l : List Slot), vs = [.ref o, .ref p] ∧ H o = some (.ins C dx []) ∧ SqT K H p (vS l) ∧ 1 ≤ l.length ∧ l.length ≤ 100 ∧ Oks l ∧
  (l.length ≤ 24 → ∀ H', Keep o H H' → RdAt K C H' o l → Q .non H') ∧ (24 < l.length → Many CM H E)
def spInitA (K : PySem.W.Frag) (C CM : Addr) : Sp := fun vs H Q E => ∃ ws rest, vs = ws ++ rest ∧ ws.length = (["self"] : List Str).length ∧ rest.length ≤ sizeLine ∧ ∀ p, H p = none → spInit K C CM (ws ++ [V.ref p]) (L2.upd H p (.tup rest)) Q E
theorem scInit : FnScope nInit ((["self"] : List Str) ++ (["slots"] : List Str)) (defScope (sRd 1)) := ⟨rfl, rfl, rfl, by decide +kernel, rfl, by decide +kernel, by decide +kernel⟩
theorem ok_Init {C f fS CM fM : Addr} {mc : Value} {fd fdS fdM : FuncData} (F : Fun K "__init__" "Round.__init__" (sRd 1) f fd) (N : RName K mg C mc) (G : RCls K C) (T : GlbR mg) (GM : GMany P w K mg base CM fM fdM)
    (GS : FnOk P w K mg base CX0 2 fS fdS ["value"] spSlot) (kS : PySem.W.keepIn K (.ref fS) = true) (bS : Binds K fdS ["value"] []) (gS : mg "is_slot" = some (.ref fS)) : FnR P w K mg base (L2.CX P w) 3 f (spInitA K C CM) := by
  obtain ⟨oc, od, kV, doc, pm, an, cdv, ct, osl, rfl, lk, hcd⟩ := F.ex
  obtain ⟨mu, cm⟩ := N.most
  refine fn_star (ps := ["self"]) (sp := spInit K C CM) lk hcd scInit cxUp (bind_star1 (B := fun us => bindArgs (PySem.W.fnOf "__init__" "Round.__init__" (defArgs (sRd 1)) (defBody (sRd 1)) (defScope (sRd 1)) .none kV doc pm an cdv ct) ⟨us, []⟩) (fun a => rfl) fun a r rs => rfl) (fun A outer s H vs Q E hr h => ?_)
  obtain ⟨o, p, dx, l, rfl, hO, hP, l1, l100, ok, k, kE⟩ := h
  refine ⟨_, pss_cons (PS.calm_ (ps_if (pt_cmpR op_eq (pe_callB call_len_seq (by rfl) T.len PySem.boot_len (pa_cons (pv 1) pa_nil)) pe_int (nomark _)) (pss_one ps_no) pss_nil))
    (pss_cons (PS.calm_ (ps_for PassesOwn.never rfl (pi_enumT (by rfl) T.enum (pa_cons (pv 1) pa_nil)) (pg_tup rfl (pgs_cons (pg_name (i := 2) scInit.nd rfl (.inl rfl)) (pgs_cons (pg_name (i := 3) scInit.nd rfl (.inl rfl)) pgs_nil)))
      (pss_one (ps_if (pt_not (pt_val (pe_call GS hr (by rfl) gS kS bS .nil pass0 (pa_cons (pv 3) pa_nil)))) (pss_one ps_no) pss_nil))))
    (pss_cons (ps_if (pt_cmpR op_gt (pe_callB call_len_seq (by rfl) T.len PySem.boot_len (pa_cons (pv 1) pa_nil)) (pe_cval (pe_glob (v := .ref C) rfl N.g rfl)) (nomark _))
      (pss_one (ps_raise rfl (takes_of rfl rfl rfl rfl) (pmk_oex GM.ox GM.init GM.ty GM.ok hr GM.b .nil pass0 (by rfl) GM.g (pa_cons pe_str (pa_cons (pe_cval (pe_glob (v := .ref C) rfl N.g rfl)) pa_nil))))) pss_nil)
    (pss_one (PS.calm_ (ps_fld (pv 0) (pv 1) (by rfl)))))), ?_⟩
  have ln : ∀ {x y : Option V} {H1 : Hp}, Ex H H1 → Ev (tCB (rLenQ K) (tCons (tVar 1) tNil)) [some (.ref o), some (.ref p), x, y] H1 (.int (l.length : Int)) := fun e => ev_is (ev_lenTu (etu_var rfl (ex_t e hP))) (by rw [vS_len])
  refine q_when (b := false) (et_is (et_test (ev_op (ln (Ex.refl H)) ev_c (rv_eq rfl))) (by rw [vint_inj]; exact decide_eq_false (by omega))) (fun hb => absurd hb (by decide)) (fun _ H1 e1 => ?_)
  refine q_forE (K := K) (a := p) (xs := vS l) (ea_cons (ev_var rfl) ea_nil) (ex_t e1 hP) (fun _ σ' H' => ∃ x1 x2 : Option V, σ' = [some (.ref o), some (.ref p), x1, x2] ∧ Ex H H') (fun H2 e2 => ⟨none, none, rfl, e1.trans e2⟩) (fun _ _ H' _ ⟨_, _, _, e⟩ => ex_t e hP) ?_ ?_
  · rintro i x σ' H2 T2 hx ⟨x1, x2, rfl, e2⟩ hT
    obtain ⟨y, hy, rfl⟩ := nth_map hx
    have e3 := e2.trans (Ex.new (o := .tup [.int (i : Nat), sv y]) hT)
    refine ⟨T2, [.int (i : Nat), sv y], rfl, st_of upd_same, rfl, _, _, rfl, _, _, rfl, rfl, ?_⟩
    exact s_if (b := false) (et_is (et_not (et_B (ev_call (z := .bl true) (ea_cons (ev_var rfl) ea_nil) fun H3 e4 Q q E => ⟨y, rfl, ok y (List.mem_of_getElem? hy), q⟩))) rfl) (fun hb => absurd hb (by decide)) fun _ H3 e4 => ⟨_, _, rfl, e3.trans e4⟩
  · rintro σ' H2 ⟨x1, x2, rfl, e2⟩
    refine q_when (et_test (ev_op (ln e2) (ev_cval ev_c N.rd cm) rv_I0)) (fun hb H3 e3 => ?_) (fun hb H3 e3 => ?_)
    · have far : (l.length : Int) > 24 := of_decide_eq_true hb
      exact raise_two (ea_cons ev_c (ea_cons (ev_cval ev_c N.rd cm) ea_nil)) ((kE (by omega)).mono (e2.trans e3))
    · have near : ¬ (l.length : Int) > 24 := of_decide_eq_false hb
      have E3 := e2.trans e3
      have hO3 := E3 _ _ hO
      refine ⟨_, rfl, _, rfl, o, C, dx, [], rfl, hO3, G.cls, G.slots, Nat.le_of_ble_eq_true rfl, ?_⟩
      exact k (by omega) _ (fun c u hc hn => by rw [upd_ne hn]; exact E3 _ _ hc) ⟨dx, p, upd_same, sqT_upd (ex_t E3 hP) hO3, l1, by omega, ok⟩
end
/-! ### a round is made -/
/-- gives a round of these slots -/
def EvR (K : PySem.W.Frag) (C : Addr) (te : TE) (σ : L2.St) (H : Hp) (l : List Slot) : Prop := ∀ H1, Ex H H1 → ∀ Q : VK, (∀ o H2, Ex H1 H2 → RdAt K C H2 o l → Q (.ref o) H2) → te σ H1 Q
def RetR (K : PySem.W.Frag) (C : Addr) (l : List Slot) (H : Hp) (Q : VK) : Prop := ∀ o H', Ex H H' → RdAt K C H' o l → Q (.ref o) H'
theorem RetR.mono {K : PySem.W.Frag} {C : Addr} {l : List Slot} {H H' : Hp} {Q : VK} (e : Ex H H') (h : RetR K C l H Q) : RetR K C l H' Q := fun o H2 e2 r => h o H2 (e.trans e2) r
section
variable {K : PySem.W.Frag} {C CM : Addr} {σ : L2.St} {H : Hp} {t : TA} {te : TE} {l : List Slot} {E : XK} {Q : VK}
theorem EvR.mono {H' : Hp} (h : EvR K C te σ H l) (e : Ex H H') : EvR K C te σ H' l := fun H1 e1 => h H1 (e.trans e1)
theorem er_var {i : Nat} {o : Addr} (h0 : σ[i]? = some (some (.ref o))) (h : RdAt K C H o l) : EvR K C (tVar i) σ H l := fun H1 e Q q => ⟨_, h0, q o H1 (Ex.refl H1) (h.mono e)⟩
theorem s_retE (h : EvR K C te σ H l) {D : Ends} (k : ∀ o H', Ex H H' → RdAt K C H' o l → D.rt (.ref o) H') : tRet te D σ H := h H (Ex.refl H) _ fun o H1 e r => k o H1 e r
/-- what __init__ is told -/
theorem init_told {x dx : Addr} (hx : H x = none) (hd : H dx = none) (hn : dx ≠ x) (l1 : 1 ≤ l.length) (lm : l.length ≤ 100) (ok : Oks l) (q : l.length ≤ 24 → RetR K C l H Q) (qE : 24 < l.length → Many CM H E) :
    spInitA K C CM (V.ref x :: vS l) (upd (upd H dx (.own x)) x (.ins C dx [])) (fun v H2 => v = .non ∧ Q (.ref x) H2) E := by
  have e3 : Ex H (upd (upd H dx (.own x)) x (.ins C dx [])) := (Ex.new hd).trans (Ex.new (by rw [upd_ne hn.symm]; exact hx))
  refine ⟨[.ref x], vS l, rfl, rfl, sz_of (by rw [vS_len]; omega), fun p hp => ?_⟩
  have e4 := Ex.new (o := .tup (vS l)) hp
  refine ⟨x, p, dx, l, rfl, e4 _ _ upd_same, st_of upd_same, l1, lm, ok, fun h H' kp at_ => ⟨rfl, q h x H' (fun c u hc => kp c u (e4 _ _ (e3 _ _ hc)) (ne_of_none hc hx)) at_⟩, fun h => (qE h).mono (e3.trans e4)⟩
theorem s_make (h : EvA t σ H (vS l)) (l1 : 1 ≤ l.length) (lm : l.length ≤ 100) (ok : Oks l) (q : l.length ≤ 24 → RetR K C l H Q) (qE : 24 < l.length → Many CM H E) : tMakeR C (spInitA K C CM) E t σ H Q :=
  h H (Ex.refl H) _ fun H1 e1 x dx hx hd hn => init_told hx hd hn l1 lm ok (fun z => (q z).mono e1) fun z => (qE z).mono e1
theorem er_make (h : EvA t σ H (vS l)) (l1 : 1 ≤ l.length) (l24 : l.length ≤ 24) (ok : Oks l) : EvR K C (tMakeR C (spInitA K C CM) E t) σ H l := fun H1 e Q q =>
  s_make (h.mono e) l1 (by omega) ok (fun _ o H' e' r => q o H' e' r) fun z => absurd z (by omega)
end
section
variable {X : Cx} {C CM : Addr} {σ : L2.St} {H : Hp} {te : TE} {l : List Slot} {E : XK} {Q : VK}
theorem s_makeT (h : EvTu X.K te σ H (vS l)) (l1 : 1 ≤ l.length) (lm : l.length ≤ 100) (ok : Oks l) (q : l.length ≤ 24 → RetR X.K C l H Q) (qE : 24 < l.length → Many CM H E) : tMakeS X C (spInitA X.K C CM) E te σ H Q :=
  h H (Ex.refl H) _ fun p H1 e1 hp => ⟨p, vS l, rfl, .inl hp, fun x dx hx hd hn => init_told hx hd hn l1 lm ok (fun z => (q z).mono e1) fun z => (qE z).mono e1⟩
theorem s_makeL (h : EvL te σ H (vS l)) (l1 : 1 ≤ l.length) (lm : l.length ≤ 100) (ok : Oks l) (q : l.length ≤ 24 → RetR X.K C l H Q) (qE : 24 < l.length → Many CM H E) : tMakeS X C (spInitA X.K C CM) E te σ H Q :=
  h H (Ex.refl H) _ fun p H1 hp0 e1 hp => ⟨p, vS l, rfl, .inr (sq_of hp), fun x dx hx hd hn => init_told hx hd hn l1 lm ok (fun z => (q z).mono e1) fun z => (qE z).mono e1⟩
end
end K23
namespace K23
open PySem L2 Evl Gr StX EnT ClX OpX RdX OwC StS
structure GlbS2 (mg : Str → Option Value) : Prop where
  sorted : mg "sorted" = none
  set : mg "set" = none
  iter : mg "iter" = none
  any : mg "any" = none
section
variable {K : PySem.W.Frag} {σ : L2.St} {H : Hp} {ta tb te : TE}
theorem ev_ixTu {xs : List V} {i : Int} {v : V} (h : EvTu K ta σ H xs) (hb : Ev tb σ H (.int i)) (ha : atI xs i = some v) : Ev (tOp (rIxT K) ta tb) σ H v := fun H1 e Q q =>
  h H1 e _ fun p H2 e2 hp => hb H2 (e.trans e2) _ fun H3 e3 => ⟨p, xs, i, v, rfl, rfl, ex_t e3 hp, ha, q H3 (e2.trans e3)⟩
theorem ev_isTu {neg : Bool} {x : V} {xs : List V} (ha : Ev ta σ H x) (hb : EvTu K tb σ H xs) (hx : flatV x = true) (hf : xs.all flatV = true) : Ev (tOp (rIn K neg) ta tb) σ H (.bl (if neg then !inV x xs else inV x xs)) := fun H1 e Q q =>
  ha H1 e _ fun H2 e2 => hb H2 (e.trans e2) _ fun p H3 e3 hp => ⟨p, xs, rfl, .inr hp, hx, hf, q H3 (e2.trans e3)⟩
theorem vS_at {l : List Slot} {i : Nat} {x : Slot} (h : l[i]? = some x) : (vS l)[i]? = some (sv x) := by
  unfold vS
  rw [List.getElem?_map, h]
  rfl
end
/-- the places of a flow in a round -/
def plcs (l : List Slot) (z : Str) : List Int := ((List.range l.length).filter fun k => decide (l[k]? = some (some z))).map fun k : Nat => (k : Int)
theorem plcs_given (l : List Slot) (z : Str) : given l.length (fun k => decide (l[k]? = some (some z))) (fun k => V.int (k : Int)) = vI (plcs l z) := by
  unfold given vI plcs
  rw [List.map_map]
  rfl
theorem plcs_len (l : List Slot) (z : Str) : (plcs l z).length ≤ l.length := by
  unfold plcs
  rw [List.length_map]
  have := List.length_filter_le (fun k => decide (l[k]? = some (some z))) (List.range l.length)
  rwa [List.length_range] at this
/-- the names of a row of slots, in order -/
def Names (l : List Slot) (ys : List Str) : Prop := PyProof.Rows.sortedS ys = true ∧ ys.Nodup ∧ ∀ z, z ∈ ys ↔ some z ∈ l
theorem names_one {l : List Slot} {ys zs : List Str} (h : Names l ys) (h' : Names l zs) : ys = zs := StO.one (StO.rows h.1 h.2.1) (StO.rows h'.1 h'.2.1) fun z => (h.2.2 z).trans (h'.2.2 z).symm
/-- the texts of a row of slots, as they come -/
def txts (l : List Slot) : List Str := l.filterMap id
theorem txts_vals (l : List Slot) : ((l.filter fun x => !x.isNone).map sv) = (txts l).map V.str := by
  induction l with
  | nil => rfl
  | cons x l ih =>
    cases x with
    | none => exact ih
    | some z => exact congrArg (V.str z :: ·) ih
theorem txts_mem {l : List Slot} {z : Str} : z ∈ txts l ↔ some z ∈ l := by
  unfold txts
  rw [List.mem_filterMap]
  exact ⟨fun ⟨x, hx, e⟩ => by cases x with
    | none => cases e
    | some u => cases e; exact hx, fun h => ⟨_, h, rfl⟩⟩
theorem txts_len (l : List Slot) : (txts l).length ≤ l.length := List.length_filterMap_le ..
section
variable {X : Cx} {σ : L2.St} {H : Hp} {te : TE}
/-- sorted(set(a new list of texts)) -/
theorem s_names {xs : List Str} {l : List Slot} {Q : VK} (h : EvL te σ H (xs.map V.str)) (hz : xs.length < 64) (hm : ∀ z, z ∈ xs ↔ some z ∈ l) (k : ∀ p ys H1, H p = none → Ex H H1 → H1 p = some (.lst (ys.map V.str)) → Names l ys → ys.length ≤ xs.length → Q (.ref p) H1) :
    tCB (rSortT X) (tCons (tCB (rSetT X) (tCons te tNil)) tNil) σ H Q :=
  h H (Ex.refl H) _ fun a H1 ha e1 h1 => ⟨a, xs, rfl, sq_of h1, by omega, fun s ks hs same => ⟨s, ks, rfl, upd_same, by have := same.2.2; omega, fun ys p pm srt hp => by
    have e2 : Ex H (upd H1 s (SetT X.prog X.w s ks)) := e1.trans (Ex.new hs)
    refine k p ys _ (fresh_back e2 hp) (e2.trans (Ex.new hp)) upd_same ⟨srt, pm.nodup_iff.mpr same.1, fun z => ?_⟩ (by rw [pm.length_eq]; exact same.2.2)
    rw [pm.mem_iff, same.2.1 z, hm z]⟩⟩
end
section
variable {P : Program} {w : World} {K : PySem.W.Frag} {mg : Str → Option Value} {base : Heap}
/-! ### Round.__len__ -/
def spLen (K : PySem.W.Frag) (C : Addr) : Sp := fun vs H Q _ => ∃ (o : Addr) (l : List Slot), vs = [.ref o] ∧ RdAt K C H o l ∧ RetV (.int (l.length : Int)) H Q
theorem scLen : FnScope ["self"] ["self"] (defScope (sRd 2)) := ⟨rfl, rfl, rfl, by decide +kernel, rfl, by decide +kernel, by decide +kernel⟩
theorem ok_Len {C f : Addr} {fd : FuncData} (F : Fun K "__len__" "Round.__len__" (sRd 2) f fd) (G : RCls K C) (T : GlbR mg) : FnOk P w K mg base CX0 1 f fd ["self"] (spLen K C) := by
  refine F.ok scLen (fun vs H Q E h => ?_) (fun cdv A outer s H vs Q E hr h => ?_)
  · obtain ⟨o, l, rfl, _⟩ := h
    rfl
  · obtain ⟨o, l, rfl, hO, k⟩ := h
    refine ⟨_, pss_one (ps_ret (pe_callB call_len_seq (by rfl) T.len PySem.boot_len (pa_cons (pe_fld (pv 0) rfl) pa_nil))), ?_⟩
    exact s_ret (ev_lenSl G (ev_var rfl) hO) k
/-! ### Round.__iter__ -/
def spIter (K : PySem.W.Frag) (C : Addr) (m : Nat) : Sp := fun vs H Q _ => ∃ (o : Addr) (l : List Slot), vs = [.ref o] ∧ RdAt K C H o l ∧ Old m H ∧ ∀ it t H', H it = none → m ≤ it → Ex H H' → H' it = some (ItT t it) → SqT K H' t (vS l) → Q (.ref it) H'
theorem scIter : FnScope ["self"] ["self"] (defScope (sRd 3)) := ⟨rfl, rfl, rfl, by decide +kernel, rfl, by decide +kernel, by decide +kernel⟩
theorem ok_Iter {C f : Addr} {fd : FuncData} (F : Fun K "__iter__" "Round.__iter__" (sRd 3) f fd) (G : RCls K C) (T : GlbS2 mg) (m : Nat) : FnOk P w K mg base CX0 1 f fd ["self"] (spIter K C m) := by
  refine F.ok scIter (fun vs H Q E h => ?_) (fun cdv A outer s H vs Q E hr h => ?_)
  · obtain ⟨o, l, rfl, _⟩ := h
    rfl
  · obtain ⟨o, l, rfl, hO, old, k⟩ := h
    refine ⟨_, pss_one (ps_ret (pe_callB call_iterT (by rfl) T.iter (by decide +kernel) (pa_cons (pe_fld (pv 0) rfl) pa_nil))), ?_⟩
    have sl := ev_slots (σ := [some (.ref o)]) (ta := tVar 0) G (ev_var rfl) hO
    refine s_retR (sl H (Ex.refl H) _ fun t H1 e1 ht => ⟨t, _, m, rfl, ht, ?_, fun it hit age => k it t _ (fresh_back e1 hit) age (e1.trans (Ex.new hit)) upd_same (ex_t (Ex.new hit) ht)⟩)
    obtain ⟨b, u, hb, nb⟩ := old
    exact ⟨b, u, e1 _ _ hb, nb⟩
/-! ### Round.__contains__ -/
def spCont (K : PySem.W.Frag) (C : Addr) : Sp := fun vs H Q _ => (∃ (o : Addr) (l : List Slot) (z : Str), vs = [.ref o, .str z] ∧ RdAt K C H o l ∧ z.length ≤ 1000 ∧ RetV (.bl (nameB z && decide (some z ∈ l))) H Q) ∨
  ∃ (o : Addr) (l : List Slot) (x : V) (T : String), vs = [.ref o, x] ∧ RdAt K C H o l ∧ TyX K H x (.type T) ∧ kitB T "str" = some false ∧ RetV (.bl false) H Q
theorem scCont : FnScope ["self", "x"] ["self", "x"] (defScope (sRd 4)) := ⟨rfl, rfl, rfl, by decide +kernel, rfl, by decide +kernel, by decide +kernel⟩
theorem ok_Cont {C f fN : Addr} {fd fdN : FuncData} (F : Fun K "__contains__" "Round.__contains__" (sRd 4) f fd) (G : RCls K C) (GN : FnOk P w K mg base CX0 1 fN fdN ["value"] (spName K)) (kN : PySem.W.keepIn K (.ref fN) = true) (bN : Binds K fdN ["value"] []) (gN : mg "is_name" = some (.ref fN)) :
    FnOk P w K mg base CX0 2 f fd ["self", "x"] (spCont K C) := by
  refine F.ok scCont (fun vs H Q E h => ?_) (fun cdv A outer s H vs Q E hr h => ?_)
  · rcases h with ⟨o, l, z, rfl, _⟩ | ⟨o, l, x, t, rfl, _⟩ <;> rfl
  · rcases h with ⟨o, l, z, rfl, hO, hz, k⟩ | ⟨o, l, x, t, rfl, hO, ht, hk, k⟩
    all_goals refine ⟨_, pss_one (ps_ret (pe_and (pe_call GN hr (by rfl) gN kN bN .nil pass0 (pa_cons (pv 1) pa_nil)) (pe_one (pe_cmpR op_in_seq (pv 1) (pe_fld (pv 0) rfl) (by rfl))))), ?_⟩
    · refine s_ret (ev_is (ev_andV (a := nameB z) (b := decide (some z ∈ l)) (ev_call (ea_cons (ev_var rfl) ea_nil) fun H1 e Q q E => .inl ⟨z, rfl, hz, q⟩) fun _ => ?_) rfl) k
      exact ev_is (ev_isTu (neg := false) (x := .str z) (ev_var rfl) (ev_slots G (ev_var rfl) hO) rfl (flat_slots l)) (by rw [if_neg Bool.false_ne_true, show V.str z = sv (some z) from rfl, inV_slot])
    · exact s_ret (ev_is (ev_andV (a := false) (b := false) (ev_call (ea_cons (ev_var rfl) ea_nil) fun H1 e Q q E => .inr ⟨x, t, rfl, tyx_mono e ht, hk, q⟩) fun z => absurd z (by decide)) rfl) k
/-! ### Round.__getitem__ -/
def spGet (K : PySem.W.Frag) (C : Addr) : Sp := fun vs H Q _ => ∃ (o : Addr) (l : List Slot) (k : Nat) (x : Slot), vs = [.ref o, .int (k : Int)] ∧ RdAt K C H o l ∧ l[k]? = some x ∧ RetV (sv x) H Q
theorem scGet : FnScope ["self", "at"] ["self", "at"] (defScope (sRd 5)) := ⟨rfl, rfl, rfl, by decide +kernel, rfl, by decide +kernel, by decide +kernel⟩
theorem ok_Get {C f fW : Addr} {fd fdW : FuncData} (F : Fun K "__getitem__" "Round.__getitem__" (sRd 5) f fd) (G : RCls K C) (T : GlbR mg)
    (GW : FnOk P w K mg base CX0 2 fW fdW ["value", "least", "most"] (spWithin K)) (kW : PySem.W.keepIn K (.ref fW) = true) (bW : Binds K fdW ["value", "least", "most"] []) (gW : mg "is_within" = some (.ref fW)) : FnOk P w K mg base CX0 3 f fd ["self", "at"] (spGet K C) := by
  refine F.ok scGet (fun vs H Q E h => ?_) (fun cdv A outer s H vs Q E hr h => ?_)
  · obtain ⟨o, l, k, x, rfl, _⟩ := h
    rfl
  · obtain ⟨o, l, i, x, rfl, hO, hi, k⟩ := h
    refine ⟨_, pss_cons (ps_if (pt_not (pt_val (pe_call GW hr (by rfl) gW kW bW .nil pass0 (pa_cons (pv 1) (pa_cons pe_int (pa_cons (pe_op op_sub (pe_callB call_len_seq (by rfl) T.len PySem.boot_len (pa_cons (pe_fld (pv 0) rfl) pa_nil)) pe_int) pa_nil)))))) (pss_one ps_no) pss_nil)
      (pss_one (ps_ret (pe_ix ix_tup (pe_fld (pv 0) rfl) (pv 1) (fun _ _ => rfl)))), ?_⟩
    have lt := (List.getElem?_eq_some_iff.mp hi).1
    refine q_when (b := false) (et_is (et_not (et_B (ev_call (z := .bl true) (ea_cons (ev_var rfl) (ea_cons ev_c (ea_cons (ev_op (ev_lenSl G (ev_var rfl) hO) ev_c rv_I0) ea_nil))) fun H1 e Q q E => .inl ⟨_, _, _, rfl, ?_⟩))) rfl) (fun hb => absurd hb (by decide)) (fun _ H1 e1 => ?_)
    · rw [decide_eq_true (by omega : (0 : Int) ≤ (i : Int)), decide_eq_true (by omega : (i : Int) ≤ (l.length : Int) - 1)]
      exact q
    · exact s_ret (ev_ixTu (ev_slots G (ev_var rfl) (hO.mono e1)) (ev_var rfl) (atI_nat (vS_at hi))) fun H2 e2 => k H2 (e1.trans e2)
/-! ### Round.__call__ -/
def spCall (K : PySem.W.Frag) (C : Addr) : Sp := fun vs H Q _ => ∃ (o : Addr) (l : List Slot) (i : Int) (x : Slot), vs = [.ref o, .int i] ∧ RdAt K C H o l ∧ l[(i % (l.length : Int)).toNat]? = some x ∧ RetV (sv x) H Q
theorem scCall : FnScope ["self", "tick"] ["self", "tick"] (defScope (sRd 6)) := ⟨rfl, rfl, rfl, by decide +kernel, rfl, by decide +kernel, by decide +kernel⟩
theorem ok_Call {C f fI : Addr} {fd fdI : FuncData} (F : Fun K "__call__" "Round.__call__" (sRd 6) f fd) (G : RCls K C) (T : GlbR mg)
    (GI : FnOk P w K mg base CX0 1 fI fdI ["value"] (spIsInt K)) (kI : PySem.W.keepIn K (.ref fI) = true) (bI : Binds K fdI ["value"] []) (gI : mg "is_integer" = some (.ref fI)) : FnOk P w K mg base CX0 2 f fd ["self", "tick"] (spCall K C) := by
  refine F.ok scCall (fun vs H Q E h => ?_) (fun cdv A outer s H vs Q E hr h => ?_)
  · obtain ⟨o, l, i, x, rfl, _⟩ := h
    rfl
  · obtain ⟨o, l, i, x, rfl, hO, hi, k⟩ := h
    refine ⟨_, pss_cons (ps_if (pt_not (pt_val (pe_call GI hr (by rfl) gI kI bI .nil pass0 (pa_cons (pv 1) pa_nil)))) (pss_one ps_no) pss_nil)
      (pss_one (ps_ret (pe_ix ix_tup (pe_fld (pv 0) rfl) (pe_op op_mod (pv 1) (pe_callB call_len_seq (by rfl) T.len PySem.boot_len (pa_cons (pe_fld (pv 0) rfl) pa_nil))) (fun _ _ => rfl)))), ?_⟩
    obtain ⟨l1, l24, _⟩ := hO.lens
    have pos : (0 : Int) < (l.length : Int) := by omega
    refine q_when (b := false) (et_is (et_not (et_B (ev_call (z := .bl true) (ea_cons (ev_var rfl) ea_nil) (spv_isInt (.base (.int i)) kit_int_int kit_int_bool)))) rfl) (fun hb => absurd hb (by decide)) (fun _ H1 e1 => ?_)
    have r0 : ((i % (l.length : Int)).toNat : Int) = i % (l.length : Int) := Int.toNat_of_nonneg (Int.emod_nonneg _ (by omega))
    refine s_ret (ev_ixTu (ev_slots G (ev_var rfl) (hO.mono e1)) (ev_op (ev_var rfl) (ev_lenSl G (ev_var rfl) (hO.mono e1)) (rv_I pos)) ?_) fun H2 e2 => k H2 (e1.trans e2)
    rw [← r0]
    exact atI_nat (vS_at hi)
/-! ### Round.own -/
abbrev nOwn : List Str := ["self", "flow", "place", "slot"]
def spOwn (K : PySem.W.Frag) (C : Addr) : Sp := fun vs H Q _ => ∃ (o : Addr) (l : List Slot) (z : Str), vs = [.ref o, .str z] ∧ RdAt K C H o l ∧ nameB z = true ∧ z.length ≤ 1000 ∧ ∀ p H', Ex H H' → SqT K H' p (vI (plcs l z)) → Q (.ref p) H'
theorem scOwn : FnScope nOwn ["self", "flow"] (defScope (sRd 7)) := ⟨rfl, rfl, rfl, by decide +kernel, rfl, by decide +kernel, by decide +kernel⟩
theorem ok_Own {C f fN : Addr} {fd fdN : FuncData} (F : Fun K "own" "Round.own" (sRd 7) f fd) (G : RCls K C) (T : GlbR mg) (tuple_ : mg "tuple" = none) (GN : FnOk P w K mg base CX0 1 fN fdN ["value"] (spName K)) (kN : PySem.W.keepIn K (.ref fN) = true) (bN : Binds K fdN ["value"] []) (gN : mg "is_name" = some (.ref fN)) :
    FnOk P w K mg base CX0 2 f fd ["self", "flow"] (spOwn K C) := by
  refine F.ok scOwn (fun vs H Q E h => ?_) (fun cdv A outer s H vs Q E hr h => ?_)
  · obtain ⟨o, l, z, rfl, _⟩ := h
    rfl
  · obtain ⟨o, l, z, rfl, hO, hn, hz, k⟩ := h
    refine ⟨_, pss_cons (ps_if (pt_not (pt_val (pe_call GN hr (by rfl) gN kN bN .nil pass0 (pa_cons (pv 1) pa_nil)))) (pss_one ps_no) pss_nil)
      (pss_one (ps_ret (pe_tupleOf (by rfl) tuple_ (pe_lc (own := [("place", 2), ("slot", 3)]) (g := gTup K 2 (gCons (gName 2) (gCons (gName 3) gNil))) rfl scOwn.nd (pi_enumT (by rfl) T.enum (pa_cons (pe_fld (pv 0) rfl) pa_nil)) (blkOk_by (own := [("place", 2), ("slot", 3)]) (N := nOwn) (sc := defScope (sRd 7)) (by decide +kernel))
        (fun _ _ _ _ _ => pg_tup rfl (pgs_cons (pg_name (i := 2) scOwn.nd rfl (Or.inl rfl)) (pgs_cons (pg_name (i := 3) scOwn.nd rfl (Or.inl rfl)) pgs_nil))) (fun _ _ _ _ _ => pts_one (pt_cmpR op_eq (pv 3) (pv 1) (nomark _))) (fun _ _ _ _ _ => pv 2))))), ?_⟩
    refine q_when (b := false) (et_is (et_not (et_B (ev_call (z := .bl true) (ea_cons (ev_var rfl) ea_nil) fun H1 e Q q E => .inl ⟨z, rfl, hz, by rw [hn]; exact q⟩))) rfl) (fun hb => absurd hb (by decide)) (fun _ H1 e1 => ?_)
    have hO1 := hO.mono e1
    have l24 := hO.lens.2.1
    obtain ⟨dx, q, h1, h2, _⟩ := hO1
    have c := el_enT (K := K) (σ := [some (.ref o), some (.str z), none, none]) (H := H1) (t := tTest (tOp rEq (tVar 3) (tVar 1))) (te := tVar 2) (ta := tCons (tFld K (tVar 0) "slots") tNil) (a := q) (xs := vS l) (i := 2) (j := 3) (vs := [2, 3])
      (fun k => decide (l[k]? = some (some z))) (fun k => .int (k : Int)) (ea_cons (ev_fld (ev_var rfl) h1 G.cls G.slots rfl) ea_nil) h2 (by rw [vS_len]; omega) (fun _ _ => rfl)
      (fun k x H2 e2 hx => by
        obtain ⟨y, hy, rfl⟩ := nth_map hx
        rw [hy]
        exact et_is (et_test (ev_op (ev_var rfl) (ev_var rfl) (rv_eq (sv_scal y (some z))))) (by rw [show V.str z = sv (some z) from rfl, sv_dec, decide_eq_decide]; simp))
      (fun k x H2 e2 hx _ => ev_var rfl)
    rw [vS_len, plcs_given] at c
    exact s_retR (etu_tuple c H1 (Ex.refl H1) _ fun p H2 e2 hp => k p H2 (e1.trans e2) hp)
/-! ### Round.flow_names -/
def spFlow (K : PySem.W.Frag) (C : Addr) : Sp := fun vs H Q _ => ∃ (o : Addr) (l : List Slot), vs = [.ref o] ∧ RdAt K C H o l ∧ ∀ p ys H', Ex H H' → SqT K H' p (ys.map V.str) → Names l ys → ys.length ≤ 24 → Q (.ref p) H'
theorem scFlow : FnScope ["self", "slot"] ["self"] (defScope (sRd 8)) := ⟨rfl, rfl, rfl, by decide +kernel, rfl, by decide +kernel, by decide +kernel⟩
theorem ok_Flow {C f : Addr} {fd : FuncData} (F : Fun K "flow_names" "Round.flow_names" (sRd 8) f fd) (G : RCls K C) (T : GlbS2 mg) (tuple_ : mg "tuple" = none) : FnOk P w K mg base CX0 1 f fd ["self"] (spFlow K C) := by
  refine F.ok scFlow (fun vs H Q E h => ?_) (fun cdv A outer s H vs Q E hr h => ?_)
  · obtain ⟨o, l, rfl, _⟩ := h
    rfl
  · obtain ⟨o, l, rfl, hO, k⟩ := h
    refine ⟨_, pss_one (ps_ret (pe_tupleOf (by rfl) tuple_ (pe_callB (cr_sortT rfl) (by rfl) T.sorted (by decide +kernel) (pa_cons (pe_callTy (cr_setT rfl) (by rfl) T.set (by decide +kernel) (pa_cons (pe_lc (own := [("slot", 1)]) (g := gName 1) rfl scFlow.nd (pi_tup (pe_fld (pv 0) rfl)) (blkOk_by (own := [("slot", 1)]) (N := ["self", "slot"]) (sc := defScope (sRd 8)) (by decide +kernel))
        (fun _ _ _ _ _ => pg_name (i := 1) scFlow.nd rfl (Or.inl rfl)) (fun _ _ _ _ _ => pts_one (pt_cmpR op_notN1 (pv 1) pe_non (nomark _))) (fun _ _ _ _ _ => pv 1)) pa_nil)) pa_nil)))), ?_⟩
    have l24 := hO.lens.2.1
    have c := el_mapT (K := K) (σ := [some (.ref o), none]) (H := H) (t := tTest (tOp rNotN (tVar 1) (tC .non))) (te := tVar 1) (tl := tFld K (tVar 0) "slots") sv (l := l) (j := 1) (vs := [1]) (fun x => !x.isNone) sv (ev_slots G (ev_var rfl) hO) (by omega) (fun _ => rfl)
      (fun x hx H1 e1 => et_is (et_test (ev_notN (ev_var rfl))) (by rw [sv_non])) (fun x hx H1 e1 _ => ev_var rfl)
    rw [txts_vals] at c
    have tl := txts_len l
    refine s_retR (s_names (X := cxOf CX0 P w K mg base ["self", "slot"] "Round.flow_names" (defScope (sRd 8)) f cdv A outer s H E) c (by omega) (fun z => txts_mem) fun p ys H1 hp e1 h1 nm le => .inl ⟨p, _, rfl, sq_of h1, fun q hq => ?_⟩)
    exact k q ys _ (e1.trans (Ex.new hq)) (st_of upd_same) nm (by omega)
end
end K23
namespace K23
open PySem L2 Evl Gr StX EnT ClX OpX RdX OwC StS ClK EqT
structure RIsi (K : PySem.W.Frag) (C : Addr) : Prop where
  ca : PySem.W.findIn K (.ref C) "__class__" = some (some (.builtin "object.__class__"))
  cn : PySem.W.specialIn K (.builtin "object.__class__") "__get__" = some (some (.builtin "getset_descriptor.__get__"))
  ct : PySem.W.takesIn K (.builtin "object.__class__") = some true
  cm : PySem.W.mroIn K C (.type "object") = some true
  own : PySem.W.kitOne K (.ref C) (.ref C) = some true
theorem rd_ty {K : PySem.W.Frag} {C : Addr} {H : Hp} {o : Addr} {l : List Slot} (G : RCls K C) (I : RIsi K C) (h : RdAt K C H o l) : TyX K H (.ref o) (.ref C) := by
  obtain ⟨dx, fs, h1⟩ := h.ins
  exact .base (.ins h1 G.cls I.ca I.cn I.ct I.cm)
theorem cut_toN {xs : List V} {n : Nat} (h : n ≤ xs.length) : cutV xs none (some (n : Int)) = xs.take n := by
  unfold cutV
  rw [HT.sIx_none, HT.sIx_nat, Nat.min_eq_left h, List.drop_zero, Nat.sub_zero]
theorem cut_fromN {xs : List V} {n : Nat} (h : n ≤ xs.length) : cutV xs (some (n : Int)) none = xs.drop n := by
  unfold cutV
  rw [HT.sIx_none, HT.sIx_nat, Nat.min_eq_left h]
  exact List.take_of_length_le (by rw [List.length_drop]; exact Nat.le_refl _)
/-- turned about by so many slots -/
def rot (l : List Slot) (k : Nat) : List Slot := l.drop k ++ l.take k
theorem rot_len {l : List Slot} {k : Nat} (h : k ≤ l.length) : (rot l k).length = l.length := by
  unfold rot
  rw [List.length_append, List.length_drop, List.length_take]
  omega
theorem rot_ok {l : List Slot} {k : Nat} (h : Oks l) : Oks (rot l k) := h.drop.app h.take
/-- so many times -/
def rep (l : List Slot) (k : Nat) : List Slot := (List.replicate k l).flatten
theorem rep_len (l : List Slot) (k : Nat) : (rep l k).length = k * l.length := by
  unfold rep
  rw [List.length_flatten, List.map_replicate, List.sum_replicate_nat]
theorem rep_ok {l : List Slot} {k : Nat} (h : Oks l) : Oks (rep l k) := h.sub fun x hx => by
  obtain ⟨m, hm, hx⟩ := List.mem_flatten.mp hx
  rwa [(List.mem_replicate.mp hm).2] at hx
theorem rep_vS (l : List Slot) (k : Nat) : (List.replicate k (vS l)).flatten = vS (rep l k) := by
  unfold rep vS
  rw [List.map_flatten, List.map_replicate]
theorem rep_one (l : List Slot) : rep l 1 = l := by simp [rep]
section
variable {K : PySem.W.Frag} {C : Addr} {σ : L2.St} {H : Hp} {ta tb te : TE} {l m : List Slot}
theorem ev_isR {o : Addr} (G : RCls K C) (I : RIsi K C) (ha : Ev ta σ H (.ref o)) (h : RdAt K C H o l) : Ev (tCB (rIsi K) (tCons ta (tCons (tC (.ref C)) tNil))) σ H (.bl true) :=
  ev_cb (ea_cons ha (ea_cons ev_c ea_nil)) fun H1 e _ q => ⟨.ref o, .ref C, .ref C, .ref C, true, rfl, .own C, tyx_mono e (rd_ty G I h), I.own, q H1 (Ex.refl H1)⟩
def rRepA (K : PySem.W.Frag) : R2 := fun x y H Q => rRepT K x y H Q ∨ rOnce K x y H Q
theorem etu_rep {k : Nat} (h : EvTu K ta σ H (vS l)) (hb : Ev tb σ H (.int (k : Int))) (k1 : 1 ≤ k) (k2 : k ≤ 1000) (l1 : 1 ≤ l.length) (l2 : l.length ≤ 1000) : EvTu K (tOp (rRepA K) ta tb) σ H (vS (rep l k)) := fun H1 e Q q =>
  h H1 e _ fun p H2 e2 hp => hb H2 (e.trans e2) _ fun H3 e3 => by
    by_cases z : k = 1
    · subst z
      exact .inr ⟨p, vS l, rfl, rfl, ex_t e3 hp, q p H3 (e2.trans e3) (by rw [rep_one]; exact ex_t e3 hp)⟩
    · refine .inl ⟨p, (k : Int), vS l, rfl, rfl, ex_t e3 hp, fun e => ?_, by omega, by omega, by rw [vS_len]; exact l2, fun r hr => q r _ ((e2.trans e3).trans (Ex.new hr)) (st_of ?_)⟩
      · have := vS_len (l := l)
        rw [e] at this
        have z0 : (0 : Nat) = l.length := this
        omega
      · rw [upd_same, Int.toNat_natCast, rep_vS]
end
section
variable {P : Program} {w : World} {K : PySem.W.Frag} {mg : Str → Option Value} {base : Heap}
/-! ### Round.__add__ -/
def spAdd (K : PySem.W.Frag) (C CM : Addr) : Sp := fun vs H Q E => ∃ (o u : Addr) (l m : List Slot), vs = [.ref o, .ref u] ∧ RdAt K C H o l ∧ RdAt K C H u m ∧ ((l ++ m).length ≤ 24 → RetR K C (l ++ m) H Q) ∧ (24 < (l ++ m).length → Many CM H E)
theorem scAdd : FnScope ["self", "other", "slots"] ["self", "other"] (defScope (sRd 9)) := ⟨rfl, rfl, rfl, by decide +kernel, rfl, by decide +kernel, by decide +kernel⟩
theorem ok_Add {C CM f fI : Addr} {mc : Value} {fd : FuncData} (F : Fun K "__add__" "Round.__add__" (sRd 9) f fd) (N : RName K mg C mc) (G : RCls K C) (I : RIsi K C) (inst : mg "isinstance" = none) (M : Mk K C fI) (FI : FnR P w K mg base (L2.CX P w) 3 fI (spInitA K C CM)) :
    FnOk P w K mg base (L2.CX P w) 5 f fd ["self", "other"] (spAdd K C CM) := by
  refine F.okX scAdd (fun vs H Q E h => ?_) (fun cdv A outer s H vs Q E hr h => ?_)
  · obtain ⟨o, u, l, m, rfl, _⟩ := h
    rfl
  · obtain ⟨o, u, l, m, rfl, hO, hU, k, kE⟩ := h
    refine ⟨_, pss_cons (ps_if (pt_not (pt_val (pe_callB call_isi (by rfl) inst (by decide +kernel) (pa_cons (pv 1) (pa_cons (pe_glob (v := .ref C) rfl N.g rfl) pa_nil))))) (pss_one ps_no) pss_nil)
      (pss_cons (ps_set (i := 2) scAdd.nd rfl (.inl rfl) (pe_op op_catA (pe_fld (pv 0) rfl) (pe_fld (pv 1) rfl)))
      (pss_one (ps_ret (pe_makeS1 (E := E) M FI hr (by rfl) N.g (passes_call (takes_of rfl rfl rfl rfl) fun _ _ _ _ z => z) (pv 2))))), ?_⟩
    obtain ⟨l1, l24, okl⟩ := hO.lens
    obtain ⟨m1, m24, okm⟩ := hU.lens
    refine q_when (b := false) (et_is (et_not (et_B (ev_isR G I (ev_var rfl) hU))) rfl) (fun hb => absurd hb (by decide)) (fun _ H1 e1 => ?_)
    have cat := etu_cat (K := K) (σ := [some (.ref o), some (.ref u), none]) (H := H1) (ev_slots (ta := tVar 0) G (ev_var rfl) (hO.mono e1)) (ev_slots (ta := tVar 1) G (ev_var rfl) (hU.mono e1)) (by rw [vS_len, vS_len]; omega)
    refine q_asgT cat fun p H2 e2 hp => ?_
    have E2 := e1.trans e2
    rw [vS_app] at hp
    exact s_makeT (X := cxOf (L2.CX P w) P w K mg base ["self", "other", "slots"] "Round.__add__" (defScope (sRd 9)) f cdv A outer s H E) (etu_var rfl hp) (by rw [List.length_append]; omega) (by rw [List.length_append]; omega) (okl.app okm) (fun z => (k z).mono E2) fun z => (kE z).mono E2
/-! ### Round.__mul__, Round.__rmul__ -/
def spMul (K : PySem.W.Frag) (C CM : Addr) : Sp := fun vs H Q E => ∃ (o : Addr) (l : List Slot) (n : Nat), vs = [.ref o, .int (n : Int)] ∧ RdAt K C H o l ∧ 1 ≤ n ∧ n ≤ 24 ∧ n * l.length ≤ 100 ∧ (n * l.length ≤ 24 → RetR K C (rep l n) H Q) ∧ (24 < n * l.length → Many CM H E)
theorem scMul : FnScope ["self", "other", "slots"] ["self", "other"] (defScope (sRd 10)) := ⟨rfl, rfl, rfl, by decide +kernel, rfl, by decide +kernel, by decide +kernel⟩
theorem ok_Mul {C CM f fI fW : Addr} {mc : Value} {fd fdW : FuncData} (F : Fun K "__mul__" "Round.__mul__" (sRd 10) f fd) (N : RName K mg C mc) (G : RCls K C) (M : Mk K C fI) (FI : FnR P w K mg base (L2.CX P w) 3 fI (spInitA K C CM))
    (GW : FnOk P w K mg base CX0 2 fW fdW ["value", "least", "most"] (spWithin K)) (kW : PySem.W.keepIn K (.ref fW) = true) (bW : Binds K fdW ["value", "least", "most"] []) (gW : mg "is_within" = some (.ref fW)) : FnOk P w K mg base (L2.CX P w) 5 f fd ["self", "other"] (spMul K C CM) := by
  obtain ⟨mu, cm⟩ := N.most
  refine F.okX scMul (fun vs H Q E h => ?_) (fun cdv A outer s H vs Q E hr h => ?_)
  · obtain ⟨o, l, n, rfl, _⟩ := h
    rfl
  · obtain ⟨o, l, n, rfl, hO, n1, n24, nl, k, kE⟩ := h
    refine ⟨_, pss_cons (ps_if (pt_not (pt_val (pe_call GW (hr.mono (by decide)) (by rfl) gW kW bW .nil pass0 (pa_cons (pv 1) (pa_cons pe_int (pa_cons (pe_cval (pe_glob (v := .ref C) rfl N.g rfl)) pa_nil)))))) (pss_one ps_no) pss_nil)
      (pss_cons (ps_set (i := 2) scMul.nd rfl (.inl rfl) (pe_op (op_repT.or op_once) (pe_fld (pv 0) rfl) (pv 1)))
      (pss_one (ps_ret (pe_makeS1 (E := E) M FI hr (by rfl) N.g (passes_call (takes_of rfl rfl rfl rfl) fun _ _ _ _ z => z) (pv 2))))), ?_⟩
    obtain ⟨l1, l24, okl⟩ := hO.lens
    refine q_when (b := false) (et_is (et_not (et_B (ev_call (z := .bl true) (ea_cons (ev_var rfl) (ea_cons ev_c (ea_cons (ev_cval ev_c N.rd cm) ea_nil))) fun H1 e Q q E => .inl ⟨_, _, _, rfl, ?_⟩))) rfl) (fun hb => absurd hb (by decide)) (fun _ H1 e1 => ?_)
    · rw [decide_eq_true (by omega : (1 : Int) ≤ (n : Int)), decide_eq_true (by omega : (n : Int) ≤ 24)]
      exact q
    refine q_asgT (etu_rep (K := K) (σ := [some (.ref o), some (.int (n : Int)), none]) (H := H1) (ev_slots (ta := tVar 0) G (ev_var rfl) (hO.mono e1)) (ev_var rfl) n1 (by omega) l1 (by omega)) fun p H2 e2 hp => ?_
    have E2 := e1.trans e2
    have len := rep_len l n
    have pos : 1 * 1 ≤ n * l.length := Nat.mul_le_mul n1 l1
    exact s_makeT (X := cxOf (L2.CX P w) P w K mg base ["self", "other", "slots"] "Round.__mul__" (defScope (sRd 10)) f cdv A outer s H E) (etu_var rfl hp) (by omega) (by omega) (rep_ok okl) (fun z => (k (by omega)).mono E2) fun z => (kE (by omega)).mono E2
theorem scRmu : FnScope ["self", "other", "slots"] ["self", "other"] (defScope (sRd 11)) := ⟨rfl, rfl, rfl, by decide +kernel, rfl, by decide +kernel, by decide +kernel⟩
theorem ok_Rmu {C CM f fI fW : Addr} {mc : Value} {fd fdW : FuncData} (F : Fun K "__rmul__" "Round.__rmul__" (sRd 11) f fd) (N : RName K mg C mc) (G : RCls K C) (M : Mk K C fI) (FI : FnR P w K mg base (L2.CX P w) 3 fI (spInitA K C CM))
    (GW : FnOk P w K mg base CX0 2 fW fdW ["value", "least", "most"] (spWithin K)) (kW : PySem.W.keepIn K (.ref fW) = true) (bW : Binds K fdW ["value", "least", "most"] []) (gW : mg "is_within" = some (.ref fW)) : FnOk P w K mg base (L2.CX P w) 5 f fd ["self", "other"] (spMul K C CM) := by
  obtain ⟨mu, cm⟩ := N.most
  refine F.okX scRmu (fun vs H Q E h => ?_) (fun cdv A outer s H vs Q E hr h => ?_)
  · obtain ⟨o, l, n, rfl, _⟩ := h
    rfl
  · obtain ⟨o, l, n, rfl, hO, n1, n24, nl, k, kE⟩ := h
    refine ⟨_, pss_cons (ps_if (pt_not (pt_val (pe_call GW (hr.mono (by decide)) (by rfl) gW kW bW .nil pass0 (pa_cons (pv 1) (pa_cons pe_int (pa_cons (pe_cval (pe_glob (v := .ref C) rfl N.g rfl)) pa_nil)))))) (pss_one ps_no) pss_nil)
      (pss_cons (ps_set (i := 2) scRmu.nd rfl (.inl rfl) (pe_op (op_repT.or op_once) (pe_fld (pv 0) rfl) (pv 1)))
      (pss_one (ps_ret (pe_makeS1 (E := E) M FI hr (by rfl) N.g (passes_call (takes_of rfl rfl rfl rfl) fun _ _ _ _ z => z) (pv 2))))), ?_⟩
    obtain ⟨l1, l24, okl⟩ := hO.lens
    refine q_when (b := false) (et_is (et_not (et_B (ev_call (z := .bl true) (ea_cons (ev_var rfl) (ea_cons ev_c (ea_cons (ev_cval ev_c N.rd cm) ea_nil))) fun H1 e Q q E => .inl ⟨_, _, _, rfl, ?_⟩))) rfl) (fun hb => absurd hb (by decide)) (fun _ H1 e1 => ?_)
    · rw [decide_eq_true (by omega : (1 : Int) ≤ (n : Int)), decide_eq_true (by omega : (n : Int) ≤ 24)]
      exact q
    refine q_asgT (etu_rep (K := K) (σ := [some (.ref o), some (.int (n : Int)), none]) (H := H1) (ev_slots (ta := tVar 0) G (ev_var rfl) (hO.mono e1)) (ev_var rfl) n1 (by omega) l1 (by omega)) fun p H2 e2 hp => ?_
    have E2 := e1.trans e2
    have len := rep_len l n
    have pos : 1 * 1 ≤ n * l.length := Nat.mul_le_mul n1 l1
    exact s_makeT (X := cxOf (L2.CX P w) P w K mg base ["self", "other", "slots"] "Round.__rmul__" (defScope (sRd 11)) f cdv A outer s H E) (etu_var rfl hp) (by omega) (by omega) (rep_ok okl) (fun z => (k (by omega)).mono E2) fun z => (kE (by omega)).mono E2
/-! ### Round.__lshift__ -/
def spShl (K : PySem.W.Frag) (C : Addr) : Sp := fun vs H Q _ => ∃ (o : Addr) (l : List Slot) (i : Int), vs = [.ref o, .int i] ∧ RdAt K C H o l ∧ 0 ≤ i ∧ RetR K C (rot l (i % (l.length : Int)).toNat) H Q
theorem scShl : FnScope ["self", "other", "place", "slots"] ["self", "other"] (defScope (sRd 12)) := ⟨rfl, rfl, rfl, by decide +kernel, rfl, by decide +kernel, by decide +kernel⟩
theorem ok_Shl {C CM f fI fZ : Addr} {mc : Value} {fd fdZ : FuncData} (F : Fun K "__lshift__" "Round.__lshift__" (sRd 12) f fd) (N : RName K mg C mc) (G : RCls K C) (T : GlbR mg) (M : Mk K C fI) (FI : FnR P w K mg base (L2.CX P w) 3 fI (spInitA K C CM))
    (GZ : FnOk P w K mg base CX0 2 fZ fdZ ["value"] spFrom0) (kZ : PySem.W.keepIn K (.ref fZ) = true) (bZ : Binds K fdZ ["value"] []) (gZ : mg "is_from_zero" = some (.ref fZ)) : FnOk P w K mg base CX0 5 f fd ["self", "other"] (spShl K C) := by
  refine F.ok scShl (fun vs H Q E h => ?_) (fun cdv A outer s H vs Q E hr h => ?_)
  · obtain ⟨o, l, i, rfl, _⟩ := h
    rfl
  · obtain ⟨o, l, i, rfl, hO, i0, k⟩ := h
    refine ⟨_, pss_cons (ps_if (pt_not (pt_val (pe_call GZ (hr.mono (by decide)) (by rfl) gZ kZ bZ .nil pass0 (pa_cons (pv 1) pa_nil)))) (pss_one ps_no) pss_nil)
      (pss_cons (ps_set (i := 2) scShl.nd rfl (.inl rfl) (pe_op op_mod (pv 1) (pe_callB call_len_seq (by rfl) T.len PySem.boot_len (pa_cons (pe_fld (pv 0) rfl) pa_nil))))
      (pss_cons (ps_set (i := 3) scShl.nd rfl (.inl rfl) (pe_op op_catA (pe_slice sl_tupA (pe_fld (pv 0) rfl) (po_some (pv 2)) po_none) (pe_slice sl_tupA (pe_fld (pv 0) rfl) po_none (po_some (pv 2)))))
      (pss_one (ps_ret (pe_makeS1 (E := E0) M FI hr (by rfl) N.g (passN rfl rfl) (pv 3)))))), ?_⟩
    obtain ⟨l1, l24, okl⟩ := hO.lens
    have pos : (0 : Int) < (l.length : Int) := by omega
    refine q_when (b := false) (et_is (et_not (et_B (ev_call (z := .bl true) (ea_cons (ev_var rfl) ea_nil) fun H1 e Q q E => ⟨i, rfl, by rw [decide_eq_true i0]; exact q⟩))) rfl) (fun hb => absurd hb (by decide)) (fun _ H1 e1 => ?_)
    refine q_asg (ev_op (ev_var rfl) (ev_lenSl G (ev_var rfl) (hO.mono e1)) (rv_I pos)) fun H2 e2 => ?_
    have E2 := e1.trans e2
    obtain ⟨c, hc⟩ := Int.eq_ofNat_of_zero_le (Int.emod_nonneg i (show (l.length : Int) ≠ 0 by omega))
    have r1 : c ≤ l.length := by have := Int.emod_lt_of_pos i pos; omega
    rw [hc] at k ⊢
    rw [Int.toNat_natCast] at k
    have hO2 := hO.mono E2
    obtain ⟨dx, q, h1, h2, _⟩ := hO2
    have fld : Ev (tFld K (tVar 0) "slots") [some (.ref o), some (.int i), some (.int (c : Int)), none] H2 (.ref q) := ev_fld (ev_var rfl) h1 G.cls G.slots rfl
    have c1 := etu_cut (K := K) (tl := tPart (tVar 2)) (th := tNoPart) fld (eo_some (ev_var rfl)) eo_none h2
    have c2 := etu_cut (K := K) (tl := tNoPart) (th := tPart (tVar 2)) fld eo_none (eo_some (ev_var rfl)) h2
    rw [cut_fromN (by rw [vS_len]; exact r1), vS_drop] at c1
    rw [cut_toN (by rw [vS_len]; exact r1), vS_take] at c2
    refine q_asgT (etu_cat c1 c2 (by rw [vS_len, vS_len, List.length_drop, List.length_take]; omega)) fun p H3 e3 hp => ?_
    rw [vS_app] at hp
    have E3 := E2.trans e3
    have rl := rot_len r1
    exact s_makeT (X := cxOf CX0 P w K mg base ["self", "other", "place", "slots"] "Round.__lshift__" (defScope (sRd 12)) f cdv A outer s H E) (l := rot l c) (etu_var rfl hp) (by omega) (by omega) (rot_ok okl) (fun z => k.mono E3) fun z => absurd z (by omega)
end
end K23
namespace K23
open PySem L2 Evl Gr StX EnT ClX OpX RdX OwC StS ClK EqT
/-! ### words -/
def wd : Slot → Str
  | none => "-"
  | some z => z
def tx (l : List Slot) : Str := Txt.join " " (l.map wd)
theorem dash_no : nameB "-" = false := by decide +kernel
theorem wd_free {x : Slot} (h : okB x = true) : 32 ∉ TL.tl (wd x) := by
  cases x with
  | none => decide +kernel
  | some z => exact (ok_name_ h).2.2.2.2
theorem wd_len {x : Slot} (h : okB x = true) : (wd x).length ≤ 8 := by
  cases x with
  | none => decide +kernel
  | some z => exact (ok_name_ h).2.2.2.1
theorem wd_dash {x : Slot} (h : okB x = true) : decide (V.str (wd x) = V.str "-") = x.isNone := by
  cases x with
  | none => rfl
  | some z =>
    refine decide_eq_false fun e => ?_
    have e : z = "-" := V.str.inj e
    have := (ok_name_ h).1
    rw [e, dash_no] at this
    cases this
theorem split_tx {l : List Slot} (h : l ≠ []) (ok : Oks l) : Txt.split (tx l) " " = l.map wd :=
  TL.split_join (y := " ") (s := 32) (S := []) (by decide +kernel) (by decide +kernel) (fun e => h (List.map_eq_nil_iff.mp e)) fun p hp => by
    obtain ⟨x, hx, rfl⟩ := List.mem_map.mp hp
    exact wd_free (ok x hx)
theorem glue_len (S : List Nat) : ∀ l : List (List Nat), (TL.joinL S l).length ≤ (l.map (·.length)).sum + S.length * l.length
  | [] => Nat.zero_le _
  | [p] => by show p.length ≤ p.length + 0 + S.length * 1; omega
  | p :: q :: r => by
    have ih := glue_len S (q :: r)
    show (p ++ (S ++ TL.joinL S (q :: r))).length ≤ _
    rw [List.length_append, List.length_append, List.map_cons, List.sum_cons, List.length_cons (a := p), Nat.mul_succ]
    omega
theorem sum_most {n : Nat} : ∀ {l : List Nat}, (∀ x ∈ l, x ≤ n) → l.sum ≤ n * l.length
  | [], _ => Nat.zero_le _
  | x :: l, h => by
    have a := h x List.mem_cons_self
    have b := sum_most fun y hy => h y (List.mem_cons_of_mem _ hy)
    rw [List.sum_cons, List.length_cons, Nat.mul_succ]
    omega
theorem tx_len {l : List Slot} (ok : Oks l) : (tx l).length ≤ 9 * l.length := by
  have a := glue_len [32] ((l.map wd).map TL.tl)
  have e : TL.tl (tx l) = TL.joinL [32] ((l.map wd).map TL.tl) := by
    unfold tx
    rw [TL.join_eq, TL.tl_join]
    rfl
  rw [TL.len_tl, e]
  have b : (((l.map wd).map TL.tl).map (·.length)).sum ≤ 8 * (((l.map wd).map TL.tl).map (·.length)).length := sum_most fun n hn => by
    obtain ⟨p, hp, rfl⟩ := List.mem_map.mp hn
    obtain ⟨z, hz, rfl⟩ := List.mem_map.mp hp
    obtain ⟨x, hx, rfl⟩ := List.mem_map.mp hz
    rw [← TL.len_tl]
    exact wd_len (ok x hx)
  rw [List.length_map, List.length_map, List.length_map] at b
  rw [List.length_map, List.length_map] at a
  have : ([32] : List Nat).length = 1 := rfl
  rw [this] at a
  omega
theorem s_cbL {σ : L2.St} {H : Hp} {te : TE} {r : List V → Hp → VK → Prop} {xs : List V} {Q : VK} (h : EvL te σ H xs) (k : ∀ p H1, H p = none → Ex H H1 → H1 p = some (.lst xs) → r [.ref p] H1 Q) : tCB r (tCons te tNil) σ H Q :=
  h H (Ex.refl H) _ fun p H1 hp e h1 => k p H1 hp e h1
/-- for i, x in enumerate(a list) -/
theorem q_forEL {K : PySem.W.Frag} {σ : L2.St} {H : Hp} {a : Addr} {xs : List V} {ta : TA} {g : TG} {tu tz : TS} {D : Ends} (h : EvA ta σ H [.ref a]) (hx : SqL K H a xs) (Pv : Nat → L2.St → Hp → Prop) (h0 : ∀ H1, Ex H H1 → Pv 0 σ H1) (hl : ∀ i σ' H', i ≤ xs.length → Pv i σ' H' → SqL K H' a xs)
    (hs : ∀ i x σ' H' T, xs[i]? = some x → Pv i σ' H' → H' T = none → g (.ref T) σ' (L2.upd H' T (.tup [.int (i : Nat), x])) fun σ2 H2 => tu { D with nx := Pv (i + 1), ct := Pv (i + 1), bk := tz D } σ2 H2)
    (hd : ∀ σ' H', Pv xs.length σ' H' → tz D σ' H') : tSeq (tFor (iEnum K ta) g tu) tz D σ H :=
  h H (Ex.refl H) _ fun H1 e1 => ⟨a, xs, rfl, ex_l e1 hx, for_it (D := { D with nx := tz D }) walk_enum Pv (h0 H1 e1) hl (fun i v σ' H' H2 hi p y => by
    obtain ⟨T, x, z, rfl, hn, rfl, ex, ez⟩ := y
    obtain rfl := Option.some.inj ex
    exact hs i z σ' H' T ez p hn) hd⟩
section
variable {X : Cx} {C CM : Addr} {σ : L2.St} {H : Hp} {te : TE} {l : List Slot} {E : XK} {Q : VK}
theorem s_makeP {p : Addr} (h : Ev te σ H (.ref p)) (hp : SqL X.K H p (vS l)) (l1 : 1 ≤ l.length) (lm : l.length ≤ 100) (ok : Oks l) (q : l.length ≤ 24 → RetR X.K C l H Q) (qE : 24 < l.length → Many CM H E) : tMakeS X C (spInitA X.K C CM) E te σ H Q :=
  h H (Ex.refl H) _ fun H1 e1 => ⟨p, vS l, rfl, .inr (ex_l e1 hp), fun x dx hx hd hn => init_told hx hd hn l1 lm ok (fun z => (q z).mono e1) fun z => (qE z).mono e1⟩
end
theorem dec_none (x : Slot) (h : okB x = true) : sv x = if x.isNone = true then V.non else V.str (wd x) := by cases x <;> rfl
section
variable {P : Program} {w : World} {K : PySem.W.Frag} {mg : Str → Option Value} {base : Heap}
/-! ### Round.with_slot -/
def spWith (K : PySem.W.Frag) (C : Addr) : Sp := fun vs H Q _ => ∃ (o : Addr) (l : List Slot) (n : Nat) (x : Slot), vs = [.ref o, .int (n : Int), sv x] ∧ RdAt K C H o l ∧ n < l.length ∧ okB x = true ∧ RetR K C (l.set n x) H Q
theorem scWith : FnScope ["self", "place", "flow", "slots"] ["self", "place", "flow"] (defScope (sRd 13)) := ⟨rfl, rfl, rfl, by decide +kernel, rfl, by decide +kernel, by decide +kernel⟩
theorem set_ok {l : List Slot} {n : Nat} {x : Slot} (h : Oks l) (hx : okB x = true) : Oks (l.set n x) := fun y hy => by
  rcases List.mem_or_eq_of_mem_set hy with z | z
  · exact h y z
  · rw [z]; exact hx
theorem ok_With {C CM f fI fW fS : Addr} {mc : Value} {fd fdW fdS : FuncData} (F : Fun K "with_slot" "Round.with_slot" (sRd 13) f fd) (N : RName K mg C mc) (G : RCls K C) (T : GlbR mg) (list_ : mg "list" = none) (M : Mk K C fI) (FI : FnR P w K mg base (L2.CX P w) 3 fI (spInitA K C CM))
    (GW : FnOk P w K mg base CX0 2 fW fdW ["value", "least", "most"] (spWithin K)) (kW : PySem.W.keepIn K (.ref fW) = true) (bW : Binds K fdW ["value", "least", "most"] []) (gW : mg "is_within" = some (.ref fW))
    (GS : FnOk P w K mg base CX0 2 fS fdS ["value"] spSlot) (kS : PySem.W.keepIn K (.ref fS) = true) (bS : Binds K fdS ["value"] []) (gS : mg "is_slot" = some (.ref fS)) : FnOk P w K mg base CX0 5 f fd ["self", "place", "flow"] (spWith K C) := by
  refine F.ok scWith (fun vs H Q E h => ?_) (fun cdv A outer s H vs Q E hr h => ?_)
  · obtain ⟨o, l, n, x, rfl, _⟩ := h
    rfl
  · obtain ⟨o, l, n, x, rfl, hO, hn, hx, k⟩ := h
    refine ⟨_, pss_cons (ps_if (pt_not (pt_val (pe_call GW (hr.mono (by decide)) (by rfl) gW kW bW .nil pass0 (pa_cons (pv 1) (pa_cons pe_int (pa_cons (pe_op op_sub (pe_callB call_len_seq (by rfl) T.len PySem.boot_len (pa_cons (pe_fld (pv 0) rfl) pa_nil)) pe_int) pa_nil)))))) (pss_one ps_no) pss_nil)
      (pss_cons (ps_if (pt_not (pt_val (pe_call GS (hr.mono (by decide)) (by rfl) gS kS bS .nil pass0 (pa_cons (pv 2) pa_nil)))) (pss_one ps_no) pss_nil)
      (pss_cons (ps_set (i := 3) scWith.nd rfl (.inl rfl) (pe_callTy call_list_of (by rfl) list_ (by decide +kernel) (pa_cons (pe_fld (pv 0) rfl) pa_nil)))
      (pss_cons (ps_asg (pv 2) (pg_sub (pv 3) (pv 1) set_list))
      (pss_one (ps_ret (pe_makeS1 (E := E0) M FI hr (by rfl) N.g (passN rfl rfl) (pv 3))))))), ?_⟩
    obtain ⟨l1, l24, okl⟩ := hO.lens
    refine q_when (b := false) (et_is (et_not (et_B (ev_call (z := .bl true) (ea_cons (ev_var rfl) (ea_cons ev_c (ea_cons (ev_op (ev_lenSl G (ev_var rfl) hO) ev_c rv_I0) ea_nil))) fun H1 e Q q E => .inl ⟨_, _, _, rfl, ?_⟩))) rfl) (fun hb => absurd hb (by decide)) (fun _ H1 e1 => ?_)
    · rw [decide_eq_true (by omega : (0 : Int) ≤ (n : Int)), decide_eq_true (by omega : (n : Int) ≤ (l.length : Int) - 1)]
      exact q
    refine q_when (b := false) (et_is (et_not (et_B (ev_call (z := .bl true) (ea_cons (ev_var rfl) ea_nil) fun H2 e Q q E => ⟨x, rfl, hx, q⟩))) rfl) (fun hb => absurd hb (by decide)) (fun _ H2 e2 => ?_)
    have E2 := e1.trans e2
    refine q_asgL (el_ofT (K := K) (ev_slots (ta := tVar 0) G (ev_var rfl) (hO.mono E2))) fun p H3 hp e3 h3 => ?_
    refine q_setL (j := n) h3 (ev_var rfl) (ev_var rfl) (ev_var rfl) (by rw [vS_len]; exact hn) fun H4 e4 => ?_
    have e5 : (vS l).set n (sv x) = vS (l.set n x) := (List.map_set ..).symm
    rw [e5]
    have E5 : Ex H (upd H4 p (.lst (vS (l.set n x)))) := ((E2.trans e3).trans e4).mut (fresh_back E2 hp)
    exact s_makeP (X := cxOf CX0 P w K mg base ["self", "place", "flow", "slots"] "Round.with_slot" (defScope (sRd 13)) f cdv A outer s H E) (ev_var rfl) (sq_of upd_same) (by rw [List.length_set]; omega) (by rw [List.length_set]; omega) (set_ok okl hx) (fun _ => k.mono E5) fun z => absurd z (by rw [List.length_set]; omega)
/-! ### Round.__eq__ -/
def spREq (K : PySem.W.Frag) (C : Addr) : Sp := fun vs H Q _ => (∃ (o u : Addr) (l m : List Slot), vs = [.ref o, .ref u] ∧ RdAt K C H o l ∧ RdAt K C H u m ∧ RetV (.bl (decide (l = m))) H Q) ∨
  ∃ (o b : Addr) (l : List Slot) (T : String), vs = [.ref o, .ref b] ∧ RdAt K C H o l ∧ TyX K H (.ref b) (.type T) ∧ PySem.W.kitOne K (.type T) (.ref C) = some false ∧ RetV (.bl false) H Q
theorem scREq : FnScope ["self", "other"] ["self", "other"] (defScope (sRd 14)) := ⟨rfl, rfl, rfl, by decide +kernel, rfl, by decide +kernel, by decide +kernel⟩
theorem ok_REq {C f : Addr} {mc : Value} {fd : FuncData} (F : Fun K "__eq__" "Round.__eq__" (sRd 14) f fd) (N : RName K mg C mc) (G : RCls K C) (I : RIsi K C) (inst : mg "isinstance" = none) : FnOk P w K mg base CX0 1 f fd ["self", "other"] (spREq K C) := by
  refine F.ok scREq (fun vs H Q E h => ?_) (fun cdv A outer s H vs Q E hr h => ?_)
  · rcases h with ⟨o, u, l, m, rfl, _⟩ | ⟨o, b, l, t, rfl, _⟩ <;> rfl
  · rcases h with ⟨o, u, l, m, rfl, hO, hU, k⟩ | ⟨o, b, l, t, rfl, hO, ht, hk, k⟩
    all_goals refine ⟨_, pss_one (ps_ret (pe_and (pe_callB call_isi (by rfl) inst (by decide +kernel) (pa_cons (pv 1) (pa_cons (pe_glob (v := .ref C) rfl N.g rfl) pa_nil))) (pe_one (pe_cmpR (op_eqD hr.units) (pe_fld (pv 0) rfl) (pe_fld (pv 1) rfl) (nomark _))))), ?_⟩
    · exact s_ret (ev_is (ev_andV (a := true) (ev_isR G I (ev_var rfl) hU) fun _ => ev_eqST hO.lens.2.2 hU.lens.2.2 (ed_ST (ev_slots G (ev_var rfl) hO)) (ed_ST (ev_slots G (ev_var rfl) hU))) (by rw [Bool.true_and])) k
    · refine s_ret (ev_is (ev_andV (a := false) (b := false) (ev_cb (ea_cons (ev_var rfl) (ea_cons ev_c ea_nil)) fun H1 e _ q => ⟨.ref b, .ref C, .type t, .ref C, false, rfl, .own C, tyx_mono e ht, hk, q H1 (Ex.refl H1)⟩) fun z => absurd z (by decide)) rfl) k
/-! ### Round.is_like -/
def spLike (K : PySem.W.Frag) (C : Addr) : Sp := fun vs H Q _ => ∃ (o u : Addr) (l m : List Slot), vs = [.ref o, .ref u] ∧ RdAt K C H o l ∧ RdAt K C H u m ∧ RetV (.bl (((List.range l.length).map fun k => decide (rot l k = m)).any id)) H Q
theorem scLike : FnScope ["self", "other", "place"] ["self", "other"] (defScope (sRd 15)) := ⟨rfl, rfl, rfl, by decide +kernel, rfl, by decide +kernel, by decide +kernel⟩
/-- what an operator of rounds and ints wants of the class -/
structure Ops (K : PySem.W.Frag) (C fShl fEq : Addr) : Prop where
  first : PySem.W.selfFirst K C = true
  shl : Has K C fShl (PySem.dunder "lshift")
  rsh : ∃ rc, PySem.W.findIn K (.ref C) (dunderR "lshift") = some rc ∧ (rc = none ∨ ∃ g : Addr, rc = some (.ref g))
  int1 : ∃ fo, PySem.W.findIn K (.type "int") (PySem.dunder "lshift") = some fo
  int2 : ∃ ro, PySem.W.findIn K (.type "int") (dunderR "lshift") = some ro
  sub : PySem.W.subIn K (.type "int") (.ref C) = some false
  eq : Has K C fEq "__eq__"
  nf : PySem.W.notFirst K C (.ref C) = true
section
variable {X : Cx} {C : Addr} {σ : L2.St} {H : Hp} {ta tb : TE} {l m : List Slot}
theorem er_shl {i : Int} (ha : EvR X.K C ta σ H l) (hb : ∀ H1, Ex H H1 → Ev tb σ H1 (.int i)) (i0 : 0 ≤ i) : EvR X.K C (tOp (OpX.rI X C (spShl X.K C) E0) ta tb) σ H (rot l (i % (l.length : Int)).toNat) := fun H1 e Q q =>
  ha H1 e _ fun o H2 e2 r => hb H2 (e.trans e2) H2 (Ex.refl H2) _ fun H3 e3 => ⟨o, i, rfl, rfl, rd_insC (r.mono e3), o, l, i, rfl, r.mono e3, i0, fun p H4 e4 r4 => q p H4 ((e2.trans e3).trans e4) r4⟩
theorem ev_eqR (nf : PySem.W.notFirst X.K C (.ref C) = true) (ha : EvR X.K C ta σ H l) (hb : EvR X.K C tb σ H m) : Ev (tOp (rEqO X C (spREq X.K C) E0) ta tb) σ H (.bl (decide (l = m))) := fun H1 e Q q =>
  ha H1 e _ fun o H2 e2 r => hb H2 (e.trans e2) _ fun u H3 e3 r3 => ⟨o, u, C, rfl, rfl, rd_insC (r.mono e3), rd_insC r3, nf, .inl ⟨o, u, l, m, rfl, r.mono e3, r3, fun H4 e4 => q H4 ((e2.trans e3).trans e4)⟩⟩
end
theorem ok_Like {C f fShl fEq : Addr} {mc : Value} {fd fdS fdE : FuncData} (F : Fun K "is_like" "Round.is_like" (sRd 15) f fd) (N : RName K mg C mc) (G : RCls K C) (I : RIsi K C) (T : GlbR mg) (T2 : GlbS2 mg) (inst : mg "isinstance" = none) (range_ : mg "range" = none) (O : Ops K C fShl fEq)
    (GS : FnOk P w K mg base CX0 5 fShl fdS ["self", "other"] (spShl K C)) (bS : Binds K fdS ["self", "other"] []) (GE : FnOk P w K mg base CX0 1 fEq fdE ["self", "other"] (spREq K C)) (bE : Binds K fdE ["self", "other"] []) : FnOk P w K mg base CX0 6 f fd ["self", "other"] (spLike K C) := by
  obtain ⟨rc, hrc, hp⟩ := O.rsh
  obtain ⟨fo, hfo⟩ := O.int1
  obtain ⟨ro, hro⟩ := O.int2
  refine F.ok scLike (fun vs H Q E h => ?_) (fun cdv A outer s H vs Q E hr h => ?_)
  · obtain ⟨o, u, l, m, rfl, _⟩ := h
    rfl
  · obtain ⟨o, u, l, m, rfl, hO, hU, k⟩ := h
    have r1 := hr.mono (show 1 ≤ 5 by decide)
    refine ⟨_, pss_cons (ps_if (pt_not (pt_val (pe_callB call_isi (by rfl) inst (by decide +kernel) (pa_cons (pv 1) (pa_cons (pe_glob (v := .ref C) rfl N.g rfl) pa_nil))))) (pss_one ps_no) pss_nil)
      (pss_one (ps_ret (pe_callB (cr_any rfl) (by rfl) T2.any (by decide +kernel) (pa_cons (pe_lc (own := [("place", 2)]) (g := gName 2) rfl scLike.nd (pi_range1 (by rfl) range_ (pa_cons (pe_callB call_len_seq (by rfl) T.len PySem.boot_len (pa_cons (pe_fld (pv 0) rfl) pa_nil)) pa_nil)) (blkOk_by (own := [("place", 2)]) (N := ["self", "other", "place"]) (sc := defScope (sRd 15)) (by decide +kernel))
        (fun _ _ _ _ _ => pg_name (i := 2) scLike.nd rfl (Or.inl rfl)) (fun _ _ _ _ _ => pts_nil)
        (fun _ _ _ _ _ => pe_cmpR (show OpR _ (compareOp .Eq) (rEqO (cxOf CX0 P w K mg base ["self", "other", "place"] "Round.is_like" (defScope (sRd 15)) f cdv A outer s H E) C (spREq K C) E0) from op_eqO (E := E0) (op := .Eq) (fun _ _ => rfl) O.eq (fnR0 GE bE) r1 pass0) (pe_op (show OpR _ (binaryOp .LShift) (OpX.rI (cxOf CX0 P w K mg base ["self", "other", "place"] "Round.is_like" (defScope (sRd 15)) f cdv A outer s H E) C (spShl K C) E0) from op_binI (E := E0) (op := .LShift) O.first O.shl hrc hp hfo hro O.sub (fnR0 GS bS) hr pass0) (pv 0) (pv 2)) (pv 1) (nomark _))) pa_nil)))), ?_⟩
    have l24 := hO.lens.2.1
    refine q_when (b := false) (et_is (et_not (et_B (ev_isR G I (ev_var rfl) hU))) rfl) (fun hb => absurd hb (by decide)) (fun _ H1 e1 => ?_)
    have c := el_lcR1 (σ := [some (.ref o), some (.ref u), none]) (H := H1) (t := tYes) (te := tOp (rEqO (cxOf CX0 P w K mg base ["self", "other", "place"] "Round.is_like" (defScope (sRd 15)) f cdv A outer s H E) C (spREq K C) E0) (tOp (OpX.rI (cxOf CX0 P w K mg base ["self", "other", "place"] "Round.is_like" (defScope (sRd 15)) f cdv A outer s H E) C (spShl K C) E0) (tVar 0) (tVar 2)) (tVar 1))
      (ta := tCons (tCB (rLenQ K) (tCons (tFld K (tVar 0) "slots") tNil)) tNil) (n := (l.length : Int)) (j := 2) (vs := [2]) (fun _ => true) (fun k => .bl (decide (rot l k = m)))
      (ea_cons (ev_lenSl G (ev_var rfl) (hO.mono e1)) ea_nil) (by omega) (fun _ => rfl) (fun _ _ _ _ => et_none) (fun i H2 e2 hi _ => by
        have cc : ((i : Int) % (l.length : Int)).toNat = i := by rw [Int.emod_eq_of_lt (by omega) hi, Int.toNat_natCast]
        have z := ev_eqR (X := cxOf CX0 P w K mg base ["self", "other", "place"] "Round.is_like" (defScope (sRd 15)) f cdv A outer s H E) (C := C) (σ := [some (.ref o), some (.ref u), some (.int (i : Int))]) (H := H2) (tb := tVar 1) O.nf (er_shl (ta := tVar 0) (tb := tVar 2) (i := (i : Int)) (er_var rfl (hO.mono (e1.trans e2))) (fun H3 e3 => ev_var rfl) (by omega)) (er_var rfl (hU.mono (e1.trans e2)))
        rw [cc] at z
        exact z)
    rw [Int.toNat_natCast, given_all] at c
    refine s_retR (s_cbL c fun p H2 hp e2 h2 => ⟨p, (List.range l.length).map fun k => decide (rot l k = m), rfl, sq_of (by rw [h2, List.map_map]; rfl), k H2 (e1.trans e2)⟩)
/-! ### words_of -/
def spWo : Sp := fun vs H Q _ => ∃ l, vs = [.str (tx l)] ∧ l ≠ [] ∧ Oks l ∧ l.length ≤ 100 ∧ ∀ p H', H p = none → Ex H H' → H' p = some (.lst (l.map fun x => V.str (wd x))) → Q (.ref p) H'
theorem scWo : FnScope ["text"] ["text"] (defScope sWo) := ⟨rfl, rfl, rfl, by decide +kernel, rfl, by decide +kernel, by decide +kernel⟩
theorem ok_Wo {f : Addr} {fd : FuncData} (F : Fun K "words_of" "words_of" sWo f fd) (TT : GlbT mg) : FnOk P w K mg base CX0 1 f fd ["text"] spWo := by
  refine F.ok scWo (fun vs H Q E h => ?_) (fun cdv A outer s H vs Q E hr h => ?_)
  · obtain ⟨l, rfl, _⟩ := h
    rfl
  · obtain ⟨l, rfl, hn, ok, hl, k⟩ := h
    refine ⟨_, pss_cons (ps_if (pt_not (pt_val (pe_callB call_isi (by rfl) TT.inst (by decide +kernel) (pa_cons (pv 0) (pa_cons (pe_bltn (v := .ty "str") (by rfl) TT.str (by decide +kernel) rfl) pa_nil))))) (pss_one ps_no) pss_nil)
      (pss_one (ps_ret (pe_split (pv 0) pe_str))), ?_⟩
    refine q_when (b := false) (et_is (et_not (et_B (ev_cb (ea_cons (ev_var rfl) (ea_cons ev_c ea_nil)) (rc_isi (.base (.str _)) kit_str_str)))) rfl) (fun hb => absurd hb (by decide)) (fun _ H1 e1 => ?_)
    refine ⟨_, rfl, ⟨_, rfl⟩, _, " ", rfl, rfl, by decide +kernel, ?_, ?_⟩
    · have := tx_len ok
      exact sz_of (n := (tx l).length + 2) (by omega)
    · rw [split_tx hn ok]
      exact fun p hp => k p _ (fresh_back e1 hp) (e1.trans (Ex.new hp)) (by rw [upd_same, List.map_map]; rfl)
/-! ### Round.read -/
abbrev nRead : List Str := ["cls", "text", "words", "at", "word", "slots"]
def spRead (K : PySem.W.Frag) (C : Addr) : Sp := fun vs H Q _ => ∃ l, vs = [.ref C, .str (tx l)] ∧ 1 ≤ l.length ∧ l.length ≤ 24 ∧ Oks l ∧ RetR K C l H Q
theorem scRead : FnScope nRead ["cls", "text"] (defScope (sRd 17)) := ⟨rfl, rfl, rfl, by decide +kernel, rfl, by decide +kernel, by decide +kernel⟩
theorem ok_Read {C CM f fI fW fN : Addr} {mc : Value} {fd fdW fdN : FuncData} (F : Fun K "read" "Round.read" (sRd 17) f fd) (N : RName K mg C mc) (T : GlbR mg) (M : Mk K C fI) (FI : FnR P w K mg base (L2.CX P w) 3 fI (spInitA K C CM))
    (GW : FnOk P w K mg base CX0 1 fW fdW ["text"] spWo) (kW : PySem.W.keepIn K (.ref fW) = true) (bW : Binds K fdW ["text"] []) (gW : mg "words_of" = some (.ref fW))
    (GN : FnOk P w K mg base CX0 1 fN fdN ["value"] (spName K)) (kN : PySem.W.keepIn K (.ref fN) = true) (bN : Binds K fdN ["value"] []) (gN : mg "is_name" = some (.ref fN)) : FnOk P w K mg base CX0 5 f fd ["cls", "text"] (spRead K C) := by
  obtain ⟨mu, cm⟩ := N.most
  refine F.ok scRead (fun vs H Q E h => ?_) (fun cdv A outer s H vs Q E hr h => ?_)
  · obtain ⟨l, rfl, _⟩ := h
    rfl
  · obtain ⟨l, rfl, l1, l24, ok, k⟩ := h
    refine ⟨_, pss_cons (ps_set (i := 2) scRead.nd rfl (.inl rfl) (pe_call GW (hr.mono (by decide)) (by rfl) gW kW bW .nil pass0 (pa_cons (pv 1) pa_nil)))
      (pss_cons (ps_for PassesOwn.never rfl (pi_enum (by rfl) T.enum (pa_cons (pv 2) pa_nil)) (pg_tup rfl (pgs_cons (pg_name (i := 3) scRead.nd rfl (.inl rfl)) (pgs_cons (pg_name (i := 4) scRead.nd rfl (.inl rfl)) pgs_nil)))
        (pss_one (ps_if (PW.pt (pw_or (pt_cmpR op_eq (pv 3) (pe_cval (pe_glob (v := .ref C) rfl N.g rfl)) (nomark _)) (pw_or1 (PW.pt (pw_and (pt_cmpR op_ne (pv 4) pe_str (nomark _)) (pw_and1 (pt_not (pt_val (pe_call GN (hr.mono (by decide)) (by rfl) gN kN bN .nil pass0 (pa_cons (pv 4) pa_nil)))))))))) (pss_one ps_no) pss_nil)))
      (pss_cons (ps_setLc (i := 5) (own := [("word", 4)]) (g := gName 4) rfl scRead.nd rfl (by rfl) (by rfl) (pi_list (pv 2)) (blkOk_by (own := [("word", 4)]) (N := nRead) (sc := defScope (sRd 17)) (by decide +kernel))
        (fun _ _ _ _ _ => pg_name (i := 4) scRead.nd rfl (Or.inl rfl)) (fun _ _ _ _ _ => pts_nil) (fun _ _ _ _ _ => pe_ifExp (pt_cmpR op_eq (pv 4) pe_str (nomark _)) pe_non (pv 4)))
      (pss_one (ps_ret (pe_makeLS (i := 0) (E := E0) M FI hr rfl (.inl rfl) (passN rfl rfl) (pv 5)))))), ?_⟩
    have ne : l ≠ [] := fun z => by rw [z] at l1; exact absurd l1 (by decide)
    refine q_call (ea_cons (ev_var rfl) ea_nil) fun H1 e1 => ⟨l, rfl, ne, ok, by omega, fun p H2 hp e2 h2 => ?_⟩
    refine q_forEL (K := K) (a := p) (ea_cons (ev_var rfl) ea_nil) (sq_of h2) (fun _ σ' H' => ∃ x1 x2 : Option V, σ' = [some (.ref C), some (.str (tx l)), some (.ref p), x1, x2, none] ∧ Ex H2 H') (fun H3 e3 => ⟨none, none, rfl, e3⟩) (fun _ _ H' _ ⟨_, _, _, e⟩ => ex_l e (sq_of h2)) ?_ ?_
    · rintro i x σ' H3 T3 hx ⟨x1, x2, rfl, e3⟩ hT
      obtain ⟨y, hy, rfl⟩ := nth_map hx
      have oky := ok y (List.mem_of_getElem? hy)
      have lt := (List.getElem?_eq_some_iff.mp hy).1
      have e4 := e3.trans (Ex.new (o := .tup [.int (i : Nat), .str (wd y)]) hT)
      refine ⟨T3, [.int (i : Nat), .str (wd y)], rfl, st_of upd_same, rfl, _, _, rfl, _, _, rfl, rfl, ?_⟩
      refine s_if (b := false) (et_is (et_or (a := false) (b := false) (et_is (et_test (ev_op (ev_var rfl) (ev_cval ev_c N.rd cm) (rv_eq rfl))) (by rw [vint_inj]; exact decide_eq_false (by omega))) fun _ => et_is (et_and (a := !y.isNone) (b := false) (et_is (et_test (ev_op (ev_var rfl) ev_c (rv_ne rfl))) (by rw [wd_dash oky])) fun hy2 => ?_) (by rw [Bool.and_false])) rfl) (fun hb => absurd hb (by decide)) fun _ H4 e5 => ⟨_, _, rfl, e4.trans e5⟩
      cases y with
      | none => cases hy2
      | some z =>
        obtain ⟨n1, _, _, n4, _⟩ := ok_name_ oky
        exact et_is (et_not (et_B (ev_call (z := .bl true) (ea_cons (ev_var rfl) ea_nil) fun H4 e5 Q5 q5 E5 => .inl ⟨z, rfl, by omega, by rw [n1]; exact q5⟩))) rfl
    · rintro σ' H3 ⟨x1, x2, rfl, e3⟩
      have c := el_mapL (K := K) (σ := [some (.ref C), some (.str (tx l)), some (.ref p), x1, x2, none]) (H := H3) (t := tYes) (te := tIf (tTest (tOp rEq (tVar 4) (tC (.str "-")))) (tC .non) (tVar 4)) (tl := tVar 2) (fun x => V.str (wd x)) (l := l) (j := 4) (vs := [4]) (a := p) (fun _ => true) sv
        (ev_var rfl) (sq_of (e3 _ _ h2)) (by omega) (fun _ => rfl) (fun _ _ _ _ => et_none) (fun x hx H4 e4 _ => by
          refine ev_if (b := x.isNone) (et_is (et_test (ev_op (ev_var rfl) ev_c (rv_eq rfl))) (wd_dash (ok x hx))) (fun hn => ?_) (fun hn => ?_)
          · rw [dec_none x (ok x hx), if_pos hn]
            exact ev_c
          · rw [dec_none x (ok x hx), if_neg (by rw [hn]; exact Bool.false_ne_true)]
            exact ev_var rfl)
      rw [List.filter_eq_self.mpr fun _ _ => rfl] at c
      refine q_asgL c fun r H4 hr4 e4 h4 => ?_
      have E4 := ((e1.trans e2).trans e3).trans e4
      exact ⟨rfl, s_makeP (X := cxOf CX0 P w K mg base nRead "Round.read" (defScope (sRd 17)) f cdv A outer s H E) (ev_var rfl) (sq_of h4) l1 (by omega) ok (fun _ => k.mono E4) fun z => absurd z (by omega)⟩
end
end K23
namespace K23
open PySem L2 Evl Gr StX EnT ClX OpX RdX OwC StS ClK EqT
abbrev sSlots : Stmt := top 23
abbrev sRing : Stmt := top 24
/-! ### rows of slots in a display -/
def EvLs (ta : TA) (σ : L2.St) (H : Hp) (ls : List (List Slot)) : Prop := ∀ H1, Ex H H1 → ∀ Q : List V → Hp → Prop, (∀ (as : List Addr) H2, Ex H1 H2 → as.length = ls.length → (∀ (i : Nat) a, as[i]? = some a → H1 a = none ∧ ∃ l, ls[i]? = some l ∧ H2 a = some (.lst (vS l))) → Q (as.map V.ref) H2) → ta σ H1 Q
section
variable {K : PySem.W.Frag} {σ : L2.St} {H : Hp} {te : TE} {ta : TA} {l : List Slot} {ls : List (List Slot)}
theorem els_nil : EvLs tNil σ H [] := fun H1 _ Q q => q [] H1 (Ex.refl H1) rfl fun i a h => absurd h (by simp)
theorem els_cons (h : EvL te σ H (vS l)) (hr : EvLs ta σ H ls) : EvLs (tCons te ta) σ H (l :: ls) := fun H1 e Q q =>
  h H1 e _ fun p H2 hp e2 h2 => hr H2 (e.trans e2) _ fun as H3 e3 len ha => q (p :: as) H3 (e2.trans e3) (by rw [List.length_cons, List.length_cons, len]) fun i a hi => by
    cases i with
    | zero =>
      obtain rfl := Option.some.inj hi
      exact ⟨hp, l, rfl, e3 _ _ h2⟩
    | succ i =>
      obtain ⟨h1, h3⟩ := ha i a hi
      exact ⟨fresh_back e2 h1, h3⟩
theorem el_S (h : EvA ta σ H (vS l)) (hz : l.length ≤ 1000) : EvL (tLst ta) σ H (vS l) := el_lst h (by rw [vS_len]; omega)
end
/-- what the laws draw for slots -/
def Abc (l : List Slot) : Prop := ∀ x ∈ l, x ∈ ([none, some "a", some "b", some "c"] : List Slot)
theorem abc_ok {l : List Slot} (h : Abc l) : Oks l := fun x hx => (show ∀ y ∈ ([none, some "a", some "b", some "c"] : List Slot), okB y = true by decide +kernel) x (h x hx)
/-- [a pick of a row of slots for _ in range(1 + a draw)] -/
theorem lc_slots {p l : Addr} {cells : List Int} {σ : L2.St} {H : Hp} {te0 te : TE} {j m : Nat} {most : Int} {R : Slot → Prop} {Q : VK} (hw : EvW p l cells 1 te0 σ H (fun v => ∃ d : Nat, v = .int (d : Int) ∧ (d : Int) < most)) (hP : PenAt H p l cells m) (hm : m + 102 ≤ 50000) (hmost : most ≤ 100)
    (hwi : ∀ x, wipe ((wipe σ [j]).set j (some x)) [j] = wipe σ [j]) (ht : ∀ x H1, Keep p H H1 → EvW p l cells 1 te ((wipe σ [j]).set j (some x)) H1 (fun v => ∃ y : Slot, v = sv y ∧ R y))
    (k : ∀ a g H', H a = none → Keep p H H' → PenAt H' p l cells (m + 1 + g.length) → H' a = some (.lst (vS g)) → 1 ≤ g.length → (g.length : Int) ≤ most → (∀ y ∈ g, R y) → Q (.ref a) H') :
    tLc (iRng1 (tCons (tOp (rI0 fun i j => .int (i + j)) (tC (.int 1)) te0) tNil)) (gName j) tYes te [j] σ H Q :=
  hw m H (Keep.of_ex (Ex.refl H)) hP (by omega) _ fun v H2 hv hP2 k2 => by
    obtain ⟨d, rfl, hd'⟩ := hv
    refine ⟨1, (d : Int), rfl, rfl, 1 + (d : Int), rfl, by omega, by omega, fun Dl hD => ?_⟩
    have hDp : Dl ≠ p := fun z => by
      obtain ⟨_, _, q, _⟩ := hP2
      rw [z, q] at hD
      cases hD
    have hDl : Dl ≠ l := fun z => by
      obtain ⟨_, _, _, q, _⟩ := hP2
      rw [z, q] at hD
      cases hD
    have hDn : H Dl = none := by
      cases z : H Dl with
      | none => rfl
      | some u =>
        have := k2 _ _ z hDp
        rw [hD] at this
        cases this
    refine lc_range (lo := 0) (n := (1 + (d : Int)).toNat) (fun i H' => ∃ g : List Slot, H' Dl = some (.lst (vS g)) ∧ g.length = i ∧ (∀ y ∈ g, R y) ∧ PenAt H' p l cells (m + 1 + i) ∧ Keep p H2 H') ⟨[], upd_same, rfl, fun y hy => absurd hy (by simp), hP2.upd' hDp hDl, (Keep.of_ex (Ex.refl H2)).mut hD⟩ (fun i H' hi q => ⟨hwi _, ?_⟩) (fun H' q => ?_)
    · obtain ⟨g, hg, hlen, hb, hP3, k3⟩ := q
      show te ((wipe σ [j]).set j (some (.int ((0 : Int) + (i : Int))))) H' fun y H4 => ∃ acc, H4 Dl = some (.lst acc) ∧ acc.length < sizeLine ∧ _
      refine ht _ H' (k2.trans k3) (m + 1 + i) H' (Keep.of_ex (Ex.refl H')) hP3 (by omega) _ fun v H4 hv hP4 k4 => ?_
      obtain ⟨e, rfl, he⟩ := hv
      refine ⟨vS g, k4 _ _ hg hDp, sz_lt (by rw [vS_len]; omega), g ++ [e], by rw [upd_same, ← vS_app]; rfl, by rw [List.length_append, hlen]; rfl, fun y hy => ?_, (hP4.upd' hDp hDl).le (by omega), (k3.trans k4).mut hD⟩
      rcases List.mem_append.mp hy with z | z
      · exact hb y z
      · rw [List.mem_singleton.mp z]
        exact he
    · obtain ⟨g, hg, hlen, hb, hP3, k3⟩ := q
      exact k Dl g H' hDn (k2.trans k3) (hP3.le (by omega)) hg (by omega) (by omega) hb
theorem lstS_keep {p l q : Addr} {cells : List Int} {m : Nat} {H H' : Hp} {xs : List Slot} (hP : PenAt H p l cells m) (kp : Keep p H H') (h : H q = some (.lst (vS xs))) : H' q = some (.lst (vS xs)) := by
  obtain ⟨k, r, hp, _⟩ := hP
  refine kp _ _ h fun z => ?_
  rw [z, hp] at h
  have e := HO.lst.inj (Option.some.inj h)
  cases xs with
  | nil => cases e
  | cons x xs =>
    have e2 := (List.cons.inj e).1
    cases x <;> cases e2
section
variable {P : Program} {w : World} {K : PySem.W.Frag} {mg : Str → Option Value} {base : Heap}
/-! ### _law_slots -/
abbrev nSlots : List Str := ["_law_pen_here", "_law_most", "_law_pool", "_law_turn"]
def pools : List (List Slot) := [[some "a"], [some "a", some "b"], [some "a", some "b", some "c"], [some "a", none], [some "a", some "b", none], [some "a", some "b", some "c", none]]
theorem pools_ok : ∀ l ∈ pools, 0 < l.length ∧ l.length ≤ 4 ∧ ∀ x ∈ l, x ∈ ([none, some "a", some "b", some "c"] : List Slot) := by decide +kernel
def spSlots : Sp := fun vs H Q _ => ∃ (p l : Addr) (cells : List Int) (m : Nat) (most : Nat), vs = [.ref p, .int (most : Int)] ∧ PenAt H p l cells m ∧ m + 200 ≤ 50000 ∧ cells.length ≤ 63 ∧ 1 ≤ most ∧ most ≤ 12 ∧
  ∀ a g H', H a = none → Keep p H H' → PenAt H' p l cells (m + 14) → H' a = some (.lst (vS g)) → 1 ≤ g.length → g.length ≤ most → Abc g → Q (.ref a) H'
theorem scSlots : FnScope nSlots ["_law_pen_here", "_law_most"] (defScope sSlots) := ⟨rfl, rfl, rfl, by decide +kernel, rfl, by decide +kernel, by decide +kernel⟩
theorem ok_Slots {f fD fP : Addr} {fd fdD fdP : FuncData} (F : Fun K "_law_slots" "_law_slots" sSlots f fd) (range : mg "range" = none)
    (GD : FnOk P w K mg base CX0 1 fD fdD ["_law_pen_here", "_law_many"] spDraw) (kD : PySem.W.keepIn K (.ref fD) = true) (bD : Binds K fdD ["_law_pen_here", "_law_many"] []) (gD : mg "_law_draw" = some (.ref fD))
    (GP : FnOk P w K mg base CX0 2 fP fdP ["_law_pen_here", "_law_some"] spPick) (kP : PySem.W.keepIn K (.ref fP) = true) (bP : Binds K fdP ["_law_pen_here", "_law_some"] []) (gP : mg "_law_pick" = some (.ref fP)) :
    FnOk P w K mg base CX0 3 f fd ["_law_pen_here", "_law_most"] spSlots := by
  refine F.ok scSlots (fun vs H Q E h => ?_) (fun cdv A outer s H vs Q E hr h => ?_)
  · obtain ⟨p, l, cells, m, most, rfl, _⟩ := h
    rfl
  · obtain ⟨p, l, cells, m, most, rfl, hP, hm, h63, m1, m12, k⟩ := h
    have r1 := hr.mono (show 1 ≤ 2 by decide)
    refine ⟨_, pss_cons (ps_set (i := 2) scSlots.nd rfl (.inr rfl) (pe_call GP hr (by rfl) gP kP bP .nil pass0 (pa_cons (pv 0) (pa_cons (pe_lst (pa_cons (pe_lst (pa_cons pe_str pa_nil)) (pa_cons (pe_lst (pa_cons pe_str (pa_cons pe_str pa_nil))) (pa_cons (pe_lst (pa_cons pe_str (pa_cons pe_str (pa_cons pe_str pa_nil))))
        (pa_cons (pe_lst (pa_cons pe_str (pa_cons pe_non pa_nil))) (pa_cons (pe_lst (pa_cons pe_str (pa_cons pe_str (pa_cons pe_non pa_nil)))) (pa_cons (pe_lst (pa_cons pe_str (pa_cons pe_str (pa_cons pe_str (pa_cons pe_non pa_nil))))) pa_nil))))))) pa_nil))))
      (pss_one (ps_ret (pe_lc (own := [("_law_turn", 3)]) (g := gName 3) rfl scSlots.nd (pi_range1 (by rfl) range (pa_cons (pe_op op_add pe_int (pe_call GD r1 (by rfl) gD kD bD .nil pass0 (pa_cons (pv 0) (pa_cons (pv 1) pa_nil)))) pa_nil)) (blkOk_by (own := [("_law_turn", 3)]) (N := nSlots) (sc := defScope sSlots) (by decide +kernel))
        (fun _ _ _ _ _ => pg_name (i := 3) scSlots.nd rfl (Or.inl rfl)) (fun _ _ _ _ _ => pts_nil) (fun _ _ _ _ _ => pe_call GP hr (by rfl) gP kP bP .nil pass0 (pa_cons (pv 0) (pa_cons (pv 2) pa_nil)))))), ?_⟩
    have ls : EvLs (tCons (tLst (tCons (tC (.str "a")) tNil)) (tCons (tLst (tCons (tC (.str "a")) (tCons (tC (.str "b")) tNil))) (tCons (tLst (tCons (tC (.str "a")) (tCons (tC (.str "b")) (tCons (tC (.str "c")) tNil))))
        (tCons (tLst (tCons (tC (.str "a")) (tCons (tC .non) tNil))) (tCons (tLst (tCons (tC (.str "a")) (tCons (tC (.str "b")) (tCons (tC .non) tNil)))) (tCons (tLst (tCons (tC (.str "a")) (tCons (tC (.str "b")) (tCons (tC (.str "c")) (tCons (tC .non) tNil))))) tNil)))))) [some (.ref p), some (.int (most : Int)), none, none] H pools :=
      els_cons (el_S (l := [some "a"]) (ea_cons ev_c ea_nil) (by decide)) (els_cons (el_S (l := [some "a", some "b"]) (ea_cons ev_c (ea_cons ev_c ea_nil)) (by decide)) (els_cons (el_S (l := [some "a", some "b", some "c"]) (ea_cons ev_c (ea_cons ev_c (ea_cons ev_c ea_nil))) (by decide))
        (els_cons (el_S (l := [some "a", none]) (ea_cons ev_c (ea_cons ev_c ea_nil)) (by decide)) (els_cons (el_S (l := [some "a", some "b", none]) (ea_cons ev_c (ea_cons ev_c (ea_cons ev_c ea_nil))) (by decide)) (els_cons (el_S (l := [some "a", some "b", some "c", none]) (ea_cons ev_c (ea_cons ev_c (ea_cons ev_c (ea_cons ev_c ea_nil)))) (by decide)) els_nil)))))
    refine q_asgR ⟨_, rfl, lst_i (ls H (Ex.refl H) _ fun as H1 e1 len has => ⟨sz_of (by rw [List.length_map, len]; decide), fun b hb => ?_⟩)⟩
    have e2 := e1.trans (Ex.new (o := .lst (as.map V.ref)) hb)
    have hP2 := hP.mono e2 (Nat.le_refl m)
    have bp : b ≠ p := fun z => by
      obtain ⟨_, _, q, _⟩ := hP
      rw [z, e1 _ _ q] at hb
      cases hb
    refine ⟨p, l, b, cells, m, as.map V.ref, rfl, hP2, by omega, h63, upd_same, bp, by rw [List.length_map, len]; decide, by rw [List.length_map, len]; decide, fun i x H2 hi hP3 k3 => ?_⟩
    rw [List.getElem?_map] at hi
    obtain ⟨a, ha, rfl⟩ := Option.map_eq_some_iff.mp hi
    obtain ⟨a0, pool, hpool, hA⟩ := has i a ha
    have kp : Keep p H H2 := (Keep.of_ex e2).trans k3
    have hA2 : H2 a = some (.lst (vS pool)) := lstS_keep hP2 k3 ((Ex.new hb) _ _ hA)
    obtain ⟨p0, p4, pin⟩ := pools_ok pool (List.mem_of_getElem? hpool)
    have ap : a ≠ p := fun z => by
      obtain ⟨_, _, q, _⟩ := hP
      rw [z, q] at a0
      cases a0
    refine s_retR (lc_slots (p := p) (l := l) (cells := cells) (m := m + 1) (most := (most : Int)) (R := fun y => y ∈ pool) ?_ hP3 (by omega) (by omega) (fun _ => rfl) (fun x H3 k3' => ?_) fun r g H3 hr0 k4 hP4 h4 g1 g2 gin => ?_)
    · exact w_draw rfl (fun H3 _ => ev_var rfl) (by omega) (by omega) h63
    · intro n H4 k4 hP4 hn Q4 q4
      have hA4 : H4 a = some (.lst (vS pool)) := lstS_keep hP3 (k3'.trans k4) hA2
      refine ⟨_, rfl, _, rfl, p, l, a, cells, n, vS pool, rfl, hP4, by omega, h63, hA4, ap, by rw [vS_len]; exact p0, by rw [vS_len]; omega, fun i x H5 hi hP5 k5 => ?_⟩
      obtain ⟨y, hy, rfl⟩ := nth_map hi
      exact q4 _ H5 ⟨y, rfl, List.mem_of_getElem? hy⟩ hP5 k5
    · have r0 : H r = none := by
        cases z : H r with
        | none => rfl
        | some u =>
          have rp : r ≠ p := fun y => by
            obtain ⟨_, _, q, _⟩ := hP3
            rw [y, q] at hr0
            cases hr0
          have := kp _ _ z rp
          rw [hr0] at this
          cases this
      exact k r g H3 r0 (kp.trans k4) (hP4.le (by omega)) h4 g1 (by omega) fun y hy => pin y (gin y hy)
/-! ### _law_ring -/
def spRing (K : PySem.W.Frag) (C : Addr) : Sp := fun vs H Q _ => ∃ (a : Addr) (l : List Slot), vs = [.ref a] ∧ SqL K H a (vS l) ∧ 1 ≤ l.length ∧ l.length ≤ 24 ∧ Oks l ∧ RetR K C l H Q
theorem scRing : FnScope ["_law_some", "_law_one"] ["_law_some"] (defScope sRing) := ⟨rfl, rfl, rfl, by decide +kernel, rfl, by decide +kernel, by decide +kernel⟩
abbrev rJoin (K : PySem.W.Frag) : V → List V → Hp → VK → Prop := fun x xs H Q => ∃ a p, ∃ ys : List Str, x = .str a ∧ xs = [.ref p] ∧ (SqL K H p (ys.map V.str) ∨ SqT K H p (ys.map V.str)) ∧ (ys.map (·.length)).sum + ys.length * a.length ≤ 16777216 ∧ Q (.str (Txt.join a ys)) H
theorem ev_joinL {σ : L2.St} {H : Hp} {ta te : TE} {a : Str} {ys : List Str} (h : Ev ta σ H (.str a)) (he : EvL te σ H (ys.map V.str)) (hz : (ys.map (·.length)).sum + ys.length * a.length ≤ 16777216) : Ev (tM1 (rJoin K) ta te) σ H (.str (Txt.join a ys)) := fun H1 e Q q =>
  h H1 e _ fun H2 e2 => ⟨⟨a, rfl⟩, he H2 (e.trans e2) _ fun p H3 hp e3 h3 => ⟨a, p, ys, rfl, rfl, .inl (sq_of h3), hz, q H3 (e2.trans e3)⟩⟩
theorem wd_sum {l : List Slot} (ok : Oks l) : ((l.map wd).map (·.length)).sum + (l.map wd).length * (" " : Str).length ≤ 9 * l.length := by
  have b : ((l.map wd).map (·.length)).sum ≤ 8 * ((l.map wd).map (·.length)).length := sum_most fun n hn => by
    obtain ⟨z, hz, rfl⟩ := List.mem_map.mp hn
    obtain ⟨x, hx, rfl⟩ := List.mem_map.mp hz
    exact wd_len (ok x hx)
  rw [List.length_map, List.length_map] at b
  rw [List.length_map, show (" " : Str).length = 1 from by decide +kernel]
  omega
/-- ' '.join(['-' if x is None else x for x in a row of slots]) -/
theorem ev_text {σ : L2.St} {H : Hp} {tl : TE} {j : Nat} {a : Addr} {l : List Slot} (h : Ev tl σ H (.ref a)) (hx : SqL K H a (vS l)) (ok : Oks l) (l24 : l.length ≤ 100) (hw : ∀ x, wipe ((wipe σ [j]).set j (some x)) [j] = wipe σ [j]) (hj : ∀ x : V, ((wipe σ [j]).set j (some x))[j]? = some (some x)) :
    Ev (tM1 (rJoin K) (tC (.str " ")) (tLc (iList K tl) (gName j) tYes (tIf (tTest (tOp rIsN (tVar j) (tC .non))) (tC (.str "-")) (tVar j)) [j])) σ H (.str (tx l)) := by
  have c := el_mapL (K := K) (σ := σ) (H := H) (t := tYes) (te := tIf (tTest (tOp rIsN (tVar j) (tC .non))) (tC (.str "-")) (tVar j)) (tl := tl) sv (l := l) (j := j) (vs := [j]) (a := a) (fun _ => true) (fun x => V.str (wd x)) h hx (by omega) hw (fun _ _ _ _ => et_none) (fun x hx H1 e1 _ => by
    refine ev_if (b := x.isNone) (et_is (et_test (ev_isN (ev_var (hj _)))) (by rw [sv_non])) (fun hn => ?_) (fun hn => ?_)
    · cases x with
      | none => exact ev_c
      | some z => cases hn
    · cases x with
      | none => cases hn
      | some z => exact ev_var (hj _))
  rw [List.filter_eq_self.mpr fun _ _ => rfl, show (l.map fun x => V.str (wd x)) = (l.map wd).map V.str by rw [List.map_map]; rfl] at c
  exact ev_joinL ev_c c (Nat.le_trans (wd_sum ok) (by omega))
theorem ok_Ring {C f fR pR : Addr} {mc : Value} {fd fdR : FuncData} (F : Fun K "_law_ring" "_law_ring" sRing f fd) (N : RName K mg C mc) (RC : CMet K C mc "read" pR fR) (GR : FnOk P w K mg base CX0 5 fR fdR ["cls", "text"] (spRead K C)) (bR : Binds K fdR ["cls", "text"] []) :
    FnOk P w K mg base CX0 6 f fd ["_law_some"] (spRing K C) := by
  refine F.ok scRing (fun vs H Q E h => ?_) (fun cdv A outer s H vs Q E hr h => ?_)
  · obtain ⟨a, l, rfl, _⟩ := h
    rfl
  · obtain ⟨a, l, rfl, hA, l1, l24, ok, k⟩ := h
    refine ⟨_, pss_one (ps_ret (pe_cmeth (E := E0) (pe_glob (v := .ref C) rfl N.g rfl) N.rd RC (fnR0 GR bR) hr pass0 (pa_cons (pe_join pe_str (pe_lc (own := [("_law_one", 1)]) (g := gName 1) rfl scRing.nd (pi_list (pv 0)) (blkOk_by (own := [("_law_one", 1)]) (N := ["_law_some", "_law_one"]) (sc := defScope sRing) (by decide +kernel))
        (fun _ _ _ _ _ => pg_name (i := 1) scRing.nd rfl (Or.inl rfl)) (fun _ _ _ _ _ => pts_nil) (fun _ _ _ _ _ => pe_ifExp (pt_cmpR op_isN1 (pv 1) pe_non (nomark _)) pe_str (pv 1)))) pa_nil))), ?_⟩
    exact s_retR ⟨rfl, ea_cons (ev_text (K := K) (j := 1) (ev_var rfl) hA ok (by omega) (fun _ => rfl) fun _ => rfl) ea_nil H (Ex.refl H) _ fun H1 e1 => ⟨l, rfl, l1, l24, ok, k.mono e1⟩⟩
end
end K23
namespace K23
open PySem L2 Evl Gr ClX OwX OpX StX LamX EXC ClK RdX OwC StS EqT EnT
/-! ### _law_heard -/
abbrev sHd : Stmt := top 25
abbrev nHd : List Str := ["_law_ask", "_law_caught", "error", "_law_found"]
theorem scHd : FnScope nHd ["_law_ask"] (defScope sHd) := ⟨rfl, rfl, rfl, by decide +kernel, rfl, by decide +kernel, by decide +kernel⟩
theorem takes_len {X : Cx} {W : WX} (t : Takes X W) : Takes X (fun c d σ H => σ.length = X.N.length → W c d σ H) := fun u s' ⟨a, B, sI, pins, σ, H, cls, d, e, I, nb, up, sky, na, os, ag, w⟩ => t u s' ⟨a, B, sI, pins, σ, H, cls, d, e, I, nb, up, sky, na, os, ag, w I.len⟩
/-- what is told of too many slots -/
def heardV : List V := [.str "many", .str (toString (24 : Int) : String)]
def HdE (cM : Addr) (Q : VK) : XK := fun cls d H1 => cls = .ref cM ∧ ∃ dd, d = some dd ∧ H1 dd = some (.xd [("most", .int 24), ("what", .str "slots")]) ∧ ∀ H2 l, Ex H1 H2 → H2 l = some (.tup heardV) → Q (.ref l) H2
def THd (cM : Addr) : (XK → Hp → VK → Prop) → Hp → VK → Prop := fun tl H Q => tl (HdE cM Q) H fun v H1 => [v].length ≤ sizeLine ∧ ∀ l, H1 l = none → Q (.ref l) (upd H1 l (.lst [v]))
structure HdK (K : PySem.W.Frag) (mg : Str → Option Value) (B cM : Addr) : Prop where
  gP : mg "PostError" = some (.ref B)
  gM : mg "TooMany" = some (.ref cM)
  inst : mg "isinstance" = none
  repr : mg "repr" = none
  len : mg "len" = none
  hit : PySem.W.exmOne K (.ref cM) (.ref B) = some true
  kM : PySem.W.kitOne K (.ref cM) (.ref cM) = some true
  xc : XcC K cM
  fm : PySem.W.findIn K (.ref cM) "most" = some none
section
variable {K : PySem.W.Frag} {σ : L2.St} {H : Hp} {ta tb te tl : TE}
theorem ev_xcF {a C d : Addr} {fs : List (Str × V)} {v : V} {f : Str} (h : Ev te σ H (.ref a)) (ha : H a = some (ExC (.ref C) (some d) a)) (hd : H d = some (.xd fs)) (xc : XcC K C) (own : PySem.W.findIn K (.ref C) f = some none) (l : fs.lookup f = some v) : Ev (tXcF K f te) σ H v := fun H1 e Q q =>
  h H1 e _ fun H2 e2 => ⟨a, C, d, fs, v, rfl, (e.trans e2) _ _ ha, (e.trans e2) _ _ hd, xc, own, l, q H2 e2⟩
theorem rc_xc {a C D d : Addr} {fs : List (Str × V)} {b : Bool} (ha : H a = some (ExC (.ref C) (some d) a)) (hd : H d = some (.xd fs)) (xc : XcC K C) (hk : PySem.W.kitOne K (.ref C) (.ref D) = some b) : RC (rXc K) [.ref a, .ref D] H (.bl b) := fun H1 e Q q =>
  ⟨a, C, some d, _, _, b, rfl, .own D, e _ _ ha, fun dd z => ⟨fs, by cases z; exact e _ _ hd⟩, xc, hk, q H1 (Ex.refl H1)⟩
theorem rc_repr {i : Int} (h : i.natAbs.log2 < 1920) : RC (fun xs H Q => ∃ i : Int, xs = [.int i] ∧ i.natAbs.log2 < 1920 ∧ Q (.str (toString i)) H) [.int i] H (.str (toString i : String)) := fun H1 e Q q =>
  ⟨i, rfl, h, q H1 (Ex.refl H1)⟩
theorem ex_mut {H H1 : Hp} {b : Addr} {o : HO} (e : Ex H H1) (h : H b = none) : Ex H (upd H1 b o) := fun c u hc => by
  rw [upd_ne (ne_of_none hc h)]
  exact e c u hc
end
theorem heard_gives {X : Cx} {q : Str} {g : Addr} {cdg : Value} {B cM : Addr} (T : HdK X.K X.mg B cM) : GivesTo X nHd "_law_heard" (defScope sHd) g cdg (defBody sHd) "_law_ask" q (THd cM) := by
  intro f c' s H Q tl act hc h
  refine ⟨_, pss_cons (ps_set (i := 1) scHd.nd rfl (.inl rfl) pe_non)
    (pss_cons (ps_try_held (X := (cxOf C8.CX0 X.prog X.w X.K X.mg X.base nHd "_law_heard" (defScope sHd) g cdg X.A X.stack s H C8.E0).nox) (c := .ref B) (i := 2)
      (tb := fun W D σ H => ∃ Ech : XK, (∀ cls d σ' H', Ech cls d H' → σ'.length = 4 → W cls d σ' H') ∧ σ[0]? = some (some (.ref f)) ∧ H c' = some (CodeO c' q) ∧ tl Ech H fun v H1 => [v].length ≤ sizeLine ∧ ∀ l, H1 l = none → D.rt (.ref l) (upd H1 l (.lst [v])))
      rfl rfl rfl scHd.nd rfl rfl ⟨rfl, by decide, .inl T.gP⟩ (fun W pn xe tk _ => ?_) (fun a oe cls d pn _ _ => pss_one (ps_set (i := 1) scHd.nd rfl (.inl rfl) (pv 2))))
    (pss_cons (ps_set (i := 3) scHd.nd rfl (.inl rfl) (pe_lst pa_nil))
    (pss_cons (ps_if (pt_val (pe_callB call_xc (by rfl) T.inst (by decide +kernel) (pa_cons (pv 1) (pa_cons (pe_glob (v := .ref cM) (by rfl) T.gM (by rfl)) pa_nil))))
      (pss_one (ps_expr (pe_bm PySem.F.plainAttrs_list PySem.F.slot_list_append PySem.F.type_list_append mt_append (pv 3) (pa_cons (pe_tup (pa_cons pe_str (pa_cons (pe_callB SkE.call_repr_int (by rfl) T.repr (by decide +kernel) (pa_cons (pe_xcF (pv 1)) pa_nil)) pa_nil))) pa_nil)))) pss_nil)
    (pss_one (ps_ret (pe_ifExp (pt_cmpR op_eq (pe_callB call_len_seq (by rfl) T.len PySem.boot_len (pa_cons (pv 3) pa_nil)) pe_int (nomark _)) (pe_ix ix_list (pv 3) pe_int (fun _ _ => rfl)) (pe_tup (pa_cons pe_str (pa_cons pe_str pa_nil))))))))), ?_⟩
  · refine ⟨fun pins s' σ H D I h' => ?_⟩
    obtain ⟨Ech, hW, h1, h2, h3⟩ := h'
    have hp := act _ pn xe Ech ⟨170, 16, 170, 24⟩ ⟨170, 16, 170, 26⟩ (takes_len tk) (fun cls d σ' H2 e l => hW cls d σ' H2 e l)
    have hq := pss_one (ps_ret (pos := ⟨170, 8, 170, 27⟩) (pe_lst (pos := ⟨170, 15, 170, 27⟩) (pa_cons hp pa_nil)))
    exact hq.run pins s' σ H D I ⟨h1, h2, h3⟩
  · refine ⟨HdE cM Q, fun cls d σ' H1 hE hlen => ?_, rfl, hc, h⟩
    obtain ⟨rfl, dd, rfl, hd, kk⟩ := hE
    obtain ⟨x, y, z, w, rfl⟩ : ∃ x y z w, σ' = [x, y, z, w] := by
      match σ', hlen with
      | [x, y, z, w], _ => exact ⟨x, y, z, w, rfl⟩
    refine ⟨T.hit, fun a ha => ?_⟩
    refine ⟨_, rfl, ?_⟩
    dsimp only [gName, List.set]
    have ne : dd ≠ a := ne_of_none hd ha
    have e1 := Ex.new (o := ExC (.ref cM) (some dd) a) ha
    have ha2 : upd H1 a (ExC (.ref cM) (some dd) a) a = some (ExC (.ref cM) (some dd) a) := upd_same
    have hd2 := e1 _ _ hd
    generalize upd H1 a (ExC (.ref cM) (some dd) a) = H2 at e1 ha2 hd2 ⊢
    refine q_asgL (xs := []) (el_lst ea_nil (Nat.le_of_ble_eq_true rfl)) fun b H3 hb e3 h3 => ?_
    refine q_when (b := true) (et_B (ev_cb (ea_cons (ev_var rfl) (ea_cons ev_c ea_nil)) (rc_xc (e3 _ _ ha2) (e3 _ _ hd2) T.xc T.kM))) (fun _ H4 e4 => ?_) (fun z => absurd z (by decide))
    have h4 := e4 _ _ h3
    refine ⟨_, rfl, .inl ⟨rfl, _, sq_of h4⟩, ?_⟩
    refine cons_i (tup_i (cons_i (ev_c H4 (Ex.refl H4) _ fun H5 e5 => cons_i (ev_cb (ea_cons (ev_xcF (ev_var rfl) ((e3.trans (e4.trans e5)) _ _ ha2) ((e3.trans (e4.trans e5)) _ _ hd2) T.xc T.fm rfl) ea_nil) (rc_repr (i := 24) (by decide)) H5 (Ex.refl H5) _ fun H6 e6 => ⟨by show 2 ≤ sizeLine; decide, fun t ht => ?_⟩))))
    have e7 := Ex.new (o := .tup heardV) ht
    have h7 := (e5.trans (e6.trans e7)) _ _ h4
    refine ⟨b, [], .ref t, rfl, rfl, h7, by decide, ?_⟩
    have ht7 : upd H6 t (.tup heardV) t = some (.tup heardV) := upd_same
    have E7 : Ex H3 (upd H6 t (.tup heardV)) := e4.trans (e5.trans (e6.trans e7))
    have bt : t ≠ b := fun z => by
      rw [← z, ht7] at h7
      cases h7
    have E8 : Ex H1 (upd (upd H6 t (.tup heardV)) b (.lst [.ref t])) := ex_mut (e1.trans (e3.trans E7)) (fresh_back e1 hb)
    have ht8 : upd (upd H6 t (.tup heardV)) b (.lst [.ref t]) t = some (.tup heardV) := by rw [upd_ne bt]; exact ht7
    have hb8 : upd (upd H6 t (.tup heardV)) b (.lst [.ref t]) b = some (.lst [.ref t]) := upd_same
    refine s_ret (v := .ref t) (ev_if (b := true) (et_is (et_test (ev_op (ev_cb (ea_cons (ev_var rfl) ea_nil) (rc_len (sq_of hb8))) ev_c (rv_eq rfl))) rfl) (fun _ => ev_op (ev_var rfl) ev_c (rv_ixL (sq_of hb8) rfl)) fun z => absurd z (by decide)) fun H9 e9 => kk H9 t (E8.trans e9) (e9 _ _ ht8)
/-- a def as it stands behind the top, its code object known -/
structure FunC (K : PySem.W.Frag) (x qual : Str) (st : Stmt) (f : Addr) (fd : FuncData) (c : Addr) : Prop where
  ex : ∃ (oc : Value) (od : Option Addr) (kV doc pm : Value) (an : Option Addr) (ct : Value) (osl : Array (Option Value)),
    fd = PySem.W.fnOf x qual (defArgs st) (defBody st) (defScope st) .none kV doc pm an (.ref c) ct ∧ K.lookup f = some ⟨oc, od, .func fd, osl⟩ ∧ PySem.W.codeIn K (.ref c) qual = true
  kp : PySem.W.keepIn K (.ref f) = true
section
variable {P : Program} {w : World} {K : PySem.W.Frag} {mg : Str → Option Value} {base : Heap}
theorem FunC.fn {x qual : Str} {st : Stmt} {f c : Addr} {fd : FuncData} (F : FunC K x qual st f fd c) : Fun K x qual st f fd := by
  obtain ⟨oc, od, kV, doc, pm, an, ct, osl, h⟩ := F.ex
  exact ⟨⟨oc, od, kV, doc, pm, an, .ref c, ct, osl, h⟩, F.kp⟩
theorem FunC.ok {x qual : Str} {st : Stmt} {f c : Addr} {fd : FuncData} {N ps : List Str} {k : Nat} {sp : Sp} (F : FunC K x qual st f fd c) (S : FnScope N ps (defScope st)) (len : ∀ vs H Q E, sp vs H Q E → vs.length = ps.length)
    (hbody : ∀ (A : Around) (outer : List Env) (s : Shared) (H : Hp) (vs : List V) (Q : VK) (E : XK), Room k (A.deeper (PyProof.Rows.envOfC qual (defScope st) s.heap.objs.size f (.ref c))) → sp vs H Q E →
      ∃ t, PSs (cxOf CX0 P w K mg base N qual (defScope st) f (.ref c) A outer s H E).nox (defBody st) t ∧ t { nx := fun _ H' => Q .non H', rt := Q } (L2.start N vs) H) : FnOk P w K mg base CX0 (k + 1) f fd ps sp := by
  obtain ⟨oc, od, kV, doc, pm, an, ct, osl, rfl, lk, hcd⟩ := F.ex
  refine fn_of lk hcd S len fun A outer s H vs Q E hr hsp => ?_
  obtain ⟨t, h, q⟩ := hbody A outer s H vs Q E hr hsp
  exact ⟨t, h.nox, q⟩
end
end K23
namespace K23
open PySem L2 Evl Gr StX EnT ClX OpX RdX OwC StS ClK EqT ItX
section
variable {X : Cx} {C : Addr} {σ : L2.St} {H : Hp} {ta tb te tl : TE} {t : TA} {o : Addr} {l : List Slot} {i : Int} {k : Nat} {x : Slot} {z : Str}
theorem Old.mono {n : Nat} {H H' : Hp} (e : Ex H H') (h : Old n H) : Old n H' := by
  obtain ⟨b, u, h1, h2⟩ := h
  exact ⟨b, u, e _ _ h1, h2⟩
theorem ev_lenO (ha : Ev ta σ H (.ref o)) (hO : RdAt X.K C H o l) : Ev (tCB (rLenO X C (spLen X.K C) E0) (tCons ta tNil)) σ H (.int (l.length : Int)) :=
  ev_cb (ea_cons ha ea_nil) fun H1 e Q q => ⟨o, rfl, rd_insC (hO.mono e), o, l, rfl, hO.mono e, fun H2 e2 => ⟨_, rfl, by omega, by have := hO.lens; omega, q H2 e2⟩⟩
theorem et_tru (ha : Ev ta σ H (.ref o)) (hO : RdAt X.K C H o l) : EvT (fun σ H Q => ta σ H fun x H' => rTruO X C (spLen X.K C) E0 x H' Q) σ H true := fun H1 e Q q =>
  ha H1 e _ fun H2 e2 => ⟨o, rfl, rd_insC (hO.mono (e.trans e2)), o, l, rfl, hO.mono (e.trans e2), fun H3 e3 => ⟨_, rfl, by omega, by have := hO.lens; omega, by
    have n0 : ((l.length : Int) != 0) = true := by
      have := hO.lens
      rw [bne_iff_ne]
      omega
    rw [n0]
    exact q H3 (e2.trans e3)⟩⟩
theorem ev_ixO (ha : Ev ta σ H (.ref o)) (hO : RdAt X.K C H o l) (hb : Ev tb σ H (.int (k : Int))) (hx : l[k]? = some x) : Ev (tOp (rIxO X C (spGet X.K C) E0) ta tb) σ H (sv x) :=
  ev_op ha hb fun H1 e Q q => ⟨o, rfl, rd_insC (hO.mono e), o, l, k, x, rfl, hO.mono e, hx, q⟩
theorem ev_callO (ha : Ev ta σ H (.ref o)) (hO : RdAt X.K C H o l) (ht : EvA t σ H [.int i]) (hx : l[(i % (l.length : Int)).toNat]? = some x) : Ev (tCallO X C (spCall X.K C) E0 ta t) σ H (sv x) := fun H1 e Q q =>
  ha H1 e _ fun H2 e2 => ⟨o, rfl, ht H2 (e.trans e2) _ fun H3 e3 => ⟨rd_insC (hO.mono ((e.trans e2).trans e3)), o, l, i, x, rfl, hO.mono ((e.trans e2).trans e3), hx, fun H4 e4 => q H4 ((e2.trans e3).trans e4)⟩⟩
theorem etu_flow {ys : List Str} (ha : Ev ta σ H (.ref o)) (hO : RdAt X.K C H o l) (hn : Names l ys) : EvTu X.K (tMeth C "flow_names" (spFlow X.K C) [] E0 ta tNil) σ H (ys.map V.str) := fun H1 e Q q =>
  ha H1 e _ fun H2 e2 => by
    have hO2 := hO.mono (e.trans e2)
    obtain ⟨dx, p, h1, _⟩ := hO2
    exact ⟨o, dx, _, rfl, h1, rfl, o, l, rfl, hO.mono (e.trans e2), fun r zs H3 e3 hr nz _ => by
      have := names_one hn nz
      subst this
      exact q r H3 (e2.trans e3) hr⟩
theorem etu_own (ha : Ev ta σ H (.ref o)) (hO : RdAt X.K C H o l) (ht : EvA t σ H [.str z]) (hn : nameB z = true) (hz : z.length ≤ 1000) : EvTu X.K (tMeth C "own" (spOwn X.K C) [] E0 ta t) σ H (vI (plcs l z)) := fun H1 e Q q =>
  ha H1 e _ fun H2 e2 => by
    have hO2 := hO.mono (e.trans e2)
    obtain ⟨dx, p, h1, _⟩ := hO2
    exact ⟨o, dx, _, rfl, h1, rfl, ht H2 (e.trans e2) _ fun H3 e3 => ⟨o, l, z, rfl, hO.mono ((e.trans e2).trans e3), hn, hz, fun r H4 e4 hr => q r H4 ((e2.trans e3).trans e4) hr⟩⟩
theorem etu_ownK {m : Str} {ks : List Str} (ha : Ev ta σ H (.ref o)) (hO : RdAt X.K C H o l) (hm : m = "own") (hk : ks.length = 1) (ht : EvA t σ H [.str z]) (hn : nameB z = true) (hz : z.length ≤ 1000) :
    EvTu X.K (fun σ H Q => ta σ H fun x H1 => ∃ a dx fs, x = .ref a ∧ H1 a = some (.ins C dx fs) ∧ fs.lookup m = none ∧ t σ H1 fun zs H2 => zs.length = ks.length ∧ spOwn X.K C ([.ref a] ++ zs) H2 Q E0) σ H (vI (plcs l z)) := fun H1 e Q q =>
  ha H1 e _ fun H2 e2 => by
    have hO2 := hO.mono (e.trans e2)
    obtain ⟨dx, p, h1, _⟩ := hO2
    subst hm
    exact ⟨o, dx, _, rfl, h1, rfl, ht H2 (e.trans e2) _ fun H3 e3 => ⟨hk.symm, o, l, z, rfl, hO.mono ((e.trans e2).trans e3), hn, hz, fun r H4 e4 hr => q r H4 ((e2.trans e3).trans e4) hr⟩⟩
theorem ev_inO (ha : Ev ta σ H (.str z)) (hb : Ev tb σ H (.ref o)) (hO : RdAt X.K C H o l) (hz : z.length ≤ 1000) : Ev (tOp (rInO X C (spCont X.K C) E0) ta tb) σ H (.bl (nameB z && decide (some z ∈ l))) :=
  ev_op ha hb fun H1 e Q q => ⟨o, rfl, rd_insC (hO.mono e), .inl ⟨o, l, z, rfl, hO.mono e, hz, fun H2 e2 => ⟨_, rfl, q H2 e2⟩⟩⟩
theorem ev_inOx {v : V} {T : String} (ha : Ev ta σ H v) (hb : Ev tb σ H (.ref o)) (hO : RdAt X.K C H o l) (ht : TyX X.K H v (.type T)) (hk : kitB T "str" = some false) : Ev (tOp (rInO X C (spCont X.K C) E0) ta tb) σ H (.bl false) :=
  ev_op ha hb fun H1 e Q q => ⟨o, rfl, rd_insC (hO.mono e), .inr ⟨o, l, v, T, rfl, hO.mono e, tyx_mono e ht, hk, fun H2 e2 => ⟨_, rfl, q H2 e2⟩⟩⟩
/-- [x for x in a round] -/
theorem el_round {j : Nat} {vs : List Nat} (ha : Ev tl σ H (.ref o)) (hO : RdAt X.K C H o l) (old : Old X.s_0.heap.objs.size H) (hw : ∀ x, wipe ((wipe σ vs).set j (some x)) vs = wipe σ vs) (hj : ∀ x : V, ((wipe σ vs).set j (some x))[j]? = some (some x)) :
    EvL (tLc (iOwn X C (spIter X.K C) E0 tl) (gName j) tYes (tVar j) vs) σ H (vS l) := fun H0 e Q q => ha H0 e _ fun H1 e1 =>
  ⟨o, rfl, rd_insC (hO.mono (e.trans e1)), o, l, rfl, hO.mono (e.trans e1), Old.mono (e.trans e1) old, fun it r H2 hit age e2 h2 hr => ⟨it, r, rfl, h2, age, by
    have hr' : SqT X.K (dropH H2 it) r (vS l) := by
      rcases hr with hr | hr
      · have ne : r ≠ it := fun z => by
          rcases hr with h | ⟨ob, h⟩ <;> rw [z, h2] at h <;> unfold ItT at h <;> cases h
        rcases hr with h | ⟨ob, h⟩
        · exact .inl (.inl (by rw [dropH_ne ne]; exact h))
        · exact .inl (.inr ⟨ob, by rw [dropH_ne ne]; exact h⟩)
      · exact .inr hr
    have e3 : Ex H1 (dropH H2 it) := fun c u hc => by
      rw [dropH_ne (ne_of_none hc hit)]
      exact e2 c u hc
    generalize dropH H2 it = H3 at hr' e3
    exact fun Dl hD => lc_it (n := (vS l).length) (walk_tup (xs := vS l)) (Cw H3 (fun _ => true) (got l sv) Dl) ⟨hD, Ex.new hD, upd_same⟩ (fun _ H' _ p => ex_t p.2.1 hr')
      (fun k x H' H'' hk p y => by
        obtain ⟨rfl, hx'⟩ := y
        exact ⟨hw _, cw_turn p (by have := hO.lens; rw [vS_len] at hk; omega) et_none fun _ => by
          obtain ⟨y, hy, rfl⟩ := nth_map (f := sv) hx'
          rw [got_of hy]
          exact ev_var (hj _)⟩)
      (fun H' p => by
        have e4 := e3.trans p.2.1
        refine q Dl H' (fresh_back (e1.trans e3) p.1) (e1.trans e4) ?_
        have h3 := p.2.2
        have g := given_of l (fun _ => true) sv
        rw [vS_len] at h3
        have ga : given l.length (fun _ => true) (got l sv) = given l.length (at_ l fun _ => true) (got l sv) := by
          unfold given
          congr 1
          refine List.filter_congr fun n hn => ?_
          have lt := List.mem_range.mp hn
          rw [at_of (List.getElem?_eq_getElem lt)]
        rw [ga, g, List.filter_eq_self.mpr fun _ _ => rfl] at h3
        exact h3)⟩⟩
end
theorem q_ifE {c : TT} {tu tz : TS} {D : Ends} {σ : L2.St} {H : Hp} (h : c σ H fun b H1 => if b = true then tu { D with nx := tz D } σ H1 else tz D σ H1) : tSeq (tIfS c tu tNext) tz D σ H := h
theorem test_i {te : TE} {σ : L2.St} {H : Hp} {Q : Bool → Hp → Prop} (h : te σ H fun x H' => ∃ k, x = .bl k ∧ Q k H') : tTest te σ H Q := h
theorem or_E {t u : TT} {σ : L2.St} {H : Hp} {Q : Bool → Hp → Prop} (h : t σ H fun c H1 => if c = true then Q true H1 else u σ H1 Q) : tOr t u σ H Q := h
section
variable {K : PySem.W.Frag} {σ : L2.St} {H : Hp} {ta tb te tl : TE} {t u : TT} {l : List Slot}
theorem et_or0 (h1 : EvT t σ H false) (h2 : EvT u σ H false) : EvT (tOr t u) σ H false := et_is (et_or h1 fun _ => h2) rfl
theorem et_ne {te : TE} {b : Bool} (h : Ev te σ H (.bl (!b))) (hb : b = true) : EvT (tTest te) σ H false := et_is (et_test h) (by rw [hb]; rfl)
theorem tup_ty {b : Addr} {ys : List V} (h : SqT K H b ys) : TyX K H (.ref b) (.type "tuple") := by
  rcases h with (h | ⟨o, h⟩) | ⟨o, its, n, h, hc, _⟩
  · exact .base (.tup h)
  · exact .fTuple h
  · exact .kTuple h hc
theorem kit_tt : kitB "tuple" "tuple" = some true := by decide +kernel
theorem ev_isTup {xs : List V} (h : EvTu K ta σ H xs) : Ev (tCB (rIsi K) (tCons ta (tCons (tC (.ty "tuple")) tNil))) σ H (.bl true) := fun H1 e Q q =>
  h H1 e _ fun p H2 e2 hp => rc_isi (tup_ty hp) kit_tt H2 (Ex.refl H2) Q fun H3 e3 => q H3 (e2.trans e3)
theorem given_got : given l.length (fun _ => true) (got l sv) = vS l := by
  have g := given_of l (fun _ => true) sv
  rw [List.filter_eq_self.mpr fun _ _ => rfl] at g
  rw [show vS l = l.map sv from rfl, ← g]
  unfold given
  congr 1
  refine List.filter_congr fun n hn => ?_
  rw [at_of (List.getElem?_eq_getElem (List.mem_range.mp hn))]
theorem dpAll_txts : ∀ (ys : List Str), DpAll K H (ys.map V.str) (ys.map PyData.str)
  | [] => .nil
  | y :: ys => .cons (.str y) (dpAll_txts ys)
theorem eqv_txt (x y : Str) : PyData.eqv (.str x) (.str y) = decide (x = y) := by
  rw [show PyData.eqv (.str x) (.str y) = (x == y) by simp [PyData.eqv], Bool.eq_iff_iff, beq_iff_eq, decide_eq_true_iff]
theorem low_txts {ys : List Str} (h : ∀ y ∈ ys, PyData.strOk y = true) : Low 1 (.list (ys.map PyData.str)) := low_list fun d hd => by
  obtain ⟨y, hy, rfl⟩ := List.mem_map.mp hd
  exact low_str (h y hy)
theorem eqv_txts (xs ys : List Str) : PyData.eqv (.list (xs.map PyData.str)) (.list (ys.map PyData.str)) = decide (xs = ys) := by
  simp only [PyData.eqv]
  exact eqvAll_map PyData.str eqv_txt xs ys
theorem eqV_txt (x y : Str) : eqV (.str x) (.str y) = decide (x = y) := by
  rw [show eqV (.str x) (.str y) = (x == y) by simp [eqV], Bool.eq_iff_iff, beq_iff_eq, decide_eq_true_iff]
theorem inV_txt (z : Str) (ys : List Str) : inV (.str z) (ys.map V.str) = decide (z ∈ ys) := by
  unfold inV
  rw [List.any_map, Bool.eq_iff_iff, List.any_eq_true, decide_eq_true_iff]
  constructor
  · rintro ⟨y, hy, e⟩
    have e : eqV (.str y) (.str z) = true := e
    rw [eqV_txt] at e
    exact of_decide_eq_true e ▸ hy
  · intro h
    refine ⟨z, h, ?_⟩
    show eqV (.str z) (.str z) = true
    rw [eqV_txt]
    exact decide_eq_true rfl
theorem flat_txts (ys : List Str) : (ys.map V.str).all flatV = true := by
  rw [List.all_map]
  exact List.all_eq_true.mpr fun x _ => rfl
theorem ev_isLs {z : Str} {p : Addr} {ys : List Str} (ha : Ev ta σ H (.str z)) (hb : Ev tb σ H (.ref p)) (hp : SqL K H p (ys.map V.str)) : Ev (tOp (rIn K false) ta tb) σ H (.bl (decide (z ∈ ys))) :=
  ev_op ha hb fun H1 e Q q => ⟨p, _, rfl, .inl (ex_l e hp), rfl, flat_txts ys, by
    rw [if_neg Bool.false_ne_true, inV_txt]
    exact q H1 (Ex.refl H1)⟩
theorem low_ints (xs : List Int) : ∀ d ∈ xs.map PyData.int, Low 0 d := fun d hd => by
  obtain ⟨y, hy, rfl⟩ := List.mem_map.mp hd
  exact low_int y
theorem ev_neI {xs ys : List Int} (ha : EvL ta σ H (vI xs)) (hb : EvL tb σ H (vI ys)) : Ev (tOp (rNeD K) ta tb) σ H (.bl (!decide (xs = ys))) :=
  ev_is (ev_neD (ed_L ha fun _ _ => dpAll_ints xs) (ed_L hb fun _ _ => dpAll_ints ys) (low_shaped (low_list (low_ints xs)) (by decide)) (low_shaped (low_list (low_ints ys)) (by decide))) (by
    rw [show PyData.eqv (.list (xs.map PyData.int)) (.list (ys.map PyData.int)) = decide (xs = ys) by
      simp only [PyData.eqv]
      exact eqv_ints xs ys])
theorem shift_get (l : List Slot) (i : Int) (h : 1 ≤ l.length) : ∃ x, l[(i % (l.length : Int)).toNat]? = some x ∧ atI (vS l) (i % (l.length : Int)) = some (sv x) := by
  have pos : (0 : Int) < (l.length : Int) := by omega
  have r0 : ((i % (l.length : Int)).toNat : Int) = i % (l.length : Int) := Int.toNat_of_nonneg (Int.emod_nonneg _ (by omega))
  have lt := Int.emod_lt_of_pos i pos
  obtain ⟨x, hx⟩ : ∃ x, l[(i % (l.length : Int)).toNat]? = some x := ⟨_, List.getElem?_eq_getElem (by omega)⟩
  exact ⟨x, hx, by
    have := atI_nat (vS_at hx)
    rwa [r0] at this⟩
end
end K23
namespace K23
open PySem L2 Evl Gr StX EnT ClX OpX RdX OwC StS ClK EqT ItX OwX
/-! ### _law_kept -/
abbrev sKept : Stmt := top 26
abbrev nKept : List Str := ["_law_made", "_law_some", "_law_many", "_law_names", "_law_one", "_law_k", "_law_tick", "_law_name", "_law_thing"]
def spKept (K : PySem.W.Frag) (C : Addr) : Sp := fun vs H Q _ => ∃ (o a : Addr) (l : List Slot), vs = [.ref o, .ref a] ∧ RdAt K C H o l ∧ SqL K H a (vS l) ∧ RetV (.bl true) H Q
theorem scKept : FnScope nKept ["_law_made", "_law_some"] (defScope sKept) := ⟨rfl, rfl, rfl, by decide +kernel, rfl, by decide +kernel, by decide +kernel⟩
structure GlbK (mg : Str → Option Value) : Prop where
  tuple : mg "tuple" = none
  list : mg "list" = none
  repr : mg "repr" = none
  range : mg "range" = none
structure KeptK (P : Program) (w : World) (K : PySem.W.Frag) (mg : Str → Option Value) (base : Heap) (C fLen fIter fCont fGet fCall fOwn fFlow : Addr) (eOwn eFlow : FuncData) : Prop where
  hLen : Has K C fLen "__len__"
  len : FnR P w K mg base CX0 1 fLen (spLen K C)
  nb : PySem.W.findIn K (.ref C) "__bool__" = some none
  hIter : Has K C fIter "__iter__"
  iter : ∀ m, FnR P w K mg base CX0 1 fIter (spIter K C m)
  hCont : Has K C fCont "__contains__"
  cont : FnR P w K mg base CX0 2 fCont (spCont K C)
  hGet : Has K C fGet "__getitem__"
  iGet : PySem.W.fnIn K fGet = true
  get : FnR P w K mg base CX0 3 fGet (spGet K C)
  hCall : CallO K C fCall
  call : FnR P w K mg base CX0 2 fCall (spCall K C)
  mOwn : Meth K C "own" fOwn
  own : FnOk P w K mg base CX0 2 fOwn eOwn ["self", "flow"] (spOwn K C)
  bOwn : Binds K eOwn ["self", "flow"] []
  kOwn : KBn K eOwn ["self", "flow"] 1 ["flow"] (fun us ws => us ++ ws) (fun vs zs => vs ++ zs)
  mFlow : Meth K C "flow_names" fFlow
  flow : FnOk P w K mg base CX0 1 fFlow eFlow ["self"] (spFlow K C)
  bFlow : Binds K eFlow ["self"] []
theorem pe_ixO2 {X : Cx} (X0 : Cx) {CX : CXT} {n : Nat} {C g : Addr} {sp : Sp} {E : XK} {a b : Expr} {ta tb : TE} {pos : Pos} (h : Has X.K C g "__getitem__") (hf : PySem.W.fnIn X.K g = true) (F : FnR X.prog X.w X.K X.mg X.base CX n g sp) (hr : Room (n + 1) X.A) (hx : Passes CX X E) (ha : PE X a ta) (hb : PE X b tb)
    (hsl : ∀ x i, subscripted b true (.ref x) i = runValue (.builtin "lifetime.subscript" ⟨[.ref x, i], []⟩) := by intro _ _; with_unfolding_all rfl) : PE X (.Subscript a b pos) (tOp (rIxO X0 C sp E) ta tb) := pe_ixO h hf F hr hx ha hb hsl
def ticks (n : Int) : List Int := [0, 1, n, -(1), 0 - n, 7 * n + 2, 10 ^ (30 : Int).toNat, -(10 ^ (30 : Int).toNat)]
theorem things_none {X : Cx} {C o : Addr} {H : Hp} {l : List Slot} {y1 y2 y3 y4 y5 y6 y7 y8 : Option V} (hO : RdAt X.K C H o l) :
    EvL (tLc (iList X.K (tLst (tCons (tC .non) (tCons (tC (.str "")) (tCons (tC (.str "-")) (tCons (tC (.int 0)) (tCons (tC (.bl true)) (tCons (tTup (tCons (tC (.str "a")) tNil)) (tCons (tLst (tCons (tC (.str "a")) tNil)) (tCons tDNewK (tCons (tC (.str "A")) tNil))))))))))) (gName 8) (tTest (tOp (rInO X C (spCont X.K C) E0) (tVar 8) (tVar 0))) (tVar 8) [8])
      [some (.ref o), y1, y2, y3, y4, y5, y6, y7, y8] H [] := fun H1 e1 Q q => by
  show tLst _ [some (.ref o), y1, y2, y3, y4, y5, y6, y7, y8] H1 fun x H2 => tLc (iList X.K (tC x)) (gName 8) (tTest (tOp (rInO X C (spCont X.K C) E0) (tVar 8) (tVar 0))) (tVar 8) [8] [some (.ref o), y1, y2, y3, y4, y5, y6, y7, y8] H2 Q
  refine lst_i (cons_i (c_i (cons_i (c_i (cons_i (c_i (cons_i (c_i (cons_i (c_i (cons_i (tup_i (cons_i (c_i ⟨by show 1 ≤ sizeLine; decide, fun t ht => cons_i (lst_i (cons_i (c_i ⟨by show 1 ≤ sizeLine; decide, fun b hb => cons_i fun d hd => cons_i (c_i ⟨by show 9 ≤ sizeLine; decide, fun g hg => ?_⟩)⟩)))⟩))))))))))))))
  have e2 := Ex.new (o := .tup [.str "a"]) ht
  have h2 : upd H1 t (.tup [.str "a"]) t = some (.tup [.str "a"]) := upd_same
  generalize upd H1 t (.tup [.str "a"]) = H2 at e2 h2 hb hd hg ⊢
  have e3 := Ex.new (o := .lst [.str "a"]) hb
  have h3 : upd H2 b (.lst [.str "a"]) b = some (.lst [.str "a"]) := upd_same
  generalize upd H2 b (.lst [.str "a"]) = H3 at e3 h3 hd hg ⊢
  have e4 := Ex.new (o := .dK []) hd
  have h4 : upd H3 d (.dK []) d = some (.dK []) := upd_same
  generalize upd H3 d (.dK []) = H4 at e4 h4 hg ⊢
  have e5 := Ex.new (o := .lst [.non, .str "", .str "-", .int 0, .bl true, .ref t, .ref b, .ref d, .str "A"]) hg
  have h5 : upd H4 g (.lst [.non, .str "", .str "-", .int 0, .bl true, .ref t, .ref b, .ref d, .str "A"]) g = some (.lst [.non, .str "", .str "-", .int 0, .bl true, .ref t, .ref b, .ref d, .str "A"]) := upd_same
  generalize upd H4 g (.lst [.non, .str "", .str "-", .int 0, .bl true, .ref t, .ref b, .ref d, .str "A"]) = H5 at e5 h5 ⊢
  have E5 := ((e2.trans e3).trans e4).trans e5
  have hO5 := hO.mono (e1.trans E5)
  have ht5 := ((e3.trans e4).trans e5) _ _ h2
  have hb5 := (e4.trans e5) _ _ h3
  have hd5 := e5 _ _ h4
  have c := el_lcL (K := X.K) (σ := [some (.ref o), y1, y2, y3, y4, y5, y6, y7, y8]) (H := H5) (t := tTest (tOp (rInO X C (spCont X.K C) E0) (tVar 8) (tVar 0))) (te := tVar 8) (a := g) (tl := tC (.ref g)) (j := 8) (vs := [8]) (fun _ => false) (fun _ => .non) ev_c (sq_of h5) (by show 9 ≤ 40000; decide) (fun _ => rfl)
    (fun i x H6 e6 hx => by
      have odd : ∀ (T : String) {v : V}, x = v → TyX X.K H5 v (.type T) → kitB T "str" = some false → EvT (tTest (tOp (rInO X C (spCont X.K C) E0) (tVar 8) (tVar 0))) ((wipe [some (.ref o), y1, y2, y3, y4, y5, y6, y7, y8] [8]).set 8 (some x)) H6 false := fun T v ez ht hk => et_test (ev_inOx (v := v) (ev_var (by rw [ez]; rfl)) (ev_var rfl) (hO5.mono e6) (tyx_mono e6 ht) hk)
      have txt : ∀ {z : Str}, x = .str z → nameB z = false → z.length ≤ 1000 → EvT (tTest (tOp (rInO X C (spCont X.K C) E0) (tVar 8) (tVar 0))) ((wipe [some (.ref o), y1, y2, y3, y4, y5, y6, y7, y8] [8]).set 8 (some x)) H6 false := fun ez hn hz => et_is (et_test (ev_inO (ev_var (by rw [ez]; rfl)) (ev_var rfl) (hO5.mono e6) hz)) (by rw [hn, Bool.false_and])
      have mem := List.mem_of_getElem? hx
      simp only [List.mem_cons, List.not_mem_nil, or_false] at mem
      rcases mem with h | h | h | h | h | h | h | h | h
      · exact odd "NoneType" h (.base .non) (by decide +kernel)
      · exact txt h (by decide +kernel) (by decide +kernel)
      · exact txt h (by decide +kernel) (by decide +kernel)
      · exact odd "int" h (.base (.int 0)) (by decide +kernel)
      · exact odd "bool" h (.base (.bl true)) (by decide +kernel)
      · exact odd "tuple" h (.base (.tup ht5)) (by decide +kernel)
      · exact odd "list" h (.base (.lst hb5)) (by decide +kernel)
      · exact odd "dict" h (.base (.dK hd5)) (by decide +kernel)
      · exact txt h (by decide +kernel) (by decide +kernel))
    (fun i x H6 e6 hx hf => absurd hf (by decide))
  rw [given_none] at c
  exact c H5 (Ex.refl H5) Q fun p H6 hp e6 h6 => q p H6 (fresh_back E5 hp) (E5.trans e6) h6
section
variable {P : Program} {w : World} {K : PySem.W.Frag} {mg : Str → Option Value} {base : Heap}
theorem ok_Kept {C f fLen fIter fCont fGet fCall fOwn fFlow : Addr} {fd eOwn eFlow : FuncData} (F : Fun K "_law_kept" "_law_kept" sKept f fd) (TT : GlbT mg) (T2 : GlbS2 mg) (TK : GlbK mg) (G : RCls K C) (M : KeptK P w K mg base C fLen fIter fCont fGet fCall fOwn fFlow eOwn eFlow) :
    FnOk P w K mg base CX0 5 f fd ["_law_made", "_law_some"] (spKept K C) := by
  refine F.ok scKept (fun vs H Q E h => ?_) (fun cdv A outer s H vs Q E hr h => ?_)
  · obtain ⟨o, a, l, rfl, _⟩ := h
    rfl
  · obtain ⟨o, a, l, rfl, hO, hA, k⟩ := h
    have r1 := hr.mono (show 1 ≤ 4 by decide)
    have r2 := hr.mono (show 2 ≤ 4 by decide)
    refine ⟨_, pss_cons (ps_par (i := 2) (j := 3) rfl scKept.nd rfl rfl (by decide) rfl rfl (pa_cons (pe_callB call_len_seq (by rfl) TT.len PySem.boot_len (pa_cons (pv 1) pa_nil)) (pa_cons (pe_callB (cr_sortT rfl) (by rfl) T2.sorted (by decide +kernel) (pa_cons (pe_callTy (cr_setT rfl) (by rfl) T2.set (by decide +kernel) (pa_cons
        (pe_lc (own := [("_law_one", 4)]) (g := gName 4) rfl scKept.nd (pi_list (pv 1)) (blkOk_by (own := [("_law_one", 4)]) (N := nKept) (sc := defScope sKept) (by decide +kernel)) (fun _ _ _ _ _ => pg_name (i := 4) scKept.nd rfl (Or.inl rfl)) (fun _ _ _ _ _ => pts_one (pt_cmpR op_notN1 (pv 4) pe_non (nomark _)))
          (fun _ _ _ _ _ => pe_callTy call_strV (by rfl) TT.str (by decide +kernel) (pa_cons (pv 4) pa_nil))) pa_nil)) pa_nil)) pa_nil)) rfl)
      (pss_cons (ps_if (PW.pt (pw_or (pt_cmpR (op_neD hr.units) (pe_fld (pv 0) rfl) (pe_callTy call_tupA (by rfl) TK.tuple (by decide +kernel) (pa_cons (pv 1) pa_nil)) (nomark _))
        (pw_or (pt_cmpR (op_neD hr.units) (pe_lc (own := [("_law_one", 4)]) (g := gName 4) rfl scKept.nd (pi_own M.hIter M.iter r1 pass0 (pv 0)) (blkOk_by (own := [("_law_one", 4)]) (N := nKept) (sc := defScope sKept) (by decide +kernel)) (fun _ _ _ _ _ => pg_name (i := 4) scKept.nd rfl (Or.inl rfl)) (fun _ _ _ _ _ => pts_nil) (fun _ _ _ _ _ => pv 4)) (pv 1) (nomark _))
        (pw_or (pt_cmpR op_ne (pe_callB SkE.call_repr_int (by rfl) TK.repr (by decide +kernel) (pa_cons (pe_callB (call_lenO M.hLen M.len r2 pass0) (by rfl) TT.len PySem.boot_len (pa_cons (pv 0) pa_nil)) pa_nil)) (pe_callB SkE.call_repr_int (by rfl) TK.repr (by decide +kernel) (pa_cons (pv 2) pa_nil)) (nomark _))
        (pw_or1 (pt_not (pt_truthR (pv 0) (tru_own M.hLen M.nb M.len r2 pass0) (fun _ => rfl)))))))) (pss_one (ps_ret pe_bl)) pss_nil)
      (pss_cons (ps_if (PW.pt (pw_or (pt_cmpR (op_neD hr.units) (pe_lc (own := [("_law_k", 5)]) (g := gName 5) rfl scKept.nd (pi_range1 (by rfl) TK.range (pa_cons (pv 2) pa_nil)) (blkOk_by (own := [("_law_k", 5)]) (N := nKept) (sc := defScope sKept) (by decide +kernel)) (fun _ _ _ _ _ => pg_name (i := 5) scKept.nd rfl (Or.inl rfl)) (fun _ _ _ _ _ => pts_nil) (fun _ _ _ _ _ => pe_ixO2 (cxOf CX0 P w K mg base nKept "_law_kept" (defScope sKept) f cdv A outer s H E) M.hGet M.iGet M.get hr pass0 (pv 0) (pv 5))) (pv 1) (nomark _))
        (pw_or (pt_cmpR (op_neD hr.units) (pe_callTy call_list_of (by rfl) TK.list (by decide +kernel) (pa_cons (pe_meth0 (pv 0) G.cls M.mFlow M.flow r1 M.bFlow .nil pass0) pa_nil)) (pv 3) (nomark _))
        (pw_or1 (pt_not (pt_val (pe_callB call_isi (by rfl) TT.inst (by decide +kernel) (pa_cons (pe_meth0 (pv 0) G.cls M.mFlow M.flow r1 M.bFlow .nil pass0) (pa_cons (pe_bltn (v := .ty "tuple") (by rfl) TK.tuple (by decide +kernel) rfl) pa_nil))))))))) (pss_one (ps_ret pe_bl)) pss_nil)
      (pss_cons (ps_for PassesOwn.never rfl (pi_list (pe_lst (pa_cons pe_int (pa_cons pe_int (pa_cons (pv 2) (pa_cons (pe_un un_neg pe_int) (pa_cons (pe_op op_sub pe_int (pv 2)) (pa_cons (pe_op op_add (pe_op op_mul pe_int (pv 2)) pe_int) (pa_cons (pe_op op_pow pe_int pe_int) (pa_cons (pe_un un_neg (pe_op op_pow pe_int pe_int)) pa_nil)))))))))) (pg_name (i := 6) scKept.nd rfl (.inl rfl))
        (pss_one (ps_if (pt_cmpR op_ne (pe_callO (pv 0) M.hCall M.call r2 pass0 (pa_cons (pv 6) pa_nil)) (pe_ix ix_list (pv 1) (pe_op op_mod (pe_callTy call_int1 (by rfl) TT.int (by decide +kernel) (pa_cons (pv 6) pa_nil)) (pv 2)) (fun _ _ => rfl)) (nomark _)) (pss_one (ps_ret pe_bl)) pss_nil)))
      (pss_cons (ps_for PassesOwn.never rfl (pi_list (pe_lst (pa_cons pe_str (pa_cons pe_str (pa_cons pe_str (pa_cons pe_str pa_nil)))))) (pg_name (i := 7) scKept.nd rfl (.inr rfl))
        (pss_one (ps_if (PW.pt (pw_or (pt_cmpR (op_neD hr.units) (pe_callTy call_list_of (by rfl) TK.list (by decide +kernel) (pa_cons (pe_meth (pv 0) G.cls M.mOwn M.own r2 M.bOwn .nil pass0 (pa_cons (pv 7) pa_nil)) pa_nil))
            (pe_lc (own := [("_law_k", 5)]) (g := gName 5) rfl scKept.nd (pi_range1 (by rfl) TK.range (pa_cons (pv 2) pa_nil)) (blkOk_by (own := [("_law_k", 5)]) (N := nKept) (sc := defScope sKept) (by decide +kernel)) (fun _ _ _ _ _ => pg_name (i := 5) scKept.nd rfl (Or.inl rfl)) (fun _ _ _ _ _ => pts_one (pt_cmpR op_eq (pe_ix (show IxR _ (rIxL K) from ix_list) (pv 1) (pv 5) (fun _ _ => rfl)) (pv 7) (nomark _))) (fun _ _ _ _ _ => pv 5)) (nomark _))
          (pw_or1 (pt_cmpR op_ne (pe_cmpR (op_inO M.hCont M.cont r2 pass0) (pv 7) (pv 0) (by rfl)) (pe_cmpR op_in_seq (pv 7) (pv 3) (by rfl)) (nomark _))))) (pss_one (ps_ret pe_bl)) pss_nil)))
      (pss_one (ps_ret (pe_and (pe_cmpR (op_eqD hr.units) (pe_lc (own := [("_law_thing", 8)]) (g := gName 8) rfl scKept.nd (pi_list (pe_lst (pa_cons pe_non (pa_cons pe_str (pa_cons pe_str (pa_cons pe_int (pa_cons pe_bl (pa_cons (pe_tup (pa_cons pe_str pa_nil)) (pa_cons (pe_lst (pa_cons pe_str pa_nil)) (pa_cons pe_dnewK (pa_cons pe_str pa_nil))))))))))) (blkOk_by (own := [("_law_thing", 8)]) (N := nKept) (sc := defScope sKept) (by decide +kernel)) (fun _ _ _ _ _ => pg_name (i := 8) scKept.nd rfl (Or.inl rfl))
            (fun _ _ _ _ _ => pts_one (pt_cmpR (show OpR _ _ (rInO (cxOf CX0 P w K mg base nKept "_law_kept" (defScope sKept) f cdv A outer s H E) C (spCont K C) E0) from op_inO M.hCont M.cont r2 pass0) (pv 8) (pv 0) (by rfl))) (fun _ _ _ _ _ => pv 8)) (pe_lst pa_nil) (nomark _))
          (pe_one (pe_cmpR (op_eqD hr.units) (pe_methKw (pv 0) G.cls M.mOwn M.own r2 M.kOwn (pk_cons pe_str pk_nil)) (pe_meth (pv 0) G.cls M.mOwn M.own r2 M.bOwn .nil pass0 (pa_cons pe_str pa_nil)) (nomark _)))))))))), ?_⟩
    obtain ⟨l1, l24, okl⟩ := hO.lens
    have log : (l.length : Int).natAbs.log2 < 1920 := by
      rw [Int.natAbs_natCast]
      have := Nat.log2_le_self l.length
      omega
    refine q_par (cons_i (ev_is (ev_cb (ea_cons (ev_var rfl) ea_nil) (rc_len hA)) (by rw [vS_len]) H (Ex.refl H) _ fun H1 e1 => cons_i ?_))
    have c := el_mapL (K := K) (σ := [some (.ref o), some (.ref a), none, none, none, none, none, none, none]) (H := H1) (t := tTest (tOp rNotN (tVar 4) (tC .non))) (te := tCB (fun xs H Q => (∃ i, xs = [V.int i] ∧ i.natAbs.log2 < 1920 ∧ Q (.str (toString i)) H) ∨ ∃ a, xs = [V.str a] ∧ Q (.str a) H) (tCons (tVar 4) tNil)) (tl := tVar 1) sv (l := l) (j := 4) (vs := [4]) (a := a) (fun x => !x.isNone) sv (ev_var rfl) (ex_l e1 hA) (by omega) (fun _ => rfl)
      (fun x hx H2 e2 => et_is (et_test (ev_notN (ev_var rfl))) (by rw [sv_non])) (fun x hx H2 e2 hn => ev_cb (ea_cons (ev_var rfl) ea_nil) fun H3 e3 Q q => by
        cases x with
        | none => cases hn
        | some z => exact .inr ⟨z, rfl, q H3 (Ex.refl H3)⟩)
    rw [txts_vals] at c
    have tl := txts_len l
    refine s_names (X := (cxOf CX0 P w K mg base nKept "_law_kept" (defScope sKept) f cdv A outer s H E)) c (by omega) (fun z => txts_mem) fun pN ys H2 hpN e2 hN nm le => ⟨_, _, rfl, ?_⟩
    have E2 := e1.trans e2
    show tSeq _ _ _ [some (.ref o), some (.ref a), some (.int (l.length : Int)), some (.ref pN), none, none, none, none, none] H2
    have hO2 := hO.mono E2
    have hA2 := ex_l E2 hA
    -- first
    refine q_ifE (or_E (test_i (op_i (ev_slots G (ev_var rfl) hO2 H2 (Ex.refl H2) _ fun p H3 e3 hp => ⟨_, rfl, a, vS l, rfl, ex_l e3 hA2, fun q hq age => ⟨.tuple (dS l), .tuple (dS l), .tup (ex_t (Ex.new hq) hp) (dpS l), .tup (st_of upd_same) (dpS l), sh_T okl, sh_T okl, ⟨_, rfl, ?_⟩⟩⟩))))
    rw [eqv_ST, decide_eq_true rfl]
    have e4 := Ex.new (o := .tup (vS l)) hq
    have old : Old s.heap.objs.size (upd H3 q (.tup (vS l))) := ⟨q, _, upd_same, age⟩
    refine iteF ?_
    generalize upd H3 q (.tup (vS l)) = H4 at e4 old ⊢
    have E4 := e3.trans e4
    have hO4 := hO2.mono E4
    have hA4 := ex_l E4 hA2
    have hN4 := E4 _ _ hN
    have t1 := et_ne (ev_neSL okl okl (ed_SL (el_round (X := (cxOf CX0 P w K mg base nKept "_law_kept" (defScope sKept) f cdv A outer s H E)) (σ := [some (.ref o), some (.ref a), some (.int (l.length : Int)), some (.ref pN), none, none, none, none, none]) (tl := tVar 0) (j := 4) (vs := [4]) (ev_var rfl) hO4 old (fun _ => rfl) (fun _ => rfl))) (ed_SP (te := tVar 1) (ev_var rfl) hA4)) (decide_eq_true rfl)
    have t2 := et_ne (ev_op (ev_cb (ea_cons (ev_lenO (X := (cxOf CX0 P w K mg base nKept "_law_kept" (defScope sKept) f cdv A outer s H E)) (σ := [some (.ref o), some (.ref a), some (.int (l.length : Int)), some (.ref pN), none, none, none, none, none]) (ta := tVar 0) (ev_var rfl) hO4) ea_nil) (rc_repr log)) (ev_cb (ea_cons (ev_var (i := 2) rfl) ea_nil) (rc_repr log)) (rv_ne rfl)) (decide_eq_true rfl)
    have t3 := et_is (et_not (et_tru (X := (cxOf CX0 P w K mg base nKept "_law_kept" (defScope sKept) f cdv A outer s H E)) (σ := [some (.ref o), some (.ref a), some (.int (l.length : Int)), some (.ref pN), none, none, none, none, none]) (ta := tVar 0) (ev_var rfl) hO4)) (show (!true) = false from rfl)
    refine et_or0 t1 (et_or0 t2 t3) H4 (Ex.refl H4) _ fun H5 e5 => iteF ?_
    have E5 := E4.trans e5
    have hO5 := hO2.mono E5
    have hA5 := ex_l E5 hA2
    have hN5 := E5 _ _ hN
    clear t1 t2 t3 old
    have oky : ∀ y ∈ ys, PyData.strOk y = true := fun y hy => (ok_name_ (okl _ ((nm.2.2 y).mp hy))).2.1
    -- second
    have u1 := el_lcR1 (σ := [some (.ref o), some (.ref a), some (.int (l.length : Int)), some (.ref pN), none, none, none, none, none]) (H := H5) (t := tYes) (te := tOp (rIxO (cxOf CX0 P w K mg base nKept "_law_kept" (defScope sKept) f cdv A outer s H E) C (spGet K C) E0) (tVar 0) (tVar 5)) (ta := tCons (tVar 2) tNil) (j := 5) (vs := [5]) (n := (l.length : Int)) (fun _ => true) (got l sv) (ea_cons (ev_var rfl) ea_nil) (by omega) (fun _ => rfl) (fun _ _ _ _ => et_none) (fun i H6 e6 hi _ => by
      have lt : i < l.length := by omega
      rw [got_of (List.getElem?_eq_getElem lt)]
      exact ev_ixO (X := (cxOf CX0 P w K mg base nKept "_law_kept" (defScope sKept) f cdv A outer s H E)) (ev_var rfl) (hO5.mono e6) (ev_var rfl) (List.getElem?_eq_getElem lt))
    rw [Int.toNat_natCast, given_got] at u1
    have v1 := et_ne (ev_neSL okl okl (ed_SL u1) (ed_SP (te := tVar 1) (ev_var rfl) hA5)) (decide_eq_true rfl)
    have v2 := et_ne (ev_is (ev_neD (K := K) (tb := tVar 3) (ed_L (el_ofT (etu_flow (X := (cxOf CX0 P w K mg base nKept "_law_kept" (defScope sKept) f cdv A outer s H E)) (σ := [some (.ref o), some (.ref a), some (.int (l.length : Int)), some (.ref pN), none, none, none, none, none]) (ta := tVar 0) (ev_var rfl) hO5 nm)) fun _ _ => dpAll_txts ys) (ed_of (ev_var rfl) fun _ e => .lst (ex_l e (sq_of hN5)) (dpAll_txts ys)) (low_shaped (low_txts oky) (by decide)) (low_shaped (low_txts oky) (by decide))) (by rw [eqv_txts])) (decide_eq_true rfl)
    have v3 := et_is (et_not (et_B (ev_isTup (etu_flow (X := (cxOf CX0 P w K mg base nKept "_law_kept" (defScope sKept) f cdv A outer s H E)) (σ := [some (.ref o), some (.ref a), some (.int (l.length : Int)), some (.ref pN), none, none, none, none, none]) (ta := tVar 0) (ev_var rfl) hO5 nm)))) (show (!true) = false from rfl)
    refine q_when (et_or0 v1 (et_or0 v2 v3)) (fun z => absurd z (by decide)) fun _ H6 e6 => ?_
    clear u1 v1 v2 v3
    have hO6 := hO5.mono e6
    have hA6 := ex_l e6 hA5
    have hN6 := e6 _ _ hN5
    -- the ticks
    have d : EvL _ [some (.ref o), some (.ref a), some (.int (l.length : Int)), some (.ref pN), none, none, none, none, none] H6 (vI (ticks (l.length : Int))) := el_lst (σ := [some (.ref o), some (.ref a), some (.int (l.length : Int)), some (.ref pN), none, none, none, none, none]) (H := H6) (ea_cons (ev_c (v := .int 0)) (ea_cons (ev_c (v := .int 1)) (ea_cons (ev_var (i := 2) rfl) (ea_cons (ev_un (ev_c (v := .int 1)) ru_neg) (ea_cons (ev_op (ev_c (v := .int 0)) (ev_var (i := 2) rfl) (rv_I0 (g := fun i j => .int (i - j)))) (ea_cons (ev_op (ev_op (ev_c (v := .int 7)) (ev_var (i := 2) rfl) (rv_I (C := CMul) (g := fun i j => .int (i * j)) (.inl (by decide)))) (ev_c (v := .int 2)) (rv_I0 (g := fun i j => .int (i + j))))
      (ea_cons (ev_op (ev_c (v := .int 10)) (ev_c (v := .int 30)) (rv_I (C := CPow) (g := fun i j => .int (i ^ j.toNat)) (show (0 : Int) ≤ 30 ∧ (30 : Int) ≤ 1000000 ∧ (10 : Int).natAbs < 2 ^ 64 by decide))) (ea_cons (ev_un (ev_op (ev_c (v := .int 10)) (ev_c (v := .int 30)) (rv_I (C := CPow) (g := fun i j => .int (i ^ j.toNat)) (show (0 : Int) ≤ 30 ∧ (30 : Int) ≤ 1000000 ∧ (10 : Int).natAbs < 2 ^ 64 by decide))) ru_neg) ea_nil)))))))) (Nat.le_of_ble_eq_true rfl)
    generalize ticks (l.length : Int) = tks at d
    refine q_forNLn d (fun p i σ' H' => ∃ x, σ' = [some (.ref o), some (.ref a), some (.int (l.length : Int)), some (.ref pN), none, none, x, none, none] ∧ Ex H6 H' ∧ H' p = some (.lst (vI tks))) (fun p H7 hp e7 h7 => ⟨_, rfl, e7, h7⟩) (fun p i σ' H' _ q => sq_of q.choose_spec.2.2) ?_ ?_
    · rintro p i v σ' H7 hi ⟨x, rfl, e7, h7⟩
      obtain ⟨t, ht, rfl⟩ := nth_map (f := V.int) hi
      obtain ⟨y, hy, hat⟩ := shift_get l t l1
      refine s_when (b := false) (et_ne (ev_op (ev_callO (X := (cxOf CX0 P w K mg base nKept "_law_kept" (defScope sKept) f cdv A outer s H E)) (ta := tVar 0) (ev_var rfl) (hO6.mono e7) (ea_cons (ev_var (i := 6) rfl) ea_nil) hy) (ev_op (ev_var (i := 1) rfl) (ev_op (ev_cb (ea_cons (ev_var (i := 6) rfl) ea_nil) rc_int) (ev_var (i := 2) rfl) (rv_I (C := fun _ j => 0 < j) (g := fun i j => .int (i % j)) (show (0 : Int) < (l.length : Int) by omega))) (rv_ixL (ex_l e7 hA6) hat)) (rv_ne (sv_scal _ _))) (decide_eq_true rfl)) (fun z => absurd z (by decide)) fun _ H8 e8 => ⟨_, rfl, e7.trans e8, e8 _ _ h7⟩
    rintro p σ' H7 ⟨x6, rfl, e7, h7⟩
    have hO7 := hO6.mono e7
    have hA7 := ex_l e7 hA6
    have hN7 := e7 _ _ hN6
    -- the names
    have d2 : EvL _ [some (.ref o), some (.ref a), some (.int (l.length : Int)), some (.ref pN), none, none, x6, none, none] H7 ((["a", "b", "c", "zz"] : List Str).map V.str) := el_lst (ea_cons ev_c (ea_cons ev_c (ea_cons ev_c (ea_cons ev_c ea_nil)))) (Nat.le_of_ble_eq_true rfl)
    refine q_forNLn d2 (fun p i σ' H' => ∃ x, σ' = [some (.ref o), some (.ref a), some (.int (l.length : Int)), some (.ref pN), none, none, x6, x, none] ∧ Ex H7 H' ∧ H' p = some (.lst ((["a", "b", "c", "zz"] : List Str).map V.str))) (fun p H8 hp e8 h8 => ⟨_, rfl, e8, h8⟩) (fun p i σ' H' _ q => sq_of q.choose_spec.2.2) ?_ ?_
    · rintro p i v σ' H8 hi ⟨x, rfl, e8, h8⟩
      obtain ⟨z, hz, rfl⟩ := nth_map (f := V.str) hi
      obtain ⟨nz, lz⟩ : nameB z = true ∧ z.length ≤ 1000 := (show ∀ y ∈ (["a", "b", "c", "zz"] : List Str), nameB y = true ∧ y.length ≤ 1000 by decide +kernel) z (List.mem_of_getElem? hz)
      have hO8 := hO7.mono e8
      have hA8 := ex_l e8 hA7
      have w1 := el_lcR1 (σ := [some (.ref o), some (.ref a), some (.int (l.length : Int)), some (.ref pN), none, none, x6, some (.str z), none]) (H := H8) (t := tTest (tOp rEq (tOp (rIxL K) (tVar 1) (tVar 5)) (tVar 7))) (te := tVar 5) (ta := tCons (tVar 2) tNil) (j := 5) (vs := [5]) (n := (l.length : Int)) (fun k => decide (l[k]? = some (some z))) (fun k => .int (k : Int)) (ea_cons (ev_var rfl) ea_nil) (by omega) (fun _ => rfl)
        (fun i H9 e9 hi => by
          have hx : l[i]? = some l[i] := List.getElem?_eq_getElem (by omega)
          exact et_is (et_test (ev_op (ev_op (ev_var (i := 1) rfl) (ev_var (i := 5) rfl) (rv_ixL (ex_l e9 hA8) (atI_nat (vS_at hx)))) (ev_var (i := 7) rfl) (rv_eq (sv_scal _ (some z))))) (by rw [show V.str z = sv (some z) from rfl, sv_dec, decide_eq_decide, hx]; simp))
        (fun i H9 e9 hi _ => ev_var rfl)
      rw [Int.toNat_natCast, plcs_given] at w1
      have w2 := et_ne (ev_neI (K := K) (el_ofT (etu_own (X := (cxOf CX0 P w K mg base nKept "_law_kept" (defScope sKept) f cdv A outer s H E)) (ta := tVar 0) (ev_var rfl) hO8 (ea_cons (ev_var (i := 7) rfl) ea_nil) nz lz)) w1) (decide_eq_true rfl)
      have w3 := et_ne (ev_op (ev_inO (X := (cxOf CX0 P w K mg base nKept "_law_kept" (defScope sKept) f cdv A outer s H E)) (σ := [some (.ref o), some (.ref a), some (.int (l.length : Int)), some (.ref pN), none, none, x6, some (.str z), none]) (ta := tVar 7) (tb := tVar 0) (ev_var rfl) (ev_var rfl) hO8 lz) (ev_isLs (K := K) (z := z) (ta := tVar 7) (tb := tVar 3) (ev_var rfl) (ev_var rfl) (sq_of (e8 _ _ hN7))) (rv_ne rfl)) (by
        rw [nz, Bool.true_and, decide_eq_true_iff]
        congr 1
        rw [decide_eq_decide]
        exact (nm.2.2 z).symm)
      exact s_when (b := false) (et_or0 w2 w3) (fun z => absurd z (by decide)) fun _ H9 e9 => ⟨_, rfl, e8.trans e9, e9 _ _ h8⟩
    rintro p σ' H8 ⟨x7, rfl, e8, h8⟩
    have hO8 := hO7.mono e8
    have E8 : Ex H H8 := ((E2.trans E5).trans e6).trans (e7.trans e8)
    refine s_ret (ev_is (ev_andV (a := true) (b := true) ?_ fun _ => ?_) rfl) fun H9 e9 => k H9 (E8.trans e9)
    · exact ev_is (ev_eqD (ed_L (ds := []) (things_none (X := (cxOf CX0 P w K mg base nKept "_law_kept" (defScope sKept) f cdv A outer s H E)) hO8) fun _ _ => .nil) (ed_L (ds := []) (el_lst ea_nil (by decide)) fun _ _ => .nil) (low_shaped (low_list fun d hd => absurd hd (by simp)) (n := 1) (by decide)) (low_shaped (low_list fun d hd => absurd hd (by simp)) (n := 1) (by decide))) (by simp [PyData.eqv, PyData.eqvAll])
    · exact ev_is (ev_eqTuG (K := K) (etu_ownK (X := (cxOf CX0 P w K mg base nKept "_law_kept" (defScope sKept) f cdv A outer s H E)) (σ := [some (.ref o), some (.ref a), some (.int (l.length : Int)), some (.ref pN), none, none, x6, x7, none]) (ta := tVar 0) (ks := ["flow"]) (z := "a") (ev_var rfl) hO8 rfl rfl (ea_cons ev_c ea_nil) (by decide +kernel) (by decide +kernel)) (etu_own (X := (cxOf CX0 P w K mg base nKept "_law_kept" (defScope sKept) f cdv A outer s H E)) (ta := tVar 0) (z := "a") (ev_var rfl) hO8 (ea_cons ev_c ea_nil) (by decide +kernel) (by decide +kernel))) (by rw [decide_eq_true rfl])
end
end K23
namespace K23
open PySem L2 Evl Gr StX EnT ClX OpX RdX OwC StS ClK EqT ItX OwX
/-- what the other operators of rounds want of the class -/
structure OpsM (K : PySem.W.Frag) (C fAdd fMul fRmu : Addr) : Prop where
  add : Has K C fAdd (PySem.dunder "add")
  noAdd : NoI K C "add"
  mul : Has K C fMul (PySem.dunder "mul")
  rmul : Has K C fRmu (dunderR "mul")
  mu1 : ∃ fo, PySem.W.findIn K (.type "int") (PySem.dunder "mul") = some fo
  mu2 : ∃ ro, PySem.W.findIn K (.type "int") (dunderR "mul") = some ro
  sub2 : PySem.W.subIn K (.ref C) (.type "int") = some false
  ne : PySem.W.findIn K (.ref C) "__ne__" = some (some (.builtin "object.__ne__"))
  ob : PySem.W.mroIn K C (.type "object") = some true
  nfL : PySem.W.notFirst K C (.type "list") = true
  nfT : PySem.W.notFirst K C (.type "tuple") = true
  kL : PySem.W.kitOne K (.type "list") (.ref C) = some false
  kT : PySem.W.kitOne K (.type "tuple") (.ref C) = some false
/-! ### turned about -/
def like (l m : List Slot) : Bool := ((List.range l.length).map fun k => decide (rot l k = m)).any id
theorem like_at {l m : List Slot} {c : Nat} (h : c < l.length) (e : rot l c = m) : like l m = true := by
  unfold like
  rw [List.any_eq_true]
  exact ⟨true, List.mem_map.mpr ⟨c, List.mem_range.mpr h, decide_eq_true e⟩, rfl⟩
theorem rot_zero (l : List Slot) : rot l 0 = l := by simp [rot]
theorem rot_back {l : List Slot} {c : Nat} (h : c ≤ l.length) : rot (rot l c) (l.length - c) = l := by
  unfold rot
  have e : (l.drop c).length = l.length - c := List.length_drop
  rw [List.drop_left' e, List.take_left' e, List.take_append_drop]
theorem like_rot {l : List Slot} {c : Nat} (h : c < l.length) : like l (rot l c) = true := like_at h rfl
theorem like_back {l : List Slot} {c : Nat} (h : c < l.length) : like (rot l c) l = true := by
  have len := rot_len (l := l) (k := c) (by omega)
  by_cases z : c = 0
  · subst z
    exact like_at (c := 0) (by omega) (by rw [rot_zero, rot_zero])
  · exact like_at (c := l.length - c) (by omega) (rot_back (by omega))
theorem like_any (l m : List Slot) : (((List.range l.length).map fun k => PyData.list (dS (rot l k))).any fun z => PyData.eqv z (.list (dS m))) = like l m := by
  unfold like
  rw [List.any_map, List.any_map]
  congr 1
  funext k
  show PyData.eqv (.list (dS (rot l k))) (.list (dS m)) = decide (rot l k = m)
  rw [eqv_SL]
section
variable {X : Cx} {C CM : Addr} {σ : L2.St} {H : Hp} {ta tb tc te : TE} {t : TA} {o p q : Addr} {l m : List Slot} {n : Nat} {x : Slot}
theorem er_add (ha : EvR X.K C ta σ H l) (hb : EvR X.K C tb σ H m) (hz : (l ++ m).length ≤ 24) : EvR X.K C (tOp (OpX.rS X C (spAdd X.K C CM) E0) ta tb) σ H (l ++ m) := fun H1 e Q k =>
  ha H1 e _ fun o H2 e2 r => hb H2 (e.trans e2) _ fun u H3 e3 r3 => ⟨o, u, rfl, rfl, rd_insC (r.mono e3), rd_insC r3, o, u, l, m, rfl, r.mono e3, r3, fun _ w H4 e4 r4 => k w H4 ((e2.trans e3).trans e4) r4, fun z => absurd z (by omega)⟩
theorem er_mulI (ha : EvR X.K C ta σ H l) (hb : Ev tb σ H (.int (n : Int))) (n1 : 1 ≤ n) (n24 : n ≤ 24) (hz : n * l.length ≤ 24) : EvR X.K C (tOp (OpX.rI X C (spMul X.K C CM) E0) ta tb) σ H (rep l n) := fun H1 e Q k =>
  ha H1 e _ fun o H2 e2 r => hb H2 (e.trans e2) _ fun H3 e3 => ⟨o, (n : Int), rfl, rfl, rd_insC (r.mono e3), o, l, n, rfl, r.mono e3, n1, n24, by omega, fun _ w H4 e4 r4 => k w H4 ((e2.trans e3).trans e4) r4, fun z => absurd z (by omega)⟩
theorem er_mulR (hb : Ev tb σ H (.int (n : Int))) (ha : EvR X.K C ta σ H l) (n1 : 1 ≤ n) (n24 : n ≤ 24) (hz : n * l.length ≤ 24) : EvR X.K C (tOp (OpX.rR X C (spMul X.K C CM) E0) tb ta) σ H (rep l n) := fun H1 e Q k =>
  hb H1 e _ fun H2 e2 => ha H2 (e.trans e2) _ fun o H3 e3 r => ⟨o, (n : Int), rfl, rfl, rd_insC r, o, l, n, rfl, r, n1, n24, by omega, fun _ w H4 e4 r4 => k w H4 ((e2.trans e3).trans e4) r4, fun z => absurd z (by omega)⟩
theorem ev_neR (ha : EvR X.K C ta σ H l) (hb : EvR X.K C tb σ H m) : Ev (tOp (rNeO X C (spREq X.K C) E0) ta tb) σ H (.bl (!decide (l = m))) := fun H1 e Q k =>
  ha H1 e _ fun o H2 e2 r => hb H2 (e.trans e2) _ fun u H3 e3 r3 => ⟨o, u, rfl, rfl, rd_insC (r.mono e3), rd_insC r3, .inl ⟨o, u, l, m, rfl, r.mono e3, r3, fun H4 e4 => ⟨_, rfl, k H4 ((e2.trans e3).trans e4)⟩⟩⟩
theorem etu_slotsR (G : RCls X.K C) (ha : EvR X.K C ta σ H l) : EvTu X.K (tFld X.K ta "slots") σ H (vS l) := fun H1 e Q k =>
  ha H1 e _ fun o H2 e2 r => by
    obtain ⟨dx, q, h1, h2, _⟩ := r
    exact ⟨o, C, dx, _, .ref q, rfl, h1, G.cls, G.slots, rfl, k q H2 e2 h2⟩
theorem el_slotsR (G : RCls X.K C) (ha : EvR X.K C ta σ H l) : EvL (tCB (rListS X.K) (tCons (tFld X.K ta "slots") tNil)) σ H (vS l) := el_ofT (etu_slotsR G ha)
theorem el_catS (ha : Ev ta σ H (.ref p)) (hp : H p = some (.lst (vS l))) (hb : Ev tb σ H (.ref q)) (hq : H q = some (.lst (vS m))) (hz : l.length + m.length ≤ 100000) : EvL (tOp rCat ta tb) σ H (vS (l ++ m)) := fun H1 e Q k =>
  ha H1 e _ fun H2 e2 => hb H2 (e.trans e2) _ fun H3 e3 => ⟨p, q, vS l, vS m, rfl, rfl, (e.trans (e2.trans e3)) _ _ hp, (e.trans (e2.trans e3)) _ _ hq, by rw [vS_len, vS_len]; exact sz_of hz, fun a ha => k a _ (fresh_back (e2.trans e3) ha) ((e2.trans e3).trans (Ex.new ha)) (by rw [upd_same, vS_app])⟩
theorem el_catSN (ha : EvL ta σ H (vS l)) (hb : EvL tb σ H (vS m)) (hz : l.length + m.length ≤ 100000) : EvL (tOp rCat ta tb) σ H (vS (l ++ m)) := fun H1 e Q k =>
  ha H1 e _ fun p H2 _ e2 hp => hb H2 (e.trans e2) _ fun r H3 _ e3 hr => ⟨p, r, vS l, vS m, rfl, rfl, e3 _ _ hp, hr, by rw [vS_len, vS_len]; exact sz_of hz, fun a ha => k a _ (fresh_back (e2.trans e3) ha) ((e2.trans e3).trans (Ex.new ha)) (by rw [upd_same, vS_app])⟩
theorem el_repS (ha : Ev ta σ H (.ref p)) (hp : H p = some (.lst (vS l))) (hb : Ev tb σ H (.int (n : Int))) (hz : l.length * n ≤ 100000) (hn : n ≤ 100000) : EvL (tOp rRep ta tb) σ H (vS (rep l n)) := fun H1 e Q k =>
  ha H1 e _ fun H2 e2 => hb H2 (e.trans e2) _ fun H3 e3 => ⟨p, (n : Int), vS l, rfl, rfl, (e.trans (e2.trans e3)) _ _ hp, by omega, by omega, by rw [vS_len, Int.toNat_natCast]; exact sz_of hz, fun a ha => k a _ (fresh_back (e2.trans e3) ha) ((e2.trans e3).trans (Ex.new ha)) (by rw [upd_same, Int.toNat_natCast, rep_vS])⟩
theorem el_fromS (ha : Ev ta σ H (.ref p)) (hp : SqL X.K H p (vS l)) (hb : Ev tb σ H (.int (n : Int))) (hn : n ≤ l.length) : EvL (tSl (rSlL X.K) ta (tPart tb) tNoPart) σ H (vS (l.drop n)) := by
  have c := el_sl (K := X.K) (tl := tPart tb) (th := tNoPart) ha (eo_some hb) eo_none hp
  rwa [cut_fromN (by rw [vS_len]; exact hn), vS_drop] at c
theorem el_toS (ha : Ev ta σ H (.ref p)) (hp : SqL X.K H p (vS l)) (hb : Ev tb σ H (.int (n : Int))) (hn : n ≤ l.length) : EvL (tSl (rSlL X.K) ta tNoPart (tPart tb)) σ H (vS (l.take n)) := by
  have c := el_sl (K := X.K) (tl := tNoPart) (th := tPart tb) ha eo_none (eo_some hb) hp
  rwa [cut_toN (by rw [vS_len]; exact hn), vS_take] at c
theorem er_ring (ha : Ev ta σ H (.ref p)) (hp : SqL X.K H p (vS l)) (l1 : 1 ≤ l.length) (l24 : l.length ≤ 24) (ok : Oks l) : EvR X.K C (tCall (spRing X.K C) [] E0 (tCons ta tNil)) σ H l := fun H1 e Q k =>
  ea_cons ha ea_nil H1 e _ fun H2 e2 => ⟨p, l, rfl, ex_l (e.trans e2) hp, l1, l24, ok, fun o H3 e3 r => k o H3 (e2.trans e3) r⟩
theorem ev_likeR (ha : EvR X.K C ta σ H l) (hb : EvR X.K C tb σ H m) : Ev (tMeth C "is_like" (spLike X.K C) [] E0 ta (tCons tb tNil)) σ H (.bl (like l m)) := fun H1 e Q k =>
  ha H1 e _ fun o H2 e2 r => by
    have r' := r
    obtain ⟨dx, q, h1, _⟩ := r'
    exact ⟨o, dx, _, rfl, h1, rfl, hb H2 (e.trans e2) _ fun u H3 e3 r3 => ⟨o, u, l, m, rfl, r.mono e3, r3, fun H4 e4 => k H4 ((e2.trans e3).trans e4)⟩⟩
theorem ev_likeK {ks : List Str} {nm : Str} (hm : nm = "is_like") (hk : ks.length = 1) (ha : EvR X.K C ta σ H l) (hb : EvR X.K C tb σ H m) :
    Ev (fun σ H Q => ta σ H fun x H1 => ∃ a dx fs, x = .ref a ∧ H1 a = some (.ins C dx fs) ∧ fs.lookup nm = none ∧ (tCons tb tNil) σ H1 fun zs H2 => zs.length = ks.length ∧ spLike X.K C ([.ref a] ++ zs) H2 Q E0) σ H (.bl (like l m)) := fun H1 e Q k =>
  ha H1 e _ fun o H2 e2 r => by
    have r' := r
    obtain ⟨dx, q, h1, _⟩ := r'
    subst hm
    exact ⟨o, dx, _, rfl, h1, rfl, hb H2 (e.trans e2) _ fun u H3 e3 r3 => ⟨hk.symm, o, u, l, m, rfl, r.mono e3, r3, fun H4 e4 => k H4 ((e2.trans e3).trans e4)⟩⟩
theorem er_with (ha : EvR X.K C ta σ H l) (hb : EvA t σ H [.int (n : Int), sv x]) (hn : n < l.length) (hx : okB x = true) : EvR X.K C (tMeth C "with_slot" (spWith X.K C) [] E0 ta t) σ H (l.set n x) := fun H1 e Q k =>
  ha H1 e _ fun o H2 e2 r => by
    have r' := r
    obtain ⟨dx, q, h1, _⟩ := r'
    exact ⟨o, dx, _, rfl, h1, rfl, hb H2 (e.trans e2) _ fun H3 e3 => ⟨o, l, n, x, rfl, r.mono e3, hn, hx, fun u H4 e4 r4 => k u H4 ((e2.trans e3).trans e4) r4⟩⟩
theorem er_withK {ks : List Str} {nm : Str} (hm : nm = "with_slot") (hk : ks.length = 2) (ha : EvR X.K C ta σ H l) (hb : EvA t σ H [sv x, .int (n : Int)]) (hn : n < l.length) (hx : okB x = true) :
    EvR X.K C (fun σ H Q => ta σ H fun x H1 => ∃ a dx fs, x = .ref a ∧ H1 a = some (.ins C dx fs) ∧ fs.lookup nm = none ∧ t σ H1 fun zs H2 => zs.length = ks.length ∧ spWith X.K C ([.ref a] ++ zs.reverse) H2 Q E0) σ H (l.set n x) := fun H1 e Q k =>
  ha H1 e _ fun o H2 e2 r => by
    have r' := r
    obtain ⟨dx, q, h1, _⟩ := r'
    subst hm
    exact ⟨o, dx, _, rfl, h1, rfl, hb H2 (e.trans e2) _ fun H3 e3 => ⟨hk.symm, o, l, n, x, rfl, r.mono e3, hn, hx, fun u H4 e4 r4 => k u H4 ((e2.trans e3).trans e4) r4⟩⟩
theorem ev_eqLO (nf : PySem.W.notFirst X.K C (.type "list") = true) (kL : PySem.W.kitOne X.K (.type "list") (.ref C) = some false) (ha : EvR X.K C ta σ H l) (hb : Ev tb σ H (.ref p)) (hp : H p = some (.lst (vS m))) : Ev (tOp (rEqL X C (spREq X.K C) E0) ta tb) σ H (.bl false) := fun H1 e Q k =>
  ha H1 e _ fun o H2 e2 r => hb H2 (e.trans e2) _ fun H3 e3 => by
    have h3 := (e.trans (e2.trans e3)) _ _ hp
    exact ⟨o, p, vS m, rfl, rfl, rd_insC (r.mono e3), sq_of h3, nf, .inr ⟨o, p, l, "list", rfl, r.mono e3, .base (.lst h3), kL, fun H4 e4 => k H4 ((e2.trans e3).trans e4)⟩⟩
theorem ev_eqTO {xs : List V} (nf : PySem.W.notFirst X.K C (.type "tuple") = true) (kT : PySem.W.kitOne X.K (.type "tuple") (.ref C) = some false) (ha : EvR X.K C ta σ H l) (hb : EvTu X.K tb σ H xs) : Ev (tOp (rEqT X C (spREq X.K C) E0) ta tb) σ H (.bl false) := fun H1 e Q k =>
  ha H1 e _ fun o H2 e2 r => hb H2 (e.trans e2) _ fun p H3 e3 hp => ⟨o, p, xs, rfl, rfl, rd_insC (r.mono e3), hp, nf, .inr ⟨o, p, l, "tuple", rfl, r.mono e3, tup_ty hp, kT, fun H4 e4 => k H4 ((e2.trans e3).trans e4)⟩⟩
theorem RdAt.keep {p0 l0 : Addr} {cells : List Int} {k : Nat} {H' : Hp} (hP : PenAt H p0 l0 cells k) (kp : Keep p0 H H') (h : RdAt X.K C H o l) : RdAt X.K C H' o l := by
  obtain ⟨dx, q, h1, h2, h3⟩ := h
  refine ⟨dx, q, kp _ _ h1 fun z => ?_, sqt_keep hP kp h2, h3⟩
  obtain ⟨_, _, hp, _⟩ := hP
  rw [z, hp] at h1
  cases h1
end
theorem dpAll_of {K : PySem.W.Frag} {H : Hp} : ∀ (ps : List Addr) (f : Nat → List Slot), (∀ (k : Nat) p, ps[k]? = some p → H p = some (.lst (vS (f k)))) → DpAll K H (ps.map V.ref) ((List.range ps.length).map fun k => .list (dS (f k)))
  | [], f, _ => .nil
  | p :: ps, f, h => by
    rw [List.length_cons, List.range_succ_eq_map, List.map_cons, List.map_cons, List.map_map]
    exact .cons (.lst (sq_of (h 0 p rfl)) (dpS (f 0))) (dpAll_of ps (fun k => f (k + 1)) fun k q hq => h (k + 1) q hq)
section
variable {K : PySem.W.Frag} {σ : L2.St} {H : Hp} {te : TE} {ta : TA}
/-- [a new row of slots for i in range(n)] -/
theorem lc_rows {j n : Nat} {f : Nat → List Slot} {Q : VK} (h : EvA ta σ H [.int (n : Int)]) (hn : n ≤ 40000) (hw : ∀ x, wipe ((wipe σ [j]).set j (some x)) [j] = wipe σ [j]) (he : ∀ (i : Nat) H1, Ex H H1 → i < n → EvL te ((wipe σ [j]).set j (some (.int (i : Int)))) H1 (vS (f i)))
    (k : ∀ D vs H', H D = none → Ex H H' → H' D = some (.lst vs) → DpAll K H' vs ((List.range n).map fun i => .list (dS (f i))) → Q (.ref D) H') : tLc (iRng1 ta) (gName j) tYes te [j] σ H Q :=
  h H (Ex.refl H) _ fun H1 e1 => ⟨(n : Int), rfl, by omega, by omega, fun Dl hD => by
    have hD0 := fresh_back e1 hD
    refine lc_range (lo := 0) (n := (n : Int).toNat) (fun i H' => ∃ ps : List Addr, H' Dl = some (.lst (ps.map V.ref)) ∧ ps.length = i ∧ Ex H H' ∧ ∀ (k : Nat) p, ps[k]? = some p → H' p = some (.lst (vS (f k))) ∧ p ≠ Dl) ⟨[], upd_same, rfl, ex_mut e1 hD0, fun k p hk => absurd hk (by simp)⟩ (fun i H' hi q => ⟨hw _, ?_⟩) (fun H' q => ?_)
    · obtain ⟨ps, h2, len, e2, all⟩ := q
      show te ((wipe σ [j]).set j (some (.int ((0 : Int) + (i : Int))))) H' fun y H4 => ∃ acc, H4 Dl = some (.lst acc) ∧ acc.length < sizeLine ∧ _
      rw [Int.zero_add]
      refine he i H' e2 (by omega) H' (Ex.refl H') _ fun r H4 hr e4 h4 => ⟨ps.map V.ref, e4 _ _ h2, sz_lt (by rw [List.length_map]; omega), ps ++ [r], by rw [upd_same, List.map_append]; rfl, by rw [List.length_append, len]; rfl, ex_mut (e2.trans e4) hD0, fun k p hk => ?_⟩
      have nr : r ≠ Dl := fun z => by
        rw [z, h2] at hr
        cases hr
      rcases Nat.lt_or_ge k ps.length with lt | ge
      · rw [List.getElem?_append_left lt] at hk
        obtain ⟨a1, a2⟩ := all k p hk
        exact ⟨by rw [upd_ne a2]; exact e4 _ _ a1, a2⟩
      · rw [List.getElem?_append_right ge] at hk
        obtain ⟨z0, rfl⟩ : k - ps.length = 0 ∧ r = p := by
          cases z : k - ps.length with
          | zero => rw [z] at hk; exact ⟨rfl, Option.some.inj hk⟩
          | succ d => rw [z] at hk; cases hk
        have : k = i := by omega
        subst this
        exact ⟨by rw [upd_ne nr]; exact h4, nr⟩
    · obtain ⟨ps, h2, len, e2, all⟩ := q
      have dp := dpAll_of (K := K) ps f fun k p hk => (all k p hk).1
      rw [len, Int.toNat_natCast] at dp
      exact k Dl _ H' hD0 e2 h2 dp⟩
end
end K23
namespace K23
open PySem L2 Evl Gr StX EnT ClX OpX RdX OwC StS ClK EqT ItX OwX
/-! ### _law_joined -/
abbrev sJoin : Stmt := top 27
abbrev nJoin : List Str := ["_law_pen_here", "_law_some", "_law_more", "_law_one", "_law_other", "_law_many", "_law_held", "_law_k", "_law_first", "_law_turned", "_law_at", "_law_place_so", "_law_flow_so"]
def spJoin : Sp := fun vs H Q _ => ∃ (p c a b : Addr) (cells : List Int) (m : Nat) (l1 l2 : List Slot), vs = [.ref p, .ref a, .ref b] ∧ PenAt H p c cells m ∧ m + 100 ≤ 50000 ∧ cells.length ≤ 63 ∧ H a = some (.lst (vS l1)) ∧ H b = some (.lst (vS l2)) ∧ 1 ≤ l1.length ∧ l1.length ≤ 12 ∧ 1 ≤ l2.length ∧ l2.length ≤ 12 ∧ Oks l1 ∧ Oks l2 ∧
  ∀ H', Keep p H H' → PenAt H' p c cells (m + 5) → Q (.bl true) H'
theorem scJoin : FnScope nJoin ["_law_pen_here", "_law_some", "_law_more"] (defScope sJoin) := ⟨rfl, rfl, rfl, by decide +kernel, rfl, by decide +kernel, by decide +kernel⟩
structure JoinK (P : Program) (w : World) (K : PySem.W.Frag) (mg : Str → Option Value) (base : Heap) (C CM fAdd fMul fRmu fShl fEq fLike fWith fRing fD fP : Addr) (eLike eWith eRing eD eP : FuncData) : Prop where
  O : Ops K C fShl fEq
  M : OpsM K C fAdd fMul fRmu
  add : FnR P w K mg base (L2.CX P w) 5 fAdd (spAdd K C CM)
  mul : FnR P w K mg base (L2.CX P w) 5 fMul (spMul K C CM)
  rmul : FnR P w K mg base (L2.CX P w) 5 fRmu (spMul K C CM)
  shl : FnR P w K mg base CX0 5 fShl (spShl K C)
  eq : FnR P w K mg base CX0 1 fEq (spREq K C)
  mLike : Meth K C "is_like" fLike
  like : FnOk P w K mg base CX0 6 fLike eLike ["self", "other"] (spLike K C)
  bLike : Binds K eLike ["self", "other"] []
  kLike : KBn K eLike ["self", "other"] 1 ["other"] (fun us ws => us ++ ws) (fun vs zs => vs ++ zs)
  mWith : Meth K C "with_slot" fWith
  with_ : FnOk P w K mg base CX0 5 fWith eWith ["self", "place", "flow"] (spWith K C)
  bWith : Binds K eWith ["self", "place", "flow"] []
  kWith : KBn K eWith ["self", "place", "flow"] 1 ["flow", "place"] (fun us ws => us ++ ws.reverse) (fun vs zs => vs ++ zs.reverse)
  ring : FnOk P w K mg base CX0 6 fRing eRing ["_law_some"] (spRing K C)
  kRing : PySem.W.keepIn K (.ref fRing) = true
  bRing : Binds K eRing ["_law_some"] []
  gRing : mg "_law_ring" = some (.ref fRing)
  draw : FnOk P w K mg base CX0 1 fD eD ["_law_pen_here", "_law_many"] spDraw
  kDraw : PySem.W.keepIn K (.ref fD) = true
  bDraw : Binds K eD ["_law_pen_here", "_law_many"] []
  gDraw : mg "_law_draw" = some (.ref fD)
  pick : FnOk P w K mg base CX0 2 fP eP ["_law_pen_here", "_law_some"] spPick
  kPick : PySem.W.keepIn K (.ref fP) = true
  bPick : Binds K eP ["_law_pen_here", "_law_some"] []
  gPick : mg "_law_pick" = some (.ref fP)
theorem q_par3 {ta : TA} {i j l : Nat} {tz : TS} {D : Ends} {σ : L2.St} {H : Hp} (h : ta σ H fun vs H1 => ∃ u v w, vs = [u, v, w] ∧ tz D (((σ.set i (some u)).set j (some v)).set l (some w)) H1) : tSeq (tPar3 i j l ta) tz D σ H := h
theorem q_augR {i : Nat} {te : TE} {ti : TIp} {tz : TS} {D : Ends} {σ : L2.St} {H : Hp} (h : ∃ x, σ[i]? = some (some x) ∧ te σ H fun y H1 => ti x y H1 fun z H2 => tz D (σ.set i (some z)) H2) : tSeq (tAug i te ti) tz D σ H := h
theorem ev_lenV {K : PySem.W.Frag} {σ : L2.St} {H : Hp} {i : Nat} {p : Addr} {l : List Slot} (h0 : σ[i]? = some (some (.ref p))) (hp : H p = some (.lst (vS l))) : Ev (tCB (rLenQ K) (tCons (tVar i) tNil)) σ H (.int (l.length : Int)) := fun H1 e Q q =>
  ⟨_, h0, p, vS l, rfl, .inl (sq_of (e _ _ hp)), by
    rw [vS_len]
    exact q H1 (Ex.refl H1)⟩
structure JSt (K : PySem.W.Frag) (C p c a b o1 o2 : Addr) (cells : List Int) (l1 l2 : List Slot) (H0 : Hp) (n : Nat) (H : Hp) : Prop where
  P : PenAt H p c cells n
  kp : Keep p H0 H
  A : H a = some (.lst (vS l1))
  B : H b = some (.lst (vS l2))
  R1 : RdAt K C H o1 l1
  R2 : RdAt K C H o2 l2
theorem JSt.ext {K : PySem.W.Frag} {C p c a b o1 o2 : Addr} {cells : List Int} {l1 l2 : List Slot} {H0 H H' : Hp} {n : Nat} (h : JSt K C p c a b o1 o2 cells l1 l2 H0 n H) (e : Ex H H') : JSt K C p c a b o1 o2 cells l1 l2 H0 n H' :=
  ⟨h.P.mono e (Nat.le_refl _), h.kp.trans (Keep.of_ex e), e _ _ h.A, e _ _ h.B, h.R1.mono e, h.R2.mono e⟩
theorem JSt.keep {X : Cx} {C p c a b o1 o2 : Addr} {cells : List Int} {l1 l2 : List Slot} {H0 H H' : Hp} {n n' : Nat} (h : JSt X.K C p c a b o1 o2 cells l1 l2 H0 n H) (k : Keep p H H') (hP : PenAt H' p c cells n') : JSt X.K C p c a b o1 o2 cells l1 l2 H0 n' H' :=
  ⟨hP, h.kp.trans k, lstS_keep h.P k h.A, lstS_keep h.P k h.B, RdAt.keep h.P k h.R1, RdAt.keep h.P k h.R2⟩
section
variable {P : Program} {w : World} {K : PySem.W.Frag} {mg : Str → Option Value} {base : Heap}
theorem ok_Join {C CM f fAdd fMul fRmu fShl fEq fLike fWith fRing fD fP : Addr} {fd eLike eWith eRing eD eP : FuncData} (F : Fun K "_law_joined" "_law_joined" sJoin f fd) (TT : GlbT mg) (TK : GlbK mg) (G : RCls K C) (J : JoinK P w K mg base C CM fAdd fMul fRmu fShl fEq fLike fWith fRing fD fP eLike eWith eRing eD eP) :
    FnOk P w K mg base CX0 7 f fd ["_law_pen_here", "_law_some", "_law_more"] spJoin := by
  have O := J.O
  have M := J.M
  obtain ⟨rc, hrc, hp⟩ := O.rsh
  obtain ⟨fo, hfo⟩ := O.int1
  obtain ⟨ro, hro⟩ := O.int2
  obtain ⟨fo', hfo'⟩ := M.mu1
  obtain ⟨ro', hro'⟩ := M.mu2
  refine F.ok scJoin (fun vs H Q E h => ?_) (fun cdv A outer s H vs Q E hr h => ?_)
  · obtain ⟨p, c, a, b, cells, m, l1, l2, rfl, _⟩ := h
    rfl
  · obtain ⟨p, c, a, b, cells, m, l1, l2, rfl, hP, hm, h63, hA, hB, a1, a12, b1, b12, ok1, ok2, k⟩ := h
    have r1 := hr.mono (show 1 ≤ 6 by decide)
    have r2 := hr.mono (show 2 ≤ 6 by decide)
    have r5 := hr.mono (show 5 ≤ 6 by decide)
    have hin : A.units + 3 + 65 < cLine := by
      have := hr.un
      have e : (A.deeper (PyProof.Rows.envOfC "_law_joined" (defScope sJoin) s.heap.objs.size f cdv)).units = A.units + 3 := rfl
      rw [e] at this
      omega
    refine ⟨_, pss_cons (ps_par3 (i := 3) (j := 4) (l := 5) rfl scJoin.nd rfl rfl rfl (by decide) (by decide) (by decide) rfl rfl rfl (pa_cons (pe_call J.ring hr (by rfl) J.gRing J.kRing J.bRing .nil pass0 (pa_cons (pv 1) pa_nil)) (pa_cons (pe_call J.ring hr (by rfl) J.gRing J.kRing J.bRing .nil pass0 (pa_cons (pv 2) pa_nil)) (pa_cons (pe_op op_add pe_int (pe_call J.draw r1 (by rfl) J.gDraw J.kDraw J.bDraw .nil pass0 (pa_cons (pv 0) (pa_cons pe_int pa_nil)))) pa_nil))) rfl)
      (pss_cons (ps_set (i := 6) scJoin.nd rfl (.inl rfl) (pv 3))
      (pss_cons (ps_aug (i := 6) scJoin.nd rfl (.inl rfl) (pv 4) (op_inS (E := E0) (op := .Add) O.first M.noAdd M.add J.add r5 (passN rfl rfl)))
      (pss_cons (ps_if (PW.pt (pw_or (pt_cmpR (op_neD hr.units) (pe_callTy call_list_of (by rfl) TK.list (by decide +kernel) (pa_cons (pe_fld (pv 6) rfl) pa_nil)) (pe_op op_cat (pv 1) (pv 2)) (nomark _)) (pw_or (pt_cmpR (op_neD hr.units) (pe_callTy call_list_of (by rfl) TK.list (by decide +kernel) (pa_cons (pe_fld (pv 3) rfl) pa_nil)) (pv 1) (nomark _)) (pw_or (pt_cmpR (op_neO (E := E0) O.eq M.ne M.ob J.eq r2 pass0) (pe_op (op_binS (E := E0) (op := .Add) O.first M.add J.add r5 (passN rfl rfl)) (pv 3) (pv 4)) (pv 6) (nomark _)) (pw_or1 (pt_cmpR (op_neD hr.units) (pe_callTy call_list_of (by rfl) TK.list (by decide +kernel) (pa_cons (pe_fld (pe_op (op_binS (E := E0) (op := .Add) O.first M.add J.add r5 (passN rfl rfl)) (pv 4) (pv 3)) rfl) pa_nil)) (pe_op op_cat (pv 2) (pv 1)) (nomark _))))))) (pss_one (ps_ret pe_bl)) pss_nil)
      (pss_cons (ps_if (PW.pt (pw_and (pt_cmpR op_le (pe_op op_mul (pe_callB call_len_seq (by rfl) TT.len PySem.boot_len (pa_cons (pv 1) pa_nil)) (pv 5)) pe_int (nomark _)) (pw_and1 (PW.pt (pw_or (pt_cmpR (op_neD hr.units) (pe_callTy call_list_of (by rfl) TK.list (by decide +kernel) (pa_cons (pe_fld (pe_op (op_binI (E := E0) (op := .Mult) O.first M.mul M.rmul.at_ (.inr ⟨_, rfl⟩) hfo' hro' O.sub J.mul r5 (passN rfl rfl)) (pv 3) (pv 5)) rfl) pa_nil)) (pe_op op_rep (pv 1) (pv 5)) (nomark _)) (pw_or1 (pt_cmpR (op_neO (E := E0) O.eq M.ne M.ob J.eq r2 pass0) (pe_op (op_rmul (E := E0) O.first M.mul.at_ M.rmul M.sub2 J.rmul r5 (passN rfl rfl)) (pv 5) (pv 3)) (pe_op (op_binI (E := E0) (op := .Mult) O.first M.mul M.rmul.at_ (.inr ⟨_, rfl⟩) hfo' hro' O.sub J.mul r5 (passN rfl rfl)) (pv 3) (pv 5)) (nomark _)))))))) (pss_one (ps_ret pe_bl)) pss_nil)
      (pss_cons (ps_set (i := 7) scJoin.nd rfl (.inl rfl) (pe_call J.pick r2 (by rfl) J.gPick J.kPick J.bPick .nil pass0 (pa_cons (pv 0) (pa_cons (pe_lst (pa_cons pe_int (pa_cons pe_int (pa_cons (pe_op op_sub (pe_callB call_len_seq (by rfl) TT.len PySem.boot_len (pa_cons (pv 1) pa_nil)) pe_int) (pa_cons (pe_callB call_len_seq (by rfl) TT.len PySem.boot_len (pa_cons (pv 1) pa_nil)) (pa_cons (pe_call J.draw r1 (by rfl) J.gDraw J.kDraw J.bDraw .nil pass0 (pa_cons (pv 0) (pa_cons pe_int pa_nil))) (pa_cons (pe_op op_pow pe_int pe_int) pa_nil))))))) pa_nil))))
      (pss_cons (ps_set (i := 8) scJoin.nd rfl (.inl rfl) (pe_op op_mod (pe_callTy call_int1 (by rfl) TT.int (by decide +kernel) (pa_cons (pv 7) pa_nil)) (pe_callB call_len_seq (by rfl) TT.len PySem.boot_len (pa_cons (pv 1) pa_nil))))
      (pss_cons (ps_if (PW.pt (pw_or (pt_cmpR (op_neD hr.units) (pe_callTy call_list_of (by rfl) TK.list (by decide +kernel) (pa_cons (pe_fld (pe_op (op_binI (E := E0) (op := .LShift) O.first O.shl hrc hp hfo hro O.sub J.shl r5 pass0) (pv 3) (pv 7)) rfl) pa_nil)) (pe_op op_cat (pe_slice sl_list (pv 1) (po_some (pv 8)) po_none) (pe_slice sl_list (pv 1) po_none (po_some (pv 8)))) (nomark _)) (pw_or (pt_not (pt_val (pe_meth (pv 3) G.cls J.mLike J.like hr J.bLike .nil pass0 (pa_cons (pe_op (op_binI (E := E0) (op := .LShift) O.first O.shl hrc hp hfo hro O.sub J.shl r5 pass0) (pv 3) (pv 7)) pa_nil)))) (pw_or1 (pt_not (pt_val (pe_methKw (pe_op (op_binI (E := E0) (op := .LShift) O.first O.shl hrc hp hfo hro O.sub J.shl r5 pass0) (pv 3) (pv 7)) G.cls J.mLike J.like hr J.kLike (pk_cons (pv 3) pk_nil)))))))) (pss_one (ps_ret pe_bl)) pss_nil)
      (pss_cons (ps_setLc (i := 9) (own := [("_law_at", 10)]) (g := gName 10) rfl scJoin.nd rfl (by rfl) (by rfl) (pi_range1 (by rfl) TK.range (pa_cons (pe_callB call_len_seq (by rfl) TT.len PySem.boot_len (pa_cons (pv 1) pa_nil)) pa_nil)) (blkOk_by (own := [("_law_at", 10)]) (N := nJoin) (sc := defScope sJoin) (by decide +kernel)) (fun _ _ _ _ _ => pg_name (i := 10) scJoin.nd rfl (Or.inl rfl)) (fun _ _ _ _ _ => pts_nil) (fun _ _ _ _ _ => (pe_op op_cat (pe_slice (show SlR _ (rSlL K) from sl_list) (pv 1) (po_some (pv 10)) po_none) (pe_slice (show SlR _ (rSlL K) from sl_list) (pv 1) po_none (po_some (pv 10))))))
      (pss_cons (ps_if (PW.pt (pw_or (pt_cmpR op_ne (pe_meth (pv 3) G.cls J.mLike J.like hr J.bLike .nil pass0 (pa_cons (pv 4) pa_nil)) (pe_cmpR (op_inD hin) (pv 2) (pv 9) (by rfl)) (nomark _)) (pw_or (pt_cmpR op_ne (pe_cmpR (op_eqO (E := E0) (op := .Eq) (fun _ _ => rfl) O.eq J.eq r1 pass0) (pv 3) (pv 4) (nomark _)) (pe_cmpR (op_eqD hr.units) (pv 1) (pv 2) (nomark _)) (nomark _)) (pw_or (pt_cmpR (op_eqL (E := E0) (op := .Eq) (fun _ _ => rfl) O.eq J.eq r1 pass0) (pv 3) (pv 1) (nomark _)) (pw_or1 (pt_cmpR (op_eqT (E := E0) (op := .Eq) (fun _ _ => rfl) O.eq J.eq r1 pass0) (pv 3) (pe_tupleOf (by rfl) TK.tuple (pv 1)) (nomark _))))))) (pss_one (ps_ret pe_bl)) pss_nil)
      (pss_cons (ps_par (i := 11) (j := 12) rfl scJoin.nd rfl rfl (by decide) rfl rfl (pa_cons (pe_call J.draw r1 (by rfl) J.gDraw J.kDraw J.bDraw .nil pass0 (pa_cons (pv 0) (pa_cons (pe_callB call_len_seq (by rfl) TT.len PySem.boot_len (pa_cons (pv 1) pa_nil)) pa_nil))) (pa_cons (pe_call J.pick r2 (by rfl) J.gPick J.kPick J.bPick .nil pass0 (pa_cons (pv 0) (pa_cons (pe_lst (pa_cons pe_str (pa_cons pe_str (pa_cons pe_non pa_nil)))) pa_nil))) pa_nil)) rfl)
      (pss_cons (ps_if (pt_cmpR (op_neD hr.units) (pe_callTy call_list_of (by rfl) TK.list (by decide +kernel) (pa_cons (pe_fld (pe_meth (pv 3) G.cls J.mWith J.with_ r5 J.bWith .nil pass0 (pa_cons (pv 11) (pa_cons (pv 12) pa_nil))) rfl) pa_nil)) (pe_op op_cat (pe_op op_cat (pe_slice sl_list (pv 1) po_none (po_some (pv 11))) (pe_lst (pa_cons (pv 12) pa_nil))) (pe_slice sl_list (pv 1) (po_some (pe_op op_add (pv 11) pe_int)) po_none)) (nomark _)) (pss_one (ps_ret pe_bl)) pss_nil)
      (pss_one (ps_ret (pe_and (pe_cmpR (op_eqO (E := E0) (op := .Eq) (fun _ _ => rfl) O.eq J.eq r1 pass0) (pe_methKw (pv 3) G.cls J.mWith J.with_ r5 J.kWith (pk_cons (pv 12) (pk_cons (pv 11) pk_nil))) (pe_meth (pv 3) G.cls J.mWith J.with_ r5 J.bWith .nil pass0 (pa_cons (pv 11) (pa_cons (pv 12) pa_nil))) (nomark _)) (pe_one (pe_cmpR (op_eqD hr.units) (pe_callTy call_list_of (by rfl) TK.list (by decide +kernel) (pa_cons (pe_fld (pv 3) rfl) pa_nil)) (pv 1) (nomark _))))))))))))))))), ?_⟩
    -- the rounds
    refine q_par3 (cons_i (er_ring (X := (cxOf CX0 P w K mg base nJoin "_law_joined" (defScope sJoin) f cdv A outer s H E)) (ev_var rfl) (sq_of hA) a1 (by omega) ok1 H (Ex.refl H) _ fun o1 H1 e1 R1 => cons_i (er_ring (X := (cxOf CX0 P w K mg base nJoin "_law_joined" (defScope sJoin) f cdv A outer s H E)) (ev_var rfl) (sq_of (e1 _ _ hB)) b1 (by omega) ok2 H1 (Ex.refl H1) _ fun o2 H2 e2 R2 => cons_i (op_i (c_i ?_)))))
    have E2 := e1.trans e2
    have S2 : JSt K C p c a b o1 o2 cells l1 l2 H m H2 := ⟨hP.mono E2 (Nat.le_refl m), Keep.of_ex E2, E2 _ _ hA, E2 _ _ hB, R1.mono e2, R2⟩
    refine w_draw (H := H2) rfl (fun H3 _ => ev_c) (by omega) (by omega) h63 m H2 (Keep.of_ex (Ex.refl H2)) S2.P (by omega) _ fun v H3 hv hP3 k3 => ?_
    obtain ⟨d, rfl, hd⟩ := hv
    have S3 := JSt.keep (X := (cxOf CX0 P w K mg base nJoin "_law_joined" (defScope sJoin) f cdv A outer s H E)) S2 k3 hP3
    refine ⟨1, (d : Int), rfl, rfl, _, _, _, rfl, ?_⟩
    obtain ⟨n, hn, n1, n3⟩ : ∃ n : Nat, (1 : Int) + (d : Int) = (n : Int) ∧ 1 ≤ n ∧ n ≤ 3 := ⟨d + 1, by omega, by omega, by omega⟩
    show tSeq _ _ _ [some (.ref p), some (.ref a), some (.ref b), some (.ref o1), some (.ref o2), some (.int ((1 : Int) + (d : Int))), none, none, none, none, none, none, none] H3
    rw [hn]
    clear S2 hP3 k3 hd hn R1 R2 hP
    refine q_asg (ev_var rfl) fun H4 e4 => ?_
    have S4 := S3.ext e4
    have hz : (l1 ++ l2).length ≤ 24 := by rw [List.length_append]; omega
    have hz' : (l2 ++ l1).length ≤ 24 := by rw [List.length_append]; omega
    refine q_augR ⟨_, rfl, _, rfl, o1, o2, rfl, rfl, rd_insC S4.R1, rd_insC S4.R2, o1, o2, l1, l2, rfl, S4.R1, S4.R2, fun _ o3 H5 e5 R5 => ?_, fun z => absurd z (by omega)⟩
    have S5 := S4.ext e5
    clear S3 S4
    show tSeq _ _ _ [some (.ref p), some (.ref a), some (.ref b), some (.ref o1), some (.ref o2), some (.int (n : Int)), some (.ref o3), none, none, none, none, none, none] H5
    -- joined
    have t1 := et_ne (ev_neSL (K := K) (ok1.app ok2) (ok1.app ok2) (ed_SL (el_slotsR (X := (cxOf CX0 P w K mg base nJoin "_law_joined" (defScope sJoin) f cdv A outer s H E)) (σ := [some (.ref p), some (.ref a), some (.ref b), some (.ref o1), some (.ref o2), some (.int (n : Int)), some (.ref o3), none, none, none, none, none, none]) (ta := tVar 6) G (er_var rfl R5))) (ed_SL (el_catS (ta := tVar 1) (tb := tVar 2) (ev_var rfl) S5.A (ev_var rfl) S5.B (by omega)))) (decide_eq_true rfl)
    have t2 := et_ne (ev_neSL (K := K) ok1 ok1 (ed_SL (el_slotsR (X := (cxOf CX0 P w K mg base nJoin "_law_joined" (defScope sJoin) f cdv A outer s H E)) (ta := tVar 3) (σ := [some (.ref p), some (.ref a), some (.ref b), some (.ref o1), some (.ref o2), some (.int (n : Int)), some (.ref o3), none, none, none, none, none, none]) G (er_var rfl S5.R1))) (ed_SP (te := tVar 1) (ev_var rfl) (sq_of S5.A))) (decide_eq_true rfl)
    have t3 := et_ne (ev_neR (X := (cxOf CX0 P w K mg base nJoin "_law_joined" (defScope sJoin) f cdv A outer s H E)) (er_add (X := (cxOf CX0 P w K mg base nJoin "_law_joined" (defScope sJoin) f cdv A outer s H E)) (CM := CM) (σ := [some (.ref p), some (.ref a), some (.ref b), some (.ref o1), some (.ref o2), some (.int (n : Int)), some (.ref o3), none, none, none, none, none, none]) (ta := tVar 3) (tb := tVar 4) (er_var rfl S5.R1) (er_var rfl S5.R2) hz) (er_var (i := 6) rfl R5)) (decide_eq_true rfl)
    have t4 := et_ne (ev_neSL (K := K) (ok2.app ok1) (ok2.app ok1) (ed_SL (el_slotsR (X := (cxOf CX0 P w K mg base nJoin "_law_joined" (defScope sJoin) f cdv A outer s H E)) G (er_add (X := (cxOf CX0 P w K mg base nJoin "_law_joined" (defScope sJoin) f cdv A outer s H E)) (CM := CM) (σ := [some (.ref p), some (.ref a), some (.ref b), some (.ref o1), some (.ref o2), some (.int (n : Int)), some (.ref o3), none, none, none, none, none, none]) (ta := tVar 4) (tb := tVar 3) (er_var rfl S5.R2) (er_var rfl S5.R1) hz'))) (ed_SL (el_catS (ta := tVar 2) (tb := tVar 1) (ev_var rfl) S5.B (ev_var rfl) S5.A (by omega)))) (decide_eq_true rfl)
    refine q_when (et_or0 t1 (et_or0 t2 (et_or0 t3 t4))) (fun z => absurd z (by decide)) fun _ H6 e6 => ?_
    have S6 := S5.ext e6
    have R6 := R5.mono e6
    clear t1 t2 t3 t4 S5 R5
    -- many times
    have u0 := et_test (ev_op (ev_op (ev_lenV (K := K) (σ := [some (.ref p), some (.ref a), some (.ref b), some (.ref o1), some (.ref o2), some (.int (n : Int)), some (.ref o3), none, none, none, none, none, none]) (i := 1) rfl S6.A) (ev_var (i := 5) rfl) (rv_I (C := CMul) (g := fun i j => .int (i * j)) (show CMul (l1.length : Int) (n : Int) from .inl ⟨by omega, by omega⟩))) (ev_c (v := .int 24)) (rv_I0 (g := fun i j => .bl (decide (i ≤ j)))))
    refine q_when (b := false) (et_is (et_and (b := false) u0 fun z => ?_) (Bool.and_false _)) (fun z => absurd z (by decide)) fun _ H7 e7 => ?_
    · have hm24 : n * l1.length ≤ 24 := by
        have z := of_decide_eq_true z
        have : ((l1.length * n : Nat) : Int) ≤ 24 := by
          rw [Int.natCast_mul]
          exact z
        rw [Nat.mul_comm]
        omega
      have u1 := et_ne (ev_neSL (K := K) (rep_ok (k := n) ok1) (rep_ok (k := n) ok1) (ed_SL (el_slotsR (X := (cxOf CX0 P w K mg base nJoin "_law_joined" (defScope sJoin) f cdv A outer s H E)) G (er_mulI (X := (cxOf CX0 P w K mg base nJoin "_law_joined" (defScope sJoin) f cdv A outer s H E)) (CM := CM) (σ := [some (.ref p), some (.ref a), some (.ref b), some (.ref o1), some (.ref o2), some (.int (n : Int)), some (.ref o3), none, none, none, none, none, none]) (ta := tVar 3) (tb := tVar 5) (er_var rfl S6.R1) (ev_var rfl) n1 (by omega) hm24))) (ed_SL (el_repS (ta := tVar 1) (tb := tVar 5) (ev_var rfl) S6.A (ev_var rfl) (by rw [Nat.mul_comm]; omega) (by omega)))) (decide_eq_true rfl)
      have u2 := et_ne (ev_neR (X := (cxOf CX0 P w K mg base nJoin "_law_joined" (defScope sJoin) f cdv A outer s H E)) (er_mulR (X := (cxOf CX0 P w K mg base nJoin "_law_joined" (defScope sJoin) f cdv A outer s H E)) (CM := CM) (σ := [some (.ref p), some (.ref a), some (.ref b), some (.ref o1), some (.ref o2), some (.int (n : Int)), some (.ref o3), none, none, none, none, none, none]) (tb := tVar 5) (ta := tVar 3) (ev_var rfl) (er_var rfl S6.R1) n1 (by omega) hm24) (er_mulI (X := (cxOf CX0 P w K mg base nJoin "_law_joined" (defScope sJoin) f cdv A outer s H E)) (CM := CM) (σ := [some (.ref p), some (.ref a), some (.ref b), some (.ref o1), some (.ref o2), some (.int (n : Int)), some (.ref o3), none, none, none, none, none, none]) (ta := tVar 3) (tb := tVar 5) (er_var rfl S6.R1) (ev_var rfl) n1 (by omega) hm24)) (decide_eq_true rfl)
      exact et_or0 u1 u2
    have S7 := S6.ext e7
    clear u0 S6
    -- a pick of numbers
    refine q_asgR ⟨_, rfl, lst_i (cons_i (c_i (cons_i (c_i (cons_i (ev_op (ev_lenV (K := K) (i := 1) rfl S7.A) ev_c (rv_I0 (g := fun i j => .int (i - j))) H7 (Ex.refl H7) _ fun H8 e8 => cons_i (ev_lenV (K := K) (i := 1) rfl (e8 _ _ S7.A) H8 (Ex.refl H8) _ fun H9 e9 => cons_i ?_)))))))⟩
    have S9 := S7.ext (e8.trans e9)
    refine w_draw (H := H9) rfl (fun H3 _ => ev_c) (by omega) (by omega) h63 (m + 1) H9 (Keep.of_ex (Ex.refl H9)) S9.P (by omega) _ fun v HA hv hPA kA => ?_
    obtain ⟨d2, rfl, hd2⟩ := hv
    have SA := JSt.keep (X := (cxOf CX0 P w K mg base nJoin "_law_joined" (defScope sJoin) f cdv A outer s H E)) S9 kA hPA
    refine cons_i (ev_op (ev_c (v := .int 10)) (ev_c (v := .int 20)) (rv_I (C := CPow) (g := fun i j => .int (i ^ j.toNat)) (show (0 : Int) ≤ 20 ∧ (20 : Int) ≤ 1000000 ∧ (10 : Int).natAbs < 2 ^ 64 by decide)) HA (Ex.refl HA) _ fun HB eB => ⟨by show 6 ≤ sizeLine; decide, fun g hg => ?_⟩)
    have SB := SA.ext (eB.trans (Ex.new (o := .lst [.int 0, .int 1, .int ((l1.length : Int) - 1), .int (l1.length : Int), .int (d2 : Int), .int (10 ^ (20 : Int).toNat)]) hg))
    have gp : g ≠ p := fun z => by
      obtain ⟨_, _, q, _⟩ := (SA.ext eB).P
      rw [z, q] at hg
      cases hg
    refine ⟨p, c, g, cells, m + 1 + 1, [.int 0, .int 1, .int ((l1.length : Int) - 1), .int (l1.length : Int), .int (d2 : Int), .int (10 ^ (20 : Int).toNat)], rfl, SB.P, by omega, h63, upd_same, gp, by show 0 < 6; decide, by show 6 ≤ 1000000; decide, fun ix x HC hx hPC kC => ?_⟩
    have SC := JSt.keep (X := (cxOf CX0 P w K mg base nJoin "_law_joined" (defScope sJoin) f cdv A outer s H E)) SB kC hPC
    clear S7 S9 SA SB hPA kA hPC kC
    obtain ⟨i, rfl, i0⟩ : ∃ i : Int, x = .int i ∧ 0 ≤ i := by
      have mem := List.mem_of_getElem? hx
      simp only [List.mem_cons, List.not_mem_nil, or_false] at mem
      rcases mem with h | h | h | h | h | h
      · exact ⟨_, h, by decide⟩
      · exact ⟨_, h, by decide⟩
      · exact ⟨_, h, by omega⟩
      · exact ⟨_, h, by omega⟩
      · exact ⟨_, h, by omega⟩
      · exact ⟨_, h, by decide +kernel⟩
    show tSeq _ _ _ [some (.ref p), some (.ref a), some (.ref b), some (.ref o1), some (.ref o2), some (.int (n : Int)), some (.ref o3), some (.int i), none, none, none, none, none] HC
    have pos : (0 : Int) < (l1.length : Int) := by omega
    refine q_asg (ev_op (ev_cb (ea_cons (ev_var (i := 7) rfl) ea_nil) rc_int) (ev_lenV (K := K) (i := 1) rfl SC.A) (rv_I (C := fun _ j => 0 < j) (g := fun i j => .int (i % j)) pos)) fun HD eD => ?_
    have SD := SC.ext eD
    clear SC
    obtain ⟨t, ht⟩ := Int.eq_ofNat_of_zero_le (Int.emod_nonneg i (show (l1.length : Int) ≠ 0 by omega))
    have tl : t < l1.length := by have := Int.emod_lt_of_pos i pos; omega
    show tSeq _ _ _ [some (.ref p), some (.ref a), some (.ref b), some (.ref o1), some (.ref o2), some (.int (n : Int)), some (.ref o3), some (.int i), some (.int (i % (l1.length : Int))), none, none, none, none] HD
    rw [ht]
    show tSeq _ _ _ [some (.ref p), some (.ref a), some (.ref b), some (.ref o1), some (.ref o2), some (.int (n : Int)), some (.ref o3), some (.int i), some (.int (t : Int)), none, none, none, none] HD
    have shl := er_shl (X := (cxOf CX0 P w K mg base nJoin "_law_joined" (defScope sJoin) f cdv A outer s H E)) (σ := [some (.ref p), some (.ref a), some (.ref b), some (.ref o1), some (.ref o2), some (.int (n : Int)), some (.ref o3), some (.int i), some (.int (t : Int)), none, none, none, none]) (H := HD) (ta := tVar 3) (tb := tVar 7) (i := i) (er_var rfl SD.R1) (fun H1 _ => ev_var rfl) i0
    rw [ht, show ((t : Int)).toNat = t from Int.toNat_natCast t] at shl
    have t1 := et_ne (ev_neSL (K := K) (rot_ok (k := t) ok1) (rot_ok (k := t) ok1) (ed_SL (el_slotsR (X := (cxOf CX0 P w K mg base nJoin "_law_joined" (defScope sJoin) f cdv A outer s H E)) G shl)) (ed_SL (el_catSN (el_fromS (X := (cxOf CX0 P w K mg base nJoin "_law_joined" (defScope sJoin) f cdv A outer s H E)) (ta := tVar 1) (tb := tVar 8) (ev_var rfl) (sq_of SD.A) (ev_var rfl) (by omega)) (el_toS (X := (cxOf CX0 P w K mg base nJoin "_law_joined" (defScope sJoin) f cdv A outer s H E)) (ta := tVar 1) (tb := tVar 8) (ev_var rfl) (sq_of SD.A) (ev_var rfl) (by omega)) (by rw [List.length_drop, List.length_take]; omega)))) (decide_eq_true rfl)
    have t2 := et_is (et_not (et_B (ev_likeR (X := (cxOf CX0 P w K mg base nJoin "_law_joined" (defScope sJoin) f cdv A outer s H E)) (ta := tVar 3) (er_var rfl SD.R1) shl))) (show (!like l1 (rot l1 t)) = false by rw [like_rot tl]; rfl)
    have t3 := et_is (et_not (et_B (ev_likeK (X := (cxOf CX0 P w K mg base nJoin "_law_joined" (defScope sJoin) f cdv A outer s H E)) (ks := ["other"]) (nm := "is_like") (tb := tVar 3) rfl rfl shl (er_var rfl SD.R1)))) (show (!like (rot l1 t) l1) = false by rw [like_back tl]; rfl)
    refine q_when (et_or0 t1 (et_or0 t2 t3)) (fun z => absurd z (by decide)) fun _ HE eE => ?_
    have SE := SD.ext eE
    clear SD shl t1 t2 t3
    -- all the turns
    refine q_asgR (lc_rows (K := K) (n := l1.length) (f := fun k => rot l1 k) (ea_cons (ev_lenV (K := K) (i := 1) rfl SE.A) ea_nil) (by omega) (fun _ => rfl) (fun i' H1 e hi => el_catSN (el_fromS (X := (cxOf CX0 P w K mg base nJoin "_law_joined" (defScope sJoin) f cdv A outer s H E)) (ta := tVar 1) (tb := tVar 10) (ev_var rfl) (sq_of (e _ _ SE.A)) (ev_var rfl) (by omega)) (el_toS (X := (cxOf CX0 P w K mg base nJoin "_law_joined" (defScope sJoin) f cdv A outer s H E)) (ta := tVar 1) (tb := tVar 10) (ev_var rfl) (sq_of (e _ _ SE.A)) (ev_var rfl) (by omega)) (by rw [List.length_drop, List.length_take]; omega)) fun D vs HF hD eF hF dp => ?_)
    have SF := SE.ext eF
    clear SE
    show tSeq _ _ _ [some (.ref p), some (.ref a), some (.ref b), some (.ref o1), some (.ref o2), some (.int (n : Int)), some (.ref o3), some (.int i), some (.int (t : Int)), some (.ref D), none, none, none] HF
    have shp : SeqAt.shaped (.list ((List.range l1.length).map fun k => PyData.list (dS (rot l1 k)))) = true := low_shaped (n := 2) (low_list fun d hd => by
      obtain ⟨k', _, rfl⟩ := List.mem_map.mp hd
      exact low_list (dS_low (rot_ok ok1))) (by decide)
    have u1 := et_ne (ev_op (ev_likeR (X := (cxOf CX0 P w K mg base nJoin "_law_joined" (defScope sJoin) f cdv A outer s H E)) (σ := [some (.ref p), some (.ref a), some (.ref b), some (.ref o1), some (.ref o2), some (.int (n : Int)), some (.ref o3), some (.int i), some (.int (t : Int)), some (.ref D), none, none, none]) (ta := tVar 3) (tb := tVar 4) (er_var rfl SF.R1) (er_var rfl SF.R2)) (ev_is (ev_inD (K := K) (ta := tVar 2) (tb := tVar 9) (ed_SP (ev_var rfl) (sq_of SF.B)) (ed_of (ev_var rfl) fun H1 e => .lst (sq_of (e _ _ hF)) (dps_up e _ dp)) (sh_L ok2) shp) (congrArg V.bl (like_any l1 l2))) (rv_ne rfl)) (decide_eq_true rfl)
    have u2 := et_ne (ev_op (ev_eqR (X := (cxOf CX0 P w K mg base nJoin "_law_joined" (defScope sJoin) f cdv A outer s H E)) (σ := [some (.ref p), some (.ref a), some (.ref b), some (.ref o1), some (.ref o2), some (.int (n : Int)), some (.ref o3), some (.int i), some (.int (t : Int)), some (.ref D), none, none, none]) (ta := tVar 3) (tb := tVar 4) O.nf (er_var rfl SF.R1) (er_var rfl SF.R2)) (ev_eqSL (K := K) (ta := tVar 1) (tb := tVar 2) ok1 ok2 (ed_SP (ev_var rfl) (sq_of SF.A)) (ed_SP (ev_var rfl) (sq_of SF.B))) (rv_ne rfl)) (decide_eq_true rfl)
    have u3 := et_test (ev_eqLO (X := (cxOf CX0 P w K mg base nJoin "_law_joined" (defScope sJoin) f cdv A outer s H E)) (σ := [some (.ref p), some (.ref a), some (.ref b), some (.ref o1), some (.ref o2), some (.int (n : Int)), some (.ref o3), some (.int i), some (.int (t : Int)), some (.ref D), none, none, none]) (ta := tVar 3) (tb := tVar 1) M.nfL M.kL (er_var rfl SF.R1) (ev_var rfl) SF.A)
    have u4 := et_test (ev_eqTO (X := (cxOf CX0 P w K mg base nJoin "_law_joined" (defScope sJoin) f cdv A outer s H E)) (σ := [some (.ref p), some (.ref a), some (.ref b), some (.ref o1), some (.ref o2), some (.int (n : Int)), some (.ref o3), some (.int i), some (.int (t : Int)), some (.ref D), none, none, none]) (ta := tVar 3) M.nfT M.kT (er_var rfl SF.R1) (etu_tupleP (te := tVar 1) (ev_var rfl) (sq_of SF.A)))
    refine q_when (et_or0 u1 (et_or0 u2 (et_or0 u3 u4))) (fun z => absurd z (by decide)) fun _ HG eG => ?_
    have SG := SF.ext eG
    clear SF u1 u2 u3 u4 shp dp hF
    -- another slot
    refine q_par (cons_i ?_)
    refine w_draw (H := HG) (many := (l1.length : Int)) rfl (fun H3 k3 => ev_lenV (K := K) (i := 1) rfl (lstS_keep SG.P k3 SG.A)) (by omega) (by omega) h63 (m + 1 + 1 + 1) HG (Keep.of_ex (Ex.refl HG)) SG.P (by omega) _ fun v HI hv hPI kI => ?_
    obtain ⟨pl, rfl, hpl⟩ := hv
    have SI := JSt.keep (X := (cxOf CX0 P w K mg base nJoin "_law_joined" (defScope sJoin) f cdv A outer s H E)) SG kI hPI
    refine cons_i ⟨_, rfl, lst_i (cons_i (c_i (cons_i (c_i (cons_i (c_i ⟨by show 3 ≤ sizeLine; decide, fun g2 hg2 => ?_⟩))))))⟩
    have SJ := SI.ext (Ex.new (o := .lst (vS [some "a", some "zz", none])) hg2)
    have gp2 : g2 ≠ p := fun z => by
      obtain ⟨_, _, q, _⟩ := SI.P
      rw [z, q] at hg2
      cases hg2
    refine ⟨p, c, g2, cells, m + 1 + 1 + 1 + 1, vS [some "a", some "zz", none], rfl, SJ.P, by omega, h63, upd_same, gp2, by show 0 < 3; decide, by show 3 ≤ 1000000; decide, fun ix2 x HK hx2 hPK kK => ?_⟩
    have SK := JSt.keep (X := (cxOf CX0 P w K mg base nJoin "_law_joined" (defScope sJoin) f cdv A outer s H E)) SJ kK hPK
    clear SG SI SJ hPI kI hPK kK
    obtain ⟨y, hy, rfl⟩ := nth_map (f := sv) hx2
    have oy : okB y = true := (show ∀ y ∈ ([some "a", some "zz", none] : List Slot), okB y = true by decide +kernel) y (List.mem_of_getElem? hy)
    refine ⟨_, _, rfl, ?_⟩
    show tSeq _ _ _ [some (.ref p), some (.ref a), some (.ref b), some (.ref o1), some (.ref o2), some (.int (n : Int)), some (.ref o3), some (.int i), some (.int (t : Int)), some (.ref D), none, some (.int (pl : Int)), some (sv y)] HK
    have pl1 : pl < l1.length := by omega
    have oks := set_ok (n := pl) ok1 oy
    have cutE : l1.take pl ++ [y] ++ l1.drop (pl + 1) = l1.set pl y := by
      rw [List.set_eq_take_append_cons_drop, if_pos pl1, List.append_assoc]
      rfl
    have rw_ : ∀ {H' : Hp}, Ex HK H' → EvR K C (tMeth C "with_slot" (spWith K C) [] E0 (tVar 3) (tCons (tVar 11) (tCons (tVar 12) tNil))) [some (.ref p), some (.ref a), some (.ref b), some (.ref o1), some (.ref o2), some (.int (n : Int)), some (.ref o3), some (.int i), some (.int (t : Int)), some (.ref D), none, some (.int (pl : Int)), some (sv y)] H' (l1.set pl y) := fun e => er_with (X := (cxOf CX0 P w K mg base nJoin "_law_joined" (defScope sJoin) f cdv A outer s H E)) (er_var rfl (SK.R1.mono e)) (ea_cons (ev_var rfl) (ea_cons (ev_var rfl) ea_nil)) pl1 oy
    have cat := el_catSN (el_catSN (el_toS (X := (cxOf CX0 P w K mg base nJoin "_law_joined" (defScope sJoin) f cdv A outer s H E)) (σ := [some (.ref p), some (.ref a), some (.ref b), some (.ref o1), some (.ref o2), some (.int (n : Int)), some (.ref o3), some (.int i), some (.int (t : Int)), some (.ref D), none, some (.int (pl : Int)), some (sv y)]) (H := HK) (ta := tVar 1) (tb := tVar 11) (n := pl) (ev_var rfl) (sq_of SK.A) (ev_var rfl) (by omega)) (el_S (l := [y]) (ea_cons (ev_var (i := 12) rfl) ea_nil) (by show 1 ≤ 1000; decide)) (by rw [List.length_take, List.length_singleton]; omega)) (el_fromS (X := (cxOf CX0 P w K mg base nJoin "_law_joined" (defScope sJoin) f cdv A outer s H E)) (ta := tVar 1) (n := pl + 1) (ev_var rfl) (sq_of SK.A) (ev_op (ev_var (i := 11) rfl) (ev_c (v := .int 1)) (rv_I0 (g := fun i j => .int (i + j)))) (by omega)) (by rw [List.length_append, List.length_take, List.length_singleton, List.length_drop]; omega)
    rw [cutE] at cat
    refine q_when (et_ne (ev_neSL (K := K) oks oks (ed_SL (el_slotsR (X := (cxOf CX0 P w K mg base nJoin "_law_joined" (defScope sJoin) f cdv A outer s H E)) G (rw_ (Ex.refl HK)))) (ed_SL cat)) (decide_eq_true rfl)) (fun z => absurd z (by decide)) fun _ HL eL => ?_
    have SL := SK.ext eL
    refine s_ret (ev_is (ev_andV (a := true) (b := true) (ev_is (ev_eqR (X := (cxOf CX0 P w K mg base nJoin "_law_joined" (defScope sJoin) f cdv A outer s H E)) O.nf (er_withK (X := (cxOf CX0 P w K mg base nJoin "_law_joined" (defScope sJoin) f cdv A outer s H E)) (ks := ["flow", "place"]) (nm := "with_slot") rfl rfl (er_var rfl SL.R1) (ea_cons (ev_var rfl) (ea_cons (ev_var rfl) ea_nil)) pl1 oy) (rw_ eL)) (by rw [decide_eq_true rfl])) fun _ => ev_is (ev_eqSL (K := K) ok1 ok1 (ed_SL (el_slotsR (X := (cxOf CX0 P w K mg base nJoin "_law_joined" (defScope sJoin) f cdv A outer s H E)) G (er_var rfl SL.R1))) (ed_SP (ev_var rfl) (sq_of SL.A))) (by rw [decide_eq_true rfl])) rfl) fun HM eM => ?_
    have SM := SL.ext eM
    exact k HM SM.kp (SM.P.le (by omega))
end
end K23
namespace K23
open PySem L2 Evl Gr StX EnT ClX OpX RdX OwC StS ClK EqT ItX OwX LamX EXC
/-! ### law -/
abbrev sLaw : Stmt := top 28
abbrev nLaw : List Str := ["_law_script", "_law_pen_here", "_law_turn", "_law_some", "_law_more", "_law_long", "_law_heard_here"]
abbrev qLaw : Str := ("law" : Str) ++ ".<locals>." ++ "<lambda>"
def spLaw (K : PySem.W.Frag) (T : List (Addr × Str)) : Sp := fun vs H Q _ => ∃ (a : Addr) (ns : List Int), vs = [.ref a] ∧ SqL K H a (vI ns) ∧ ns.length ≤ 63 ∧ Tabs T H ∧ ∀ H', Q (.bl true) H'
theorem scLaw : FnScope nLaw ["_law_script"] (defScope sLaw) := ⟨rfl, rfl, rfl, by decide +kernel, rfl, by decide +kernel, by decide +kernel⟩
theorem tabs_keep {T : List (Addr × Str)} {H H' : Hp} {p l : Addr} {cells : List Int} {m : Nat} (h : Tabs T H) (hP : PenAt H p l cells m) (k : Keep p H H') : Tabs T H' := fun q hq => by
  obtain ⟨_, _, hp, _⟩ := hP
  obtain ⟨ps, h1, h2, h3⟩ := h q hq
  refine ⟨ps, k _ _ h1 (fun z => by rw [z, hp] at h1; cases h1), h2, fun pos cv hc => ?_⟩
  obtain ⟨c, e1, e2⟩ := h3 pos cv hc
  exact ⟨c, e1, k _ _ e2 (fun z => by rw [z, hp] at e2; unfold CodeO at e2; cases e2)⟩
theorem or_no {t u : TT} {σ : L2.St} {H : Hp} {Q : Bool → Hp → Prop} (h : EvT t σ H false) (k : ∀ H1, Ex H H1 → u σ H1 Q) : tOr t u σ H Q := h H (Ex.refl H) _ fun H1 e => iteF (k H1 e)
theorem sqt_extN {K : PySem.W.Frag} {H H' : Hp} {a : Addr} {xs : List V} (e : ExtN H H') (h : SqT K H a xs) : SqT K H' a xs := by
  rcases h with (h | ⟨o, h⟩) | h
  · exact .inl (.inl (e _ _ h fun ps z => by cases z))
  · exact .inl (.inr ⟨o, e _ _ h fun ps z => by cases z⟩)
  · exact .inr h
theorem RdAt.extN {K : PySem.W.Frag} {C o : Addr} {H H' : Hp} {l : List Slot} (e : ExtN H H') (h : RdAt K C H o l) : RdAt K C H' o l := by
  obtain ⟨dx, q, h1, h2, h3⟩ := h
  exact ⟨dx, q, e _ _ h1 (fun ps z => by cases z), sqt_extN e h2, h3⟩
theorem tabs_upd {T : List (Addr × Str)} {H : Hp} {g : Addr} {xs : List V} {o : HO} (h : Tabs T H) (hg : H g = some (.lst xs)) : Tabs T (upd H g o) := fun q hq => by
  obtain ⟨ps, h1, h2, h3⟩ := h q hq
  refine ⟨ps, by rw [upd_ne (fun z => by rw [z, hg] at h1; cases h1)]; exact h1, h2, fun pos cv hc => ?_⟩
  obtain ⟨c, e1, e2⟩ := h3 pos cv hc
  exact ⟨c, e1, by rw [upd_ne (fun z => by rw [z, hg] at e2; unfold CodeO at e2; cases e2)]; exact e2⟩
theorem RdAt.updL {K : PySem.W.Frag} {C o g : Addr} {H : Hp} {l : List Slot} {xs : List V} {u : HO} (h : RdAt K C H o l) (hg : H g = some (.lst xs)) : RdAt K C (upd H g u) o l := by
  obtain ⟨dx, q, h1, h2, h3⟩ := h
  exact ⟨dx, q, by rw [upd_ne (fun z => by rw [z, hg] at h1; cases h1)]; exact h1, sqt_updL h2 hg, h3⟩
theorem s_ifE {c : TT} {tu : TS} {D : Ends} {σ : L2.St} {H : Hp} (h : c σ H fun b H1 => if b = true then tu D σ H1 else D.nx σ H1) : tIfS c tu tNext D σ H := h
theorem many_hd {cM : Addr} {H : Hp} {Q : VK} (k : ∀ l H2, Ex H H2 → H2 l = some (.tup heardV) → Q (.ref l) H2) : Many cM H (HdE cM Q) := fun d H' _ e hd => ⟨rfl, d, rfl, hd, fun H2 l e2 h2 => k l H2 (e.trans e2) h2⟩
section
variable {X : Cx} {C cM : Addr} {T : List (Addr × Str)} {σ : L2.St} {H : Hp} {ta tb : TE} {l m : List Slot} {Q : VK} {o : Addr}
theorem er_ringL (h : EvL ta σ H (vS l)) (l1 : 1 ≤ l.length) (l24 : l.length ≤ 24) (ok : Oks l) : EvR X.K C (tCall (spRing X.K C) [] E0 (tCons ta tNil)) σ H l := fun H1 e Q k =>
  h H1 e _ fun p H2 hp e2 h2 => ⟨p, l, rfl, sq_of h2, l1, l24, ok, fun o H3 e3 r => k o H3 (e2.trans e3) r⟩
/-- too many slots by + -/
theorem lam_add (ta tb : XK → TE) (ha : ∀ E H1, ExtN H H1 → EvR X.K C (ta E) σ H1 l) (hb : ∀ E H1, ExtN H H1 → EvR X.K C (tb E) σ H1 m) (hz : 24 < (l ++ m).length) (hT : Tabs T H) (k : ∀ r H2, ExtN H H2 → Tabs T H2 → H2 r = some (.tup heardV) → Q (.ref r) H2) :
    tLam T (THd cM) (fun E => tOp (OpX.rS X C (spAdd X.K C cM) E) (ta E) (tb E)) σ H Q := ⟨hT, fun H1 x1 T1 =>
  ha _ H1 x1 H1 (Ex.refl H1) _ fun o H2 e2 r => hb _ H1 x1 H2 e2 _ fun u H3 e3 r3 => ⟨o, u, rfl, rfl, rd_insC (r.mono e3), rd_insC r3, o, u, l, m, rfl, r.mono e3, r3, fun z => absurd z (by omega), fun _ => many_hd fun p H4 e4 h4 => k p H4 (x1.trans (.of ((e2.trans e3).trans e4))) (T1.ext ((e2.trans e3).trans e4)) h4⟩⟩
theorem lam_mul (n : Nat) (ta : XK → TE) (ha : ∀ E H1, ExtN H H1 → EvR X.K C (ta E) σ H1 l) (n1 : 1 ≤ n) (n24 : n ≤ 24) (hz : 24 < n * l.length) (h100 : n * l.length ≤ 100) (hT : Tabs T H) (k : ∀ r H2, ExtN H H2 → Tabs T H2 → H2 r = some (.tup heardV) → Q (.ref r) H2) :
    tLam T (THd cM) (fun E => tOp (OpX.rI X C (spMul X.K C cM) E) (ta E) (tC (.int (n : Int)))) σ H Q := ⟨hT, fun H1 x1 T1 =>
  ha _ H1 x1 H1 (Ex.refl H1) _ fun o H2 e2 r => ⟨o, (n : Int), rfl, rfl, rd_insC r, o, l, n, rfl, r, n1, n24, h100, fun z => absurd z (by omega), fun _ => many_hd fun p H4 e4 h4 => k p H4 (x1.trans (.of (e2.trans e4))) (T1.ext (e2.trans e4)) h4⟩⟩
theorem lam_rmul (n : Nat) (ta : XK → TE) (ha : ∀ E H1, ExtN H H1 → EvR X.K C (ta E) σ H1 l) (n1 : 1 ≤ n) (n24 : n ≤ 24) (hz : 24 < n * l.length) (h100 : n * l.length ≤ 100) (hT : Tabs T H) (k : ∀ r H2, ExtN H H2 → Tabs T H2 → H2 r = some (.tup heardV) → Q (.ref r) H2) :
    tLam T (THd cM) (fun E => tOp (OpX.rR X C (spMul X.K C cM) E) (tC (.int (n : Int))) (ta E)) σ H Q := ⟨hT, fun H1 x1 T1 =>
  ha _ H1 x1 H1 (Ex.refl H1) _ fun o H2 e2 r => ⟨o, (n : Int), rfl, rfl, rd_insC r, o, l, n, rfl, r, n1, n24, h100, fun z => absurd z (by omega), fun _ => many_hd fun p H4 e4 h4 => k p H4 (x1.trans (.of (e2.trans e4))) (T1.ext (e2.trans e4)) h4⟩⟩
end
abbrev hdD : PyData := .tuple [.str "many", .str "24"]
theorem ev_lenR {X : Cx} {C : Addr} {σ : L2.St} {H : Hp} {ta : TE} {l : List Slot} (ha : EvR X.K C ta σ H l) : Ev (tCB (rLenO X C (spLen X.K C) E0) (tCons ta tNil)) σ H (.int (l.length : Int)) := fun H1 e Q q =>
  ha H1 e _ fun o H2 e2 r => ⟨o, rfl, rd_insC r, o, l, rfl, r, fun H3 e3 => ⟨_, rfl, by omega, by have := r.lens; omega, q H3 (e2.trans e3)⟩⟩
theorem ed_three {K : PySem.W.Frag} {σ : L2.St} {H : Hp} : EvD K (tOp rRep (tLst (tCons (tTup (tCons (tC (.str "many")) (tCons (tC (.str "24")) tNil))) tNil)) (tC (.int 3))) σ H (.list [hdD, hdD, hdD]) := fun H1 e Q q =>
  op_i (lst_i (cons_i (tup_i (cons_i (c_i (cons_i (c_i ⟨by show 2 ≤ sizeLine; decide, fun t ht => ⟨by show 1 ≤ sizeLine; decide, fun g hg => c_i ⟨g, 3, [.ref t], rfl, rfl, upd_same, by decide, by decide, by show 1 * 3 ≤ sizeLine; decide, fun p hp => by
    have e2 := (Ex.new (o := .tup [.str "many", .str "24"]) ht).trans ((Ex.new (o := .lst [.ref t]) hg).trans (Ex.new (o := .lst (List.replicate (3 : Int).toNat [V.ref t]).flatten) hp))
    have ht2 := ((Ex.new (o := .lst [.ref t]) hg).trans (Ex.new (o := .lst (List.replicate (3 : Int).toNat [V.ref t]).flatten) hp)) t (.tup [.str "many", .str "24"]) upd_same
    refine q _ _ e2 (.lst (sq_of upd_same) ?_)
    have d : Dp K (upd (upd (upd H1 t (.tup [.str "many", .str "24"])) g (.lst [.ref t])) p (.lst (List.replicate (3 : Int).toNat [V.ref t]).flatten)) (.ref t) hdD := .tup (st_of ht2) (.cons (.str _) (.cons (.str _) .nil))
    exact .cons d (.cons d (.cons d .nil))⟩⟩⟩)))))))
theorem pe_heardG {X : Cx} {T : List (Addr × Str)} {scope : Scope} {params : Arguments} {body : Expr} {c Pc fH B cM : Addr} {fdH : FuncData} {t : XK → TE} {p lpos pos : PySem.Pos}
    (hg : Gl X "_law_heard") (gH : X.mg "_law_heard" = some (.ref fH)) (FH : Fun X.K "_law_heard" "_law_heard" sHd fH fdH) (bH : Binds X.K fdH ["_law_ask"] []) (HK : HdK X.K X.mg B cM)
    (TB : TabB X.base X.mg c Pc) (hcode : X.env.code = .ref c) (hT : (Pc, X.env.qual ++ "<lambda>") ∈ T) (hu : ∀ p ∈ T, p.1 = Pc → p.2 = X.env.qual ++ "<lambda>") (hr : Room 7 X.A) (L : LamS X.env.scope scope) (hdef : defaultsOf params X.env = ([], []))
    (hbind : ∀ (q : Str) (cl : List (Str × Addr)) (pm cv ctv : Value), bindArgs (PySem.W.kla_fn "<lambda>" q params body scope cl pm cv ctv) ⟨[], []⟩ = pure [])
    (hbody : ∀ (A : Around) (outer : List Env) (s : Shared) (H : Hp) (E : XK) (f c' : Addr), Room 5 (A.deeper (lamEnv X scope s.heap.objs.size f c')) → PE (lamCx X A outer s H E scope f c') body (t E)) :
    PE X (.Call (.Name "_law_heard" p) [.Lambda params body scope lpos] [] pos) (tLam T (THd cM) t) := by
  obtain ⟨ocH, odH, kVH, docH, pmH, anH, cdH, ctH, oslH, rfl, lkH, hcH⟩ := FH.ex
  exact pe_lamcall (T := T) (TT := THd cM) (k := 5) (Ng := nHd) (a := "_law_ask") hg gH FH.kp lkH hcH bH scHd rfl (.inl rfl) (heard_gives HK) TB hcode hT hu hr L hdef hbind hbody
theorem h24 : (Str.ofString (toString (24 : Int)) : Str) = "24" := by decide +kernel
theorem dp_heard {K : PySem.W.Frag} {H : Hp} {r : Addr} (h : H r = some (.tup heardV)) : Dp K H (.ref r) hdD := .tup (st_of h) (.cons (.str _) (by
  rw [h24]
  exact .cons (.str _) .nil))
structure LawK (P : Program) (w : World) (K : PySem.W.Frag) (mg : Str → Option Value) (base : Heap) (C CM fLen fI fKept fJoin fSl fPe : Addr) (eKept eJoin eSl ePe : FuncData) : Prop where
  M : Mk K C fI
  init : FnR P w K mg base (L2.CX P w) 3 fI (spInitA K C CM)
  hLen : Has K C fLen "__len__"
  len : FnR P w K mg base CX0 1 fLen (spLen K C)
  kept : FnOk P w K mg base CX0 5 fKept eKept ["_law_made", "_law_some"] (spKept K C)
  kKept : PySem.W.keepIn K (.ref fKept) = true
  bKept : Binds K eKept ["_law_made", "_law_some"] []
  gKept : mg "_law_kept" = some (.ref fKept)
  join : FnOk P w K mg base CX0 7 fJoin eJoin ["_law_pen_here", "_law_some", "_law_more"] spJoin
  kJoin : PySem.W.keepIn K (.ref fJoin) = true
  bJoin : Binds K eJoin ["_law_pen_here", "_law_some", "_law_more"] []
  gJoin : mg "_law_joined" = some (.ref fJoin)
  slots : FnOk P w K mg base CX0 3 fSl eSl ["_law_pen_here", "_law_most"] spSlots
  kSlots : PySem.W.keepIn K (.ref fSl) = true
  bSlots : Binds K eSl ["_law_pen_here", "_law_most"] []
  gSlots : mg "_law_slots" = some (.ref fSl)
  pen : FnOk P w K mg base CX0 1 fPe ePe ["_law_script"] (spPen K)
  kPen : PySem.W.keepIn K (.ref fPe) = true
  bPen : Binds K ePe ["_law_script"] []
  gPen : mg "_law_pen" = some (.ref fPe)
section
variable {P : Program} {w : World} {K : PySem.W.Frag} {mg : Str → Option Value} {base : Heap}
theorem ok_Law {C CM B f c Pc fLen fI fKept fJoin fSl fPe fHd fAdd fMul fRmu fShl fEq fLike fWith fRing fD fP : Addr} {mc : Value} {fd eKept eJoin eSl ePe eHd eLike eWith eRing eD eP : FuncData} {T : List (Addr × Str)} (F : FunC K "law" "law" sLaw f fd c) (TB : TabB base mg c Pc) (hT : (Pc, qLaw) ∈ T) (hu : ∀ p ∈ T, p.1 = Pc → p.2 = qLaw)
    (TT : GlbT mg) (TK : GlbK mg) (N : RName K mg C mc) (HK : HdK K mg B CM) (FH : Fun K "_law_heard" "_law_heard" sHd fHd eHd) (bH : Binds K eHd ["_law_ask"] []) (gH : mg "_law_heard" = some (.ref fHd))
    (J : JoinK P w K mg base C CM fAdd fMul fRmu fShl fEq fLike fWith fRing fD fP eLike eWith eRing eD eP) (LK : LawK P w K mg base C CM fLen fI fKept fJoin fSl fPe eKept eJoin eSl ePe) :
    FnOk P w K mg base CX0 9 f fd ["_law_script"] (spLaw K T) := by
  have O := J.O
  have M := J.M
  obtain ⟨rc, hrc, hp⟩ := O.rsh
  obtain ⟨fo, hfo⟩ := O.int1
  obtain ⟨ro, hro⟩ := O.int2
  obtain ⟨fo', hfo'⟩ := M.mu1
  obtain ⟨ro', hro'⟩ := M.mu2
  obtain ⟨mu, cm⟩ := N.most
  refine F.ok scLaw (fun vs H Q E h => ?_) (fun A outer s H vs Q E hr h => ?_)
  · obtain ⟨a, ns, rfl, _⟩ := h
    rfl
  · obtain ⟨a, ns, rfl, hS, h63, tabs, k⟩ := h
    have r1 := hr.mono (show 1 ≤ 8 by decide)
    have r2 := hr.mono (show 2 ≤ 8 by decide)
    have r3 := hr.mono (show 3 ≤ 8 by decide)
    have r4 := hr.mono (show 4 ≤ 8 by decide)
    have r5 := hr.mono (show 5 ≤ 8 by decide)
    have r6 := hr.mono (show 6 ≤ 8 by decide)
    have r7 := hr.mono (show 7 ≤ 8 by decide)
    refine ⟨_, pss_cons (ps_set (i := 1) scLaw.nd rfl (.inl rfl) (pe_call LK.pen r1 (by rfl) LK.gPen LK.kPen LK.bPen .nil pass0 (pa_cons (pv 0) pa_nil)))
      (pss_cons (ps_for PassesOwn.never rfl (pi_range1 (by rfl) TK.range (pa_cons pe_int pa_nil)) (pg_name (i := 2) scLaw.nd rfl (.inl rfl))
        (pss_cons (ps_par (i := 3) (j := 4) rfl scLaw.nd rfl rfl (by decide) rfl rfl (pa_cons (pe_call LK.slots r3 (by rfl) LK.gSlots LK.kSlots LK.bSlots .nil pass0 (pa_cons (pv 1) (pa_cons pe_int pa_nil))) (pa_cons (pe_call LK.slots r3 (by rfl) LK.gSlots LK.kSlots LK.bSlots .nil pass0 (pa_cons (pv 1) (pa_cons pe_int pa_nil))) pa_nil)) rfl)
        (pss_one (ps_if (PW.pt (pw_or (pt_not (pt_val (pe_call LK.kept r5 (by rfl) LK.gKept LK.kKept LK.bKept .nil pass0 (pa_cons (pe_call J.ring r6 (by rfl) J.gRing J.kRing J.bRing .nil pass0 (pa_cons (pv 3) pa_nil)) (pa_cons (pv 3) pa_nil))))) (pw_or1 (pt_not (pt_val (pe_call LK.join r7 (by rfl) LK.gJoin LK.kJoin LK.bJoin .nil pass0 (pa_cons (pv 1) (pa_cons (pv 3) (pa_cons (pv 4) pa_nil))))))))) (pss_one (ps_ret pe_bl)) pss_nil))))
      (pss_cons (ps_if (PW.pt (pw_or (pt_cmpR (op_neO (E := E0) O.eq M.ne M.ob J.eq r2 pass0) (pe_makeR (E := E0) LK.M LK.init r4 (by rfl) N.g (passN rfl rfl) (pa_cons pe_str (pa_cons pe_non (pa_cons pe_str pa_nil)))) (pe_call J.ring r6 (by rfl) J.gRing J.kRing J.bRing .nil pass0 (pa_cons (pe_lst (pa_cons pe_str (pa_cons pe_non (pa_cons pe_str pa_nil)))) pa_nil)) (nomark _)) (pw_or (pt_cmpR op_ne (pe_cval (pe_glob (v := .ref C) (by rfl) N.g (by rfl))) pe_int (nomark _)) (pw_or1 (pt_cmpR (op_neO (E := E0) O.eq M.ne M.ob J.eq r2 pass0) (pe_makeR (E := E0) LK.M LK.init r4 (by rfl) N.g (passN rfl rfl) (pa_cons pe_str pa_nil)) (pe_op (op_binI (E := E0) (op := .LShift) O.first O.shl hrc hp hfo hro O.sub J.shl r5 pass0) (pe_makeR (E := E0) LK.M LK.init r4 (by rfl) N.g (passN rfl rfl) (pa_cons pe_str pa_nil)) pe_int) (nomark _)))))) (pss_one (ps_ret pe_bl)) pss_nil)
      (pss_cons (ps_set (i := 5) scLaw.nd rfl (.inr rfl) (pe_op (op_binI (E := E0) (op := .Mult) O.first M.mul M.rmul.at_ (.inr ⟨_, rfl⟩) hfo' hro' O.sub J.mul r5 (passN rfl rfl)) (pe_makeR (E := E0) LK.M LK.init r4 (by rfl) N.g (passN rfl rfl) (pa_cons pe_str (pa_cons pe_str pa_nil))) pe_int))
      (pss_cons (ps_set (i := 6) scLaw.nd rfl (.inl rfl) (pe_lst (pa_cons (pe_heardG (X := (cxOf CX0 P w K mg base nLaw "law" (defScope sLaw) f (.ref c) A outer s H E).nox) (T := T) (t := fun E2 => tOp (OpX.rS ((cxOf CX0 P w K mg base nLaw "law" (defScope sLaw) f (.ref c) A outer s H E).nox) C (spAdd K C CM) E2) (tVar 5) (tMakeR C (spInitA K C CM) E2 (tCons (tC .non) tNil))) (by rfl) gH FH bH HK TB rfl hT hu r7 (lamS_by (sc := defScope sLaw) (by decide +kernel)) rfl (fun _ _ _ _ _ => rfl) (fun A2 outer2 s2 H2 E2 f2 c2 hr2 => pe_op (show OpR _ _ (OpX.rS ((cxOf CX0 P w K mg base nLaw "law" (defScope sLaw) f (.ref c) A outer s H E).nox) C (spAdd K C CM) E2) from op_binS (E := E2) (op := .Add) O.first M.add J.add hr2 (passes_call (takes_of rfl rfl rfl rfl) fun _ _ _ _ z => z)) (pv 5) (pe_makeR (E := E2) LK.M LK.init (hr2.mono (show 4 ≤ 5 by decide)) rfl N.g (passes_call (takes_of rfl rfl rfl rfl) fun _ _ _ _ z => z) (pa_cons pe_non pa_nil)))) pa_nil)))
      (pss_cons (ps_expr (pe_bm PySem.F.plainAttrs_list PySem.F.slot_list_append PySem.F.type_list_append mt_append (pv 6) (pa_cons (pe_heardG (X := (cxOf CX0 P w K mg base nLaw "law" (defScope sLaw) f (.ref c) A outer s H E).nox) (T := T) (t := fun E2 => tOp (OpX.rI ((cxOf CX0 P w K mg base nLaw "law" (defScope sLaw) f (.ref c) A outer s H E).nox) C (spMul K C CM) E2) (tMakeR C (spInitA K C CM) E2 (tCons (tC (.str "a")) (tCons (tC (.str "b")) tNil))) (tC (.int (13 : Nat)))) (by rfl) gH FH bH HK TB rfl hT hu r7 (lamS_by (sc := defScope sLaw) (by decide +kernel)) rfl (fun _ _ _ _ _ => rfl) (fun A2 outer2 s2 H2 E2 f2 c2 hr2 => pe_op (show OpR _ _ (OpX.rI ((cxOf CX0 P w K mg base nLaw "law" (defScope sLaw) f (.ref c) A outer s H E).nox) C (spMul K C CM) E2) from op_binI (E := E2) (op := .Mult) O.first M.mul M.rmul.at_ (.inr ⟨_, rfl⟩) hfo' hro' O.sub J.mul hr2 (passes_call (takes_of rfl rfl rfl rfl) fun _ _ _ _ z => z)) (pe_makeR (E := E2) LK.M LK.init (hr2.mono (show 4 ≤ 5 by decide)) rfl N.g (passes_call (takes_of rfl rfl rfl rfl) fun _ _ _ _ z => z) (pa_cons pe_str (pa_cons pe_str pa_nil))) pe_int)) pa_nil)))
      (pss_cons (ps_expr (pe_bm PySem.F.plainAttrs_list PySem.F.slot_list_append PySem.F.type_list_append mt_append (pv 6) (pa_cons (pe_heardG (X := (cxOf CX0 P w K mg base nLaw "law" (defScope sLaw) f (.ref c) A outer s H E).nox) (T := T) (t := fun E2 => tOp (OpX.rR ((cxOf CX0 P w K mg base nLaw "law" (defScope sLaw) f (.ref c) A outer s H E).nox) C (spMul K C CM) E2) (tC (.int (24 : Nat))) (tMakeR C (spInitA K C CM) E2 (tCons (tC (.str "a")) (tCons (tC .non) tNil)))) (by rfl) gH FH bH HK TB rfl hT hu r7 (lamS_by (sc := defScope sLaw) (by decide +kernel)) rfl (fun _ _ _ _ _ => rfl) (fun A2 outer2 s2 H2 E2 f2 c2 hr2 => pe_op (show OpR _ _ (OpX.rR ((cxOf CX0 P w K mg base nLaw "law" (defScope sLaw) f (.ref c) A outer s H E).nox) C (spMul K C CM) E2) from op_rmul (E := E2) O.first M.mul.at_ M.rmul M.sub2 J.rmul hr2 (passes_call (takes_of rfl rfl rfl rfl) fun _ _ _ _ z => z)) pe_int (pe_makeR (E := E2) LK.M LK.init (hr2.mono (show 4 ≤ 5 by decide)) rfl N.g (passes_call (takes_of rfl rfl rfl rfl) fun _ _ _ _ z => z) (pa_cons pe_str (pa_cons pe_non pa_nil))))) pa_nil)))
      (pss_one (ps_ret (pe_and (pe_cmpR (op_eqD hr.units) (pv 6) (pe_op op_rep (pe_lst (pa_cons (pe_tup (pa_cons pe_str (pa_cons pe_str pa_nil))) pa_nil)) pe_int) (nomark _)) (pe_and (pe_cmpR op_eq (pe_callB (call_lenO (E := E0) LK.hLen LK.len r2 pass0) (by rfl) TT.len PySem.boot_len (pa_cons (pe_op (op_rmul (E := E0) O.first M.mul.at_ M.rmul M.sub2 J.rmul r5 (passN rfl rfl)) pe_int (pe_makeR (E := E0) LK.M LK.init r4 (by rfl) N.g (passN rfl rfl) (pa_cons pe_str pa_nil))) pa_nil)) pe_int (nomark _)) (pe_one (pe_cmpR op_eq (pe_callB (call_lenO (E := E0) LK.hLen LK.len r2 pass0) (by rfl) TT.len PySem.boot_len (pa_cons (pv 5) pa_nil)) pe_int (nomark _))))))))))))), ?_⟩
    refine ⟨_, rfl, a, ns, rfl, hS, h63, fun p l H1 _ _ e1 hP => ?_⟩
    have T1 := tabs.ext e1
    refine ⟨5, rfl, by decide, by decide, for_range (lo := 0) (n := 5) (fun i σ' H' => (∃ x2 x3 x4 : Option V, σ' = [some (.ref a), some (.ref p), x2, x3, x4, none, none]) ∧ PenAt H' p l ns (40 * i) ∧ Tabs T H') ⟨⟨none, none, none, rfl⟩, hP, T1⟩ ?_ ?_⟩
    · rintro i σ' H2 hi ⟨⟨x2, x3, x4, rfl⟩, P2, T2⟩
      show tSeq _ _ _ [some (.ref a), some (.ref p), some (.int (0 + (i : Int))), x3, x4, none, none] H2
      refine q_par (cons_i ⟨_, rfl, p, l, ns, 40 * i, 12, rfl, P2, by omega, h63, by decide, by decide, fun b1 g1 H3 hb1 k3 P3 A3 l1 l12 ab1 => cons_i ⟨_, rfl, p, l, ns, 40 * i + 14, 12, rfl, P3, by omega, h63, by decide, by decide, fun b2 g2 H4 hb2 k4 P4 B4 m1 m12 ab2 => ⟨_, _, rfl, ?_⟩⟩⟩)
      have A4 := lstS_keep P3 k4 A3
      have T4 := tabs_keep (tabs_keep T2 P2 k3) P3 k4
      have ok1 := abc_ok ab1
      have ok2 := abc_ok ab2
      show tIfS _ _ _ _ [some (.ref a), some (.ref p), some (.int (0 + (i : Int))), some (.ref b1), some (.ref b2), none, none] H4
      have kept : Ev (tCall (spKept K C) [] E0 (tCons (tCall (spRing K C) [] E0 (tCons (tVar 3) tNil)) (tCons (tVar 3) tNil))) [some (.ref a), some (.ref p), some (.int (0 + (i : Int))), some (.ref b1), some (.ref b2), none, none] H4 (.bl true) := fun H1 e Q q =>
        er_ring (X := ((cxOf CX0 P w K mg base nLaw "law" (defScope sLaw) f (.ref c) A outer s H E).nox)) (p := b1) (ta := tVar 3) (ev_var rfl) (sq_of A4) l1 (by omega) ok1 H1 e _ fun o H2 e2 R => ⟨_, rfl, o, b1, g1, rfl, R, sq_of ((e.trans e2) _ _ A4), fun H3 e3 => q H3 (e2.trans e3)⟩
      refine s_ifE (or_no (et_is (et_not (et_B kept)) rfl) fun H5 e5 => ?_)
      exact ⟨_, rfl, _, rfl, _, rfl, p, l, b1, b2, ns, 40 * i + 14 + 14, g1, g2, rfl, P4.mono e5 (Nat.le_refl _), by omega, h63, e5 _ _ A4, e5 _ _ B4, l1, l12, m1, m12, ok1, ok2, fun H6 k6 P6 => ⟨true, rfl, iteF ⟨⟨_, _, _, rfl⟩, P6.le (by omega), tabs_keep (T4.ext e5) (P4.mono e5 (Nat.le_refl _)) k6⟩⟩⟩
    rintro σ' H2 ⟨⟨x2, x3, x4, rfl⟩, _, T2⟩
    have okc : Oks [some "a", none, some "b"] := show ∀ x ∈ ([some "a", none, some "b"] : List Slot), okB x = true by decide +kernel
    have oka : Oks [some "a"] := show ∀ x ∈ ([some "a"] : List Slot), okB x = true by decide +kernel
    have okab : Oks [some "a", some "b"] := show ∀ x ∈ ([some "a", some "b"] : List Slot), okB x = true by decide +kernel
    have okan : Oks [some "a", none] := show ∀ x ∈ ([some "a", none] : List Slot), okB x = true by decide +kernel
    have okn : Oks [none] := show ∀ x ∈ ([none] : List Slot), okB x = true by decide +kernel
    have mka : ∀ {σ : L2.St} {H : Hp} {E : XK}, EvR K C (tMakeR C (spInitA K C CM) E (tCons (tC (.str "a")) tNil)) σ H [some "a"] := er_make (l := [some "a"]) (ea_cons ev_c ea_nil) (by decide) (by decide) oka
    have mkab : ∀ {σ : L2.St} {H : Hp} {E : XK}, EvR K C (tMakeR C (spInitA K C CM) E (tCons (tC (.str "a")) (tCons (tC (.str "b")) tNil))) σ H [some "a", some "b"] := er_make (l := [some "a", some "b"]) (ea_cons ev_c (ea_cons ev_c ea_nil)) (by decide) (by decide) okab
    have mkan : ∀ {σ : L2.St} {H : Hp} {E : XK}, EvR K C (tMakeR C (spInitA K C CM) E (tCons (tC (.str "a")) (tCons (tC .non) tNil))) σ H [some "a", none] := er_make (l := [some "a", none]) (ea_cons ev_c (ea_cons ev_c ea_nil)) (by decide) (by decide) okan
    have mkn : ∀ {σ : L2.St} {H : Hp} {E : XK}, EvR K C (tMakeR C (spInitA K C CM) E (tCons (tC .non) tNil)) σ H [none] := er_make (l := [none]) (ea_cons ev_c ea_nil) (by decide) (by decide) okn
    have t1 := et_ne (ev_neR (X := ((cxOf CX0 P w K mg base nLaw "law" (defScope sLaw) f (.ref c) A outer s H E).nox)) (σ := [some (.ref a), some (.ref p), x2, x3, x4, none, none]) (H := H2) (er_make (C := C) (CM := CM) (E := E0) (l := [some "a", none, some "b"]) (ea_cons ev_c (ea_cons ev_c (ea_cons ev_c ea_nil))) (by decide) (by decide) okc) (er_ringL (X := ((cxOf CX0 P w K mg base nLaw "law" (defScope sLaw) f (.ref c) A outer s H E).nox)) (l := [some "a", none, some "b"]) (el_S (l := [some "a", none, some "b"]) (ea_cons ev_c (ea_cons ev_c (ea_cons ev_c ea_nil))) (by decide)) (by decide) (by decide) okc)) (decide_eq_true rfl)
    have t2 := et_ne (ev_op (σ := [some (.ref a), some (.ref p), x2, x3, x4, none, none]) (H := H2) (ev_cval (ev_c (v := .ref C)) N.rd cm) (ev_c (v := .int 24)) (rv_ne rfl)) (decide_eq_true rfl)
    have t3 := et_ne (ev_neR (X := ((cxOf CX0 P w K mg base nLaw "law" (defScope sLaw) f (.ref c) A outer s H E).nox)) (σ := [some (.ref a), some (.ref p), x2, x3, x4, none, none]) (H := H2) (mka (E := E0)) (er_shl (X := ((cxOf CX0 P w K mg base nLaw "law" (defScope sLaw) f (.ref c) A outer s H E).nox)) (tb := tC (.int 5)) (i := 5) (mka (E := E0)) (fun _ _ => ev_c) (by decide))) (decide_eq_true rfl)
    refine q_when (et_or0 t1 (et_or0 t2 t3)) (fun z => absurd z (by decide)) fun _ H3 e3 => ?_
    have T3 := T2.ext e3
    refine q_asgR (er_mulI (X := ((cxOf CX0 P w K mg base nLaw "law" (defScope sLaw) f (.ref c) A outer s H E).nox)) (CM := CM) (n := 12) (mkab (E := E0)) ev_c (by decide) (by decide) (by decide) H3 (Ex.refl H3) _ fun o H4 e4 R4 => ?_)
    have T4 := T3.ext e4
    have len : (rep [some "a", some "b"] 12).length = 24 := by rw [rep_len]; rfl
    generalize rep [some "a", some "b"] 12 = long at R4 len
    show tSeq _ _ _ [some (.ref a), some (.ref p), x2, x3, x4, some (.ref o), none] H4
    refine q_asgR (lst_i (cons_i (lam_add (X := ((cxOf CX0 P w K mg base nLaw "law" (defScope sLaw) f (.ref c) A outer s H E).nox)) (cM := CM) (fun E2 => tVar 5) (fun E2 => tMakeR C (spInitA K C CM) E2 (tCons (tC .non) tNil)) (fun _ H1 x1 => er_var rfl (RdAt.extN x1 R4)) (fun _ _ _ => mkn) (by rw [List.length_append, len]; decide) T4 fun r1 H5 x5 T5 h5 => ⟨by show 1 ≤ sizeLine; decide, fun g hg => ?_⟩)))
    have e6 := Ex.new (o := .lst [.ref r1]) hg
    have g6 : upd H5 g (.lst [.ref r1]) g = some (.lst [.ref r1]) := upd_same
    have R6 := (RdAt.extN x5 R4).mono e6
    have h6 := e6 _ _ h5
    have T6 := T5.ext e6
    show tSeq _ _ _ [some (.ref a), some (.ref p), x2, x3, x4, some (.ref o), some (.ref g)] (upd H5 g (.lst [.ref r1]))
    generalize upd H5 g (.lst [.ref r1]) = H6 at e6 g6 R6 h6 T6 ⊢
    refine ⟨_, rfl, .inl ⟨rfl, _, sq_of g6⟩, ?_⟩
    refine cons_i (lam_mul (X := ((cxOf CX0 P w K mg base nLaw "law" (defScope sLaw) f (.ref c) A outer s H E).nox)) (cM := CM) 13 (fun E2 => tMakeR C (spInitA K C CM) E2 (tCons (tC (.str "a")) (tCons (tC (.str "b")) tNil))) (fun _ _ _ => mkab) (by decide) (by decide) (by decide) (by decide) T6 fun r2 H7 x7 T7 h7 => ?_)
    have g7 := x7 _ _ g6 fun ps z => by cases z
    have h7' := x7 _ _ h6 fun ps z => by cases z
    have R7 := RdAt.extN x7 R6
    refine ⟨g, [.ref r1], .ref r2, rfl, rfl, g7, by show 1 < sizeLine; decide, ?_⟩
    have ne1 : r1 ≠ g := fun z => by rw [← z, h7'] at g7; cases g7
    have ne2 : r2 ≠ g := fun z => by rw [← z, h7] at g7; cases g7
    have T8 := tabs_upd (o := .lst [.ref r1, .ref r2]) T7 g7
    have R8 := R7.updL (u := .lst [.ref r1, .ref r2]) g7
    have g8 : upd H7 g (.lst [.ref r1, .ref r2]) g = some (.lst [.ref r1, .ref r2]) := upd_same
    have h81 : upd H7 g (.lst [.ref r1, .ref r2]) r1 = some (.tup heardV) := by rw [upd_ne ne1]; exact h7'
    have h82 : upd H7 g (.lst [.ref r1, .ref r2]) r2 = some (.tup heardV) := by rw [upd_ne ne2]; exact h7
    show tSeq _ _ _ [some (.ref a), some (.ref p), x2, x3, x4, some (.ref o), some (.ref g)] (upd H7 g (.lst [.ref r1, .ref r2]))
    generalize upd H7 g (.lst [.ref r1, .ref r2]) = H8 at T8 R8 g8 h81 h82 ⊢
    refine ⟨_, rfl, .inl ⟨rfl, _, sq_of g8⟩, ?_⟩
    refine cons_i (lam_rmul (X := ((cxOf CX0 P w K mg base nLaw "law" (defScope sLaw) f (.ref c) A outer s H E).nox)) (cM := CM) 24 (fun E2 => tMakeR C (spInitA K C CM) E2 (tCons (tC (.str "a")) (tCons (tC .non) tNil))) (fun _ _ _ => mkan) (by decide) (by decide) (by decide) (by decide) T8 fun r3 H9 x9 T9 h9 => ?_)
    have g9 := x9 _ _ g8 fun ps z => by cases z
    have h91 := x9 _ _ h81 fun ps z => by cases z
    have h92 := x9 _ _ h82 fun ps z => by cases z
    have R9 := RdAt.extN x9 R8
    refine ⟨g, [.ref r1, .ref r2], .ref r3, rfl, rfl, g9, by show 2 < sizeLine; decide, ?_⟩
    have ne3 : r3 ≠ g := fun z => by rw [← z, h9] at g9; cases g9
    have RA := R9.updL (u := .lst [.ref r1, .ref r2, .ref r3]) g9
    have gA : upd H9 g (.lst [.ref r1, .ref r2, .ref r3]) g = some (.lst [.ref r1, .ref r2, .ref r3]) := upd_same
    have hA1 : upd H9 g (.lst [.ref r1, .ref r2, .ref r3]) r1 = some (.tup heardV) := by rw [upd_ne ne1]; exact h91
    have hA2 : upd H9 g (.lst [.ref r1, .ref r2, .ref r3]) r2 = some (.tup heardV) := by rw [upd_ne ne2]; exact h92
    have hA3 : upd H9 g (.lst [.ref r1, .ref r2, .ref r3]) r3 = some (.tup heardV) := by rw [upd_ne ne3]; exact h9
    have hd3 : SeqAt.shaped (.list [hdD, hdD, hdD]) = true := by decide +kernel
    have eq3 : PyData.eqv (.list [hdD, hdD, hdD]) (.list [hdD, hdD, hdD]) = true := by decide +kernel
    refine s_ret (σ := [some (.ref a), some (.ref p), x2, x3, x4, some (.ref o), some (.ref g)]) (H := upd H9 g (.lst [.ref r1, .ref r2, .ref r3])) (ev_is (ev_andV (a := true) (b := true) (ev_is (ev_eqD (K := K) (ed_of (ev_var rfl) fun H1 e => .lst (sq_of (e _ _ gA)) (.cons (dp_heard (e _ _ hA1)) (.cons (dp_heard (e _ _ hA2)) (.cons (dp_heard (e _ _ hA3)) .nil)))) ed_three hd3 hd3) (by rw [eq3]))
      fun _ => ev_is (ev_andV (a := true) (b := true) (ev_is (ev_op (ev_lenR (X := ((cxOf CX0 P w K mg base nLaw "law" (defScope sLaw) f (.ref c) A outer s H E).nox)) (er_mulR (X := ((cxOf CX0 P w K mg base nLaw "law" (defScope sLaw) f (.ref c) A outer s H E).nox)) (CM := CM) (n := 24) ev_c (mka (E := E0)) (by decide) (by decide) (by decide))) ev_c (rv_eq rfl)) (by rw [rep_len]; rfl)) fun _ => ev_is (ev_op (ev_lenO (X := ((cxOf CX0 P w K mg base nLaw "law" (defScope sLaw) f (.ref c) A outer s H E).nox)) (ta := tVar 5) (ev_var rfl) RA) ev_c (rv_eq rfl)) (by rw [len]; rfl)) rfl) rfl) fun H1 _ => k H1
end
end K23
namespace K23
open PySem L2 Evl Gr StX EnT ClX OpX RdX OwC StS ClK EqT ItX OwX LamX EXC
/-- a def of the text named x, its full name y, where it stands -/
structure FQ (K : PySem.W.Frag) (x y : Str) (st : Stmt) (f : Addr) : Prop where
  l : ∃ (oc : Value) (od : Option Addr) (kV doc pm : Value) (an : Option Addr) (cdv ct : Value) (osl : Array (Option Value)),
    K.lookup f = some ⟨oc, od, .func (PySem.W.fnOf x y (defArgs st) (defBody st) (defScope st) .none kV doc pm an cdv ct), osl⟩ ∧ PySem.W.codeIn K cdv y = true
  k : PySem.W.keepIn K (.ref f) = true
theorem FQ.fn {K : PySem.W.Frag} {x y : Str} {st : Stmt} {f : Addr} (h : FQ K x y st f) : ∃ fd, Fun K x y st f fd := by
  obtain ⟨oc, od, kV, doc, pm, an, cdv, ct, osl, h1, h2⟩ := h.l
  exact ⟨_, fun_mk h1 h2 h.k⟩
/-- .. with its code object at c, the table of which is at P -/
structure FC (K : PySem.W.Frag) (x : Str) (st : Stmt) (f c P : Addr) : Prop where
  l : ∃ (oc : Value) (od : Option Addr) (kV doc pm : Value) (an : Option Addr) (ct : Value) (osl : Array (Option Value)),
    K.lookup f = some ⟨oc, od, .func (PySem.W.fnOf x x (defArgs st) (defBody st) (defScope st) .none kV doc pm an (.ref c) ct), osl⟩ ∧ PySem.W.codeIn K (.ref c) x = true
  k : PySem.W.keepIn K (.ref f) = true
  t : ∃ (e : Value) (dd : Option Addr) (vs : Array Value) (sl : Array (Option Value)), K.lookup c = some ⟨e, dd, .fields vs, sl⟩ ∧ vs[11]? = some (.ref P)
theorem FC.fn {K : PySem.W.Frag} {x : Str} {st : Stmt} {f c P : Addr} (h : FC K x st f c P) : ∃ (kV doc pm : Value) (an : Option Addr) (ct : Value), FunC K x x st f (PySem.W.fnOf x x (defArgs st) (defBody st) (defScope st) .none kV doc pm an (.ref c) ct) c := by
  obtain ⟨oc, od, kV, doc, pm, an, ct, osl, h1, h2⟩ := h.l
  exact ⟨kV, doc, pm, an, ct, ⟨oc, od, kV, doc, pm, an, ct, osl, rfl, h1, h2⟩, h.k⟩
theorem FC.tab {K : PySem.W.Frag} {x : Str} {st : Stmt} {f c P : Addr} (h : FC K x st f c P) (a : PySem.W.nsIn K mainGlobals x = some (some (.ref f))) : PySem.W.tabIn K x = some (c, P) := by
  obtain ⟨oc, od, kV, doc, pm, an, ct, osl, h1, h2⟩ := h.l
  obtain ⟨e, dd, vs, sl, h3, h4⟩ := h.t
  unfold PySem.W.tabIn
  rw [a]
  show (match K.lookup f with
    | some ⟨_, _, .func fd, _⟩ => _
    | _ => none) = _
  rw [h1]
  show (match K.lookup c with
    | some ⟨_, _, .fields vs, _⟩ => _
    | _ => none) = _
  rw [h3]
  show (match (vs[11]? : Option Value) with
    | some (.ref P) => some (c, P)
    | _ => none) = _
  rw [h4]
theorem noTab {K : PySem.W.Frag} {h : Heap} {P : Addr} (X : K.In h) (n : PySem.W.noTabs K = true) (e : h.get? P = some { cls := .none, data := .fields #[] }) : K.lookup P = none := by
  cases z : K.lookup P with
  | none => rfl
  | some o =>
    have e2 := X _ _ z
    rw [e] at e2
    cases e2
    have h2 := List.all_eq_true.mp n (P, _) (PySem.W.mem_of_lookupK z)
    exact absurd (show false = true from h2) Bool.false_ne_true
theorem kit_self {K : PySem.W.Frag} {C : Addr} : PySem.W.kitOne K (.ref C) (.ref C) = some true := by
  unfold PySem.W.kitOne
  rw [if_pos (by simp)]
theorem kit_sub {K : PySem.W.Frag} {C : Addr} {t : String} {b : Bool} (m : PySem.W.kitMeta t = true) (h : PySem.W.subIn K (.ref C) (.type t) = some b) : PySem.W.kitOne K (.ref C) (.type t) = some b := by
  unfold PySem.W.kitOne PySem.W.kitCls
  rw [if_neg (by simp)]
  show (if PySem.W.kitMeta t = true then PySem.W.subIn K (.ref C) (.type t) else none) = some b
  rw [if_pos m]
  exact h
theorem kit_of_ty {K : PySem.W.Frag} {C : Addr} {t : String} (h : PySem.W.subIn K (.type t) (.ref C) = some false) (c : (PySem.W.clsIn K C).isSome = true) (ty : PySem.W.typeIn K (.ref C) = some (.type "type")) : PySem.W.kitOne K (.type t) (.ref C) = some false := by
  unfold PySem.W.kitOne PySem.W.kitCls
  rw [if_neg (by simp)]
  show (if ((PySem.W.clsIn K C).isSome && PySem.W.typeIn K (.ref C) == some (.type "type")) = true then PySem.W.subIn K (.type t) (.ref C) else none) = some false
  rw [if_pos (by rw [c, ty]; rfl)]
  exact h
theorem first_of_ty {K : PySem.W.Frag} {C : Addr} {t : String} (h : PySem.W.subIn K (.type t) (.ref C) = some false) : PySem.W.notFirst K C (.type t) = true := by
  unfold PySem.W.notFirst
  rw [h]
  simp
theorem all_mk {l : PySem.W.OpenLaw} {w : World} {K : PySem.W.Frag} {h : Heap} {mg : Str → Option Value} {fa fInt fWi fZ fNm fWo fSl fPe fDr fPi fLs fRg fHd fKp fJo fLa cLa PLa mIn mLn mIt mCo mGe mCa mOw mFl mAd mMu mRm mSh mWs mEq mLi mRd C pRd B cM fM : Addr} {mc : Value} (X : K.In h) (G : h.Ns mainGlobals mg) (hfa : mg "law" = some (.ref fa)) (hTab : ∀ x, x ∈ (["law"] : List Str) → ∀ c P, PySem.W.tabIn K x = some (c, P) → PySem.W.CodeHd h c P ∧ h.get? P = some { cls := .none, data := .fields #[] })
    (aInt : PySem.W.nsIn K mainGlobals "is_integer" = some (some (.ref fInt)))
    (hInt : FQ K "is_integer" "is_integer" (top 3) fInt)
    (aWi : PySem.W.nsIn K mainGlobals "is_within" = some (some (.ref fWi)))
    (hWi : FQ K "is_within" "is_within" (top 4) fWi)
    (aZ : PySem.W.nsIn K mainGlobals "is_from_zero" = some (some (.ref fZ)))
    (hZ : FQ K "is_from_zero" "is_from_zero" (top 5) fZ)
    (aNm : PySem.W.nsIn K mainGlobals "is_name" = some (some (.ref fNm)))
    (hNm : FQ K "is_name" "is_name" (top 6) fNm)
    (aWo : PySem.W.nsIn K mainGlobals "words_of" = some (some (.ref fWo)))
    (hWo : FQ K "words_of" "words_of" (top 15) fWo)
    (aSl : PySem.W.nsIn K mainGlobals "is_slot" = some (some (.ref fSl)))
    (hSl : FQ K "is_slot" "is_slot" (top 17) fSl)
    (aPe : PySem.W.nsIn K mainGlobals "_law_pen" = some (some (.ref fPe)))
    (hPe : FQ K "_law_pen" "_law_pen" (top 20) fPe)
    (aDr : PySem.W.nsIn K mainGlobals "_law_draw" = some (some (.ref fDr)))
    (hDr : FQ K "_law_draw" "_law_draw" (top 21) fDr)
    (aPi : PySem.W.nsIn K mainGlobals "_law_pick" = some (some (.ref fPi)))
    (hPi : FQ K "_law_pick" "_law_pick" (top 22) fPi)
    (aLs : PySem.W.nsIn K mainGlobals "_law_slots" = some (some (.ref fLs)))
    (hLs : FQ K "_law_slots" "_law_slots" (top 23) fLs)
    (aRg : PySem.W.nsIn K mainGlobals "_law_ring" = some (some (.ref fRg)))
    (hRg : FQ K "_law_ring" "_law_ring" (top 24) fRg)
    (aHd : PySem.W.nsIn K mainGlobals "_law_heard" = some (some (.ref fHd)))
    (hHd : FQ K "_law_heard" "_law_heard" (top 25) fHd)
    (aKp : PySem.W.nsIn K mainGlobals "_law_kept" = some (some (.ref fKp)))
    (hKp : FQ K "_law_kept" "_law_kept" (top 26) fKp)
    (aJo : PySem.W.nsIn K mainGlobals "_law_joined" = some (some (.ref fJo)))
    (hJo : FQ K "_law_joined" "_law_joined" (top 27) fJo)
    (aLa : PySem.W.nsIn K mainGlobals "law" = some (some (.ref fLa)))
    (hLa : FC K "law" (top 28) fLa cLa PLa)
    (hNT : PySem.W.noTabs K = true)
    (aC : PySem.W.nsIn K mainGlobals "Round" = some (some (.ref C)))
    (rd : PySem.W.readsIn K C mc = true)
    (ga : PySem.W.specialIn K (.ref C) "__getattribute__" = some (some (.builtin "type.__getattribute__")))
    (most : ∃ t, PySem.W.findCls K (.ref C) mc "MOST" = some (.val (.int 24 t)))
    (cls : Cls K C)
    (nsl : NoAttr K C "slots")
    (makes : PySem.W.makesIn K C = true)
    (kC : PySem.W.keepIn K (.ref C) = true)
    (aIn : PySem.W.findIn K (.ref C) "__init__" = some (some (.ref mIn)))
    (tIn : PySem.W.isFn K (.ref mIn) = true)
    (hIn : FQ K "__init__" "Round.__init__" (sRd 1) mIn)
    (aLn : PySem.W.findIn K (.ref C) "__len__" = some (some (.ref mLn)))
    (tLn : PySem.W.isFn K (.ref mLn) = true)
    (hLn : FQ K "__len__" "Round.__len__" (sRd 2) mLn)
    (aIt : PySem.W.findIn K (.ref C) "__iter__" = some (some (.ref mIt)))
    (tIt : PySem.W.isFn K (.ref mIt) = true)
    (hIt : FQ K "__iter__" "Round.__iter__" (sRd 3) mIt)
    (aCo : PySem.W.findIn K (.ref C) "__contains__" = some (some (.ref mCo)))
    (tCo : PySem.W.isFn K (.ref mCo) = true)
    (hCo : FQ K "__contains__" "Round.__contains__" (sRd 4) mCo)
    (aGe : PySem.W.findIn K (.ref C) "__getitem__" = some (some (.ref mGe)))
    (tGe : PySem.W.isFn K (.ref mGe) = true)
    (hGe : FQ K "__getitem__" "Round.__getitem__" (sRd 5) mGe)
    (aCa : PySem.W.findIn K (.ref C) "__call__" = some (some (.ref mCa)))
    (tCa : PySem.W.isFn K (.ref mCa) = true)
    (hCa : FQ K "__call__" "Round.__call__" (sRd 6) mCa)
    (aOw : PySem.W.findIn K (.ref C) "own" = some (some (.ref mOw)))
    (tOw : PySem.W.isFn K (.ref mOw) = true)
    (hOw : FQ K "own" "Round.own" (sRd 7) mOw)
    (aFl : PySem.W.findIn K (.ref C) "flow_names" = some (some (.ref mFl)))
    (tFl : PySem.W.isFn K (.ref mFl) = true)
    (hFl : FQ K "flow_names" "Round.flow_names" (sRd 8) mFl)
    (aAd : PySem.W.findIn K (.ref C) "__add__" = some (some (.ref mAd)))
    (tAd : PySem.W.isFn K (.ref mAd) = true)
    (hAd : FQ K "__add__" "Round.__add__" (sRd 9) mAd)
    (aMu : PySem.W.findIn K (.ref C) "__mul__" = some (some (.ref mMu)))
    (tMu : PySem.W.isFn K (.ref mMu) = true)
    (hMu : FQ K "__mul__" "Round.__mul__" (sRd 10) mMu)
    (aRm : PySem.W.findIn K (.ref C) "__rmul__" = some (some (.ref mRm)))
    (tRm : PySem.W.isFn K (.ref mRm) = true)
    (hRm : FQ K "__rmul__" "Round.__rmul__" (sRd 11) mRm)
    (aSh : PySem.W.findIn K (.ref C) "__lshift__" = some (some (.ref mSh)))
    (tSh : PySem.W.isFn K (.ref mSh) = true)
    (hSh : FQ K "__lshift__" "Round.__lshift__" (sRd 12) mSh)
    (aWs : PySem.W.findIn K (.ref C) "with_slot" = some (some (.ref mWs)))
    (tWs : PySem.W.isFn K (.ref mWs) = true)
    (hWs : FQ K "with_slot" "Round.with_slot" (sRd 13) mWs)
    (aEq : PySem.W.findIn K (.ref C) "__eq__" = some (some (.ref mEq)))
    (tEq : PySem.W.isFn K (.ref mEq) = true)
    (hEq : FQ K "__eq__" "Round.__eq__" (sRd 14) mEq)
    (aLi : PySem.W.findIn K (.ref C) "is_like" = some (some (.ref mLi)))
    (tLi : PySem.W.isFn K (.ref mLi) = true)
    (hLi : FQ K "is_like" "Round.is_like" (sRd 15) mLi)
    (tRd : CMet K C mc "read" pRd mRd)
    (hRd : FQ K "read" "Round.read" (sRd 17) mRd)
    (iGe : PySem.W.fnIn K mGe = true)
    (iCa : PySem.W.fnIn K mCa = true)
    (nbo : PySem.W.findIn K (.ref C) "__bool__" = some (none))
    (first : PySem.W.selfFirst K C = true)
    (noAdd : NoI K C "add")
    (rsh : ∃ rc, PySem.W.findIn K (.ref C) (dunderR "lshift") = some rc ∧ (rc = none ∨ ∃ g : Addr, rc = some (.ref g)))
    (iL1 : ∃ fo, PySem.W.findIn K (.type "int") (PySem.dunder "lshift") = some fo)
    (iL2 : ∃ fo, PySem.W.findIn K (.type "int") (dunderR "lshift") = some fo)
    (iM1 : ∃ fo, PySem.W.findIn K (.type "int") (PySem.dunder "mul") = some fo)
    (iM2 : ∃ fo, PySem.W.findIn K (.type "int") (dunderR "mul") = some fo)
    (sI : PySem.W.subIn K (.type "int") (.ref C) = some false)
    (noInt : PySem.W.subIn K (.ref C) (.type "int") = some false)
    (sL : PySem.W.subIn K (.type "list") (.ref C) = some false)
    (sT : PySem.W.subIn K (.type "tuple") (.ref C) = some false)
    (tyC : PySem.W.typeIn K (.ref C) = some (.type "type"))
    (ne : PySem.W.findIn K (.ref C) "__ne__" = some (some (.builtin "object.__ne__")))
    (ob : PySem.W.mroIn K C (.type "object") = some true)
    (nf : PySem.W.notFirst K C (.ref C) = true)
    (cc : PySem.W.findIn K (.ref C) "__class__" = some (some (.builtin "object.__class__")))
    (cs : PySem.W.specialIn K (.builtin "object.__class__") "__get__" = some (some (.builtin "getset_descriptor.__get__")))
    (ct : PySem.W.takesIn K (.builtin "object.__class__") = some true)
    (gB : PySem.W.nsIn K mainGlobals "PostError" = some (some (.ref B)))
    (bB : PySem.W.subIn K (.ref B) (.type "BaseException") = some true)
    (dB : PySem.W.hasDictIn K B = true)
    (tyB : PySem.W.typeIn K (.ref B) = some (.type "type"))
    (xM : CF K "TooMany" "TooMany.__init__" (sCls 13) cM fM B)
    (xw : PySem.W.findIn K (.ref cM) "what" = some none)
    (xm : PySem.W.findIn K (.ref cM) "most" = some none)
    (zm : ∃ t, PySem.W.nsIn K mainGlobals "MOST_NAME_LETTERS" = some (some (.int 8 t)))
    (za : ∃ t, PySem.W.nsIn K mainGlobals "NAME_LETTERS" = some (some (.str "abcdefghijklmnopqrstuvwxyz" t)))
    (z_isinstance : PySem.W.nsIn K mainGlobals "isinstance" = some (none))
    (z_int : PySem.W.nsIn K mainGlobals "int" = some (none))
    (z_bool : PySem.W.nsIn K mainGlobals "bool" = some (none))
    (z_str : PySem.W.nsIn K mainGlobals "str" = some (none))
    (z_len : PySem.W.nsIn K mainGlobals "len" = some (none))
    (z_abs : PySem.W.nsIn K mainGlobals "abs" = some (none))
    (z_list : PySem.W.nsIn K mainGlobals "list" = some (none))
    (z_range : PySem.W.nsIn K mainGlobals "range" = some (none))
    (z_tuple : PySem.W.nsIn K mainGlobals "tuple" = some (none))
    (z_sorted : PySem.W.nsIn K mainGlobals "sorted" = some (none))
    (z_set : PySem.W.nsIn K mainGlobals "set" = some (none))
    (z_iter : PySem.W.nsIn K mainGlobals "iter" = some (none))
    (z_any : PySem.W.nsIn K mainGlobals "any" = some (none))
    (z_enumerate : PySem.W.nsIn K mainGlobals "enumerate" = some (none))
    (z_repr : PySem.W.nsIn K mainGlobals "repr" = some (none))
    : LawAtS l w K CX0 9 63 "_law_script" mg fa h := by
  have eLa := hfa.symm.trans (PySem.W.mg_of X G aLa)
  cases eLa
  have gInt := PySem.W.mg_of X G aInt
  obtain ⟨dInt, FInt⟩ := hInt.fn
  have bInt : Binds K dInt ["value"] [] := FInt.binds fun _ _ _ _ _ _ us hl => match us, hl with | [_], _ => rfl
  have gWi := PySem.W.mg_of X G aWi
  obtain ⟨dWi, FWi⟩ := hWi.fn
  have bWi : Binds K dWi ["value", "least", "most"] [] := FWi.binds fun _ _ _ _ _ _ us hl => match us, hl with | [_, _, _], _ => rfl
  have gZ := PySem.W.mg_of X G aZ
  obtain ⟨dZ, FZ⟩ := hZ.fn
  have bZ : Binds K dZ ["value"] [] := FZ.binds fun _ _ _ _ _ _ us hl => match us, hl with | [_], _ => rfl
  have gNm := PySem.W.mg_of X G aNm
  obtain ⟨dNm, FNm⟩ := hNm.fn
  have bNm : Binds K dNm ["value"] [] := FNm.binds fun _ _ _ _ _ _ us hl => match us, hl with | [_], _ => rfl
  have gWo := PySem.W.mg_of X G aWo
  obtain ⟨dWo, FWo⟩ := hWo.fn
  have bWo : Binds K dWo ["text"] [] := FWo.binds fun _ _ _ _ _ _ us hl => match us, hl with | [_], _ => rfl
  have gSl := PySem.W.mg_of X G aSl
  obtain ⟨dSl, FSl⟩ := hSl.fn
  have bSl : Binds K dSl ["value"] [] := FSl.binds fun _ _ _ _ _ _ us hl => match us, hl with | [_], _ => rfl
  have gPe := PySem.W.mg_of X G aPe
  obtain ⟨dPe, FPe⟩ := hPe.fn
  have bPe : Binds K dPe ["_law_script"] [] := FPe.binds fun _ _ _ _ _ _ us hl => match us, hl with | [_], _ => rfl
  have gDr := PySem.W.mg_of X G aDr
  obtain ⟨dDr, FDr⟩ := hDr.fn
  have bDr : Binds K dDr ["_law_pen_here", "_law_many"] [] := FDr.binds fun _ _ _ _ _ _ us hl => match us, hl with | [_, _], _ => rfl
  have gPi := PySem.W.mg_of X G aPi
  obtain ⟨dPi, FPi⟩ := hPi.fn
  have bPi : Binds K dPi ["_law_pen_here", "_law_some"] [] := FPi.binds fun _ _ _ _ _ _ us hl => match us, hl with | [_, _], _ => rfl
  have gLs := PySem.W.mg_of X G aLs
  obtain ⟨dLs, FLs⟩ := hLs.fn
  have bLs : Binds K dLs ["_law_pen_here", "_law_most"] [] := FLs.binds fun _ _ _ _ _ _ us hl => match us, hl with | [_, _], _ => rfl
  have gRg := PySem.W.mg_of X G aRg
  obtain ⟨dRg, FRg⟩ := hRg.fn
  have bRg : Binds K dRg ["_law_some"] [] := FRg.binds fun _ _ _ _ _ _ us hl => match us, hl with | [_], _ => rfl
  have gHd := PySem.W.mg_of X G aHd
  obtain ⟨dHd, FHd⟩ := hHd.fn
  have bHd : Binds K dHd ["_law_ask"] [] := FHd.binds fun _ _ _ _ _ _ us hl => match us, hl with | [_], _ => rfl
  have gKp := PySem.W.mg_of X G aKp
  obtain ⟨dKp, FKp⟩ := hKp.fn
  have bKp : Binds K dKp ["_law_made", "_law_some"] [] := FKp.binds fun _ _ _ _ _ _ us hl => match us, hl with | [_, _], _ => rfl
  have gJo := PySem.W.mg_of X G aJo
  obtain ⟨dJo, FJo⟩ := hJo.fn
  have bJo : Binds K dJo ["_law_pen_here", "_law_some", "_law_more"] [] := FJo.binds fun _ _ _ _ _ _ us hl => match us, hl with | [_, _, _], _ => rfl
  obtain ⟨kVLa, docLa, pmLa, anLa, ctLa, FLa⟩ := hLa.fn
  obtain ⟨CLa, ELa⟩ := hTab "law" (by decide) _ _ (hLa.tab aLa)
  obtain ⟨eIn, MIn⟩ := hIn.fn
  obtain ⟨eLn, MLn⟩ := hLn.fn
  have cLn : Binds K eLn ["self"] [] := MLn.binds fun _ _ _ _ _ _ us hl => match us, hl with | [_], _ => rfl
  obtain ⟨eIt, MIt⟩ := hIt.fn
  have cIt : Binds K eIt ["self"] [] := MIt.binds fun _ _ _ _ _ _ us hl => match us, hl with | [_], _ => rfl
  obtain ⟨eCo, MCo⟩ := hCo.fn
  have cCo : Binds K eCo ["self", "x"] [] := MCo.binds fun _ _ _ _ _ _ us hl => match us, hl with | [_, _], _ => rfl
  obtain ⟨eGe, MGe⟩ := hGe.fn
  have cGe : Binds K eGe ["self", "at"] [] := MGe.binds fun _ _ _ _ _ _ us hl => match us, hl with | [_, _], _ => rfl
  obtain ⟨eCa, MCa⟩ := hCa.fn
  have cCa : Binds K eCa ["self", "tick"] [] := MCa.binds fun _ _ _ _ _ _ us hl => match us, hl with | [_, _], _ => rfl
  obtain ⟨eOw, MOw⟩ := hOw.fn
  have cOw : Binds K eOw ["self", "flow"] [] := MOw.binds fun _ _ _ _ _ _ us hl => match us, hl with | [_, _], _ => rfl
  obtain ⟨eFl, MFl⟩ := hFl.fn
  have cFl : Binds K eFl ["self"] [] := MFl.binds fun _ _ _ _ _ _ us hl => match us, hl with | [_], _ => rfl
  obtain ⟨eAd, MAd⟩ := hAd.fn
  have cAd : Binds K eAd ["self", "other"] [] := MAd.binds fun _ _ _ _ _ _ us hl => match us, hl with | [_, _], _ => rfl
  obtain ⟨eMu, MMu⟩ := hMu.fn
  have cMu : Binds K eMu ["self", "other"] [] := MMu.binds fun _ _ _ _ _ _ us hl => match us, hl with | [_, _], _ => rfl
  obtain ⟨eRm, MRm⟩ := hRm.fn
  have cRm : Binds K eRm ["self", "other"] [] := MRm.binds fun _ _ _ _ _ _ us hl => match us, hl with | [_, _], _ => rfl
  obtain ⟨eSh, MSh⟩ := hSh.fn
  have cSh : Binds K eSh ["self", "other"] [] := MSh.binds fun _ _ _ _ _ _ us hl => match us, hl with | [_, _], _ => rfl
  obtain ⟨eWs, MWs⟩ := hWs.fn
  have cWs : Binds K eWs ["self", "place", "flow"] [] := MWs.binds fun _ _ _ _ _ _ us hl => match us, hl with | [_, _, _], _ => rfl
  obtain ⟨eEq, MEq⟩ := hEq.fn
  have cEq : Binds K eEq ["self", "other"] [] := MEq.binds fun _ _ _ _ _ _ us hl => match us, hl with | [_, _], _ => rfl
  obtain ⟨eLi, MLi⟩ := hLi.fn
  have cLi : Binds K eLi ["self", "other"] [] := MLi.binds fun _ _ _ _ _ _ us hl => match us, hl with | [_, _], _ => rfl
  obtain ⟨eRd, MRd⟩ := hRd.fn
  have cRd : Binds K eRd ["cls", "text"] [] := MRd.binds fun _ _ _ _ _ _ us hl => match us, hl with | [_, _], _ => rfl
  have kOw : KBn K eOw ["self", "flow"] 1 ["flow"] (fun us ws => us ++ ws) (fun vs zs => vs ++ zs) := MOw.kb 1 (fun us ws => us ++ ws) (fun r s => r.append s) fun _ _ _ _ _ _ us ws l1 l2 => match us, l1, ws, l2 with | [_], _, [_], _ => rfl
  have kLi : KBn K eLi ["self", "other"] 1 ["other"] (fun us ws => us ++ ws) (fun vs zs => vs ++ zs) := MLi.kb 1 (fun us ws => us ++ ws) (fun r s => r.append s) fun _ _ _ _ _ _ us ws l1 l2 => match us, l1, ws, l2 with | [_], _, [_], _ => rfl
  have kWs : KBn K eWs ["self", "place", "flow"] 1 ["flow", "place"] (fun us ws => us ++ ws.reverse) (fun vs zs => vs ++ zs.reverse) := MWs.kb 1 (fun us ws => us ++ ws.reverse) (fun r s => r.append s.reverse) fun _ _ _ _ _ _ us ws l1 l2 => match us, l1, ws, l2 with | [_], _, [_, _], _ => rfl
  obtain ⟨dM, FM⟩ := xM.fn
  have bM : Binds K dM ["self", "what", "most"] [] := FM.binds fun _ _ _ _ _ _ us hl => match us, hl with | [_, _, _], _ => rfl
  have m_isinstance := PySem.W.mg_none_of X G z_isinstance
  have m_int := PySem.W.mg_none_of X G z_int
  have m_bool := PySem.W.mg_none_of X G z_bool
  have m_str := PySem.W.mg_none_of X G z_str
  have m_len := PySem.W.mg_none_of X G z_len
  have m_abs := PySem.W.mg_none_of X G z_abs
  have m_list := PySem.W.mg_none_of X G z_list
  have m_range := PySem.W.mg_none_of X G z_range
  have m_tuple := PySem.W.mg_none_of X G z_tuple
  have m_sorted := PySem.W.mg_none_of X G z_sorted
  have m_set := PySem.W.mg_none_of X G z_set
  have m_iter := PySem.W.mg_none_of X G z_iter
  have m_any := PySem.W.mg_none_of X G z_any
  have m_enumerate := PySem.W.mg_none_of X G z_enumerate
  have m_repr := PySem.W.mg_none_of X G z_repr
  have TT : GlbT mg := ⟨m_isinstance, m_int, m_bool, m_str, m_len⟩
  have TG : Glb mg := ⟨m_int, m_abs, m_len, m_list⟩
  have TR : GlbR mg := ⟨m_len, m_enumerate⟩
  have T2 : GlbS2 mg := ⟨m_sorted, m_set, m_iter, m_any⟩
  have TK : GlbK mg := ⟨m_tuple, m_list, m_repr, m_range⟩
  have TC : GlbC mg := ⟨zm.imp fun _ e => PySem.W.mg_of X G e, za.imp fun _ e => PySem.W.mg_of X G e⟩
  have N : RName K mg C mc := ⟨PySem.W.mg_of X G aC, ⟨rd, ga⟩, most.imp' (fun t => .int 24 t) fun t e => ⟨e, ⟨t, rfl⟩⟩⟩
  have GC : RCls K C := ⟨cls, nsl⟩
  have isC : (PySem.W.clsIn K C).isSome = true := by
    obtain ⟨cd, hc, _⟩ := PySem.W.any_some cls.hd
    rw [hc]
    rfl
  have GI : RIsi K C := ⟨cc, cs, ct, ob, kit_self⟩
  have M : Mk K C mIn := ⟨makes, aIn, tIn, kC⟩
  have O : Ops K C mSh mEq := ⟨first, ⟨aSh, tSh⟩, rsh, iL1, iL2, sI, ⟨aEq, tEq⟩, nf⟩
  have OM : OpsM K C mAd mMu mRm := ⟨⟨aAd, tAd⟩, noAdd, ⟨aMu, tMu⟩, ⟨aRm, tRm⟩, iM1, iM2, noInt, ne, ob, first_of_ty sL, first_of_ty sT, kit_of_ty sL isC tyC, kit_of_ty sT isC tyC⟩
  have CGK : CG K := ⟨cs, ct⟩
  have HK : HdK K mg B cM := ⟨PySem.W.mg_of X G gB, PySem.W.mg_of X G xM.b.aC, m_isinstance, m_repr, m_len, xM.b.caught bB dB tyB, kit_self, xM.b.xc CGK, xm⟩
  refine ⟨PySem.W.fnOf "law" "law" (defArgs sLaw) (defBody sLaw) (defScope sLaw) .none kVLa docLa pmLa anLa (.ref cLa) ctLa, [(cLa, PLa)], spLaw K [(PLa, qLaw)], ?_, ?_, ?_, fun s v => .of_eq rfl, ?_, fun base _ _ TB => ?_⟩
  · intro p hp
    obtain rfl := List.mem_singleton.mp hp
    exact ELa
  · intro p hp
    obtain rfl := List.mem_singleton.mp hp
    exact noTab X hNT ELa
  · intro p hp
    obtain rfl := List.mem_singleton.mp hp
    exact CLa
  · intro H a ns hl _ hH hS
    refine ⟨a, ns, rfl, hS, hl, fun p hp => ?_, fun _ => rfl⟩
    obtain rfl := List.mem_singleton.mp hp
    exact .nil (hH _ (List.mem_cons_self ..))
  have TBl := TB (cLa, PLa) (List.mem_cons_self ..)
  have uL : ∀ p ∈ [(PLa, qLaw)], p.1 = PLa → p.2 = qLaw := fun p hp e => by
    obtain rfl := List.mem_singleton.mp hp
    rfl
  have oInt : FnOk l.prog w K mg base CX0 1 fInt dInt ["value"] (spIsInt K) := ok_isInt FInt TT
  have oWi : FnOk l.prog w K mg base CX0 2 fWi dWi ["value", "least", "most"] (spWithin K) := ok_within FWi TT FInt bInt gInt
  have oZ : FnOk l.prog w K mg base CX0 2 fZ dZ ["value"] (spFrom0) := ok_from0 FZ TT FInt bInt gInt
  have oNm : FnOk l.prog w K mg base CX0 1 fNm dNm ["value"] (spName K) := ok_name FNm TT TC
  have oSl : FnOk l.prog w K mg base CX0 2 fSl dSl ["value"] (spSlot) := ok_slot FSl oNm hNm.k bNm gNm
  have GM : GMany l.prog w K mg base cM fM dM := ⟨xM.b.ox, xM.a1, xM.t1, ok_I2 xM FM ⟨rfl, rfl, rfl, by decide +kernel, rfl, by decide +kernel, by decide +kernel⟩ rfl rfl rfl rfl (by decide +kernel) (by decide +kernel) (by decide +kernel) (by decide +kernel) xw xm, bM, PySem.W.mg_of X G xM.b.aC⟩
  have oIn : FnR l.prog w K mg base (L2.CX l.prog w) 3 mIn (spInitA K C cM) := ok_Init MIn N GC TR GM oSl hSl.k bSl gSl
  have oLn : FnOk l.prog w K mg base CX0 1 mLn eLn ["self"] (spLen K C) := ok_Len MLn GC TR
  have oIt : ∀ m, FnOk l.prog w K mg base CX0 1 mIt eIt ["self"] (spIter K C m) := fun m => ok_Iter MIt GC T2 m
  have oCo : FnOk l.prog w K mg base CX0 2 mCo eCo ["self", "x"] (spCont K C) := ok_Cont MCo GC oNm hNm.k bNm gNm
  have oGe : FnOk l.prog w K mg base CX0 3 mGe eGe ["self", "at"] (spGet K C) := ok_Get MGe GC TR oWi hWi.k bWi gWi
  have oCa : FnOk l.prog w K mg base CX0 2 mCa eCa ["self", "tick"] (spCall K C) := ok_Call MCa GC TR oInt hInt.k bInt gInt
  have oOw : FnOk l.prog w K mg base CX0 2 mOw eOw ["self", "flow"] (spOwn K C) := ok_Own MOw GC TR m_tuple oNm hNm.k bNm gNm
  have oFl : FnOk l.prog w K mg base CX0 1 mFl eFl ["self"] (spFlow K C) := ok_Flow MFl GC T2 m_tuple
  have oAd : FnOk l.prog w K mg base (L2.CX l.prog w) 5 mAd eAd ["self", "other"] (spAdd K C cM) := ok_Add MAd N GC GI m_isinstance M oIn
  have oMu : FnOk l.prog w K mg base (L2.CX l.prog w) 5 mMu eMu ["self", "other"] (spMul K C cM) := ok_Mul MMu N GC M oIn oWi hWi.k bWi gWi
  have oRm : FnOk l.prog w K mg base (L2.CX l.prog w) 5 mRm eRm ["self", "other"] (spMul K C cM) := ok_Rmu MRm N GC M oIn oWi hWi.k bWi gWi
  have oSh : FnOk l.prog w K mg base CX0 5 mSh eSh ["self", "other"] (spShl K C) := ok_Shl MSh N GC TR M oIn oZ hZ.k bZ gZ
  have oWs : FnOk l.prog w K mg base CX0 5 mWs eWs ["self", "place", "flow"] (spWith K C) := ok_With MWs N GC TR m_list M oIn oWi hWi.k bWi gWi oSl hSl.k bSl gSl
  have oEq : FnOk l.prog w K mg base CX0 1 mEq eEq ["self", "other"] (spREq K C) := ok_REq MEq N GC GI m_isinstance
  have oLi : FnOk l.prog w K mg base CX0 6 mLi eLi ["self", "other"] (spLike K C) := ok_Like MLi N GC GI TR T2 m_isinstance m_range O oSh cSh oEq cEq
  have oWo : FnOk l.prog w K mg base CX0 1 fWo dWo ["text"] (spWo) := ok_Wo FWo TT
  have oRd : FnOk l.prog w K mg base CX0 5 mRd eRd ["cls", "text"] (spRead K C) := ok_Read MRd N TR M oIn oWo hWo.k bWo gWo oNm hNm.k bNm gNm
  have oPe : FnOk l.prog w K mg base CX0 1 fPe dPe ["_law_script"] (spPen K) := ok_pen FPe TG
  have oDr : FnOk l.prog w K mg base CX0 1 fDr dDr ["_law_pen_here", "_law_many"] (spDraw) := ok_draw FDr TG
  have oPi : FnOk l.prog w K mg base CX0 2 fPi dPi ["_law_pen_here", "_law_some"] (spPick) := ok_pick FPi TG FDr bDr gDr
  have oLs : FnOk l.prog w K mg base CX0 3 fLs dLs ["_law_pen_here", "_law_most"] (spSlots) := ok_Slots FLs m_range oDr hDr.k bDr gDr oPi hPi.k bPi gPi
  have oRg : FnOk l.prog w K mg base CX0 6 fRg dRg ["_law_some"] (spRing K C) := ok_Ring FRg N tRd oRd cRd
  have KK : KeptK l.prog w K mg base C mLn mIt mCo mGe mCa mOw mFl eOw eFl := ⟨⟨aLn, tLn⟩, fnR0 oLn cLn, nbo, ⟨aIt, tIt⟩, fun m => fnR0 (oIt m) cIt, ⟨aCo, tCo⟩, fnR0 oCo cCo, ⟨aGe, tGe⟩, iGe, fnR0 oGe cGe, ⟨aCa, tCa, iCa⟩, fnR0 oCa cCa, ⟨aOw, tOw, hOw.k⟩, oOw, cOw, kOw, ⟨aFl, tFl, hFl.k⟩, oFl, cFl⟩
  have JK : JoinK l.prog w K mg base C cM mAd mMu mRm mSh mEq mLi mWs fRg fDr fPi eLi eWs dRg dDr dPi := ⟨O, OM, fnR0 oAd cAd, fnR0 oMu cMu, fnR0 oRm cRm, fnR0 oSh cSh, fnR0 oEq cEq, ⟨aLi, tLi, hLi.k⟩, oLi, cLi, kLi, ⟨aWs, tWs, hWs.k⟩, oWs, cWs, kWs, oRg, hRg.k, bRg, gRg, oDr, hDr.k, bDr, gDr, oPi, hPi.k, bPi, gPi⟩
  have oKp := ok_Kept FKp TT T2 TK GC KK
  have oJo := ok_Join FJo TT TK GC JK
  have LK : LawK l.prog w K mg base C cM mLn mIn fKp fJo fLs fPe dKp dJo dLs dPe := ⟨M, oIn, ⟨aLn, tLn⟩, fnR0 oLn cLn, oKp, hKp.k, bKp, gKp, oJo, hJo.k, bJo, gJo, oLs, hLs.k, bLs, gLs, oPe, hPe.k, bPe, gPe⟩
  exact ok_Law (T := [(PLa, qLaw)]) FLa TBl (List.mem_cons_self ..) uL TT TK N HK FHd bHd gHd JK LK
end K23
namespace LamX
open PySem PySem.Spec PyProof.Rows L2
/-- the walk where two defs of the text make code objects: what stands at their tables is told -/
theorem walk_two {l : PySem.W.OpenLaw} {n k : Nat} {q : Program} {loose : List Str} {XP : (Str → Option Value) → Heap → Prop} {YP : World → Heap → Prop} {d : DefRec} {K : Params → PySem.W.Frag} {CX : World → CXT} {x : Str} {xs : List Str}
    (hn : l.most = some n) (hn2 : n ≤ sizeLine) (hdf : d.params.defaults = []) (hr : Room k callerA) (hrec : ∀ y ∈ xs, ((recsOf q).any fun e => e.name == y) = true) (hY : ∀ (w : World) (h : Heap), YP w h → (K w.params).In h)
    (F : ∀ (w : World) (mg : Str → Option Value) (fa : Addr) (h : Heap), YP w h → (K w.params).In h → h.Ns mainGlobals mg → mg d.name = some (.ref fa) → (∀ y, y ∈ xs → ∀ c P, PySem.W.tabIn (K w.params) y = some (c, P) → PySem.W.CodeHd h c P ∧ h.get? P = some { cls := .none, data := .fields #[] }) → LawAtS l w (K w.params) (CX w) k n x mg fa h)
    (hCX : ∀ (w : World) (H : Hp) (s : Shared) (e : Value) (s' : Shared), CX w [] H s (fun _ _ _ => False) e s' → False) :
    PySem.W.WalkO q loose XP YP l.row.toRowW d [] (fun f vs => PySem.call f vs) := by
  refine Att.attach_callB hn hdf fun w s₀ s₁ mg mb fa o pm cd doc a vs ns G Y ho hd hcd hmg hobj hints hlen hbits hg => ?_
  have KX := hY w _ Y
  obtain ⟨fd, cs, sp, hT, nT, C, hb, hsp, hF⟩ := F w mg fa _ Y KX G.T.g hmg fun y hy c P ht => by
    cases z : (recsOf q).find? (fun e => e.name == y) with
    | none =>
      obtain ⟨dL, hm, hn1⟩ := List.any_eq_true.mp (hrec y hy)
      exact absurd hn1 (List.find?_eq_none.mp z dL hm)
    | some dL => exact PySem.W.tab_of G.T KX z ht
  exact law_callTs KX G.T.g G.T.b G.T.builtins G.T.nolimit hg hT nT C G.T.bmain hobj hints (Nat.le_trans hlen hn2) hr hF hb (fun H hH hS => hsp H a ns hlen hbits hH hS) fun H e s' => hCX w H s₁ e s'
end LamX
open PySem PySem.W PyProof.Rows
set_option maxRecDepth 100000 in
set_option maxHeartbeats 0 in
theorem PySem.Challenge.cw_layerpost_k23_rounds_made_and_joined_holds : PySem.Challenge.rw_layerpost_k23_rounds_made_and_joined.Holds := by
  w_on; o_law; k_head; (case hw => w_witness2)
  k_fill
  refine LamX.walk_two (l := PySem.Challenge.rw_layerpost_k23_rounds_made_and_joined) (n := 63) (k := 9) (x := "_law_script") (xs := ["law"]) (CX := fun _ => L2.CX0) rfl (by decide) rfl ⟨rfl, by decide, by decide⟩ ?R (fun w h Y => PySem.W.km_in_of Y) ?F (fun _ _ _ _ _ z => z)
  case R =>
    intro y hy
    obtain rfl := List.mem_singleton.mp hy
    decide +kernel
  case F =>
    intro w mg fa h _ KX G hmg hTab
    refine' K23.all_mk KX G hmg hTab ?qaInt ?qhInt ?qaWi ?qhWi ?qaZ ?qhZ ?qaNm ?qhNm ?qaWo ?qhWo ?qaSl ?qhSl ?qaPe ?qhPe ?qaDr ?qhDr ?qaPi ?qhPi ?qaLs ?qhLs ?qaRg ?qhRg ?qaHd ?qhHd ?qaKp ?qhKp ?qaJo ?qhJo ?qaLa ?qhLa ?qhNT ?qaC ?qrd ?qga ?qmost ?qcls ?qnsl ?qmakes ?qkC ?qaIn ?qtIn ?qhIn ?qaLn ?qtLn ?qhLn ?qaIt ?qtIt ?qhIt ?qaCo ?qtCo ?qhCo ?qaGe ?qtGe ?qhGe ?qaCa ?qtCa ?qhCa ?qaOw ?qtOw ?qhOw ?qaFl ?qtFl ?qhFl ?qaAd ?qtAd ?qhAd ?qaMu ?qtMu ?qhMu ?qaRm ?qtRm ?qhRm ?qaSh ?qtSh ?qhSh ?qaWs ?qtWs ?qhWs ?qaEq ?qtEq ?qhEq ?qaLi ?qtLi ?qhLi ?qtRd ?qhRd ?qiGe ?qiCa ?qnbo ?qfirst ?qnoAdd ?qrsh ?qiL1 ?qiL2 ?qiM1 ?qiM2 ?qsI ?qnoInt ?qsL ?qsT ?qtyC ?qne ?qob ?qnf ?qcc ?qcs ?qct ?qgB ?qbB ?qdB ?qtyB ?qxM ?qxw ?qxm ?qzm ?qza ?qz_isinstance ?qz_int ?qz_bool ?qz_str ?qz_len ?qz_abs ?qz_list ?qz_range ?qz_tuple ?qz_sorted ?qz_set ?qz_iter ?qz_any ?qz_enumerate ?qz_repr
    (case qaInt => k_is)
    (case qhInt => exact ⟨⟨_, _, _, _, _, _, _, _, _, by k_is, by k_is⟩, by k_is⟩)
    (case qaWi => k_is)
    (case qhWi => exact ⟨⟨_, _, _, _, _, _, _, _, _, by k_is, by k_is⟩, by k_is⟩)
    (case qaZ => k_is)
    (case qhZ => exact ⟨⟨_, _, _, _, _, _, _, _, _, by k_is, by k_is⟩, by k_is⟩)
    (case qaNm => k_is)
    (case qhNm => exact ⟨⟨_, _, _, _, _, _, _, _, _, by k_is, by k_is⟩, by k_is⟩)
    (case qaWo => k_is)
    (case qhWo => exact ⟨⟨_, _, _, _, _, _, _, _, _, by k_is, by k_is⟩, by k_is⟩)
    (case qaSl => k_is)
    (case qhSl => exact ⟨⟨_, _, _, _, _, _, _, _, _, by k_is, by k_is⟩, by k_is⟩)
    (case qaPe => k_is)
    (case qhPe => exact ⟨⟨_, _, _, _, _, _, _, _, _, by k_is, by k_is⟩, by k_is⟩)
    (case qaDr => k_is)
    (case qhDr => exact ⟨⟨_, _, _, _, _, _, _, _, _, by k_is, by k_is⟩, by k_is⟩)
    (case qaPi => k_is)
    (case qhPi => exact ⟨⟨_, _, _, _, _, _, _, _, _, by k_is, by k_is⟩, by k_is⟩)
    (case qaLs => k_is)
    (case qhLs => exact ⟨⟨_, _, _, _, _, _, _, _, _, by k_is, by k_is⟩, by k_is⟩)
    (case qaRg => k_is)
    (case qhRg => exact ⟨⟨_, _, _, _, _, _, _, _, _, by k_is, by k_is⟩, by k_is⟩)
    (case qaHd => k_is)
    (case qhHd => exact ⟨⟨_, _, _, _, _, _, _, _, _, by k_is, by k_is⟩, by k_is⟩)
    (case qaKp => k_is)
    (case qhKp => exact ⟨⟨_, _, _, _, _, _, _, _, _, by k_is, by k_is⟩, by k_is⟩)
    (case qaJo => k_is)
    (case qhJo => exact ⟨⟨_, _, _, _, _, _, _, _, _, by k_is, by k_is⟩, by k_is⟩)
    (case qaLa => k_is)
    (case qhLa => exact ⟨⟨_, _, _, _, _, _, _, _, by k_is, by k_is⟩, by k_is, ⟨_, _, _, _, by k_is, rfl⟩⟩)
    (case qhNT => kernel_rfl)
    (case qaC => k_is)
    (case qrd => exact (show PySem.W.readsIn _ _ (.type "type") = true by k_is))
    (case qga => k_is)
    (case qmost => exact ⟨_, by k_is⟩)
    (case qcls => exact ⟨by k_is, by k_is, by k_is, by k_is⟩)
    (case qnsl => exact (by unfold L2.NoAttr; k_is))
    (case qmakes => k_is)
    (case qkC => k_is)
    (case qaIn => k_is)
    (case qtIn => k_is)
    (case qhIn => exact ⟨⟨_, _, _, _, _, _, _, _, _, by k_is, by k_is⟩, by k_is⟩)
    (case qaLn => k_is)
    (case qtLn => k_is)
    (case qhLn => exact ⟨⟨_, _, _, _, _, _, _, _, _, by k_is, by k_is⟩, by k_is⟩)
    (case qaIt => k_is)
    (case qtIt => k_is)
    (case qhIt => exact ⟨⟨_, _, _, _, _, _, _, _, _, by k_is, by k_is⟩, by k_is⟩)
    (case qaCo => k_is)
    (case qtCo => k_is)
    (case qhCo => exact ⟨⟨_, _, _, _, _, _, _, _, _, by k_is, by k_is⟩, by k_is⟩)
    (case qaGe => k_is)
    (case qtGe => k_is)
    (case qhGe => exact ⟨⟨_, _, _, _, _, _, _, _, _, by k_is, by k_is⟩, by k_is⟩)
    (case qaCa => k_is)
    (case qtCa => k_is)
    (case qhCa => exact ⟨⟨_, _, _, _, _, _, _, _, _, by k_is, by k_is⟩, by k_is⟩)
    (case qaOw => k_is)
    (case qtOw => k_is)
    (case qhOw => exact ⟨⟨_, _, _, _, _, _, _, _, _, by k_is, by k_is⟩, by k_is⟩)
    (case qaFl => k_is)
    (case qtFl => k_is)
    (case qhFl => exact ⟨⟨_, _, _, _, _, _, _, _, _, by k_is, by k_is⟩, by k_is⟩)
    (case qaAd => k_is)
    (case qtAd => k_is)
    (case qhAd => exact ⟨⟨_, _, _, _, _, _, _, _, _, by k_is, by k_is⟩, by k_is⟩)
    (case qaMu => k_is)
    (case qtMu => k_is)
    (case qhMu => exact ⟨⟨_, _, _, _, _, _, _, _, _, by k_is, by k_is⟩, by k_is⟩)
    (case qaRm => k_is)
    (case qtRm => k_is)
    (case qhRm => exact ⟨⟨_, _, _, _, _, _, _, _, _, by k_is, by k_is⟩, by k_is⟩)
    (case qaSh => k_is)
    (case qtSh => k_is)
    (case qhSh => exact ⟨⟨_, _, _, _, _, _, _, _, _, by k_is, by k_is⟩, by k_is⟩)
    (case qaWs => k_is)
    (case qtWs => k_is)
    (case qhWs => exact ⟨⟨_, _, _, _, _, _, _, _, _, by k_is, by k_is⟩, by k_is⟩)
    (case qaEq => k_is)
    (case qtEq => k_is)
    (case qhEq => exact ⟨⟨_, _, _, _, _, _, _, _, _, by k_is, by k_is⟩, by k_is⟩)
    (case qaLi => k_is)
    (case qtLi => k_is)
    (case qhLi => exact ⟨⟨_, _, _, _, _, _, _, _, _, by k_is, by k_is⟩, by k_is⟩)
    (case qtRd => exact ⟨by k_is, ⟨_, by k_is⟩, by k_is⟩)
    (case qhRd => exact ⟨⟨_, _, _, _, _, _, _, _, _, by k_is, by k_is⟩, by k_is⟩)
    (case qiGe => k_is)
    (case qiCa => k_is)
    (case qnbo => k_is)
    (case qfirst => k_is)
    (case qnoAdd => exact ⟨by rw [show PySem.W.clsIn _ _ = some _ by k_is]; decide +kernel, by k_is, by k_is⟩)
    (case qrsh => exact ⟨_, by k_is, .inl rfl⟩)
    (case qiL1 => exact ⟨_, by k_is⟩)
    (case qiL2 => exact ⟨_, by k_is⟩)
    (case qiM1 => exact ⟨_, by k_is⟩)
    (case qiM2 => exact ⟨_, by k_is⟩)
    (case qsI => k_is)
    (case qnoInt => k_is)
    (case qsL => k_is)
    (case qsT => k_is)
    (case qtyC => k_is)
    (case qne => k_is)
    (case qob => k_is)
    (case qnf => k_is)
    (case qcc => k_is)
    (case qcs => k_is)
    (case qct => k_is)
    (case qgB => k_is)
    (case qbB => k_is)
    (case qdB => k_is)
    (case qtyB => k_is)
    (case qxM => exact ⟨⟨by k_is, ⟨_, _, _, _, _, _, _, _, _, _, _, _, _, _, by k_is⟩, by k_is, by k_is, by k_is, by k_is, by k_is, by k_is⟩, by k_is, ⟨_, _, _, _, _, _, _, _, _, by k_is, by k_is⟩, by k_is, by k_is⟩)
    (case qxw => k_is)
    (case qxm => k_is)
    (case qzm => exact ⟨_, by k_is⟩)
    (case qza => exact ⟨_, by k_is⟩)
    (case qz_isinstance => k_is)
    (case qz_int => k_is)
    (case qz_bool => k_is)
    (case qz_str => k_is)
    (case qz_len => k_is)
    (case qz_abs => k_is)
    (case qz_list => k_is)
    (case qz_range => k_is)
    (case qz_tuple => k_is)
    (case qz_sorted => k_is)
    (case qz_set => k_is)
    (case qz_iter => k_is)
    (case qz_any => k_is)
    (case qz_enumerate => k_is)
    (case qz_repr => k_is)
