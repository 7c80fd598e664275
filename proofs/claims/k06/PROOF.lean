import PyProof.Rows.All
import Wide.All
import OpenK.AllK
import Wide.FinOn
import HandS.ForMost
import HandS.Star
import HandS.SlotsOwn
import HandS.OwnEq
import KE.KOpsOwn
import HandS.Evl
import PyProof.AssignAttr
import HandS.ClsMeth
import HandS.Defaults
import HandS.RaiseMore
import HandS.Codes
import KE.KCallOwn
import HandS.Wide
import HandS.IsInst
import HandS.StrMore
import HandS.TupAny
import HandS.Conv
import HandS.Walk
import HandS.Gcd
import KE.KMathGC
import HandS.Text
import HandS.Style
import HandS.Iter
import KE.GoesMore
import KE.GoesEnum
import PyProof.ReprRoads
import PyProof.LongRange
import HandS.Property
import PyProof.ReprLen
import PySem.Challenge.RW_layerpost_k06_growths_compared
set_option Elab.async false
set_option linter.all false
set_option maxRecDepth 100000
set_option maxHeartbeats 8000000
/-! operators of own classes, for instances with a dict or with slots -/
namespace OpX
open PySem PySem.Spec PyProof.Rows L2 StX
section
variable {prog : Program} {w : World} {A : Around} {E : Value → Shared → Prop} {s : Shared} {K : PySem.W.Frag} {x y C f L : Addr} {h₀ : Heap} {m : Str → Option Value} {ox oy : Obj} {od od' : Option Obj}
/-- some answer came -/
def Told (Q : Value → Shared → Prop) (r : Option Value) (s' : Shared) : Prop := ∃ v, r = some v ∧ Q v s'
/-- what an operator's first try told is the operator's word -/
theorem told_pure {M : Model} {B : Around} {F : Value → Shared → Prop} {Q : Value → Shared → Prop} {t : Sem (Option Value)} {k : Option Value → Sem Value} {s' : Shared} (h : wpAny M B t (Told Q) F s') (hk : ∀ v, k (some v) = pure v) : wpAny M B (t >>= k) Q F s' :=
  wpAny_bind (wpAny_mono h (fun r s'' ⟨v, e, q⟩ => by rw [e, hk]; exact wpAny_pure q) fun _ _ z => z)
open Builtin in
/-- object's own != asks the class's == and turns its bool about -/
theorem turned {Q : Value → Shared → Prop} {b : Value} (hu : A.in1.units < cLine) (X : K.In s.heap) (I : PySem.W.InstAt s.heap x ox C od) (hm : PySem.W.mroIn K C (.type "object") = some true)
    (hs : PySem.W.findIn K (.ref C) "__eq__" = some (some (.ref f))) (hf : PySem.W.isFn K (.ref f) = true)
    (h : wpAny (model prog w) A.in1 (call (.ref f) [.ref x, b]) (fun r s' => ∃ c, r = .bool c ∧ Q (.bool (!c)) s') E s) : wpAny (model prog w) A (call (.builtin "object.__ne__") [.ref x, b]) Q E s := by
  refine wpAny_call (codeAny_call_builtin PySem.F.slot_object_ne.plain PySem.F.entry_object_ne (PySem.W.check_slot (i := "object.__ne__") (owner := "object") (n := "__ne__") (by decide +kernel) (by decide +kernel) (I.type.andThen (PySem.W.looks_mroIn X hm)) (PySem.F.args_object_ne_2 _ _) ?_))
  show wpAny _ _ (Builtin.«object.__ne__» _) _ _ _
  unfold Builtin.«object.__ne__»
  exact wpAny_bind (m := slotArgs "__ne__" 1 _) (wpAny_pure (wpAny_bind (m := cRoomFor _ _) (wpAny_cRoomFor hu (wpAny_bind (m := callSpecialIfBound? (.ref x) (Str.ofString "__eq__") _)
    (PySem.W.ifBound_K X I hs hf (wpAny_mono h (fun r s' ⟨c, e, q⟩ => by
      subst e
      exact wpAny_bind (m := truthy (.bool c)) (wpAny_truthy_bool (wpAny_pure q))) fun _ _ z => z))))))
/-- x != y, both of one class that has an own == and object's != -/
theorem ne_same {Q : Value → Shared → Prop} (hu : A.units < cLine) (hu1 : A.in1.units < cLine) (X : K.In s.heap) (I : PySem.W.InstAt s.heap x ox C od) (J : PySem.W.InstAt s.heap y oy C od')
    (hne : PySem.W.findIn K (.ref C) "__ne__" = some (some (.builtin "object.__ne__"))) (hm : PySem.W.mroIn K C (.type "object") = some true) (hs : PySem.W.findIn K (.ref C) "__eq__" = some (some (.ref f))) (hf : PySem.W.isFn K (.ref f) = true)
    (h : wpAny (model prog w) A.in1 (call (.ref f) [.ref x, .ref y]) (fun r s' => ∃ c, r = .bool c ∧ Q (.bool (!c)) s') E s) : wpAny (model prog w) A (richCompare .NotEq (.ref x) (.ref y)) Q E s := by
  have word := turned (Q := fun v s' => Q v s' ∧ ∃ c, v = .bool c) hu1 X I hm hs hf (wpAny_mono h (fun r s' ⟨c, e, q⟩ => ⟨c, e, q, _, rfl⟩) fun _ _ z => z)
  have bnd : PySem.W.Looks (model prog w) s.heap (bindSpecial (.builtin "object.__ne__") (.ref x)) (.builtin "object.__ne__", [.ref x]) := PySem.W.Looks.of_pure (PySem.F.slot_object_ne.bind _)
  have asked : wpAny (model prog w) A (call (.builtin "object.__ne__") ([.ref x] ++ [.ref y]) >>= fun v => pure (some v)) (Told fun v s' => Q v s' ∧ ∃ c, v = .bool c) E s := wpAny_bind (wpAny_mono word (fun v s' q => wpAny_pure ⟨v, rfl, q⟩) fun _ _ z => z)
  have tried : wpAny (model prog w) A (tryCompare (.ref x) (cmpInfo .NotEq).2.1 (.ref y)) (Told Q) E s := by
    unfold tryCompare callSpecialIfBound? bindSpecialIfBound?
    refine wpAny_bind (wpAny_holding (wpAny_bind (wpAny_bind (wpAny_bind (I.type.here ((PySem.W.looks_findIn X hne).here (wpAny_bind (wpAny_askSetting (wpAny_ite ?_)))))))))
    split
    · refine wpAny_bind (bnd.here (wpAny_pure ?_))
      exact wpAny_mono asked (fun r s' ⟨v, e, q, c, ec⟩ => by
        subst e ec
        exact wpAny_pure ⟨_, rfl, q⟩) fun _ _ z => z
    · refine wpAny_tryCatch (wpAny_bind (bnd.here (wpAny_pure ?_)))
      exact wpAny_mono asked (fun r s' ⟨v, e, q, c, ec⟩ => by
        subst e ec
        exact wpAny_pure ⟨_, rfl, q⟩) fun _ _ z => z
  have same : (Value.ref C != Value.ref C) = false := by simp
  unfold richCompare
  rw [oneThing_ref]
  refine wpAny_holding (wpAny_bind (wpAny_cRoomFor hu (wpAny_bind (I.type.here (wpAny_bind (J.type.here ?_))))))
  rw [same, if_neg Bool.false_ne_true]
  exact wpAny_bind (wpAny_pure (told_pure tried fun _ => rfl))
end
section
variable {X : Cx} {CX : CXT} {n : Nat} {C g : Addr} {sp : Sp} {E : XK}
/-- x op y: both of the class at C -/
def rS (X : Cx) (C : Addr) (sp : Sp) (E : XK) : R2 := fun x y H Q => ∃ a b, x = .ref a ∧ y = .ref b ∧ InsC X H a C ∧ InsC X H b C ∧ sp [.ref a, .ref b] H Q E
/-- x op i: x of the class at C, i an int -/
def rI (X : Cx) (C : Addr) (sp : Sp) (E : XK) : R2 := fun x y H Q => ∃ a i, x = .ref a ∧ y = .int i ∧ InsC X H a C ∧ sp [.ref a, .int i] H Q E
/-- i op x: the reflected one -/
def rR (X : Cx) (C : Addr) (sp : Sp) (E : XK) : R2 := fun x y H Q => ∃ a i, x = .int i ∧ y = .ref a ∧ InsC X H a C ∧ sp [.ref a, .int i] H Q E
/-- the def of an operator -/
structure Has (K : PySem.W.Frag) (C g : Addr) (name : Str) : Prop where
  at_ : PySem.W.findIn K (.ref C) name = some (some (.ref g))
  fn : PySem.W.isFn K (.ref g) = true
theorem run_own {pins : List (Addr × Obj)} {σ : L2.St} {H : Hp} {s : Shared} {Q : VK} {us : List Value} {vs : List V} (F : FnR X.prog X.w X.K X.mg X.base CX n g sp) (hr : Room n X.A) (hx : Passes CX X E) (I : Inv X pins σ H s) (r : Vals vs us)
    (q : sp vs H Q E) : wpAny (model X.prog X.w) X.A (call (.ref g) us) (PySem.W.CmpBack (EP X pins σ Q)) X.xe s := by
  refine wpAny_mono (wpAny_call (run_fnR F hr hx I r q)) (fun w s' z => ?_) fun _ _ x => x
  obtain ⟨z', H', I', rz, qz⟩ := z
  exact SlX.cmpback rz ⟨z', H', I', rz, qz⟩
theorem op_binS {op : Operator} (hc : PySem.W.selfFirst X.K C = true) (h : Has X.K C g (PySem.dunder op.info.2)) (F : FnR X.prog X.w X.K X.mg X.base CX n g sp) (hr : Room n X.A) (hx : Passes CX X E) :
    OpR X (binaryOp op) (rS X C sp E) := by
  intro pins s σ H x y v u Q I rx ry hq
  obtain ⟨a, b, rfl, rfl, ha, hb, q⟩ := hq
  cases (show v = Value.ref a from rx)
  cases (show u = Value.ref b from ry)
  obtain ⟨ox, od, J, _⟩ := insC_at I ha
  obtain ⟨ox', od', J', _⟩ := insC_at I hb
  obtain ⟨m, hF⟩ := I.fr
  exact PySem.W.binop_K hF I.ok.mod.kin J J'.type hc h.at_ h.fn (run_own (us := [.ref a, .ref b]) (vs := [.ref a, .ref b]) F hr hx I (.cons rfl (.cons rfl .nil)) q)
theorem op_binI {op : Operator} {fo ro rc : Option Value} (hc : PySem.W.selfFirst X.K C = true) (h : Has X.K C g (PySem.dunder op.info.2)) (hrf : PySem.W.findIn X.K (.ref C) (dunderR op.info.2) = some rc) (hp : rc = none ∨ ∃ g : Addr, rc = some (.ref g))
    (h1 : PySem.W.findIn X.K (.type "int") (PySem.dunder op.info.2) = some fo) (h2 : PySem.W.findIn X.K (.type "int") (dunderR op.info.2) = some ro) (hsub : PySem.W.subIn X.K (.type "int") (.ref C) = some false)
    (F : FnR X.prog X.w X.K X.mg X.base CX n g sp) (hr : Room n X.A) (hx : Passes CX X E) : OpR X (binaryOp op) (rI X C sp E) := by
  intro pins s σ H x y v u Q I rx ry hq
  obtain ⟨a, i, rfl, rfl, ha, q⟩ := hq
  cases (show v = Value.ref a from rx)
  obtain ⟨t, e⟩ := (show ∃ t, u = Value.int i t from ry)
  subst e
  obtain ⟨ox, od, J, _⟩ := insC_at I ha
  obtain ⟨m, hF⟩ := I.fr
  exact PySem.W.ksp_binT (T := "int") hF I.ok.mod.kin J rfl hc h.at_ h.fn hrf hp h1 h2 hsub (run_own (us := [.ref a, .int i t]) (vs := [.ref a, .int i]) F hr hx I (.cons rfl (.cons ⟨t, rfl⟩ .nil)) q)
/-- x == y: x of the class at C; y an instance of a class that is not below C -/
def rEqO (X : Cx) (C : Addr) (sp : Sp) (E : XK) : R2 := fun x y H Q => ∃ a b C', x = .ref a ∧ y = .ref b ∧ InsC X H a C ∧ InsC X H b C' ∧ PySem.W.notFirst X.K C (.ref C') = true ∧ sp [.ref a, .ref b] H Q E
theorem op_eqO {op : CmpOp} (hop : ∀ a b, compareOp op a b = richCompare op a b) (h : Has X.K C g (cmpInfo op).2.1) (F : FnR X.prog X.w X.K X.mg X.base CX n g sp)
    (hr : Room n X.A) (hx : Passes CX X E) : OpR X (compareOp op) (rEqO X C sp E) := by
  intro pins s σ H x y v u Q I rx ry hq
  obtain ⟨a, b, C', rfl, rfl, ha, hb, hn, q⟩ := hq
  cases (show v = Value.ref a from rx)
  cases (show u = Value.ref b from ry)
  obtain ⟨ox, od, J, _⟩ := insC_at I ha
  obtain ⟨ox', od', J', _⟩ := insC_at I hb
  obtain ⟨m, hF⟩ := I.fr
  rw [hop]
  exact PySem.W.cmp_K (op := op) (tb := .ref C') hr.units0 hF I.ok.mod.kin J J'.type hn h.at_ h.fn (run_own (us := [.ref a, .ref b]) (vs := [.ref a, .ref b]) F hr hx I (.cons rfl (.cons rfl .nil)) q)
/-- x != y, both of the class at C, which has an own == -/
def rNeO (X : Cx) (C : Addr) (sp : Sp) (E : XK) : R2 := fun x y H Q => ∃ a b, x = .ref a ∧ y = .ref b ∧ InsC X H a C ∧ InsC X H b C ∧ sp [.ref a, .ref b] H (fun v H' => ∃ c, v = .bl c ∧ Q (.bl (!c)) H') E
theorem op_neO (h : Has X.K C g "__eq__") (hne : PySem.W.findIn X.K (.ref C) "__ne__" = some (some (.builtin "object.__ne__"))) (hm : PySem.W.mroIn X.K C (.type "object") = some true) (F : FnR X.prog X.w X.K X.mg X.base CX n g sp)
    (hr : Room (n + 1) X.A) (hx : Passes CX X E) : OpR X (compareOp .NotEq) (rNeO X C sp E) := fun pins s σ H x y v u Q I rx ry ⟨a, b, ex, ey, ha, hb, q⟩ => by
  subst ex ey
  cases (show v = Value.ref a from rx)
  cases (show u = Value.ref b from ry)
  obtain ⟨ox, od, J, _⟩ := insC_at I ha
  obtain ⟨ox', od', J', _⟩ := insC_at I hb
  refine ne_same hr.units0 hr.in1.units0 I.kIn J J' hne hm h.at_ h.fn (wpAny_mono (wpAny_call (SlX.run_at (us := [.ref a, .ref b]) (ws := [.ref a, .ref b]) F hr.in1 I.env0.in1 hx I (.cons rfl (.cons rfl .nil)) q)) (fun r s' back => ?_) fun _ _ z => z)
  obtain ⟨_, H', I', rr, c, ec, qc⟩ := back
  subst ec
  cases (show r = Value.bool c from rr)
  exact ⟨c, rfl, .bl (!c), H', I', rfl, qc⟩
end
end OpX
/-! a field as one of several targets -/
namespace L2
open PySem PySem.Spec PyProof.Rows
/-- o.f = .., among targets -/
def gFld (K : PySem.W.Frag) (to : TE) (f : Str) : TG := fun v σ H Q => to σ H fun x H1 => ∃ a C dx fs, x = .ref a ∧ H1 a = some (.ins C dx fs) ∧ Cls K C ∧ NoAttr K C f ∧ fs.length < 1000 ∧ Q σ (upd H1 a (.ins C dx (putF f v fs)))
theorem pg_fld {X : Cx} {o : Expr} {f : Str} {pos : Pos} {to : TE} (ho : PE X o to) : PG X (.Attribute o f pos) (gFld X.K to f) := by
  refine ⟨fun pins s σ H v u Q I r h => ?_⟩
  rw [assign_Attribute]
  refine wpAny_bind (wpAny_holding (thn (ho.run pins s σ H _ I h) fun ov s1 ⟨x, H1, I1, rx, a, C, dx, fs, ex, ea, c, n, l, q⟩ => ?_))
  subst ex
  obtain rfl : ov = Value.ref a := rx
  refine wpAny_bind (wpAny_standAt (wpAny_bind (wpAny_holding (setattr_ok I1 ea c n l r fun s2 I2 => ?_))))
  exact wpAny_release ⟨σ, _, I2, q⟩
end L2
/-! a static method called off its class -/
namespace StM
open PySem PySem.Spec PyProof.Rows L2 ClX
/-- C.m is a staticmethod: its record at p, its def at g -/
structure SMet (K : PySem.W.Frag) (C : Addr) (mc : Value) (m : Str) (p g : Addr) : Prop where
  at_ : PySem.W.findCls K (.ref C) mc m = some (.get (.builtin "staticmethod.__get__") (.ref p) .none (.ref C))
  rc : ∃ rest, PySem.W.recIn K p "staticmethod" = some (.ref g :: rest)
  kp : PySem.W.keepIn K (.ref g) = true
/-- e.m(..), e the class at C -/
def tSMeth (C : Addr) (sp : Sp) (E : XK) (ta : TE) (t : TA) : TE := fun σ H Q => ta σ H fun x H1 => x = .ref C ∧ t σ H1 fun vs H2 => sp vs H2 Q E
section
variable {X : Cx} {CX : CXT} {k : Nat} {C p g : Addr} {mc : Value} {sp : Sp} {E : XK} {o e : Expr} {es : List Expr} {m : Str} {pos apos : Pos} {ta : TE} {t : TA} {pl : Sem Bool}
theorem pe_smeth (he : PE X o ta) (r : CRead X.K C mc) (c : SMet X.K C mc m p g) (F : FnR X.prog X.w X.K X.mg X.base CX k g sp) (hr : Room k X.A) (hx : Passes CX X E) (ha : PA X (e :: es) t)
    (hst : starEach (e :: es) X.env = (false, eval e X.env) :: starEach es X.env := by rfl) (hpl : (backTo pos (starEach es X.env)).any (·.1) = false := by rfl)
    (ht : eval (.Call (.Attribute o m apos) (e :: es) [] pos) X.env = (do
      let ov ← eval o X.env
      standAt apos.atName
      let (f, first) ← holding [ov] (getMethod ov m pl)
      callWith pos f first (backTo pos (starEach (e :: es) X.env)) (backToKw pos (keywordEach [] X.env))) := by rfl) :
    PE X (.Call (.Attribute o m apos) (e :: es) [] pos) (tSMeth C sp E ta t) := by
  refine ⟨fun pins s σ H Q I h => ?_⟩
  refine PySem.W.methodCall_KW (pl := pl) (thn (he.run pins s σ H _ I h) fun u s1 ⟨x, H1, I1, rx, ex, q⟩ => ?_) ht
  subst ex
  obtain rfl : u = Value.ref C := rx
  obtain ⟨rest, hp⟩ := c.rc
  refine PySem.W.method_cls I1.kIn r.ga (PySem.W.cls_bind I1.kIn r.rd c.at_ ?_)
  refine wpAny_call (PySem.W.sm_get (s := { s1 with toks := s1.toks + 1 }) I1.kIn hp (PySem.W.handed_on rfl ?_))
  have I2 : Inv X pins σ H1 { s1 with toks := s1.toks + 1 } := I1.tok _
  refine PySem.W.callWith_K (h₀ := X.base) I2.ok.mod.kin c.kp (thn (ha.run pos pins _ σ H1 _ I2 q) fun us s3 ⟨vs, H2, I3, rv, q2⟩ => ⟨I3.kIn, ?_⟩) hst hpl
  exact wpAny_call (run_fnR (us := us) (vs := vs) F hr hx I3 rv q2)
end
end StM
/-! str of an own instance; str of an int or a text; C.m() of a static method; o.m(k = v) -/
namespace OwX
open PySem PySem.Spec PyProof.Rows L2 ClX StX
/-- a class's own __str__ -/
structure StrIn (K : PySem.W.Frag) (C g : Addr) : Prop where
  there : PySem.W.findIn K (.ref C) "__str__" = some (some (.ref g))
  isDef : PySem.W.isFn K (.ref g) = true
section
variable {X : Cx} {CX : CXT} {n : Nat} {C g : Addr} {sp : Sp} {E : XK}
theorem call_strI (c : StrIn X.K C g) (F : FnR X.prog X.w X.K X.mg X.base CX n g sp) (hr : Room (n + 2) X.A) (hx : Passes CX X E) :
    CallR X (.type "str") (fun xs H Q => ∃ a, xs = [.ref a] ∧ InsC X H a C ∧ sp [.ref a] H (fun v H' => ∃ y, v = .str y ∧ Q v H') E) := by
  intro pins s σ H xs us Q I r h
  obtain ⟨a, rfl, ha, q⟩ := h
  obtain ⟨u, rfl, ru⟩ := vals1 r
  cases (show u = Value.ref a from ru)
  obtain ⟨ox, od, J, _⟩ := insC_at I ha
  refine PySem.W.kso_call hr.in1.in1.units0 I.kIn J c.there c.isDef ?_
  refine wpAny_mono (wpAny_call (SlX.run_at (us := [.ref a]) (ws := [.ref a]) F hr.in1.in1 I.env0.in1.in1 hx I (.cons rfl .nil) q)) (fun v s' back => ?_) fun _ _ z => z
  obtain ⟨v', H', I', rv, y, ey, qy⟩ := back
  subst ey
  obtain ⟨t, et⟩ := (show ∃ t, v = Value.str y t from rv)
  subst et
  exact ⟨.str y, H', I', ⟨t, rfl⟩, qy⟩
/-- of an int that is not too long, and of a text -/
theorem call_strV : CallR X (.type "str") (fun xs H Q => (∃ i, xs = [.int i] ∧ i.natAbs.log2 < 1920 ∧ Q (.str (toString i)) H) ∨ ∃ a, xs = [.str a] ∧ Q (.str a) H) := fun pins s σ H xs us Q I r h =>
  h.elim (fun hi => call_str_int pins s σ H xs us Q I r hi) fun ha => SkE.call_str_str pins s σ H xs us Q I r ha
end
section
variable {X : Cx} {k : Nat} {C p f : Addr} {mc : Value} {fd : FuncData} {ps ks : List Str} {sp : Sp} {o : Expr} {m : Str} {pos apos : Pos} {ta : TE} {tk : TA} {pl : Sem Bool} {kws : List Keyword} {g : List Value → List Value → List Value} {gV : List V → List V → List V}
/-- o.m(k = v, ..), keywords alone -/
theorem pe_methKw (he : PE X o ta) (c : Cls X.K C) (hm : Meth X.K C m f) (F : FnOk X.prog X.w X.K X.mg X.base CX0 k f fd ps sp) (hr : Room k X.A) (hb : KBn X.K fd ps 1 ks g gV) (hkw : PK X kws tk)
    (some_ : (backToKw pos (keywordEach kws X.env)).all (·.1.isSome) = true := by rfl) (names : (backToKw pos (keywordEach kws X.env)).filterMap (·.1) = ks := by rfl)
    (none_ : ((backTo pos (starEach [] X.env)).any (·.1) || (backToKw pos (keywordEach kws X.env)).any (·.1.isNone)) = false := by rfl)
    (form : eval (.Call (.Attribute o m apos) [] kws pos) X.env = (do let ov ← eval o X.env; standAt apos.atName; let (f, first) ← holding [ov] (getMethod ov m pl); callWith pos f first (backTo pos (starEach [] X.env)) (backToKw pos (keywordEach kws X.env))) := by rfl) :
    PE X (.Call (.Attribute o m apos) [] kws pos) (fun σ H Q => ta σ H fun x H1 => ∃ a dx fs, x = .ref a ∧ H1 a = some (.ins C dx fs) ∧ fs.lookup m = none ∧ tk σ H1 fun zs H2 => zs.length = ks.length ∧ sp (gV [.ref a] zs) H2 Q E0) := by
  refine ⟨fun pins s σ H Q I h => PySem.W.methodCall_KW (pl := pl) (thn (he.run pins s σ H _ I h) fun u s1 ⟨x, H1, J, rx, a, dx, fs, ex, ea, l, q⟩ => ?_) form⟩
  subst ex
  cases (show u = Value.ref a from rx)
  refine getmeth_ok J ea c hm l (PySem.W.callWith_KW0 (first := [.ref a]) (h₀ := X.base) J.ok.mod.kin hm.kp some_ ?_ none_)
  refine thn (hkw.run pos pins s1 σ H1 _ J q) fun ws s2 ⟨zs, H2, J2, rz, l2, q2⟩ => ⟨J2.kIn, ?_⟩
  rw [names]
  exact run_fnN (us := [.ref a]) (vs := [.ref a]) F hr hb pass0 J2 (.cons rfl .nil) rz rfl l2 q2
end
end OwX
namespace K06
open PySem L2 Evl
def top (i : Nat) : Stmt := PySem.Challenge.pw_layerpost_k06_growths_compared.main.body.getD i (.Pass ⟨0, 0, 0, 0⟩)
abbrev sPen : Stmt := top 38
abbrev sDraw : Stmt := top 39
abbrev sPick : Stmt := top 40
/-! ### the pen: a list of the cells, the place, the rest -/
def PenAt (H : Hp) (p l : Addr) (cells : List Int) (m : Nat) : Prop :=
  ∃ (k : Nat) (r : Int), H p = some (.lst [.ref l, .int (k : Int), .int r]) ∧ H l = some (.lst (cells.map V.int)) ∧ k ≤ m
/-- all but p is as it was -/
def Keep (p : Addr) (H H' : Hp) : Prop := ∀ b o, H b = some o → b ≠ p → H' b = some o
theorem Keep.of_ex {p : Addr} {H H' : Hp} (e : Ex H H') : Keep p H H' := fun b o h _ => e b o h
theorem Keep.trans {p : Addr} {H H1 H2 : Hp} (a : Keep p H H1) (b : Keep p H1 H2) : Keep p H H2 := fun c o h n => b c o (a c o h n) n
theorem Keep.upd {p : Addr} {H : Hp} {o : HO} : Keep p H (upd H p o) := fun b u h n => by rw [upd_ne n]; exact h
theorem PenAt.mono {H H' : Hp} {p l : Addr} {cells : List Int} {m n : Nat} (h : PenAt H p l cells m) (e : Ex H H') (hm : m ≤ n) : PenAt H' p l cells n := by
  obtain ⟨k, r, h1, h2, h3⟩ := h
  exact ⟨k, r, e _ _ h1, e _ _ h2, by omega⟩
theorem PenAt.ne {H : Hp} {p l : Addr} {cells : List Int} {m : Nat} (h : PenAt H p l cells m) : l ≠ p := by
  obtain ⟨k, r, h1, h2, _⟩ := h
  refine ne_of h2 h1 ?_
  intro z
  have z2 := HO.lst.inj z
  cases cells with
  | nil => exact absurd z2 (by simp)
  | cons c cs => exact absurd (List.cons.inj z2).1 (by intro q; cases q)
structure Glb (mg : Str → Option Value) : Prop where
  int : mg "int" = none
  abs : mg "abs" = none
  len : mg "len" = none
  list : mg "list" = none
def spDraw : Sp := fun vs H Q _ => ∃ (p l : Addr) (cells : List Int) (m : Nat) (many : Int), vs = [.ref p, .int many] ∧ PenAt H p l cells m ∧ m ≤ 50000 ∧ cells.length ≤ 63 ∧ 0 < many ∧ many ≤ 1000000000 ∧
  ∀ d H', 0 ≤ d → d < many → PenAt H' p l cells (m + 1) → Keep p H H' → Q (.int d) H'
theorem scDraw : FnScope ["_law_pen_here", "_law_many", "_law_digit", "_law_turn", "_law_cell", "_law_great", "_law_mixed"] ["_law_pen_here", "_law_many"] (defScope sDraw) := ⟨rfl, rfl, rfl, by decide +kernel, rfl, by decide +kernel, by decide +kernel⟩
theorem rc_int {i : Int} {H : Hp} : RC (fun xs H Q => (∃ i, xs = [V.int i] ∧ Q (.int i) H) ∨ ∃ k, xs = [V.bl k] ∧ Q (.int (if k then 1 else 0)) H) [.int i] H (.int i) := fun H1 _ _ q => .inl ⟨i, rfl, q H1 (Ex.refl H1)⟩
theorem rc_intB {b : Bool} {H : Hp} : RC (fun xs H Q => (∃ i, xs = [V.int i] ∧ Q (.int i) H) ∨ ∃ k, xs = [V.bl k] ∧ Q (.int (if k then 1 else 0)) H) [.bl b] H (.int (if b then 1 else 0)) := fun H1 _ _ q => .inr ⟨b, rfl, q H1 (Ex.refl H1)⟩
theorem rc_abs {i : Int} {H : Hp} : RC (fun xs H Q => ∃ i, xs = [V.int i] ∧ Q (.int (if i < 0 then -i else i)) H) [.int i] H (.int (if i < 0 then -i else i)) := fun H1 _ _ q => ⟨i, rfl, q H1 (Ex.refl H1)⟩
theorem rc_len {K : PySem.W.Frag} {p : Addr} {xs : List V} {H : Hp} (h : SqL K H p xs) : RC (fun xs H Q => ∃ p ys, xs = [V.ref p] ∧ (SqL K H p ys ∨ SqT K H p ys) ∧ Q (.int ys.length) H) [.ref p] H (.int (xs.length : Int)) := fun H1 e _ q => ⟨p, xs, rfl, .inl (ex_l e h), q H1 (Ex.refl H1)⟩
theorem dpAll_ints {K : PySem.W.Frag} {H : Hp} : ∀ (ns : List Int), DpAll K H (ns.map V.int) (ns.map PyData.int)
  | [] => .nil
  | n :: ns => .cons (.int n) (dpAll_ints ns)
section
variable {P : Program} {w : World} {K : PySem.W.Frag} {mg : Str → Option Value} {base : Heap}
theorem shaped_nil : SeqAt.shaped (.list []) = true := by decide +kernel
theorem canLay_ints : ∀ (ns : List Int), PyData.canLayAll0 (ns.map PyData.int) = true
  | [] => by simp [PyData.canLayAll0]
  | n :: ns => by simp [PyData.canLayAll0, PyData.canLay0, canLay_ints ns]
theorem depth_ints : ∀ (ns : List Int), PyData.depthAll (ns.map PyData.int) = 0
  | [] => rfl
  | n :: ns => by simp [PyData.depthAll, PyData.depth, depth_ints ns]
theorem shaped_ints (ns : List Int) : SeqAt.shaped (.list (ns.map PyData.int)) = true := by
  unfold SeqAt.shaped
  simp [PyData.canLay0, canLay_ints, PyData.depth, depth_ints]
/-- xs != [], xs a list of ints -/
theorem ev_neNil {σ : L2.St} {H : Hp} {ta : TE} {l : Addr} {cells : List Int} (ha : Ev ta σ H (.ref l)) (h : SqL K H l (cells.map V.int)) :
    ∃ b : Bool, Ev (tOp (rNeD K) ta (tLst tNil)) σ H (.bl b) ∧ (b = true → cells ≠ []) := by
  refine ⟨!(PyData.eqv (.list (cells.map PyData.int)) (.list [])), ev_opL (xs := []) ha (el_lst ea_nil (by decide)) (fun p H1 h1 e => ?_), ?_⟩
  · exact fun H2 e2 Q q => ⟨_, _, .lst (ex_l (e.trans e2) h) (dpAll_ints cells), .lst (sq_of (e2 _ _ h1)) .nil, shaped_ints cells, shaped_nil, q H2 (Ex.refl H2)⟩
  · intro hb hc
    subst hc
    exact absurd hb (by decide +kernel)
end
end K06
namespace K06
open PySem L2 Evl
section
variable {P : Program} {w : World} {K : PySem.W.Frag} {mg : Str → Option Value} {base : Heap}
theorem emod_bd (a b : Int) (h : 0 < b) : 0 ≤ a % b ∧ a % b < b := ⟨Int.emod_nonneg a (by omega), Int.emod_lt_of_pos a h⟩
theorem mul_bd {a b A B : Int} (a0 : 0 ≤ a) (aA : a ≤ A) (b0 : 0 ≤ b) (bB : b ≤ B) : 0 ≤ a * b ∧ a * b ≤ A * B := ⟨Int.mul_nonneg a0 b0, Int.mul_le_mul aA bB b0 (by omega)⟩
/-- the last part of a draw: the mixing -/
theorem ok_draw {f : Addr} {fd : FuncData} (F : Fun K "_law_draw" "_law_draw" sDraw f fd) (T : Glb mg) : FnOk P w K mg base CX0 1 f fd ["_law_pen_here", "_law_many"] spDraw := by
  refine F.ok scDraw (fun vs H Q E h => ?_) (fun cdv A outer s H vs Q E hr h => ?_)
  · obtain ⟨p, l, cells, m, many, rfl, _⟩ := h
    rfl
  · obtain ⟨p, l, cells, m, many, rfl, hp, hm, h63, hm0, hm1, k⟩ := h
    refine ⟨_, pss_cons (ps_if (pt_cmpR op_gt (pe_ix ix_list (pv 0) pe_int (fun _ _ => rfl)) pe_int (nomark _)) (pss_cons (ps_set (i := 2) scDraw.nd rfl (.inl rfl) (pe_op op_mod (pe_callTy call_int1 (by rfl) T.int (by decide +kernel) (pa_cons (pe_ix ix_list (pv 0) pe_int (fun _ _ => rfl)) pa_nil)) (pv 1)))
      (pss_cons (ps_asg (pe_op op_fdiv (pe_callTy call_int1 (by rfl) T.int (by decide +kernel) (pa_cons (pe_ix ix_list (pv 0) pe_int (fun _ _ => rfl)) pa_nil)) (pv 1)) (pg_sub (pv 0) pe_int set_list))
      (pss_one (ps_ret (pv 2))))) pss_nil)
      (pss_cons (ps_set (i := 3) scDraw.nd rfl (.inl rfl) (pe_ix ix_list (pv 0) pe_int (fun _ _ => rfl)))
      (pss_cons (ps_asg (pe_op op_add (pv 3) pe_int) (pg_sub (pv 0) pe_int set_list))
      (pss_cons (ps_set (i := 4) scDraw.nd rfl (.inl rfl) (pe_op op_add (pe_op op_mul pe_int (pv 3)) pe_int))
      (pss_cut (ps_if (pt_cmpR (op_neD hr.units) (pe_ix ix_list (pv 0) pe_int (fun _ _ => rfl)) (pe_lst pa_nil) (nomark _)) (pss_one (ps_set (i := 4) scDraw.nd rfl (.inl rfl) (pe_ix ix_list (pe_ix ix_list (pv 0) pe_int (fun _ _ => rfl)) (pe_op op_mod (pe_callTy call_int1 (by rfl) T.int (by decide +kernel) (pa_cons (pv 3) pa_nil)) (pe_callB call_len_seq (by rfl) T.len PySem.boot_len (pa_cons (pe_ix ix_list (pv 0) pe_int (fun _ _ => rfl)) pa_nil))) (fun _ _ => rfl)))) pss_nil)
      (pss_cons (ps_if (PW.pt (pw_and (pt_cmpR op_lt (pv 3) (pe_callB call_len_seq (by rfl) T.len PySem.boot_len (pa_cons (pe_ix ix_list (pv 0) pe_int (fun _ _ => rfl)) pa_nil)) (nomark _)) (pw_and1 (pt_cmpR op_ge (pe_callB call_abs (by rfl) T.abs (by decide +kernel) (pa_cons (pv 4) pa_nil)) (pe_op op_pow pe_int pe_int) (nomark _))))) (pss_cons (ps_set (i := 5) scDraw.nd rfl (.inl rfl) (pe_op op_add (pe_op op_mul pe_int (pe_op op_sub (pe_callB call_abs (by rfl) T.abs (by decide +kernel) (pa_cons (pv 4) pa_nil)) (pe_op op_pow pe_int pe_int))) (pe_callTy call_int1 (by rfl) T.int (by decide +kernel) (pa_cons (pe_cmpR op_lt (pv 4) pe_int (nomark _)) pa_nil))))
      (pss_cons (ps_asg (pe_op op_fdiv (pe_callTy call_int1 (by rfl) T.int (by decide +kernel) (pa_cons (pv 5) pa_nil)) (pv 1)) (pg_sub (pv 0) pe_int set_list))
      (pss_one (ps_ret (pe_op op_mod (pe_callTy call_int1 (by rfl) T.int (by decide +kernel) (pa_cons (pv 5) pa_nil)) (pv 1)))))) pss_nil)
      (pss_cons (ps_set (i := 6) scDraw.nd rfl (.inl rfl) (pe_op op_mod (pe_callTy call_int1 (by rfl) T.int (by decide +kernel) (pa_cons (pe_op op_pow (pe_op op_add (pe_op op_add (pe_op op_mod (pe_callTy call_int1 (by rfl) T.int (by decide +kernel) (pa_cons (pv 4) pa_nil)) pe_int) (pe_op op_mul pe_int (pv 3))) pe_int) pe_int) pa_nil)) pe_int))
      (pss_cons (ps_set (i := 6) scDraw.nd rfl (.inl rfl) (pe_op op_mod (pe_callTy call_int1 (by rfl) T.int (by decide +kernel) (pa_cons (pe_op op_pow (pe_op op_add (pe_op op_add (pe_op op_mul (pv 6) (pe_op op_add (pe_op op_mul pe_int (pv 3)) pe_int)) (pe_op op_mul (pe_op op_mul pe_int (pv 3)) (pv 3))) pe_int) pe_int) pa_nil)) pe_int))
      (pss_one (ps_ret (pe_op op_mod (pe_callTy call_int1 (by rfl) T.int (by decide +kernel) (pa_cons (pe_op op_fdiv (pv 6) pe_int) pa_nil)) (pv 1))))))))))), ?_⟩
    have hpl := hp.ne
    obtain ⟨n, r, h1, h2, hn⟩ := hp
    have many1 : many < 1073741824 := by omega
    refine q_when (et_test (ev_op (ev_op (ev_var rfl) ev_c (rv_ixL (sq_of h1) (atI_nat (j := 2) rfl))) ev_c rv_I0)) (fun hb H1 e1 => ?_) (fun hb H1 e1 => ?_)
    · -- the rest gives a digit
      have r0 : 0 < r := of_decide_eq_true hb
      have g1 := e1 _ _ h1
      refine q_asg (ev_op (ev_cb (ea_cons (ev_op (ev_var rfl) ev_c (rv_ixL (sq_of g1) (atI_nat (j := 2) rfl))) ea_nil) rc_int) (ev_var rfl) (rv_I hm0)) fun H2 e2 => ?_
      have g2 := e2 _ _ g1
      refine q_setL (j := 2) g2 (ev_op (ev_cb (ea_cons (ev_op (ev_var rfl) ev_c (rv_ixL (sq_of g2) (atI_nat (j := 2) rfl))) ea_nil) rc_int) (ev_var rfl) (rv_I ⟨hm0, many1⟩)) (ev_var rfl) ev_c (by show 2 < 3; decide) fun H3 e3 => ?_
      refine s_ret (ev_var rfl) fun H4 e4 => ?_
      have key : ∀ b o, H b = some o → b ≠ p → H4 b = some o := fun b o hb hbp => e4 b o (by rw [upd_ne hbp]; exact e3 _ _ (e2 _ _ (e1 _ _ hb)))
      exact k _ H4 (emod_bd _ _ hm0).1 (emod_bd _ _ hm0).2 ⟨n, _, e4 _ _ upd_same, key _ _ h2 hpl, by omega⟩ key
    · -- at = pen[1]; pen[1] = at + 1
      have g1 := e1 _ _ h1
      refine q_asg (ev_op (ev_var rfl) ev_c (rv_ixL (sq_of g1) (atI_nat (j := 1) rfl))) fun H2 e2 => ?_
      have g2 := e2 _ _ g1
      refine q_setL (j := 1) g2 (ev_op (ev_var rfl) ev_c rv_I0) (ev_var rfl) ev_c (by show 1 < 3; decide) fun H3 e3 => ?_
      have g3 := e3 _ _ g2
      have hl3 : H3 l = some (.lst (cells.map V.int)) := e3 _ _ (e2 _ _ (e1 _ _ h2))
      have kp3 : ∀ b o, H b = some o → b ≠ p → (upd H3 p (.lst ([V.ref l, V.int (n : Int), V.int r].set 1 (V.int ((n : Int) + 1))))) b = some o := fun b o hb hbp => by
        rw [upd_ne hbp]; exact e3 _ _ (e2 _ _ (e1 _ _ hb))
      generalize hH : upd H3 p (.lst ([V.ref l, V.int (n : Int), V.int r].set 1 (V.int ((n : Int) + 1)))) = J at kp3
      have j1 : J p = some (.lst [V.ref l, V.int ((n + 1 : Nat) : Int), V.int r]) := by
        rw [← hH, upd_same]
        rfl
      have j2 : J l = some (.lst (cells.map V.int)) := kp3 _ _ h2 hpl
      have hn0 : (0 : Int) ≤ (n : Int) ∧ (n : Int) ≤ 50000 := ⟨by omega, by omega⟩
      -- cell = 66903 * at + 7021
      refine q_asg (ev_op (ev_op ev_c (ev_var rfl) (rv_I (.inl ⟨by decide, by decide⟩))) ev_c rv_I0) fun H4 e4 => ?_
      have j41 := e4 _ _ j1
      have j42 := e4 _ _ j2
      -- if pen[0] != []: cell = ..
      obtain ⟨bn, evn, hne⟩ := ev_neNil (K := K) (σ := [some (V.ref p), some (V.int many), none, some (V.int (n : Int)), some (V.int (66903 * (n : Int) + 7021)), none, none]) (H := H4) (cells := cells) (l := l)
        (ta := tOp (rIxL K) (tVar 0) (tC (V.int 0))) (ev_op (ev_var rfl) ev_c (rv_ixL (sq_of j41) (atI_nat (j := 0) rfl))) (sq_of j42)
      refine q_cut (M := fun σ' H' => ∃ c : Int, σ' = [some (V.ref p), some (V.int many), none, some (V.int (n : Int)), some (V.int c), none, none] ∧ Ex H4 H') (s_when (et_test evn) (fun hb H5 e5 => ?_) (fun hb H5 e5 => ⟨_, rfl, e5⟩)) ?_
      · have hlen : 0 < cells.length := List.length_pos_iff.mpr (hne hb)
        have hi : 0 ≤ (n : Int) % (cells.length : Int) ∧ (n : Int) % (cells.length : Int) < (cells.length : Int) := emod_bd _ _ (by omega)
        obtain ⟨i, ei⟩ := Int.eq_ofNat_of_zero_le hi.1
        have il : i < cells.length := by have := hi.2; omega
        have lm : ((cells.map V.int).length : Int) = (cells.length : Int) := by rw [List.length_map]
        refine s_asg (v := V.int (cells[i])) (ev_op (y := V.int (i : Int)) (ev_op (ev_var rfl) ev_c (rv_ixL (sq_of (e5 _ _ j41)) (atI_nat (j := 0) rfl)))
          (ev_is (ev_op (ev_cb (ea_cons (ev_var rfl) ea_nil) rc_int) (ev_cb (ea_cons (ev_op (ev_var rfl) ev_c (rv_ixL (sq_of (e5 _ _ j41)) (atI_nat (j := 0) rfl))) ea_nil) (rc_len (sq_of (e5 _ _ j42)))) (rv_I (by rw [lm]; omega))) (by show V.int ((n : Int) % ((cells.map V.int).length : Int)) = _; rw [lm, ei]))
          (rv_ixL (sq_of (e5 _ _ j42)) (atI_nat (by rw [List.getElem?_map, List.getElem?_eq_getElem il]; rfl)))) fun H6 e6 => ⟨_, rfl, e5.trans e6⟩
      rintro σ' H5 ⟨c, rfl, e5⟩
      have k1 := e5 _ _ j41
      have k2 := e5 _ _ j42
      have kp5 : ∀ b o, H b = some o → b ≠ p → H5 b = some o := fun b o hb hbp => e5 _ _ (e4 _ _ (kp3 _ _ hb hbp))
      have lm : ((cells.map V.int).length : Int) = (cells.length : Int) := by rw [List.length_map]
      refine q_when (et_and (et_test (ev_op (ev_var rfl) (ev_cb (ea_cons (ev_op (ev_var rfl) ev_c (rv_ixL (sq_of k1) (atI_nat (j := 0) rfl))) ea_nil) (rc_len (sq_of k2))) rv_I0))
        (fun _ => et_test (ev_op (ev_cb (ea_cons (ev_var rfl) ea_nil) rc_abs) (ev_op ev_c ev_c (rv_I ⟨by decide, by decide, by decide⟩)) rv_I0))) (fun hb H6 e6 => ?_) (fun hb H6 e6 => ?_)
      · -- a great cell
        refine q_asg (ev_op (ev_op ev_c (ev_op (ev_cb (ea_cons (ev_var rfl) ea_nil) rc_abs) (ev_op ev_c ev_c (rv_I ⟨by decide, by decide, by decide⟩)) rv_I0) (rv_I (.inl ⟨by decide, by decide⟩))) (ev_cb (ea_cons (ev_op (ev_var rfl) ev_c rv_I0) ea_nil) rc_intB) rv_I0) fun H7 e7 => ?_
        have k7 := e7 _ _ (e6 _ _ k1)
        refine q_setL (j := 2) k7 (ev_op (ev_cb (ea_cons (ev_var rfl) ea_nil) rc_int) (ev_var rfl) (rv_I ⟨hm0, many1⟩)) (ev_var rfl) ev_c (by show 2 < 3; decide) fun H8 e8 => ?_
        refine s_ret (ev_op (ev_cb (ea_cons (ev_var rfl) ea_nil) rc_int) (ev_var rfl) (rv_I hm0)) fun H9 e9 => ?_
        have key : ∀ b o, H b = some o → b ≠ p → H9 b = some o := fun b o hb hbp => e9 _ _ (by rw [upd_ne hbp]; exact e8 _ _ (e7 _ _ (e6 _ _ (kp5 _ _ hb hbp))))
        exact k _ H9 (emod_bd _ _ hm0).1 (emod_bd _ _ hm0).2 ⟨n + 1, _, e9 _ _ upd_same, key _ _ h2 hpl, by omega⟩ key
      · -- mixed
        have b1 := emod_bd c 2147483489 (by decide)
        refine q_asg (ev_op (ev_cb (ea_cons (ev_op (ev_op (ev_op (ev_op (ev_cb (ea_cons (ev_var rfl) ea_nil) rc_int) ev_c (rv_I (by decide))) (ev_op ev_c (ev_var rfl) (rv_I (.inl ⟨by decide, by decide⟩))) rv_I0) ev_c rv_I0) ev_c
          (rv_I ⟨by decide, by decide, by omega⟩)) ea_nil) rc_int) ev_c (rv_I (by decide))) fun H7 e7 => ?_
        generalize hx : (c % 2147483489 + 48705 * (n : Int) + 979) ^ (5 : Int).toNat % 2147483497 = x
        have b2 : 0 ≤ x ∧ x < 2147483497 := by rw [← hx]; exact emod_bd _ _ (by decide)
        have b3 := mul_bd b2.1 (by omega : x ≤ 2147483497) (by omega : 0 ≤ 2 * (n : Int) + 657) (by omega : 2 * (n : Int) + 657 ≤ 100657)
        have b4 := mul_bd (by omega : 0 ≤ 42957 * (n : Int)) (by omega : 42957 * (n : Int) ≤ 2147850000) hn0.1 hn0.2
        refine q_asg (ev_op (ev_cb (ea_cons (ev_op (ev_op (ev_op (ev_op (ev_var rfl) (ev_op (ev_op ev_c (ev_var rfl) (rv_I (.inl ⟨by decide, by decide⟩))) ev_c rv_I0) (rv_I (.inl ⟨by omega, by omega⟩)))
            (ev_op (ev_op ev_c (ev_var rfl) (rv_I (.inl ⟨by decide, by decide⟩))) (ev_var rfl) (rv_I (.inl ⟨by omega, by omega⟩))) rv_I0) ev_c rv_I0) ev_c (rv_I ⟨by decide, by decide, by omega⟩)) ea_nil) rc_int) ev_c (rv_I (by decide))) fun H8 e8 => ?_
        refine s_ret (ev_op (ev_cb (ea_cons (ev_op (ev_var rfl) ev_c (rv_I ⟨by decide, by decide⟩)) ea_nil) rc_int) (ev_var rfl) (rv_I hm0)) fun H9 e9 => ?_
        have k9 := e9 _ _ (e8 _ _ (e7 _ _ (e6 _ _ k1)))
        have key : ∀ b o, H b = some o → b ≠ p → H9 b = some o := fun b o hb hbp => e9 _ _ (e8 _ _ (e7 _ _ (e6 _ _ (kp5 _ _ hb hbp))))
        exact k _ H9 (emod_bd _ _ hm0).1 (emod_bd _ _ hm0).2 ⟨n + 1, _, k9, key _ _ h2 hpl, by omega⟩ key
end
end K06
namespace K06
open PySem L2 Evl
section
variable {P : Program} {w : World} {K : PySem.W.Frag} {mg : Str → Option Value} {base : Heap}
/-! ### _law_pen -/
def spPen (K : PySem.W.Frag) : Sp := fun vs H Q _ => ∃ (a : Addr) (ns : List Int), vs = [.ref a] ∧ SqL K H a (ns.map V.int) ∧ ns.length ≤ 63 ∧
  ∀ p l H', H p = none → H l = none → Ex H H' → PenAt H' p l ns 0 → Q (.ref p) H'
theorem scPen : FnScope ["_law_script"] ["_law_script"] (defScope sPen) := ⟨rfl, rfl, rfl, by decide +kernel, rfl, by decide +kernel, by decide +kernel⟩
theorem cut63 (xs : List V) (h : xs.length ≤ 63) : cutV xs none (some 63) = xs := by
  have e1 : HT.sIx xs.length 0 none = 0 := rfl
  have e2 : HT.sIx xs.length xs.length (some 63) = min 63 xs.length := rfl
  unfold cutV
  rw [e1, e2, List.drop_zero, Nat.sub_zero, Nat.min_eq_right h, List.take_length]
theorem ok_pen {f : Addr} {fd : FuncData} (F : Fun K "_law_pen" "_law_pen" sPen f fd) (T : Glb mg) : FnOk P w K mg base CX0 1 f fd ["_law_script"] (spPen K) := by
  refine F.ok scPen (fun vs H Q E h => ?_) (fun cdv A outer s H vs Q E hr h => ?_)
  · obtain ⟨a, ns, rfl, _⟩ := h
    rfl
  · obtain ⟨a, ns, rfl, hS, hl, k⟩ := h
    refine ⟨_, pss_one (ps_ret (pe_lst (pa_cons (pe_callTy call_list_of (by rfl) T.list (by decide +kernel) (pa_cons (pe_slice sl_list (pv 0) po_none (po_some pe_int)) pa_nil)) (pa_cons pe_int (pa_cons pe_int pa_nil))))), ?_⟩
    have ev := el_sl (K := K) (σ := [some (V.ref a)]) (H := H) (tl := tNoPart) (th := tPart (tC (.int 63))) (ev_var (i := 0) rfl) eo_none (eo_some ev_c) hS
    rw [cut63 _ (by rw [List.length_map]; exact hl)] at ev
    refine ev H (Ex.refl H) _ fun q H1 hq e1 h1 => ?_
    refine ⟨q, _, rfl, .inl (sq_of h1), fun l hl1 => ?_⟩
    refine ⟨by show 3 ≤ sizeLine; decide, fun p hp => ?_⟩
    have hp1 : p ≠ l := fun z => by
      rw [z, upd_same] at hp
      cases hp
    have hpn : H1 p = none := by rw [upd_ne hp1] at hp; exact hp
    exact k p l _ (fresh_back e1 hpn) (fresh_back e1 hl1) ((e1.trans (Ex.new hl1)).trans (Ex.new hp)) ⟨0, 0, upd_same, by rw [upd_ne hp1.symm, upd_same], Nat.le_refl _⟩
/-! ### _law_pick -/
def spPick : Sp := fun vs H Q _ => ∃ (p l a : Addr) (cells : List Int) (m : Nat) (xs : List V), vs = [.ref p, .ref a] ∧ PenAt H p l cells m ∧ m ≤ 50000 ∧ cells.length ≤ 63 ∧ H a = some (.lst xs) ∧ a ≠ p ∧ 0 < xs.length ∧ xs.length ≤ 1000000 ∧
  ∀ (i : Nat) x H', xs[i]? = some x → PenAt H' p l cells (m + 1) → Keep p H H' → Q x H'
theorem scPick : FnScope ["_law_pen_here", "_law_some"] ["_law_pen_here", "_law_some"] (defScope sPick) := ⟨rfl, rfl, rfl, by decide +kernel, rfl, by decide +kernel, by decide +kernel⟩
theorem ok_pick {f fD : Addr} {fd fdD : FuncData} (F : Fun K "_law_pick" "_law_pick" sPick f fd) (T : Glb mg) (FD : Fun K "_law_draw" "_law_draw" sDraw fD fdD) (bD : Binds K fdD ["_law_pen_here", "_law_many"] []) (gD : mg "_law_draw" = some (.ref fD)) :
    FnOk P w K mg base CX0 2 f fd ["_law_pen_here", "_law_some"] spPick := by
  have GD : FnOk P w K mg base CX0 1 fD fdD ["_law_pen_here", "_law_many"] spDraw := ok_draw FD T
  refine F.ok scPick (fun vs H Q E h => ?_) (fun cdv A outer s H vs Q E hr h => ?_)
  · obtain ⟨p, l, a, cells, m, xs, rfl, _⟩ := h
    rfl
  · obtain ⟨p, l, a, cells, m, xs, rfl, hp, hm, h63, ha, hap, hx0, hx1, k⟩ := h
    refine ⟨_, pss_one (ps_ret (pe_ix ix_list (pv 1) (pe_call GD hr (by rfl) gD FD.kp bD .nil pass0 (pa_cons (pv 0) (pa_cons (pe_callB call_len_seq (by rfl) T.len PySem.boot_len (pa_cons (pv 1) pa_nil)) pa_nil))) (fun _ _ => rfl))), ?_⟩
    refine ⟨_, rfl, _, rfl, _, rfl, a, xs, rfl, .inl (sq_of ha), p, l, cells, m, (xs.length : Int), rfl, hp, hm, h63, by omega, by omega, fun d H' d0 d1 hp' kp => ?_⟩
    obtain ⟨i, rfl⟩ := Int.eq_ofNat_of_zero_le d0
    have hi : i < xs.length := by omega
    have ei : xs[i]? = some xs[i] := List.getElem?_eq_getElem hi
    exact ⟨a, xs, (i : Int), xs[i], rfl, rfl, sq_of (kp _ _ ha hap), atI_nat ei, k i _ H' ei hp' kp⟩
end
end K06
namespace L2
open PySem PySem.Spec PyProof.Rows
section
variable {X : Cx} {k : Nat} {f : Addr} {fd : FuncData} {ps ks : List Str} {sp : Sp} {x : Str} {p pos : Pos} {kws : List Keyword} {tk : TA} {g : List Value → List Value → List Value} {gV : List V → List V → List V}
/-- f(k = v, ..), keywords alone -/
theorem pe_callK0 (F : FnOk X.prog X.w X.K X.mg X.base CX0 k f fd ps sp) (hr : Room k X.A) (hg : Gl X x) (hm : X.mg x = some (.ref f)) (hk : PySem.W.keepIn X.K (.ref f) = true) (hb : KBn X.K fd ps 0 ks g gV) (hkw : PK X kws tk)
    (hall : (backToKw pos (keywordEach kws X.env)).all (·.1.isSome) = true := by rfl) (hks : (backToKw pos (keywordEach kws X.env)).filterMap (·.1) = ks := by rfl) (hdb : (x == ("__debug__" : Str)) = false := by decide)
    (hpl : ((backTo pos (starEach [] X.env)).any (·.1) || (backToKw pos (keywordEach kws X.env)).any (·.1.isNone)) = false := by rfl) :
    PE X (.Call (.Name x p) [] kws pos) (tCallN 0 ks.length sp gV E0 tNil tk) := by
  refine ⟨fun pins s σ H Q I h => ?_⟩
  refine wpAny_Call_Name_kw (ld_glob I hg hm ?_ hdb)
  refine PySem.W.callWith_KW0 (h₀ := X.base) I.ok.mod.kin hk hall ?_ hpl
  refine thn (hkw.run pos pins s σ H _ I h) fun ws s2 ⟨zs, H2, I2, rz, l1, l2, q2⟩ => ⟨I2.kIn, ?_⟩
  rw [hks]
  exact run_fnN (us := []) (vs := []) F hr hb pass0 I2 .nil rz rfl l2 q2
/-- how a def without defaults binds keywords alone -/
theorem Fun.kb {K : PySem.W.Frag} {x qual : Str} {st : Stmt} {f : Addr} {fd : FuncData} {ps ks : List Str} (F : Fun K x qual st f fd) (n : Nat) (g : {α : Type} → List α → List α → List α)
    (hrel : ∀ {vs zs : List V} {us ws : List Value}, Vals vs us → Vals zs ws → Vals (g vs zs) (g us ws))
    (h : ∀ (kV doc pm : Value) (an : Option Addr) (cdv ct : Value) (us ws : List Value), us.length = n → ws.length = ks.length → bindArgs (PySem.W.fnOf x qual (defArgs st) (defBody st) (defScope st) .none kV doc pm an cdv ct) ⟨us, ks.zip ws⟩ = pure (ps.zip (g us ws))) :
    KBn K fd ps n ks (fun us ws => g us ws) (fun vs zs => g vs zs) := by
  obtain ⟨oc, od, kV, doc, pm, an, cdv, ct, osl, rfl, lk, hcd⟩ := F.ex
  exact ⟨fun s us ws _ l1 l2 => .of_eq (h kV doc pm an cdv ct us ws l1 l2), fun r1 r2 => hrel r1 r2⟩
end
end L2
namespace K06
open PySem L2 Evl
abbrev sIsInt : Stmt := top 3
abbrev sWithin : Stmt := top 4
abbrev sFrom0 : Stmt := top 5
structure GlbT (mg : Str → Option Value) : Prop where
  inst : mg "isinstance" = none
  int : mg "int" = none
  bool : mg "bool" = none
  str : mg "str" = none
  len : mg "len" = none
theorem tyx_mono {K : PySem.W.Frag} {H H' : Hp} {x : V} {t : Value} (e : Ex H H') (h : TyX K H x t) : TyX K H' x t := by
  cases h with
  | base b =>
    refine .base ?_
    cases b with
    | non => exact .non
    | bl b => exact .bl b
    | int i => exact .int i
    | str x => exact .str x
    | flt x => exact .flt x
    | lst q => exact .lst (e _ _ q)
    | frz q => exact .frz (e _ _ q)
    | tup q => exact .tup (e _ _ q)
    | dK q => exact .dK (e _ _ q)
    | dT q => exact .dT (e _ _ q)
    | ins q a b c d f => exact .ins (e _ _ q) a b c d f
  | byt b => exact .byt b
  | set q => exact .set (e _ _ q)
  | kList q c => exact .kList q c
  | kTuple q c => exact .kTuple q c
  | kDict q c => exact .kDict q c
  | fTuple q => exact .fTuple (e _ _ q)
  | fDict q => exact .fDict (e _ _ q)
theorem rc_isi {K : PySem.W.Frag} {H : Hp} {x : V} {a b : String} {r : Bool} (h : TyX K H x (.type a)) (hk : kitB a b = some r) : RC (rIsi K) [x, .ty b] H (.bl r) := fun H1 e _ q => ⟨x, .ty b, .type a, .type b, r, rfl, .ty b, tyx_mono e h, kit_ty hk, q H1 (Ex.refl H1)⟩
section
variable {P : Program} {w : World} {K : PySem.W.Frag} {mg : Str → Option Value} {base : Heap}
/-! ### is_integer -/
def spIsInt (K : PySem.W.Frag) : Sp := fun vs H Q _ => ∃ (x : V) (T : String) (a b : Bool), vs = [x] ∧ TyX K H x (.type T) ∧ kitB T "int" = some a ∧ kitB T "bool" = some b ∧ RetV (.bl (a && !b)) H Q
theorem scIsInt : FnScope ["value"] ["value"] (defScope sIsInt) := ⟨rfl, rfl, rfl, by decide +kernel, rfl, by decide +kernel, by decide +kernel⟩
theorem ok_isInt {f : Addr} {fd : FuncData} (F : Fun K "is_integer" "is_integer" sIsInt f fd) (T : GlbT mg) : FnOk P w K mg base CX0 1 f fd ["value"] (spIsInt K) := by
  refine F.ok scIsInt (fun vs H Q E h => ?_) (fun cdv A outer s H vs Q E hr h => ?_)
  · obtain ⟨x, t, a, b, rfl, _⟩ := h
    rfl
  · obtain ⟨x, t, a, b, rfl, ht, ha, hb, k⟩ := h
    refine ⟨_, pss_one (ps_ret (pe_and (pe_callB call_isi (by rfl) T.inst (by decide +kernel) (pa_cons (pv 0) (pa_cons (pe_bltn (v := .ty "int") (by rfl) T.int (by decide +kernel) rfl) pa_nil)))
      (pe_one (pe_not (pe_callB call_isi (by rfl) T.inst (by decide +kernel) (pa_cons (pv 0) (pa_cons (pe_bltn (v := .ty "bool") (by rfl) T.bool (by decide +kernel) rfl) pa_nil))))))), ?_⟩
    exact s_ret (ev_andV (ev_cb (ea_cons (ev_var rfl) (ea_cons ev_c ea_nil)) (rc_isi ht ha)) fun _ => ev_notV (ev_cb (ea_cons (ev_var rfl) (ea_cons ev_c ea_nil)) (rc_isi ht hb))) k
/-! ### is_within -/
def spWithin (K : PySem.W.Frag) : Sp := fun vs H Q _ => (∃ i lo hi : Int, vs = [.int i, .int lo, .int hi] ∧ RetV (.bl (decide (lo ≤ i) && decide (i ≤ hi))) H Q) ∨
  ∃ (x y z : V) (T : String) (a b : Bool), vs = [x, y, z] ∧ TyX K H x (.type T) ∧ kitB T "int" = some a ∧ kitB T "bool" = some b ∧ (a && !b) = false ∧ RetV (.bl false) H Q
theorem scWithin : FnScope ["value", "least", "most"] ["value", "least", "most"] (defScope sWithin) := ⟨rfl, rfl, rfl, by decide +kernel, rfl, by decide +kernel, by decide +kernel⟩
theorem spv_isInt {H : Hp} {x : V} {t : String} {a b : Bool} (ht : TyX K H x (.type t)) (ha : kitB t "int" = some a) (hb : kitB t "bool" = some b) : SpV (spIsInt K) [x] H (.bl (a && !b)) := fun H1 e Q q E => ⟨x, t, a, b, rfl, tyx_mono e ht, ha, hb, q⟩
theorem kit_int_int : kitB "int" "int" = some true := by decide +kernel
theorem kit_int_bool : kitB "int" "bool" = some false := by decide +kernel
theorem ev_chain {σ : L2.St} {H : Hp} {ta tb tc : TE} {i j l : Int} {f g : Int → Int → Bool} (ha : Ev ta σ H (.int i)) (hb : Ev tb σ H (.int j)) (hc : Ev tc σ H (.int l)) :
    Ev (tChain (rI0 fun i j => .bl (f i j)) (rI0 fun i j => .bl (g i j)) ta tb tc) σ H (.bl (f i j && g j l)) := fun H1 e Q q =>
  ha H1 e _ fun H2 e2 => hb H2 (e.trans e2) _ fun H3 e3 => ⟨i, j, rfl, rfl, f i j, rfl, by
    cases h : f i j with
    | true =>
      simp only [h, Bool.true_and] at q
      exact hc H3 ((e.trans e2).trans e3) _ fun H4 e4 => ⟨j, l, rfl, rfl, q H4 ((e2.trans e3).trans e4)⟩
    | false =>
      simp only [h, Bool.false_and] at q
      exact q H3 (e2.trans e3)⟩
theorem ok_within {f fI : Addr} {fd fdI : FuncData} (F : Fun K "is_within" "is_within" sWithin f fd) (T : GlbT mg) (FI : Fun K "is_integer" "is_integer" sIsInt fI fdI) (bI : Binds K fdI ["value"] []) (gI : mg "is_integer" = some (.ref fI)) :
    FnOk P w K mg base CX0 2 f fd ["value", "least", "most"] (spWithin K) := by
  have GI : FnOk P w K mg base CX0 1 fI fdI ["value"] (spIsInt K) := ok_isInt FI T
  refine F.ok scWithin (fun vs H Q E h => ?_) (fun cdv A outer s H vs Q E hr h => ?_)
  · rcases h with ⟨i, lo, hi, rfl, _⟩ | ⟨x, y, z, t, a, b, rfl, _⟩ <;> rfl
  · have body : ∀ {x y z : V}, vs = [x, y, z] → ∀ {r : Bool}, Ev (tAndV (tCall (spIsInt K) [] E0 (tCons (tVar 0) tNil)) (tChain (rI0 fun i j => .bl (decide (i ≤ j))) (rI0 fun i j => .bl (decide (i ≤ j))) (tVar 1) (tVar 0) (tVar 2))) [some x, some y, some z] H (.bl r) → RetV (.bl r) H Q →
        ∃ t, PSs (cxOf CX0 P w K mg base ["value", "least", "most"] "is_within" (defScope sWithin) f cdv A outer s H E).nox (defBody sWithin) t ∧ t { nx := fun _ H' => Q .non H', rt := Q } (start ["value", "least", "most"] vs) H := by
      rintro x y z rfl r ev k
      exact ⟨_, pss_one (ps_ret (pe_and (pe_call GI hr (by rfl) gI FI.kp bI .nil pass0 (pa_cons (pv 0) pa_nil)) (pe_one (pe_chain op_le op_le (pv 1) (pv 0) (pv 2))))), s_ret ev k⟩
    rcases h with ⟨i, lo, hi, rfl, k⟩ | ⟨x, y, z, t, a, b, rfl, ht, ha, hb, hn, k⟩
    · refine body rfl (ev_andV (a := true) (ev_call (z := .bl true) (ea_cons (ev_var rfl) ea_nil) (spv_isInt (.base (.int i)) kit_int_int kit_int_bool)) fun _ => ev_chain (ev_var rfl) (ev_var rfl) (ev_var rfl)) k
    · refine body rfl (r := false) (ev_andV (a := false) (b := false) (ev_call (ea_cons (ev_var rfl) ea_nil) (by have q := spv_isInt ht ha hb; rw [hn] at q; exact q)) fun z => absurd z (by decide)) k
/-! ### is_from_zero -/
def spFrom0 (K : PySem.W.Frag) : Sp := fun vs H Q _ => (∃ i : Int, vs = [.int i] ∧ RetV (.bl (decide (0 ≤ i))) H Q) ∨
  ∃ (x : V) (T : String) (a b : Bool), vs = [x] ∧ TyX K H x (.type T) ∧ kitB T "int" = some a ∧ kitB T "bool" = some b ∧ (a && !b) = false ∧ RetV (.bl false) H Q
theorem scFrom0 : FnScope ["value"] ["value"] (defScope sFrom0) := ⟨rfl, rfl, rfl, by decide +kernel, rfl, by decide +kernel, by decide +kernel⟩
theorem ok_from0 {f fI : Addr} {fd fdI : FuncData} (F : Fun K "is_from_zero" "is_from_zero" sFrom0 f fd) (T : GlbT mg) (FI : Fun K "is_integer" "is_integer" sIsInt fI fdI) (bI : Binds K fdI ["value"] []) (gI : mg "is_integer" = some (.ref fI)) :
    FnOk P w K mg base CX0 2 f fd ["value"] (spFrom0 K) := by
  have GI : FnOk P w K mg base CX0 1 fI fdI ["value"] (spIsInt K) := ok_isInt FI T
  refine F.ok scFrom0 (fun vs H Q E h => ?_) (fun cdv A outer s H vs Q E hr h => ?_)
  · rcases h with ⟨i, rfl, _⟩ | ⟨x, t, a, b, rfl, _⟩ <;> rfl
  · rcases h with ⟨i, rfl, k⟩ | ⟨x, t, a, b, rfl, ht, ha, hb, hn, k⟩
    all_goals refine ⟨_, pss_one (ps_ret (pe_and (pe_call GI hr (by rfl) gI FI.kp bI .nil pass0 (pa_cons (pv 0) pa_nil)) (pe_one (pe_cmpR op_ge (pv 0) pe_int (nomark _))))), ?_⟩
    · refine s_ret (ev_is (ev_andV (a := true) (ev_call (z := .bl true) (ea_cons (ev_var rfl) ea_nil) (spv_isInt (.base (.int i)) kit_int_int kit_int_bool)) fun _ => ev_op (ev_var rfl) ev_c rv_I0) (by rfl)) k
    · refine s_ret (ev_andV (a := false) (b := false) (ev_call (ea_cons (ev_var rfl) ea_nil) (by have q := spv_isInt ht ha hb; rw [hn] at q; exact q)) fun z => absurd z (by decide)) k
end
end K06
/-! sequences that come round: periods, borders of a row, the least period, the normal form of a growth -/
namespace Gr
/-! ### periods of a sequence -/
def Pd {α : Type} (d : Nat → α) (q : Nat) : Prop := ∀ k, d (k + q) = d k
section
variable {α : Type} {d : Nat → α} {p q n : Nat}
theorem Pd.zero : Pd d 0 := fun _ => rfl
theorem Pd.mul (h : Pd d q) : ∀ j k, d (k + j * q) = d k
  | 0, k => by rw [Nat.zero_mul, Nat.add_zero]
  | j + 1, k => by rw [Nat.succ_mul, ← Nat.add_assoc, h, Pd.mul h j]
theorem Pd.mod (h : Pd d q) (k : Nat) : d (k % q) = d k := by
  have e := Nat.mod_add_div k q
  rw [Nat.mul_comm] at e
  have := Pd.mul h (k / q) (k % q)
  rw [e] at this
  exact this.symm
theorem Pd.sub (hp : Pd d p) (hq : Pd d q) (h : p ≤ q) : Pd d (q - p) := fun k => by
  have e : k + (q - p) + p = k + q := by omega
  rw [← hp (k + (q - p)), e, hq]
theorem Pd.rem (hp : Pd d p) (hq : Pd d q) : Pd d (q % p) := fun k => by
  have e : k + q % p + q / p * p = k + q := by
    have := Nat.mod_add_div q p
    rw [Nat.mul_comm] at this
    omega
  rw [← Pd.mul hp (q / p) (k + q % p), e, hq]
theorem Pd.gcd : ∀ (p q : Nat), Pd d p → Pd d q → Pd d (Nat.gcd p q) := by
  intro p
  induction p using Nat.strongRecOn with
  | ind p ih =>
    intro q hp hq
    rcases Nat.eq_zero_or_pos p with h | h
    · rw [h, Nat.gcd_zero_left]
      exact hq
    · rw [Nat.gcd_rec]
      exact ih (q % p) (Nat.mod_lt _ h) p (hp.rem hq) hp
/-- the least one -/
structure Least (d : Nat → α) (p : Nat) : Prop where
  pos : 0 < p
  pd : Pd d p
  le : ∀ q, 0 < q → Pd d q → p ≤ q
end
/-! ### rows -/
def at' (g : List Int) (i : Nat) : Int := g.getD i 0
/-- the row, again and again -/
def dif (g : List Int) (k : Nat) : Int := at' g (k % g.length)
/-- within the row what stands p further on is the same -/
def Per (g : List Int) (p : Nat) : Prop := ∀ i, i + p < g.length → at' g (i + p) = at' g i
section
variable {g : List Int} {p q : Nat}
theorem dif_pd : Pd (dif g) g.length := fun k => by unfold dif; rw [Nat.add_mod_right]
theorem dif_lt {k : Nat} (h : k < g.length) : dif g k = at' g k := by unfold dif; rw [Nat.mod_eq_of_lt h]
theorem Pd.per (h : Pd (dif g) p) : Per g p := fun i hi => by
  have := h i
  rwa [dif_lt hi, dif_lt (by omega)] at this
theorem Per.mul (h : Per g p) : ∀ j i, i + j * p < g.length → at' g (i + j * p) = at' g i
  | 0, i, _ => by rw [Nat.zero_mul, Nat.add_zero]
  | j + 1, i, hi => by
    rw [Nat.succ_mul, ← Nat.add_assoc] at hi ⊢
    rw [h _ hi, Per.mul h j i (by omega)]
theorem Per.pd (h : Per g p) (hp : 0 < p) (hd : p ∣ g.length) (hn : 0 < g.length) : Pd (dif g) p := fun k => by
  obtain ⟨c, hc⟩ := hd
  have hr : k % g.length < g.length := Nat.mod_lt _ hn
  unfold dif
  rw [Nat.add_mod]
  generalize k % g.length = r at hr
  have hpn : p ≤ g.length := by
    rcases c with _ | c
    · rw [Nat.mul_zero] at hc; omega
    · rw [hc]; exact Nat.le_mul_of_pos_right p (Nat.succ_pos c)
  rcases Nat.lt_or_ge p g.length with h1 | h1
  · rw [Nat.mod_eq_of_lt h1]
    rcases Nat.lt_or_ge (r + p) g.length with h2 | h2
    · rw [Nat.mod_eq_of_lt h2]
      exact h r h2
    · rw [Nat.mod_eq_sub_mod h2, Nat.mod_eq_of_lt (by omega)]
      rcases c with _ | c
      · rw [Nat.mul_zero] at hc; omega
      have e : r + p - g.length + c * p = r := by
        have : p * (c + 1) = c * p + p := by rw [Nat.mul_comm, Nat.succ_mul]
        omega
      have z := h.mul c (r + p - g.length) (by rw [e]; exact hr)
      rw [e] at z
      exact z.symm
  · have e : p = g.length := Nat.le_antisymm hpn h1
    rw [e, Nat.mod_self, Nat.add_zero, Nat.mod_eq_of_lt hr]
end
/-! ### borders: the longest one of each beginning -/
/-- w signs at the end of the first m are the first w -/
def Bd (g : List Int) (m w : Nat) : Prop := w < m ∧ ∀ i, i < w → at' g (m - w + i) = at' g i
structure Lb (g : List Int) (m w : Nat) : Prop where
  bd : Bd g m w
  top : ∀ v, Bd g m v → v ≤ w
section
variable {g : List Int} {m w v : Nat}
theorem bd_zero (h : 0 < m) : Bd g m 0 := ⟨h, fun i hi => absurd hi (Nat.not_lt_zero i)⟩
theorem lb_one : Lb g 1 0 := ⟨bd_zero Nat.one_pos, fun v h => by have := h.1; omega⟩
theorem bd_succ : Bd g (m + 1) (v + 1) ↔ Bd g m v ∧ at' g m = at' g v := by
  constructor
  · rintro ⟨h, a⟩
    have hv : v < m := by omega
    refine ⟨⟨hv, fun i hi => ?_⟩, ?_⟩
    · have := a i (by omega)
      rwa [show m + 1 - (v + 1) + i = m - v + i by omega] at this
    · have := a v (by omega)
      rwa [show m + 1 - (v + 1) + v = m by omega] at this
  · rintro ⟨⟨h, a⟩, e⟩
    refine ⟨by omega, fun i hi => ?_⟩
    rw [show m + 1 - (v + 1) + i = m - v + i by omega]
    rcases Nat.lt_or_ge i v with h1 | h1
    · exact a i h1
    · have : i = v := by omega
      subst this
      rw [show m - i + i = m by omega]
      exact e
/-- a border of a border, and the other way round -/
theorem bd_trans (h : Bd g m w) (h2 : Bd g w v) : Bd g m v := by
  refine ⟨Nat.lt_trans h2.1 h.1, fun i hi => ?_⟩
  have := h.2 (w - v + i) (by have := h2.1; omega)
  rw [show m - w + (w - v + i) = m - v + i by have := h.1; have := h2.1; omega] at this
  rw [this]
  exact h2.2 i hi
theorem bd_down (h : Bd g m w) (h2 : Bd g m v) (hv : v < w) : Bd g w v := by
  refine ⟨hv, fun i hi => ?_⟩
  have a := h.2 (w - v + i) (by omega)
  rw [show m - w + (w - v + i) = m - v + i by have := h.1; omega] at a
  rw [← a]
  exact h2.2 i hi
/-- what the search for the next border keeps: a border, and none that goes on is longer -/
def Srch (g : List Int) (m w : Nat) : Prop := Bd g m w ∧ ∀ v, Bd g m v → at' g m = at' g v → v ≤ w
theorem srch_start (h : Lb g m w) : Srch g m w := ⟨h.bd, fun v b _ => h.top v b⟩
theorem srch_step (h : Srch g m w) (hw : 0 < w) (hne : at' g m ≠ at' g w) {w' : Nat} (b : Lb g w w') : Srch g m w' ∧ w' < w :=
  ⟨⟨bd_trans h.1 b.bd, fun v hv e => by
    have h1 := h.2 v hv e
    have h2 : v ≠ w := fun z => hne (z ▸ e)
    exact b.top v (bd_down h.1 hv (by omega))⟩, b.bd.1⟩
theorem srch_yes (h : Srch g m w) (e : at' g m = at' g w) : Lb g (m + 1) (w + 1) := by
  refine ⟨bd_succ.mpr ⟨h.1, e⟩, fun v hv => ?_⟩
  rcases v with _ | v
  · exact Nat.zero_le _
  · obtain ⟨a, b⟩ := bd_succ.mp hv
    exact Nat.succ_le_succ (h.2 v a b)
theorem srch_no (h : Srch g m 0) (e : at' g m ≠ at' g 0) : Lb g (m + 1) 0 := by
  refine ⟨bd_zero (Nat.succ_pos m), fun v hv => ?_⟩
  rcases v with _ | v
  · exact Nat.le_refl _
  · obtain ⟨a, b⟩ := bd_succ.mp hv
    have : v = 0 := Nat.le_zero.mp (h.2 v a b)
    subst this
    exact absurd b e
end
/-! ### the least period of a row, by its longest border -/
section
variable {g : List Int} {b : Nat}
theorem Per.bd {p : Nat} (h : Per g p) (hp : 0 < p) (hn : p ≤ g.length) : Bd g g.length (g.length - p) := by
  refine ⟨by omega, fun i hi => ?_⟩
  have := h i (by omega)
  rw [show g.length - (g.length - p) + i = i + p by omega]
  exact this
theorem Bd.per (h : Bd g g.length b) : Per g (g.length - b) := fun i hi => by
  have := h.2 i (by have := h.1; omega)
  rwa [Nat.add_comm] at this
theorem least_of (hn : 0 < g.length) (h : Lb g g.length b) : Least (dif g) (if g.length % (g.length - b) = 0 then g.length - b else g.length) := by
  have hb := h.bd.1
  have hq : 0 < g.length - b := by omega
  have per := h.bd.per
  have top : ∀ p, 0 < p → p ≤ g.length → Per g p → g.length - b ≤ p := fun p hp hpn pp => by
    have := h.top _ (pp.bd hp hpn)
    omega
  -- each period of the endless row has a divisor of the length below it that is one too
  have down : ∀ q, 0 < q → Pd (dif g) q → ∃ c, 0 < c ∧ c ∣ g.length ∧ c ≤ q ∧ c ≤ g.length ∧ Pd (dif g) c := fun q hq0 hqd =>
    ⟨Nat.gcd q g.length, Nat.gcd_pos_of_pos_left _ hq0, Nat.gcd_dvd_right _ _, Nat.gcd_le_left _ hq0, Nat.gcd_le_right _ hn, Pd.gcd q g.length hqd dif_pd⟩
  by_cases e : g.length % (g.length - b) = 0
  · rw [if_pos e]
    refine ⟨hq, per.pd hq (Nat.dvd_of_mod_eq_zero e) hn, fun q hq0 hqd => ?_⟩
    obtain ⟨c, c0, _, cq, cn, cd⟩ := down q hq0 hqd
    exact Nat.le_trans (top c c0 cn cd.per) cq
  · rw [if_neg e]
    refine ⟨hn, dif_pd, fun q hq0 hqd => ?_⟩
    obtain ⟨c, c0, cv, cq, cn, cd⟩ := down q hq0 hqd
    rcases Nat.lt_or_ge c g.length with h1 | h1
    · exfalso
      have h2 : g.length - b ≤ c := top c c0 cn cd.per
      obtain ⟨z, hz⟩ := cv
      have h3 : c + c ≤ g.length := by
        rcases z with _ | _ | z
        · rw [Nat.mul_zero] at hz; omega
        · rw [Nat.mul_one] at hz; omega
        · rw [hz, show z + 1 + 1 = z + 2 from rfl, Nat.mul_add, Nat.mul_two]; omega
      have pd : Pd (dif g) (g.length - b) := fun k => by
        have r : k % c < c := Nat.mod_lt _ c0
        have a : dif g (k % c) = dif g k := cd.mod k
        have a2 : dif g (k + (g.length - b)) = dif g (k % c + (g.length - b)) := by
          have e1 := Nat.mod_add_div k c
          rw [Nat.mul_comm] at e1
          have := cd.mul (k / c) (k % c + (g.length - b))
          rw [show k % c + (g.length - b) + k / c * c = k + (g.length - b) by omega] at this
          exact this
        rw [a2, ← a, dif_lt (by omega), dif_lt (by omega)]
        exact per _ (by omega)
      have q2 := Pd.gcd (g.length - b) g.length pd dif_pd
      have g0 : 0 < Nat.gcd (g.length - b) g.length := Nat.gcd_pos_of_pos_left _ hq
      have l1 := top _ g0 (Nat.gcd_le_right _ hn) q2.per
      have l2 := Nat.gcd_le_left (g.length) hq
      have e2 : Nat.gcd (g.length - b) g.length = g.length - b := Nat.le_antisymm l2 l1
      exact e (Nat.mod_eq_zero_of_dvd (e2 ▸ Nat.gcd_dvd_right (g.length - b) g.length))
    · exact Nat.le_trans h1 cq
end
end Gr
namespace Gr
/-! ### sums of beginnings -/
def acc (d : Nat → Int) : Nat → Int
  | 0 => 0
  | n + 1 => acc d n + d n
theorem acc_add (d : Nat → Int) (m : Nat) : ∀ n, acc d (m + n) = acc d m + acc (fun k => d (m + k)) n
  | 0 => by rw [Nat.add_zero]; exact (Int.add_zero _).symm
  | n + 1 => by
    rw [← Nat.add_assoc]
    show acc d (m + n) + d (m + n) = acc d m + (acc _ n + d (m + n))
    rw [acc_add d m n, Int.add_assoc]
theorem acc_congr {d e : Nat → Int} : ∀ n, (∀ k, k < n → d k = e k) → acc d n = acc e n
  | 0, _ => rfl
  | n + 1, h => by
    show acc d n + d n = acc e n + e n
    rw [acc_congr n fun k hk => h k (by omega), h n (Nat.lt_succ_self n)]
theorem acc_mul {d : Nat → Int} {p : Nat} (h : Pd d p) : ∀ j r, acc d (j * p + r) = j * acc d p + acc d r
  | 0, r => by rw [Nat.zero_mul, Nat.zero_add]; show acc d r = ((0 : Nat) : Int) * _ + _; rw [Int.natCast_zero, Int.zero_mul, Int.zero_add]
  | j + 1, r => by
    rw [Nat.succ_mul, show j * p + p + r = p + (j * p + r) by omega, acc_add]
    rw [acc_congr (e := d) (j * p + r) fun k _ => by rw [Nat.add_comm p k]; exact h k]
    rw [acc_mul h j r]
    rw [show ((j + 1 : Nat) : Int) = (j : Int) + 1 from rfl, Int.add_mul, Int.one_mul]
    omega
/-! ### growths -/
/-- the last one of a row -/
def lst (t : List Int) : Int := at' t (t.length - 1)
/-- the value at a number, by told values and gains -/
def val (t g : List Int) (n : Nat) : Int := if n < t.length then at' t n else lst t + acc (dif g) (n - t.length + 1)
section
variable {t t' g g' : List Int} {n : Nat}
theorem val_lt (h : n < t.length) : val t g n = at' t n := if_pos h
/-- from the last told value on -/
theorem val_ge (h0 : 0 < t.length) (k : Nat) : val t g (t.length - 1 + k) = lst t + acc (dif g) k := by
  unfold val
  rcases Nat.eq_zero_or_pos k with h | h
  · subst h
    rw [if_pos (by omega)]
    show at' t (t.length - 1 + 0) = lst t + 0
    rw [Int.add_zero]
    rfl
  · rw [if_neg (by omega), show t.length - 1 + k - t.length + 1 = k by omega]
theorem val_step (h0 : 0 < t.length) (k : Nat) : val t g (t.length - 1 + k + 1) - val t g (t.length - 1 + k) = dif g k := by
  rw [Nat.add_assoc, val_ge h0, val_ge h0]
  show lst t + (acc (dif g) k + dif g k) - (lst t + acc (dif g) k) = dif g k
  omega
/-- the rounds taken at once -/
theorem val_far (h0 : 0 < t.length) (hn : t.length ≤ n) : val t g n = lst t + ((n - t.length + 1) / g.length : Nat) * acc (dif g) g.length + acc (dif g) ((n - t.length + 1) % g.length) := by
  unfold val
  rw [if_neg (by omega)]
  have e := Nat.mod_add_div (n - t.length + 1) g.length
  rw [Nat.mul_comm, Nat.add_comm] at e
  rw [← e, acc_mul dif_pd, e, Int.add_assoc]
/-- the normal form -/
structure NF (t g : List Int) : Prop where
  told : 0 < t.length
  gains : 0 < g.length
  least : Least (dif g) g.length
  few : t.length = 1 ∨ at' t (t.length - 1) - at' t (t.length - 2) ≠ lst g
/-- by how much the values rise -/
def rise (t g : List Int) (n : Nat) : Int := val t g (n + 1) - val t g n
theorem rise_ge (h0 : 0 < t.length) (h : t.length - 1 ≤ n) : rise t g n = dif g (n - (t.length - 1)) := by
  have := val_step (g := g) h0 (n - (t.length - 1))
  rwa [show t.length - 1 + (n - (t.length - 1)) = n by omega] at this
/-- the number of gains is the least number by which the rises come round at last -/
theorem least_end (h : NF t g) {q : Nat} (hq : 0 < q) {m : Nat} (hm : ∀ n, m ≤ n → rise t g (n + q) = rise t g n) : g.length ≤ q := by
  refine h.least.le q hq fun k => ?_
  have a := hm (t.length - 1 + (k + m * g.length)) (by have : m ≤ m * g.length := Nat.le_mul_of_pos_right m h.gains; omega)
  rw [rise_ge h.told (by omega), rise_ge h.told (by omega)] at a
  rw [show t.length - 1 + (k + m * g.length) + q - (t.length - 1) = k + q + m * g.length by omega, show t.length - 1 + (k + m * g.length) - (t.length - 1) = k + m * g.length by omega] at a
  rwa [dif_pd.mul, dif_pd.mul] at a
theorem end_pd (h : NF t g) (n : Nat) (hn : t.length - 1 ≤ n) : rise t g (n + g.length) = rise t g n := by
  rw [rise_ge h.told (by omega), rise_ge h.told hn, show n + g.length - (t.length - 1) = n - (t.length - 1) + g.length by omega]
  exact dif_pd _
theorem at_eq_of {a b : List Int} (hl : a.length = b.length) (h : ∀ i, i < a.length → at' a i = at' b i) : a = b := by
  refine List.ext_getElem? fun i => ?_
  rcases Nat.lt_or_ge i a.length with h1 | h1
  · have := h i h1
    unfold at' at this
    rw [List.getD_eq_getElem?_getD, List.getD_eq_getElem?_getD] at this
    rw [List.getElem?_eq_getElem h1, List.getElem?_eq_getElem (hl ▸ h1)] at this ⊢
    exact congrArg some this
  · rw [List.getElem?_eq_none h1, List.getElem?_eq_none (hl ▸ h1)]
theorem told_le (h : NF t g) (h' : NF t' g') (e : ∀ n, val t g n = val t' g' n) (eg : g.length = g'.length) : t'.length ≤ t.length := by
  rcases Nat.lt_or_ge t.length t'.length with hl | hl
  · exfalso
    have re : ∀ n, rise t g n = rise t' g' n := fun n => by unfold rise; rw [e, e]
    rcases h'.few with z | z
    · have := h.told; omega
    · apply z
      have t0 := h.told
      have a : rise t' g' (t'.length - 2) = at' t' (t'.length - 1) - at' t' (t'.length - 2) := by
        unfold rise
        rw [show t'.length - 2 + 1 = t'.length - 1 by omega, val_lt (by omega), val_lt (by omega)]
      have b : rise t' g' (t'.length - 2 + g.length) = lst g' := by
        have g0 := h.gains
        rw [rise_ge h'.told (by omega), show t'.length - 2 + g.length - (t'.length - 1) = g'.length - 1 by omega, dif_lt (by omega)]
        rfl
      rw [← a, ← b, ← re, ← re]
      exact (end_pd h _ (by omega)).symm
  · exact hl
/-- one normal form -/
theorem nf_one (h : NF t g) (h' : NF t' g') (e : ∀ n, val t g n = val t' g' n) : t = t' ∧ g = g' := by
  have re : ∀ n, rise t g n = rise t' g' n := fun n => by unfold rise; rw [e, e]
  have l1 : g.length ≤ g'.length := least_end h h'.gains (m := t'.length - 1) fun n hn => by rw [re, re]; exact end_pd h' n hn
  have l2 : g'.length ≤ g.length := least_end h' h.gains (m := t.length - 1) fun n hn => by rw [← re, ← re]; exact end_pd h n hn
  have eg : g.length = g'.length := Nat.le_antisymm l1 l2
  have et : t.length = t'.length := Nat.le_antisymm (told_le h' h (fun n => (e n).symm) eg.symm) (told_le h h' e eg)
  refine ⟨at_eq_of et fun i hi => ?_, at_eq_of eg fun i hi => ?_⟩
  · have := e i
    rwa [val_lt hi, val_lt (et ▸ hi)] at this
  · have a := rise_ge (g := g) h.told (n := t.length - 1 + i) (by omega)
    have b := rise_ge (g := g') h'.told (n := t.length - 1 + i) (by omega)
    rw [re, b, show t.length - 1 + i - (t.length - 1) = i by omega, show t.length - 1 + i - (t'.length - 1) = i by omega, dif_lt hi, dif_lt (eg ▸ hi)] at a
    exact a.symm
end
/-! ### told values that the gains give anyway -/
section
variable {t g : List Int} {s : Nat}
/-- the gain that would be i steps ahead of the first one -/
def back (g : List Int) (s : Nat) : Int := at' g (g.length - 1 - s % g.length)
/-- the last s told values are those that the gains give -/
def Spr (t g : List Int) (s : Nat) : Prop := s < t.length ∧ ∀ i, i < s → at' t (t.length - 1 - i) - at' t (t.length - 1 - i - 1) = back g i
theorem spr_zero (h : 0 < t.length) : Spr t g 0 := ⟨h, fun i hi => absurd hi (Nat.not_lt_zero i)⟩
theorem spr_step (h : Spr t g s) (hs : s < t.length - 1) (e : at' t (t.length - 1 - s) - at' t (t.length - 1 - s - 1) = back g s) : Spr t g (s + 1) :=
  ⟨by omega, fun i hi => by
    rcases Nat.lt_or_ge i s with z | z
    · exact h.2 i z
    · rw [show i = s by omega]
      exact e⟩
/-- told values and gains without the last s told values -/
def cutT (t : List Int) (s : Nat) : List Int := t.take (t.length - s)
def cutG (g : List Int) (s : Nat) : List Int := g.drop (g.length - s % g.length) ++ g.take (g.length - s % g.length)
theorem cutT_len (hs : s < t.length) : (cutT t s).length = t.length - s := by
  unfold cutT
  rw [List.length_take]
  omega
theorem cutG_len : (cutG g s).length = g.length := by
  unfold cutG
  rw [List.length_append, List.length_drop, List.length_take]
  omega
theorem at_take {l : List Int} {n i : Nat} (h : i < n) : at' (l.take n) i = at' l i := by
  unfold at'
  rw [List.getD_eq_getElem?_getD, List.getD_eq_getElem?_getD, List.getElem?_take_of_lt h]
theorem at_drop {l : List Int} {n i : Nat} : at' (l.drop n) i = at' l (n + i) := by
  unfold at'
  rw [List.getD_eq_getElem?_getD, List.getD_eq_getElem?_getD, List.getElem?_drop]
theorem at_app {a b : List Int} {i : Nat} : at' (a ++ b) i = if i < a.length then at' a i else at' b (i - a.length) := by
  unfold at'
  rw [List.getD_eq_getElem?_getD, List.getD_eq_getElem?_getD, List.getD_eq_getElem?_getD]
  by_cases h : i < a.length
  · rw [if_pos h, List.getElem?_append_left h]
  · rw [if_neg h, List.getElem?_append_right (by omega)]
/-- the gains turned: each one s places later -/
theorem dif_cut (hg : 0 < g.length) (k : Nat) : dif (cutG g s) (k + s) = dif g k := by
  have hr : s % g.length < g.length := Nat.mod_lt _ hg
  have hk : k % g.length < g.length := Nat.mod_lt _ hg
  unfold dif
  rw [cutG_len, Nat.add_mod]
  unfold cutG
  generalize s % g.length = r at hr ⊢
  generalize k % g.length = q at hk ⊢
  rw [at_app, List.length_drop, show g.length - (g.length - r) = r by omega]
  rcases Nat.lt_or_ge (q + r) g.length with h | h
  · rw [Nat.mod_eq_of_lt h, if_neg (by omega), at_take (by omega), show q + r - r = q by omega]
  · rw [Nat.mod_eq_sub_mod h, Nat.mod_eq_of_lt (by omega), if_pos (by omega), at_drop, show g.length - r + (q + r - g.length) = q by omega]
theorem dif_cut' (hg : 0 < g.length) {k : Nat} (h : s ≤ k) : dif (cutG g s) k = dif g (k - s) := by
  have := dif_cut (s := s) hg (k - s)
  rwa [show k - s + s = k by omega] at this
/-- the gain i places ahead of the first one, told of the turned ones -/
theorem back_cut (hg : 0 < g.length) {i : Nat} (hi : i < s) : dif (cutG g s) (s - 1 - i) = back g i := by
  have p := (dif_pd (g := cutG g s)).mul (i + 1) (s - 1 - i)
  rw [cutG_len] at p
  rw [← p, dif_cut' hg (by have : i + 1 ≤ (i + 1) * g.length := Nat.le_mul_of_pos_right _ hg; omega)]
  unfold dif back
  congr 1
  have hr : i % g.length < g.length := Nat.mod_lt _ hg
  have e := Nat.mod_add_div i g.length
  generalize i % g.length = r at hr e ⊢
  generalize i / g.length = c at e
  have e3 : (i + 1) * g.length = i * g.length + g.length := by rw [Nat.add_mul, Nat.one_mul]
  have e5 : c * g.length = g.length * c := Nat.mul_comm _ _
  have i0 : i ≤ i * g.length := Nat.le_mul_of_pos_right _ hg
  have cl : c ≤ i := by
    have := Nat.le_mul_of_pos_left c hg
    omega
  -- the number of whole rounds left
  have e4 : s - 1 - i + (i + 1) * g.length - s = g.length - 1 - r + (i - c) * g.length := by
    have : (i - c) * g.length = i * g.length - c * g.length := Nat.sub_mul _ _ _
    have le2 : c * g.length ≤ i * g.length := Nat.mul_le_mul_right _ cl
    omega
  rw [e4, Nat.add_mul_mod_self_right, Nat.mod_eq_of_lt (by omega)]
theorem back_zero (hg : 0 < g.length) : back g 0 = lst g := by
  unfold back lst
  rw [Nat.zero_mod, Nat.sub_zero]
/-- what stands s places ahead of the last told value, by the gains -/
theorem spr_told (h : Spr t g s) : ∀ i, i ≤ s → at' t (t.length - 1 - s + i) = lst (cutT t s) + acc (fun k => back g (s - 1 - k)) i
  | 0, _ => by
    have := h.1
    show _ = lst (cutT t s) + 0
    unfold lst
    rw [cutT_len h.1, Int.add_zero]
    unfold cutT
    rw [at_take (by omega), Nat.add_zero, show t.length - s - 1 = t.length - 1 - s by omega]
  | i + 1, hi => by
    have h1 := h.1
    have a := spr_told h i (by omega)
    have b := h.2 (s - 1 - i) (by omega)
    rw [show t.length - 1 - (s - 1 - i) = t.length - 1 - s + (i + 1) by omega, show t.length - 1 - s + (i + 1) - 1 = t.length - 1 - s + i by omega, a] at b
    show _ = lst (cutT t s) + (acc _ i + back g (s - 1 - i))
    omega
/-- the same values -/
theorem val_cut (hg : 0 < g.length) (h : Spr t g s) (n : Nat) : val (cutT t s) (cutG g s) n = val t g n := by
  have h1 := h.1
  have len := cutT_len (t := t) h1
  rcases Nat.lt_or_ge n (t.length - s) with a | a
  · rw [val_lt (by omega), val_lt (by omega)]
    unfold cutT
    rw [at_take a]
  · obtain ⟨k, rfl⟩ : ∃ k, n = t.length - s - 1 + k := ⟨n - (t.length - s - 1), by omega⟩
    have v := val_ge (g := cutG g s) (t := cutT t s) (by omega) k
    rw [len] at v
    rw [v]
    have b : ∀ i, i < s → dif (cutG g s) i = back g (s - 1 - i) := fun i hi => by
      have := back_cut (g := g) (s := s) hg (i := s - 1 - i) (by omega)
      rwa [show s - 1 - (s - 1 - i) = i by omega] at this
    rcases Nat.lt_or_ge k (s + 1) with c | c
    · rw [val_lt (by omega), show t.length - s - 1 + k = t.length - 1 - s + k by omega, spr_told h k (by omega), acc_congr k fun i hi => b i (by omega)]
    · obtain ⟨j, rfl⟩ : ∃ j, k = s + j := ⟨k - s, by omega⟩
      rw [acc_add, acc_congr s b, acc_congr (e := dif g) j fun i _ => by rw [Nat.add_comm s i]; exact dif_cut hg i]
      have l := spr_told h s (Nat.le_refl s)
      rw [show t.length - 1 - s + s = t.length - 1 by omega] at l
      rw [show t.length - s - 1 + (s + j) = t.length - 1 + j by omega, val_ge (by omega)]
      unfold lst at l ⊢
      rw [l]
      omega
theorem least_cut (hg : 0 < g.length) (h : Least (dif g) g.length) : Least (dif (cutG g s)) (cutG g s).length := by
  refine ⟨by rw [cutG_len]; exact hg, dif_pd, fun q hq hp => ?_⟩
  rw [cutG_len]
  refine h.le q hq fun k => ?_
  have := hp (k + s)
  rw [show k + s + q = k + q + s by omega, dif_cut hg, dif_cut hg] at this
  exact this
/-- the search of told values has come to its end: the normal form -/
theorem nf_cut (hg : 0 < g.length) (l : Least (dif g) g.length) (h : Spr t g s) (e : s = t.length - 1 ∨ at' t (t.length - 1 - s) - at' t (t.length - 1 - s - 1) ≠ back g s) : NF (cutT t s) (cutG g s) := by
  have h1 := h.1
  have len := cutT_len (t := t) h1
  refine ⟨by omega, by rw [cutG_len]; exact hg, least_cut hg l, ?_⟩
  rcases e with e | e
  · left
    omega
  · by_cases z : t.length - s = 1
    · left
      omega
    · right
      rw [len]
      unfold cutT
      rw [at_take (by omega), at_take (by omega), show t.length - s - 1 = t.length - 1 - s by omega, show t.length - s - 2 = t.length - 1 - s - 1 by omega]
      have q : lst (cutG g s) = back g s := by
        have a := back_cut (g := g) (s := s + 1) hg (i := s) (Nat.lt_succ_self s)
        have r : dif (cutG g (s + 1)) (s + 1 - 1 - s) = dif (cutG g s) (g.length - 1) := by
          rw [show s + 1 - 1 - s = 0 by omega]
          have p := (dif_pd (g := cutG g (s + 1))).mul (s + 1) 0
          rw [cutG_len] at p
          have m : s + 1 ≤ (s + 1) * g.length := Nat.le_mul_of_pos_right _ hg
          rw [← p, dif_cut' hg (by omega)]
          have p2 := (dif_pd (g := cutG g s)).mul s (g.length - 1)
          rw [cutG_len] at p2
          have m2 : s ≤ s * g.length := Nat.le_mul_of_pos_right _ hg
          have e3 : (s + 1) * g.length = s * g.length + g.length := by rw [Nat.add_mul, Nat.one_mul]
          rw [← p2, dif_cut' hg (by omega)]
          congr 1
          omega
        rw [r, dif_lt (by rw [cutG_len]; omega)] at a
        unfold lst
        rw [cutG_len]
        exact a
      rw [q]
      exact e
end
end Gr
namespace Gr
/-! ### told values and gains of a sequence that rises in rounds at last -/
section
variable {f : Nat → Int} {b l : Nat}
def pT (f : Nat → Int) (b : Nat) : List Int := (List.range b).map f
def pG (f : Nat → Int) (b l : Nat) : List Int := (List.range l).map fun k => f (b + k) - f (b + k - 1)
theorem pT_len : (pT f b).length = b := by unfold pT; rw [List.length_map, List.length_range]
theorem pG_len : (pG f b l).length = l := by unfold pG; rw [List.length_map, List.length_range]
theorem at_map_range {h : Nat → Int} {n i : Nat} (hi : i < n) : at' ((List.range n).map h) i = h i := by
  unfold at'
  rw [List.getD_eq_getElem?_getD, List.getElem?_map, List.getElem?_range hi]
  rfl
theorem val_parted (hb : 0 < b) (hl : 0 < l) (h : ∀ n, b - 1 ≤ n → f (n + l + 1) - f (n + l) = f (n + 1) - f n) (n : Nat) : val (pT f b) (pG f b l) n = f n := by
  have lt := pT_len (f := f) (b := b)
  have lg := pG_len (f := f) (b := b) (l := l)
  rcases Nat.lt_or_ge n b with a | a
  · rw [val_lt (by omega)]
    exact at_map_range a
  · obtain ⟨k, rfl⟩ : ∃ k, n = b - 1 + k := ⟨n - (b - 1), by omega⟩
    have v := val_ge (t := pT f b) (g := pG f b l) (by omega) k
    rw [lt] at v
    rw [v]
    have d : ∀ i, dif (pG f b l) i = f (b - 1 + i + 1) - f (b - 1 + i) := fun i => by
      unfold dif
      rw [lg]
      have hi : i % l < l := Nat.mod_lt _ hl
      have e : at' (pG f b l) (i % l) = f (b + i % l) - f (b + i % l - 1) := at_map_range hi
      rw [e, show b + i % l = b - 1 + i % l + 1 by omega, Nat.add_sub_cancel]
      have p : Pd (fun i => f (b - 1 + i + 1) - f (b - 1 + i)) l := fun i => by
        have := h (b - 1 + i) (by omega)
        rw [show b - 1 + i + l = b - 1 + (i + l) by omega] at this
        exact this
      exact p.mod i
    have la : lst (pT f b) = f (b - 1) := by
      unfold lst
      rw [lt]
      exact at_map_range (by omega)
    rw [la]
    clear v
    induction k with
    | zero => show f (b - 1) + 0 = f (b - 1 + 0); rw [Int.add_zero, Nat.add_zero]
    | succ k ih =>
      show f (b - 1) + (acc _ k + dif (pG f b l) k) = f (b - 1 + (k + 1))
      have ih' : f (b - 1) + acc (dif (pG f b l)) k = f (b - 1 + k) := by
        rcases Nat.lt_or_ge (b - 1 + k) b with c | c
        · have : k = 0 := by omega
          subst this
          show f (b - 1) + 0 = f (b - 1 + 0)
          rw [Int.add_zero, Nat.add_zero]
        · exact ih c
      rw [d k, ← Int.add_assoc, ih', ← Nat.add_assoc]
      omega
end
/-! ### sums -/
section
variable {t g t' g' : List Int}
/-- rises of a growth come round behind its told values, by each number of which its gains are a divisor -/
theorem rise_pd (h0 : 0 < t.length) {l n : Nat} (hd : g.length ∣ l) (hn : t.length - 1 ≤ n) : val t g (n + l + 1) - val t g (n + l) = val t g (n + 1) - val t g n := by
  have a := rise_ge (g := g) h0 (n := n + l) (by omega)
  have b := rise_ge (g := g) h0 hn
  unfold rise at a b
  rw [a, b, show n + l - (t.length - 1) = n - (t.length - 1) + l by omega]
  obtain ⟨c, rfl⟩ := hd
  rw [Nat.mul_comm]
  exact dif_pd.mul c _
theorem val_sum (h0 : 0 < t.length) (h0' : 0 < t'.length) {b l : Nat} (hb : t.length ≤ b) (hb' : t'.length ≤ b) (hl : 0 < l) (hd : g.length ∣ l) (hd' : g'.length ∣ l) (n : Nat) :
    val (pT (fun n => val t g n + val t' g' n) b) (pG (fun n => val t g n + val t' g' n) b l) n = val t g n + val t' g' n := by
  refine val_parted (by omega) hl (fun n hn => ?_) n
  have a := rise_pd (g := g) h0 (l := l) (n := n) hd (by omega)
  have c := rise_pd (g := g') h0' (l := l) (n := n) hd' (by omega)
  omega
/-! ### each value so many times -/
def sc (k : Int) (l : List Int) : List Int := l.map fun x => k * x
theorem sc_len {k : Int} {l : List Int} : (sc k l).length = l.length := List.length_map _
theorem sc_at {k : Int} {l : List Int} {i : Nat} : at' (sc k l) i = k * at' l i := by
  unfold at' sc
  rw [List.getD_eq_getElem?_getD, List.getD_eq_getElem?_getD, List.getElem?_map]
  cases l[i]? with
  | none => show (0 : Int) = k * 0; rw [Int.mul_zero]
  | some x => rfl
theorem acc_sc {k : Int} {d : Nat → Int} : ∀ n, acc (fun i => k * d i) n = k * acc d n
  | 0 => (Int.mul_zero k).symm
  | n + 1 => by
    show acc _ n + k * d n = k * (acc d n + d n)
    rw [acc_sc n, Int.mul_add]
theorem val_sc {k : Int} {n : Nat} : val (sc k t) (sc k g) n = k * val t g n := by
  have d : dif (sc k g) = fun i => k * dif g i := funext fun i => by unfold dif; rw [sc_len, sc_at]
  unfold val
  rw [sc_len]
  by_cases h : n < t.length
  · rw [if_pos h, if_pos h, sc_at]
  · rw [if_neg h, if_neg h, d, acc_sc, Int.mul_add]
    unfold lst
    rw [sc_len, sc_at]
/-! ### begun later -/
/-- the gains turned the other way -/
def rot (g : List Int) (r : Nat) : List Int := g.drop r ++ g.take r
theorem rot_len {r : Nat} (h : r ≤ g.length) : (rot g r).length = g.length := by
  unfold rot
  rw [List.length_append, List.length_drop, List.length_take]
  omega
theorem dif_rot {r : Nat} (h : r < g.length) (k : Nat) : dif (rot g r) k = dif g (k + r) := by
  unfold dif
  rw [rot_len (Nat.le_of_lt h), Nat.add_mod, Nat.mod_eq_of_lt h]
  have hk : k % g.length < g.length := Nat.mod_lt _ (by omega)
  generalize k % g.length = q at hk ⊢
  unfold rot
  rw [at_app, List.length_drop]
  rcases Nat.lt_or_ge (q + r) g.length with c | c
  · rw [Nat.mod_eq_of_lt c, if_pos (by omega), at_drop, Nat.add_comm]
  · rw [Nat.mod_eq_sub_mod c, Nat.mod_eq_of_lt (by omega), if_neg (by omega), at_take (by omega)]
    congr 1
    omega
/-- still within the told values -/
theorem val_shift1 {m : Nat} (hm : m < t.length) (n : Nat) : val (t.drop m) g n = val t g (n + m) := by
  have l : (t.drop m).length = t.length - m := List.length_drop
  rcases Nat.lt_or_ge n (t.length - m) with a | a
  · rw [val_lt (by omega), val_lt (by omega), at_drop, Nat.add_comm]
  · obtain ⟨k, rfl⟩ : ∃ k, n = t.length - m - 1 + k := ⟨n - (t.length - m - 1), by omega⟩
    have v := val_ge (t := t.drop m) (g := g) (by omega) k
    rw [l] at v
    rw [v, show t.length - m - 1 + k + m = t.length - 1 + k by omega, val_ge (by omega)]
    unfold lst
    rw [l, at_drop, show m + (t.length - m - 1) = t.length - 1 by omega]
/-- behind them -/
theorem val_shift2 {m : Nat} (h0 : 0 < t.length) (hg : 0 < g.length) (hm : t.length ≤ m) (n : Nat) : val [val t g m] (rot g ((m - t.length + 1) % g.length)) n = val t g (n + m) := by
  have hr : (m - t.length + 1) % g.length < g.length := Nat.mod_lt _ hg
  have v := val_ge (t := [val t g m]) (g := rot g ((m - t.length + 1) % g.length)) Nat.one_pos n
  rw [show [val t g m].length - 1 + n = n from Nat.zero_add n] at v
  rw [v, show n + m = t.length - 1 + (m - t.length + 1 + n) by omega, val_ge h0, acc_add]
  have e : lst [val t g m] = lst t + acc (dif g) (m - t.length + 1) := by
    show val t g m = _
    have := val_ge (g := g) h0 (m - t.length + 1)
    rwa [show t.length - 1 + (m - t.length + 1) = m by omega] at this
  rw [e, Int.add_assoc]
  congr 2
  refine acc_congr n fun k _ => ?_
  rw [dif_rot hr]
  have p := (dif_pd (g := g)).mul ((m - t.length + 1) / g.length) (k + (m - t.length + 1) % g.length)
  have q := Nat.mod_add_div (m - t.length + 1) g.length
  rw [Nat.mul_comm] at q
  rw [← p]
  congr 1
  omega
end
end Gr
namespace Gr
/-! ### the greatest and the least of two -/
/-- by how much one round of L numbers raises a growth -/
def rate (g : List Int) (L : Nat) : Int := acc (dif g) g.length * ((L / g.length : Nat) : Int)
theorem val_round {t g : List Int} (t0 : 0 < t.length) (g0 : 0 < g.length) {L : Nat} (h : g.length ∣ L) {n : Nat} (hn : t.length - 1 ≤ n) : val t g (n + L) = val t g n + rate g L := by
  obtain ⟨j, rfl⟩ := h
  obtain ⟨k, rfl⟩ : ∃ k, n = t.length - 1 + k := ⟨n - (t.length - 1), by omega⟩
  rw [Nat.add_assoc, val_ge t0, val_ge t0, show k + g.length * j = j * g.length + k by rw [Nat.mul_comm, Nat.add_comm], acc_mul dif_pd]
  unfold rate
  rw [Nat.mul_div_cancel_left j g0, Int.mul_comm]
  omega
/-- from b - 1 on a round of L numbers adds D -/
def Rnd (f : Nat → Int) (b L : Nat) (D : Int) : Prop := ∀ n, b - 1 ≤ n → f (n + L) = f n + D
theorem Rnd.many {f : Nat → Int} {b L : Nat} {D : Int} (h : Rnd f b L D) : ∀ (j n : Nat), b - 1 ≤ n → f (n + j * L) = f n + (j : Int) * D
  | 0, n, _ => by rw [Nat.zero_mul, Nat.add_zero, show ((0 : Nat) : Int) = 0 from rfl, Int.zero_mul, Int.add_zero]
  | j + 1, n, hn => by
    rw [Nat.succ_mul, ← Nat.add_assoc, h _ (by omega), h.many j n hn, show ((j + 1 : Nat) : Int) = (j : Int) + 1 from rfl, Int.add_mul, Int.one_mul]
    omega
theorem rnd_val {t g : List Int} (t0 : 0 < t.length) (g0 : 0 < g.length) {b L : Nat} (hb : t.length ≤ b) (h : g.length ∣ L) : Rnd (val t g) b L (rate g L) := fun n hn => val_round t0 g0 h (by omega)
theorem Rnd.sub {f f' : Nat → Int} {b L : Nat} {D D' : Int} (h : Rnd f b L D) (h' : Rnd f' b L D') : Rnd (fun n => f n - f' n) b L (D - D') := fun n hn => by
  show f (n + L) - f' (n + L) = f n - f' n + (D - D')
  rw [h n hn, h' n hn]
  omega
/-! ### the last number above -/
structure LA (G : Nat → Int) (b L i : Nat) (last : Int) : Prop where
  near : ∀ n, n < i → n < b → 0 < G n → (n : Int) ≤ last
  far : ∀ a, b ≤ a → a < i → ∀ j : Nat, 0 < G (a + j * L) → ((a + j * L : Nat) : Int) ≤ last
  is : last = -1 ∨ ∃ m : Nat, last = (m : Int) ∧ 0 < G m
section
variable {G : Nat → Int} {b L i : Nat} {last loss : Int}
theorem la_start : LA G b L 0 (-1) := ⟨fun n h => absurd h (Nat.not_lt_zero n), fun a _ h => absurd h (Nat.not_lt_zero a), .inl rfl⟩
theorem la_no (h : LA G b L i last) (P : Rnd G b L (-loss)) (l0 : 0 < loss) (hG : ¬ 0 < G i) : LA G b L (i + 1) last := ⟨fun n hn hb g => by
    rcases Nat.lt_or_ge n i with z | z
    · exact h.near n z hb g
    · obtain rfl : n = i := by omega
      exact absurd g hG, fun a hb ha j g => by
    rcases Nat.lt_or_ge a i with z | z
    · exact h.far a hb z j g
    · obtain rfl : a = i := by omega
      rw [P.many j a (by omega)] at g
      have : 0 ≤ (j : Int) * loss := Int.mul_nonneg (by omega) (by omega)
      rw [Int.mul_neg] at g
      omega, h.is⟩
theorem la_near (hi : i < b) (hG : 0 < G i) : LA G b L (i + 1) (i : Int) := ⟨fun n hn _ _ => by omega, fun a hb ha => by omega, .inr ⟨i, rfl, hG⟩⟩
theorem la_far (h : LA G b L i last) (P : Rnd G b L (-loss)) (l0 : 0 < loss) (hi : b ≤ i) (hG : 0 < G i) {x : Int} (hx : x = (i : Int) + (G i - 1) / loss * (L : Int)) : LA G b L (i + 1) (if x > last then x else last) := by
  have q0 : 0 ≤ (G i - 1) / loss := Int.ediv_nonneg (by omega) (by omega)
  obtain ⟨q, hq⟩ := Int.eq_ofNat_of_zero_le q0
  have ex : x = ((i + q * L : Nat) : Int) := by
    rw [hx, hq, Int.natCast_add, Int.natCast_mul]
  have up : ∀ z : Int, z ≤ last → z ≤ (if x > last then x else last) := fun z hz => by split <;> omega
  have ux : x ≤ (if x > last then x else last) := by split <;> omega
  refine ⟨fun n hn hb g => ?_, fun a hb ha j g => ?_, ?_⟩
  · rcases Nat.lt_or_ge n i with z | z
    · exact up _ (h.near n z hb g)
    · omega
  · rcases Nat.lt_or_ge a i with z | z
    · exact up _ (h.far a hb z j g)
    · obtain rfl : a = i := by omega
      refine Int.le_trans ?_ ux
      rw [ex]
      rw [P.many j a (by omega), Int.mul_neg] at g
      have j1 : (j : Int) ≤ (G a - 1) / loss := (Int.le_ediv_iff_mul_le l0).mpr (by omega)
      rw [hq] at j1
      have j2 : j ≤ q := by omega
      have := Nat.mul_le_mul_right L j2
      omega
  · by_cases c : x > last
    · rw [if_pos c]
      refine .inr ⟨i + q * L, ex, ?_⟩
      rw [P.many q i (by omega), Int.mul_neg, ← hq]
      have := Int.ediv_mul_le (G i - 1) (show loss ≠ 0 by omega)
      generalize (G i - 1) / loss * loss = y at this ⊢
      omega
    · rw [if_neg c]
      exact h.is
theorem la_end (h : LA G b L (b + L) last) (L0 : 0 < L) (n : Nat) (g : 0 < G n) : (n : Int) ≤ last := by
  rcases Nat.lt_or_ge n b with z | z
  · exact h.near n (by omega) z g
  · have e : n = b + (n - b) % L + (n - b) / L * L := by
      have := Nat.mod_add_div (n - b) L
      rw [Nat.mul_comm] at this
      omega
    have lt := Nat.mod_lt (n - b) L0
    rw [e] at g ⊢
    exact h.far _ (by omega) (by omega) _ g
end
/-! ### picking -/
/-- the greater of both, or the less -/
def pk (up : Bool) (a b : Int) : Int := if up then (if b > a then b else a) else (if b < a then b else a)
theorem pk_ge {up : Bool} {a b : Int} (h : b ≤ a) : pk up a b = if up then a else b := by
  unfold pk
  cases up
  · simp only [Bool.false_eq_true, if_false]
    split <;> omega
  · simp only [if_true]
    split <;> omega
theorem pk_comm {up : Bool} {a b : Int} : pk up a b = pk up b a := by
  unfold pk
  cases up
  · simp only [Bool.false_eq_true, if_false]
    split <;> split <;> omega
  · simp only [if_true]
    split <;> split <;> omega
theorem pk_le {up : Bool} {a b : Int} (h : a ≤ b) : pk up a b = if up then b else a := by rw [pk_comm, pk_ge h]
theorem pk_add {up : Bool} {a b d : Int} : pk up (a + d) (b + d) = pk up a b + d := by
  unfold pk
  cases up
  · simp only [Bool.false_eq_true, if_false]
    split <;> split <;> omega
  · simp only [if_true]
    split <;> split <;> omega
theorem pk_step {up : Bool} {a b a' b' B : Int} (h : 0 ≤ a' - a ∧ a' - a ≤ B) (h' : 0 ≤ b' - b ∧ b' - b ≤ B) : 0 ≤ pk up a' b' - pk up a b ∧ pk up a' b' - pk up a b ≤ B := by
  unfold pk
  cases up
  · simp only [Bool.false_eq_true, if_false]
    split <;> split <;> omega
  · simp only [if_true]
    split <;> split <;> omega
theorem pk_pos {up : Bool} {a b : Int} (h : 0 ≤ a) (h' : 0 ≤ b) : 0 ≤ pk up a b := by
  unfold pk
  cases up
  · simp only [Bool.false_eq_true, if_false]
    split <;> omega
  · simp only [if_true]
    split <;> omega
/-- both rise alike at last -/
def EqR (f f' : Nat → Int) : Prop := ∃ m, ∀ n, m ≤ n → f (n + 12) - f n = f' (n + 12) - f' n
/-- behind 1998 one is never below the other -/
def Ord (f f' : Nat → Int) : Prop := (∀ n, 1998 < n → f' n ≤ f n) ∨ ∀ n, 1998 < n → f n ≤ f' n
theorem EqR.symm {f f' : Nat → Int} (h : EqR f f') : EqR f' f := let ⟨m, hm⟩ := h; ⟨m, fun n hn => (hm n hn).symm⟩
theorem Ord.symm {f f' : Nat → Int} (h : Ord f f') : Ord f' f := h.elim .inr .inl
theorem eq_many {e : Nat → Int} {m : Nat} (h : ∀ n, m ≤ n → e (n + 12) = e n) : ∀ (j n : Nat), m ≤ n → e (n + j * 12) = e n
  | 0, n, _ => by rw [Nat.zero_mul, Nat.add_zero]
  | j + 1, n, hn => by
    rw [Nat.succ_mul, ← Nat.add_assoc, h _ (by omega), eq_many h j n hn]
theorem lead_zero {f f' : Nat → Int} {b L : Nat} {D D' : Int} (h : EqR f f') (hf : Rnd f b L D) (hf' : Rnd f' b L D') : D = D' := by
  obtain ⟨m, hm⟩ := h
  have a := (hf.sub hf').many 12 (m + b) (by omega)
  have c := eq_many (e := fun n => f n - f' n) (m := m) (fun n hn => by have := hm n hn; show f (n + 12) - f' (n + 12) = f n - f' n; omega) L (m + b) (by omega)
  rw [Nat.mul_comm] at c
  rw [c] at a
  have : ((12 : Nat) : Int) * (D - D') = 0 := by omega
  have e : ((12 : Nat) : Int) = 12 := rfl
  rw [e] at this
  omega
/-- who rises more is never below behind 1998 -/
theorem ord_lead {f f' : Nat → Int} {b L : Nat} {D D' : Int} (h : Ord f f') (hf : Rnd f b L D) (hf' : Rnd f' b L D') (lt : D' < D) : ∀ n, 1998 < n → f' n ≤ f n := by
  rcases h with h | h
  · exact h
  · exfalso
    obtain ⟨j, hj⟩ : ∃ j : Nat, f' (b + 1999) - f (b + 1999) < (j : Int) := ⟨(f' (b + 1999) - f (b + 1999)).toNat + 1, by omega⟩
    have a := (hf.sub hf').many j (b + 1999) (by omega)
    have c := h (b + 1999 + j * L) (by omega)
    have d : (j : Int) ≤ (j : Int) * (D - D') := by
      have : (j : Int) * 1 ≤ (j : Int) * (D - D') := Int.mul_le_mul_of_nonneg_left (by omega) (by omega)
      rw [Int.mul_one] at this
      exact this
    have a' : f (b + 1999 + j * L) - f' (b + 1999 + j * L) = f (b + 1999) - f' (b + 1999) + (j : Int) * (D - D') := a
    omega
/-- the parts that are told, where one is the value behind c -/
theorem val_outer {h : Nat → Int} {t g : List Int} (t0 : 0 < t.length) (g0 : 0 < g.length) {c b : Nat} (hc : ∀ n, c ≤ n → h n = val t g n) (hb : t.length ≤ b) (hb' : c + 1 ≤ b) (n : Nat) : val (pT h b) (pG h b g.length) n = h n :=
  val_parted (by omega) g0 (fun n hn => by
    rw [hc _ (by omega), hc _ (by omega), hc _ (by omega), hc _ (by omega)]
    exact rise_pd t0 (Nat.dvd_refl _) (by omega)) n
theorem rnd_pk {up : Bool} {f f' : Nat → Int} {b L : Nat} {D : Int} (hf : Rnd f b L D) (hf' : Rnd f' b L D) : Rnd (fun n => pk up (f n) (f' n)) b L D := fun n hn => by
  show pk up (f (n + L)) (f' (n + L)) = pk up (f n) (f' n) + D
  rw [hf n hn, hf' n hn, pk_add]
theorem val_rnd {h : Nat → Int} {b L : Nat} {D : Int} (b0 : 0 < b) (L0 : 0 < L) (hh : Rnd h b L D) (n : Nat) : val (pT h b) (pG h b L) n = h n :=
  val_parted b0 L0 (fun n hn => by
    rw [show n + L + 1 = n + 1 + L by omega, hh _ (by omega), hh _ hn]
    omega) n
end Gr
namespace K06
open PySem L2 Evl Gr
abbrev sLP : Stmt := top 14
/-- a list or a tuple -/
def Sq (K : PySem.W.Frag) (H : Hp) (a : Addr) (xs : List V) : Prop := SqL K H a xs ∨ SqT K H a xs
theorem Sq.mono {K : PySem.W.Frag} {H H' : Hp} {a : Addr} {xs : List V} (e : Ex H H') (h : Sq K H a xs) : Sq K H' a xs := h.elim (fun h => .inl (ex_l e h)) fun h => .inr (ex_t e h)
def vI (g : List Int) : List V := g.map V.int
theorem vI_len {g : List Int} : (vI g).length = g.length := List.length_map _
theorem vI_get {g : List Int} {i : Nat} (h : i < g.length) : (vI g)[i]? = some (V.int (at' g i)) := by
  unfold vI at'
  rw [List.getElem?_map, List.getD_eq_getElem?_getD, List.getElem?_eq_getElem h]
  rfl
theorem rv_ix {K : PySem.W.Frag} {H : Hp} {p : Addr} {xs : List V} {i : Int} {v : V} (h : Sq K H p xs) (ha : atI xs i = some v) : RV (rIx K) (.ref p) (.int i) H v := fun H1 e Q q => by
  rcases h with h | h
  · exact .inl ⟨p, xs, i, v, rfl, rfl, ex_l e h, ha, q H1 (Ex.refl H1)⟩
  · exact .inr (.inl ⟨p, xs, i, v, rfl, rfl, ex_t e h, ha, q H1 (Ex.refl H1)⟩)
theorem rc_lenQ {K : PySem.W.Frag} {p : Addr} {xs : List V} {H : Hp} (h : Sq K H p xs) : RC (fun xs H Q => ∃ p ys, xs = [V.ref p] ∧ (SqL K H p ys ∨ SqT K H p ys) ∧ Q (.int ys.length) H) [.ref p] H (.int (xs.length : Int)) := fun H1 e _ q => ⟨p, xs, rfl, h.mono e, q H1 (Ex.refl H1)⟩
theorem st_asI {K : PySem.W.Frag} {H : Hp} {a : Addr} {g : List Int} (h : H a = some (.lst (vI g))) : Sq K H a (vI g) := .inl (sq_of h)
theorem atI_vI {g : List Int} {i : Nat} (h : i < g.length) : atI (vI g) (i : Int) = some (V.int (at' g i)) := atI_nat (vI_get h)
theorem atI_vlast {g : List Int} (h : 0 < g.length) : atI (vI g) (-1) = some (V.int (at' g (g.length - 1))) := by
  have e : ixN (vI g).length (-1) = some (g.length - 1) := by
    unfold ixN
    rw [vI_len, if_neg (by decide), if_pos (by omega)]
    congr 1
    omega
  unfold atI
  rw [e]
  exact vI_get (by omega)
theorem vI_app {g : List Int} {x : Int} : vI g ++ [V.int x] = vI (g ++ [x]) := by unfold vI; rw [List.map_append]; rfl
theorem vint_inj {x y : Int} : decide (V.int x = V.int y) = decide (x = y) := by
  by_cases h : x = y
  · rw [decide_eq_true h, decide_eq_true (congrArg V.int h)]
  · rw [decide_eq_false h, decide_eq_false fun z => h (V.int.inj z)]
/-- the longest borders of the beginnings -/
def Bs (g bs : List Int) : Prop := ∀ j, j < bs.length → ∃ w : Nat, at' bs j = (w : Int) ∧ Lb g (j + 1) w
theorem Bs.add {g bs : List Int} {w : Nat} (h : Bs g bs) (l : Lb g (bs.length + 1) w) : Bs g (bs ++ [(w : Int)]) := fun j hj => by
  rw [List.length_append] at hj
  have hj' : j < bs.length + 1 := hj
  rcases Nat.lt_or_ge j bs.length with z | z
  · rw [at_app, if_pos z]
    exact h j z
  · have e : j = bs.length := by omega
    subst e
    rw [at_app, if_neg (Nat.lt_irrefl _), Nat.sub_self]
    exact ⟨w, rfl, l⟩
structure GlbS (mg : Str → Option Value) : Prop where
  len : mg "len" = none
  range : mg "range" = none
  tuple : mg "tuple" = none
  list : mg "list" = none
section
variable {P : Program} {w : World} {K : PySem.W.Frag} {mg : Str → Option Value} {base : Heap}
/-! ### least_period -/
def spLP (K : PySem.W.Frag) : Sp := fun vs H Q _ => ∃ (a : Addr) (g : List Int), vs = [.ref a] ∧ Sq K H a (vI g) ∧ 0 < g.length ∧ g.length ≤ 4000 ∧
  ∀ p : Nat, Least (dif g) p → p ≤ g.length → p ∣ g.length → RetV (.int (p : Int)) H Q
theorem scLP : FnScope ["gains", "borders", "at", "width", "period"] ["gains"] (defScope sLP) := ⟨rfl, rfl, rfl, by decide +kernel, rfl, by decide +kernel, by decide +kernel⟩
theorem ok_LP {f : Addr} {fd : FuncData} (F : Fun K "least_period" "least_period" sLP f fd) (T : GlbS mg) : FnOk P w K mg base CX0 1 f fd ["gains"] (spLP K) := by
  refine F.ok scLP (fun vs H Q E h => ?_) (fun cdv A outer s H vs Q E hr h => ?_)
  · obtain ⟨a, g, rfl, _⟩ := h
    rfl
  · obtain ⟨a, g, rfl, hS, g0, g1, k⟩ := h
    refine ⟨_, pss_cons (ps_set (i := 1) scLP.nd rfl (.inl rfl) (pe_lst (pa_cons pe_int pa_nil)))
      (pss_cons (ps_for PassesOwn.never rfl (pi_range2 (by rfl) T.range (pa_cons pe_int (pa_cons (pe_callB call_len_seq (by rfl) T.len PySem.boot_len (pa_cons (pv 0) pa_nil)) pa_nil))) (pg_name (i := 2) scLP.nd rfl (.inl rfl))
        (pss_cons (ps_set (i := 3) scLP.nd rfl (.inl rfl) (pe_ix ix_list (pv 1) (pe_op op_sub (pv 2) pe_int) (fun _ _ => rfl)))
        (pss_cut (ps_while PassesOwn.never (PW.pt (pw_and (pt_cmpR op_gt (pv 3) pe_int (nomark _)) (pw_and1 (pt_cmpR op_ne (pe_ix ix_seq (pv 0) (pv 2) (fun _ _ => rfl)) (pe_ix ix_seq (pv 0) (pv 3) (fun _ _ => rfl)) (nomark _)))))
          (pss_one (ps_set (i := 3) scLP.nd rfl (.inl rfl) (pe_ix ix_list (pv 1) (pe_op op_sub (pv 3) pe_int) (fun _ _ => rfl)))))
        (pss_cut (ps_if (pt_cmpR op_eq (pe_ix ix_seq (pv 0) (pv 2) (fun _ _ => rfl)) (pe_ix ix_seq (pv 0) (pv 3) (fun _ _ => rfl)) (nomark _)) (pss_one (ps_aug (i := 3) scLP.nd rfl (.inl rfl) pe_int ip_add)) pss_nil)
        (pss_one (ps_expr (pe_bm PySem.F.plainAttrs_list PySem.F.slot_list_append PySem.F.type_list_append mt_append (pv 1) (pa_cons (pv 3) pa_nil))))))))
      (pss_cons (ps_set (i := 4) scLP.nd rfl (.inl rfl) (pe_op op_sub (pe_callB call_len_seq (by rfl) T.len PySem.boot_len (pa_cons (pv 0) pa_nil)) (pe_ix ix_list (pv 1) (pe_un un_neg pe_int) (fun _ _ => rfl))))
      (pss_cons (ps_if (pt_cmpR op_eq (pe_op op_mod (pe_callB call_len_seq (by rfl) T.len PySem.boot_len (pa_cons (pv 0) pa_nil)) (pv 4)) pe_int (nomark _)) (pss_one (ps_ret (pv 4))) pss_nil)
      (pss_one (ps_ret (pe_callB call_len_seq (by rfl) T.len PySem.boot_len (pa_cons (pv 0) pa_nil))))))), ?_⟩
    have hB : ∀ {H' : Hp}, Ex H H' → Sq K H' a (vI g) := fun e => hS.mono e
    refine q_asgL (xs := vI [0]) (el_lst (ea_cons ev_c ea_nil) (Nat.le_of_ble_eq_true rfl)) fun b H1 hb e1 h1 => ?_
    -- the loop over the places
    refine q_forR2 (lo := 1) (n := (g.length : Int)) (ea_cons ev_c (ea_cons (ev_is (ev_cb (ea_cons (ev_var rfl) ea_nil) (rc_lenQ (hB e1))) (by rw [vI_len])) ea_nil)) (by omega)
      (fun i σ' H' => ∃ (bs : List Int) (x2 x3 : Option V), σ' = [some (.ref a), some (.ref b), x2, x3, none] ∧ H' b = some (.lst (vI bs)) ∧ Ex H H' ∧ bs.length = i + 1 ∧ Bs g bs)
      (fun H2 e2 => ⟨[0], _, _, rfl, e2 _ _ h1, e1.trans e2, rfl, fun j hj => by
        have hj' : j < 1 := hj
        have z : j = 0 := by omega
        subst z
        exact ⟨0, rfl, lb_one⟩⟩) ?_ ?_
    · rintro i σ' H2 hi ⟨bs, x2, x3, rfl, hb2, e2, hl, hbs⟩
      obtain ⟨w0, hw0, lb0⟩ := hbs i (by omega)
      have hi1 : i + 1 < g.length := by omega
      have ei : (1 : Int) + (i : Int) = ((i + 1 : Nat) : Int) := by omega
      show tSeq _ _ _ _ _
      refine q_asg (v := .int (w0 : Int)) (ev_op (y := .int (i : Int)) (ev_var rfl) (ev_is (ev_op (ev_var rfl) ev_c rv_I0) (by congr 1; omega)) (rv_ixL (sq_of hb2) (by rw [atI_vI (by omega), hw0]))) fun H3 e3 => ?_
      have hb3 := e3 _ _ hb2
      have E3 := e2.trans e3
      have gat : ∀ {σ'' : L2.St} {H' : Hp} {t : TE} {m : Nat}, Ex H H' → m < g.length → σ''[0]? = some (some (.ref a)) → Ev t σ'' H' (.int (m : Int)) → Ev (tOp (rIx K) (tVar 0) t) σ'' H' (.int (at' g m)) := fun e hm h0 ht => ev_op (ev_var h0) ht (rv_ix (hB e) (atI_vI hm))
      -- the search
      refine q_cut (M := fun σ' H' => ∃ w : Nat, σ' = [some (.ref a), some (.ref b), some (.int ((i + 1 : Nat) : Int)), some (.int (w : Int)), none] ∧ H' b = some (.lst (vI bs)) ∧ Ex H H' ∧ Srch g (i + 1) w ∧ (w = 0 ∨ at' g (i + 1) = at' g w)) ?_ ?_
      · refine s_while (fun m σ' H' => σ' = [some (.ref a), some (.ref b), some (.int ((i + 1 : Nat) : Int)), some (.int (m : Int)), none] ∧ H' b = some (.lst (vI bs)) ∧ Ex H H' ∧ Srch g (i + 1) m) w0 ⟨by rw [← ei]; rfl, hb3, E3, srch_start lb0⟩ ?_
        rintro m σ' H4 ⟨rfl, hb4, E4, sr⟩
        have hm := sr.1.1
        refine ⟨_, et_and (et_test (ev_op (ev_var rfl) ev_c rv_I0)) (fun _ => et_test (ev_op (gat E4 hi1 rfl (ev_var rfl)) (gat E4 (by omega) rfl (ev_var rfl)) (rv_ne rfl))), fun ht H5 e5 => ?_, fun ht H5 e5 => ?_⟩
        · obtain ⟨t1, t2⟩ := Bool.and_eq_true_iff.mp ht
          have m0 : 0 < m := by have := of_decide_eq_true t1; omega
          have ne : at' g (i + 1) ≠ at' g m := fun z => by rw [vint_inj, decide_eq_true z] at t2; exact absurd t2 (by decide)
          obtain ⟨w1, hw1, lb1⟩ := hbs (m - 1) (by omega)
          rw [show m - 1 + 1 = m by omega] at lb1
          have st := srch_step sr m0 ne lb1
          refine ⟨fun σ' H' => σ' = [some (.ref a), some (.ref b), some (.int ((i + 1 : Nat) : Int)), some (.int (w1 : Int)), none] ∧ H' b = some (.lst (vI bs)) ∧ Ex H H', fun σ2 H6 h6 => ⟨w1, st.2, h6.1, h6.2.1, h6.2.2, st.1⟩, ?_⟩
          exact s_asg (v := .int (w1 : Int)) (ev_op (y := .int ((m - 1 : Nat) : Int)) (ev_var rfl) (ev_is (ev_op (ev_var rfl) ev_c rv_I0) (by congr 1; omega)) (rv_ixL (sq_of (e5 _ _ hb4)) (by rw [atI_vI (by omega), hw1]))) fun H6 e6 => ⟨rfl, e6 _ _ (e5 _ _ hb4), (E4.trans e5).trans e6⟩
        · refine ⟨m, rfl, e5 _ _ hb4, E4.trans e5, sr, ?_⟩
          rcases Nat.eq_zero_or_pos m with z | z
          · exact .inl z
          · right
            rw [decide_eq_true (by omega : ((m : Int) > 0)), Bool.true_and, vint_inj] at ht
            by_cases q : at' g (i + 1) = at' g m
            · exact q
            · rw [decide_eq_false q] at ht
              exact absurd ht (by decide)
      rintro σ' H4 ⟨w, rfl, hb4, E4, sr, fin⟩
      have hw := sr.1.1
      -- one more, if the signs are the same
      refine q_cut (M := fun σ' H' => ∃ v : Nat, σ' = [some (.ref a), some (.ref b), some (.int ((i + 1 : Nat) : Int)), some (.int (v : Int)), none] ∧ H' b = some (.lst (vI bs)) ∧ Ex H H' ∧ Lb g (i + 2) v) ?_ ?_
      · refine s_when (et_test (ev_op (gat E4 hi1 rfl (ev_var rfl)) (gat E4 (by omega) rfl (ev_var rfl)) (rv_eq rfl))) (fun ht H5 e5 => ?_) (fun ht H5 e5 => ?_)
        · rw [vint_inj] at ht
          refine s_aug (f := fun x y => x + y) (a := (w : Int)) (b := 1) rfl ev_c fun H6 e6 => ⟨w + 1, rfl, e6 _ _ (e5 _ _ hb4), (E4.trans e5).trans e6, srch_yes sr (of_decide_eq_true ht)⟩
        · rw [vint_inj] at ht
          have ne := of_decide_eq_false ht
          have w0 : w = 0 := fin.elim id fun z => absurd z ne
          subst w0
          exact ⟨0, rfl, e5 _ _ hb4, E4.trans e5, srch_no sr ne⟩
      rintro σ' H5 ⟨v, rfl, hb5, E5, lb⟩
      refine s_app hb5 (ev_var rfl) (ev_var rfl) (by rw [vI_len]; omega) fun H6 e6 => ?_
      have hbn : H b = none := hb
      refine ⟨bs ++ [(v : Int)], _, _, rfl, ?_, (E5.trans e6).mut hbn, by rw [List.length_append, hl]; rfl, hbs.add (by rw [hl]; exact lb)⟩
      rw [upd_same, vI_app]
    · rintro σ' H2 ⟨bs, x2, x3, rfl, hb2, E2, hl, hbs⟩
      have hl' : bs.length = g.length := by rw [hl]; omega
      obtain ⟨w, hw, lb⟩ := hbs (g.length - 1) (by omega)
      rw [show g.length - 1 + 1 = g.length by omega] at lb
      have hwl := lb.bd.1
      have key := least_of g0 lb
      have ln : ∀ {σ'' : L2.St} {H' : Hp}, Ex H H' → σ''[0]? = some (some (.ref a)) → Ev (tCB (fun xs H Q => ∃ p ys, xs = [V.ref p] ∧ (SqL K H p ys ∨ SqT K H p ys) ∧ Q (.int ys.length) H) (tCons (tVar 0) tNil)) σ'' H' (.int (g.length : Int)) := fun e h0 => ev_is (ev_cb (ea_cons (ev_var h0) ea_nil) (rc_lenQ (hB e))) (by rw [vI_len])
      refine q_asg (v := .int ((g.length - w : Nat) : Int)) (ev_is (ev_op (ln E2 rfl) (ev_op (ev_var rfl) (ev_un ev_c ru_neg) (rv_ixL (sq_of hb2) (by rw [atI_vlast (by omega), hl', hw]))) rv_I0) (by congr 1; omega)) fun H3 e3 => ?_
      have E3 := E2.trans e3
      refine q_when (et_test (ev_op (ev_op (ln E3 rfl) (ev_var rfl) (rv_I (by omega))) ev_c (rv_eq rfl))) (fun ht H4 e4 => ?_) (fun ht H4 e4 => ?_)
      · rw [vint_inj] at ht
        have z := of_decide_eq_true ht
        have z' : g.length % (g.length - w) = 0 := by omega
        rw [if_pos z'] at key
        exact s_ret (ev_var rfl) fun H5 e5 => k _ key (by omega) (Nat.dvd_of_mod_eq_zero z') H5 ((E3.trans e4).trans e5)
      · rw [vint_inj] at ht
        have z := of_decide_eq_false ht
        have z' : ¬ g.length % (g.length - w) = 0 := by omega
        rw [if_neg z'] at key
        exact s_ret (ln (E3.trans e4) rfl) fun H5 e5 => k _ key (Nat.le_refl _) (Nat.dvd_refl _) H5 ((E3.trans e4).trans e5)
end
end K06
namespace K06
open PySem L2 Evl Gr
abbrev sST : Stmt := top 15
theorem atI_neg {g : List Int} {r : Nat} (h : r < g.length) : atI (vI g) (-1 - (r : Int)) = some (V.int (at' g (g.length - 1 - r))) := by
  have e : ixN (vI g).length (-1 - (r : Int)) = some (g.length - 1 - r) := by
    unfold ixN
    rw [vI_len, if_neg (by omega), if_pos (by omega)]
    congr 1
    omega
  unfold atI
  rw [e]
  exact vI_get (by omega)
section
variable {P : Program} {w : World} {K : PySem.W.Frag} {mg : Str → Option Value} {base : Heap}
/-! ### spare_told -/
def spST (K : PySem.W.Frag) : Sp := fun vs H Q _ => ∃ (a b : Addr) (t g : List Int), vs = [.ref a, .ref b] ∧ Sq K H a (vI t) ∧ Sq K H b (vI g) ∧ 0 < t.length ∧ t.length ≤ 4000 ∧ 0 < g.length ∧ g.length ≤ 4000 ∧
  ∀ s : Nat, Spr t g s → (s = t.length - 1 ∨ at' t (t.length - 1 - s) - at' t (t.length - 1 - s - 1) ≠ back g s) → RetV (.int (s : Int)) H Q
theorem scST : FnScope ["told", "gains", "spare", "last"] ["told", "gains"] (defScope sST) := ⟨rfl, rfl, rfl, by decide +kernel, rfl, by decide +kernel, by decide +kernel⟩
theorem ok_ST {f : Addr} {fd : FuncData} (F : Fun K "spare_told" "spare_told" sST f fd) (T : GlbS mg) : FnOk P w K mg base CX0 1 f fd ["told", "gains"] (spST K) := by
  refine F.ok scST (fun vs H Q E h => ?_) (fun cdv A outer s H vs Q E hr h => ?_)
  · obtain ⟨a, b, t, g, rfl, _⟩ := h
    rfl
  · obtain ⟨a, b, t, g, rfl, hT, hG, t0, t1, g0, g1, k⟩ := h
    refine ⟨_, pss_cons (ps_set (i := 2) scST.nd rfl (.inl rfl) pe_int)
      (pss_cons (ps_set (i := 3) scST.nd rfl (.inl rfl) (pe_op op_sub (pe_callB call_len_seq (by rfl) T.len PySem.boot_len (pa_cons (pv 0) pa_nil)) pe_int))
      (pss_cons (ps_while PassesOwn.never (PW.pt (pw_and (pt_cmpR op_lt (pv 2) (pv 3) (nomark _)) (pw_and1 (pt_cmpR op_eq
          (pe_op op_sub (pe_ix ix_seq (pv 0) (pe_op op_sub (pv 3) (pv 2)) (fun _ _ => rfl)) (pe_ix ix_seq (pv 0) (pe_op op_sub (pe_op op_sub (pv 3) (pv 2)) pe_int) (fun _ _ => rfl)))
          (pe_ix ix_seq (pv 1) (pe_op op_sub (pe_un un_neg pe_int) (pe_op op_mod (pv 2) (pe_callB call_len_seq (by rfl) T.len PySem.boot_len (pa_cons (pv 1) pa_nil)))) (fun _ _ => rfl)) (nomark _)))))
        (pss_one (ps_aug (i := 2) scST.nd rfl (.inl rfl) pe_int ip_add)))
      (pss_one (ps_ret (pv 2))))), ?_⟩
    refine q_asg ev_c fun H1 e1 => ?_
    refine q_asg (v := .int ((t.length - 1 : Nat) : Int)) (ev_is (ev_op (ev_cb (ea_cons (ev_var rfl) ea_nil) (rc_lenQ (hT.mono e1))) ev_c rv_I0) (by rw [vI_len]; congr 1; omega)) fun H2 e2 => ?_
    refine q_while (fun m σ' H' => ∃ s : Nat, m = t.length - s ∧ σ' = [some (.ref a), some (.ref b), some (.int (s : Int)), some (.int ((t.length - 1 : Nat) : Int))] ∧ Ex H H' ∧ Spr t g s) t.length ⟨0, rfl, rfl, e1.trans e2, spr_zero t0⟩ ?_
    rintro m σ' H3 ⟨s, rfl, rfl, E3, sp⟩
    have hs := sp.1
    have hr : s % g.length < g.length := Nat.mod_lt _ g0
    have lnG : Ev (tCB (fun xs H Q => ∃ p ys, xs = [V.ref p] ∧ (SqL K H p ys ∨ SqT K H p ys) ∧ Q (.int ys.length) H) (tCons (tVar 1) tNil)) [some (.ref a), some (.ref b), some (.int (s : Int)), some (.int ((t.length - 1 : Nat) : Int))] H3 (.int (g.length : Int)) :=
      ev_is (ev_cb (ea_cons (ev_var rfl) ea_nil) (rc_lenQ (hG.mono E3))) (by rw [vI_len])
    refine ⟨_, et_and (et_test (ev_op (ev_var rfl) (ev_var rfl) rv_I0)) (fun hlt => et_test (ev_op
      (ev_op (ev_op (y := .int ((t.length - 1 - s : Nat) : Int)) (ev_var rfl) (ev_is (ev_op (ev_var rfl) (ev_var rfl) rv_I0) (by congr 1; omega)) (rv_ix (hT.mono E3) (atI_vI (by omega))))
        (ev_op (y := .int ((t.length - 1 - s - 1 : Nat) : Int)) (ev_var rfl) (ev_is (ev_op (ev_op (ev_var rfl) (ev_var rfl) rv_I0) ev_c rv_I0) (by have := of_decide_eq_true hlt; congr 1; omega)) (rv_ix (hT.mono E3) (atI_vI (by omega)))) rv_I0)
      (ev_op (y := .int (-1 - ((s % g.length : Nat) : Int))) (ev_var rfl) (ev_is (ev_op (ev_un ev_c ru_neg) (ev_op (ev_var rfl) lnG (rv_I (by omega))) rv_I0) (by congr 1)) (rv_ix (hG.mono E3) (atI_neg hr))) (rv_eq rfl))), fun ht H4 e4 => ?_, fun ht H4 e4 => ?_⟩
    · obtain ⟨h1, h2⟩ := Bool.and_eq_true_iff.mp ht
      rw [vint_inj] at h2
      have h1' := of_decide_eq_true h1
      have h2' := of_decide_eq_true h2
      refine ⟨fun σ' H' => σ' = [some (.ref a), some (.ref b), some (.int ((s + 1 : Nat) : Int)), some (.int ((t.length - 1 : Nat) : Int))] ∧ Ex H H', fun σ2 H5 h5 => ⟨t.length - (s + 1), by omega, s + 1, rfl, h5.1, h5.2, spr_step sp (by omega) h2'⟩, ?_⟩
      exact s_aug (f := fun x y => x + y) (a := (s : Int)) (b := 1) rfl ev_c fun H5 e5 => ⟨rfl, (E3.trans e4).trans e5⟩
    · refine s_ret (ev_var rfl) fun H5 e5 => k s sp ?_ H5 ((E3.trans e4).trans e5)
      rcases Nat.lt_or_ge s (t.length - 1) with z | z
      · right
        rw [decide_eq_true (by omega : ((s : Int) < ((t.length - 1 : Nat) : Int))), Bool.true_and, vint_inj] at ht
        exact of_decide_eq_false ht
      · left
        omega
end
end K06
namespace Gr
theorem dif_take {g : List Int} {p : Nat} (h : Pd (dif g) p) (hp : 0 < p) (hn : p ≤ g.length) : dif (g.take p) = dif g := funext fun k => by
  have e : (g.take p).length = p := by rw [List.length_take]; omega
  have hk : k % p < p := Nat.mod_lt _ hp
  show at' (g.take p) (k % (g.take p).length) = dif g k
  rw [e, at_take hk, ← dif_lt (g := g) (k := k % p) (by omega)]
  exact h.mod k
theorem ex_least {α : Type} {d : Nat → α} : ∀ p, 0 < p → Pd d p → ∃ q, Least d q := by
  intro p
  induction p using Nat.strongRecOn with
  | ind p ih =>
    intro hp h
    by_cases e : ∃ q, q < p ∧ 0 < q ∧ Pd d q
    · obtain ⟨q, h1, h2, h3⟩ := e
      exact ih q h1 h2 h3
    · refine ⟨p, hp, h, fun q h2 h3 => ?_⟩
      rcases Nat.lt_or_ge q p with h1 | h1
      · exact absurd ⟨q, h1, h2, h3⟩ e
      · exact h1
theorem Least.one {α : Type} {d : Nat → α} {p q : Nat} (h : Least d p) (h' : Least d q) : p = q := Nat.le_antisymm (h.le q h'.pos h'.pd) (h'.le p h.pos h.pd)
theorem Least.dvd {g : List Int} {p : Nat} (h : Least (dif g) p) (hn : 0 < g.length) : p ∣ g.length ∧ p ≤ g.length := by
  have a := Pd.gcd p g.length h.pd dif_pd
  have b := h.le _ (Nat.gcd_pos_of_pos_left _ h.pos) a
  have c : Nat.gcd p g.length = p := Nat.le_antisymm (Nat.gcd_le_left _ h.pos) b
  exact ⟨c ▸ Nat.gcd_dvd_right p g.length, h.le _ hn dif_pd⟩
theorem val_congr {t g g' : List Int} (h : dif g = dif g') (n : Nat) : val t g n = val t g' n := by unfold val; rw [h]
end Gr
namespace K06
open PySem L2 Evl Gr
/-! ### tuples that may be new ones or not -/
def EvTu (K : PySem.W.Frag) (te : TE) (σ : L2.St) (H : Hp) (xs : List V) : Prop := ∀ H1, Ex H H1 → ∀ Q : VK, (∀ p H2, Ex H1 H2 → SqT K H2 p xs → Q (.ref p) H2) → te σ H1 Q
section
variable {K : PySem.W.Frag} {σ : L2.St} {H : Hp} {te ta tb : TE} {tl th : TO} {a : Addr} {xs ys : List V} {lo hi : Option Int}
theorem cutV_all {n : Nat} (h1 : HT.sIx xs.length 0 lo = 0) (h2 : HT.sIx xs.length xs.length hi = xs.length) : cutV xs lo hi = xs := by
  unfold cutV
  rw [h1, h2, List.drop_zero, Nat.sub_zero, List.take_length]
theorem etu_cut (h : Ev te σ H (.ref a)) (h1 : EvO tl σ H lo) (h2 : EvO th σ H hi) (hs : SqT K H a xs) : EvTu K (tSl (rSlA K) te tl th) σ H (cutV xs lo hi) := fun H1 e Q q =>
  h H1 e _ fun H2 e2 => h1 H2 (e.trans e2) _ fun H3 e3 => h2 H3 ((e.trans e2).trans e3) _ fun H4 e4 =>
    ⟨a, xs, rfl, ex_t (((e.trans e2).trans e3).trans e4) hs, fun z => q a H4 ((e2.trans e3).trans e4) (by rw [cutV_all (n := 0) z.1 z.2]; exact ex_t (((e.trans e2).trans e3).trans e4) hs),
      fun _ p hp => q p _ (((e2.trans e3).trans e4).trans (Ex.new hp)) (st_of upd_same)⟩
theorem etu_cat (h1 : EvTu K ta σ H xs) (h2 : EvTu K tb σ H ys) (hz : xs.length + ys.length ≤ 100000) : EvTu K (tOp (rCatA K) ta tb) σ H (xs ++ ys) := fun H1 e Q q =>
  h1 H1 e _ fun p H2 e2 hp => h2 H2 (e.trans e2) _ fun r H3 e3 hr =>
    ⟨p, r, xs, ys, rfl, rfl, ex_t e3 hp, hr, sz_of hz, fun z => q r H3 (e2.trans e3) (by rw [z]; exact hr), fun _ z => q p H3 (e2.trans e3) (by rw [z, List.append_nil]; exact ex_t e3 hp),
      fun _ _ b hb => q b _ ((e2.trans e3).trans (Ex.new hb)) (st_of upd_same)⟩
/-- a cut of a list or a tuple -/
def rSlQ (K : PySem.W.Frag) : V → Option Int → Option Int → Hp → VK → Prop := fun x lo hi H Q => rSlL K x lo hi H Q ∨ rSlA K x lo hi H Q
theorem sl_seq {X : Cx} : SlR X (rSlQ X.K) := sl_list.or sl_tupA
/-- tuple(s[lo:hi]) -/
theorem etu_of (h : Ev te σ H (.ref a)) (h1 : EvO tl σ H lo) (h2 : EvO th σ H hi) (hs : Sq K H a xs) : EvTu K (tThen (tSl (rSlQ K) te tl th) (kTup K)) σ H (cutV xs lo hi) := fun H1 e Q q =>
  h H1 e _ fun H2 e2 => h1 H2 (e.trans e2) _ fun H3 e3 => h2 H3 ((e.trans e2).trans e3) _ fun H4 e4 => by
    have E := ((e.trans e2).trans e3).trans e4
    have E1 := (e2.trans e3).trans e4
    rcases hs.mono E with z | z
    · exact .inl ⟨a, xs, rfl, z, fun p hp => .inl ⟨p, _, rfl, sq_of upd_same, fun r hr => q r _ ((E1.trans (Ex.new hp)).trans (Ex.new hr)) (st_of upd_same)⟩⟩
    · exact .inr ⟨a, xs, rfl, z, fun c => .inr ⟨a, _, rfl, z, q a H4 E1 (by rw [cutV_all (n := 0) c.1 c.2]; exact z)⟩, fun _ p hp => .inr ⟨p, _, rfl, st_of upd_same, q p _ (E1.trans (Ex.new hp)) (st_of upd_same)⟩⟩
theorem q_asgT {i : Nat} {tz : TS} {D : Ends} (h : EvTu K te σ H xs) (k : ∀ p H1, Ex H H1 → SqT K H1 p xs → tz D (σ.set i (some (.ref p))) H1) : tSeq (tAsg te (gName i)) tz D σ H := h H (Ex.refl H) _ fun p H1 e s => k p H1 e s
end
theorem cut_take {g : List Int} {n : Nat} (h : n ≤ g.length) : cutV (vI g) none (some (n : Int)) = vI (g.take n) := by
  unfold cutV vI
  rw [show HT.sIx (g.map V.int).length 0 none = 0 from rfl, HT.sIx_nat, List.drop_zero, Nat.sub_zero, List.length_map, Nat.min_eq_left h, List.map_take]
theorem cut_drop {g : List Int} {n : Nat} (h : n ≤ g.length) : cutV (vI g) (some (n : Int)) none = vI (g.drop n) := by
  unfold cutV vI
  rw [HT.sIx_none, HT.sIx_nat, List.length_map, Nat.min_eq_left h, List.take_of_length_le (by rw [List.length_drop, List.length_map]; exact Nat.le_refl _), List.map_drop]
abbrev sNF : Stmt := top 16
section
variable {P : Program} {w : World} {K : PySem.W.Frag} {mg : Str → Option Value} {base : Heap}
/-! ### normal_form -/
/-- a pair of the told values and gains of a normal form -/
def RetNF (K : PySem.W.Frag) (t g : List Int) (H : Hp) (Q : VK) : Prop := ∀ r p q t' g' H', Ex H H' → SqT K H' r [.ref p, .ref q] → SqT K H' p (vI t') → SqT K H' q (vI g') → NF t' g' → (∀ n, val t' g' n = val t g n) →
  t'.length ≤ t.length → g'.length ≤ g.length → Q (.ref r) H'
def spNF (K : PySem.W.Frag) : Sp := fun vs H Q _ => ∃ (a b : Addr) (t g : List Int), vs = [.ref a, .ref b] ∧ Sq K H a (vI t) ∧ Sq K H b (vI g) ∧ 0 < t.length ∧ t.length ≤ 4000 ∧ 0 < g.length ∧ g.length ≤ 4000 ∧ RetNF K t g H Q
theorem scNF : FnScope ["told", "gains", "few", "spare", "cut"] ["told", "gains"] (defScope sNF) := ⟨rfl, rfl, rfl, by decide +kernel, rfl, by decide +kernel, by decide +kernel⟩
theorem ok_NF {f fL fS : Addr} {fd fdL fdS : FuncData} (F : Fun K "normal_form" "normal_form" sNF f fd) (T : GlbS mg)
    (FL : Fun K "least_period" "least_period" sLP fL fdL) (bL : Binds K fdL ["gains"] []) (gL : mg "least_period" = some (.ref fL))
    (FS : Fun K "spare_told" "spare_told" sST fS fdS) (bS : Binds K fdS ["told", "gains"] []) (gS : mg "spare_told" = some (.ref fS)) : FnOk P w K mg base CX0 2 f fd ["told", "gains"] (spNF K) := by
  have GL : FnOk P w K mg base CX0 1 fL fdL ["gains"] (spLP K) := ok_LP FL T
  have GS : FnOk P w K mg base CX0 1 fS fdS ["told", "gains"] (spST K) := ok_ST FS T
  refine F.ok scNF (fun vs H Q E h => ?_) (fun cdv A outer s H vs Q E hr h => ?_)
  · obtain ⟨a, b, t, g, rfl, _⟩ := h
    rfl
  · obtain ⟨a, b, t, g, rfl, hT, hG, t0, t1, g0, g1, k⟩ := h
    refine ⟨_, pss_cons (ps_set (i := 2) scNF.nd rfl (.inl rfl) (pe_tupleOf (by rfl) T.tuple (pe_slice sl_seq (pv 1) po_none (po_some (pe_call GL hr (by rfl) gL FL.kp bL .nil pass0 (pa_cons (pv 1) pa_nil))))))
      (pss_cons (ps_set (i := 3) scNF.nd rfl (.inl rfl) (pe_call GS hr (by rfl) gS FS.kp bS .nil pass0 (pa_cons (pv 0) (pa_cons (pv 2) pa_nil))))
      (pss_cons (ps_set (i := 4) scNF.nd rfl (.inl rfl) (pe_op op_sub (pe_callB call_len_seq (by rfl) T.len PySem.boot_len (pa_cons (pv 2) pa_nil)) (pe_op op_mod (pv 3) (pe_callB call_len_seq (by rfl) T.len PySem.boot_len (pa_cons (pv 2) pa_nil)))))
      (pss_one (ps_ret (pe_tup (pa_cons (pe_tupleOf (by rfl) T.tuple (pe_slice sl_seq (pv 0) po_none (po_some (pe_op op_sub (pe_callB call_len_seq (by rfl) T.len PySem.boot_len (pa_cons (pv 0) pa_nil)) (pv 3)))))
        (pa_cons (pe_op op_catA (pe_slice sl_tupA (pv 2) (po_some (pv 4)) po_none) (pe_slice sl_tupA (pv 2) po_none (po_some (pv 4)))) pa_nil))))))), ?_⟩
    obtain ⟨p, lp⟩ := ex_least g.length g0 (dif_pd (g := g))
    obtain ⟨pd, pn⟩ := lp.dvd g0
    have fl : (g.take p).length = p := by rw [List.length_take]; omega
    have l00 : 0 < p := lp.pos
    have fd' : dif (g.take p) = dif g := dif_take lp.pd lp.pos pn
    refine q_asgT (xs := vI (g.take p)) (by
      have z := etu_of (K := K) (σ := [some (.ref a), some (.ref b), none, none, none]) (H := H) (te := tVar 1) (tl := tNoPart) (th := tPart (tCall (spLP K) [] E0 (tCons (tVar 1) tNil))) (a := b) (xs := vI g) (lo := none) (hi := some (p : Int))
        (ev_var rfl) eo_none (eo_some (ev_call (ea_cons (ev_var rfl) ea_nil) (fun H1 e Q q E => ⟨b, g, rfl, hG.mono e, g0, g1, fun p' l' _ _ => by rw [l'.one lp]; exact q⟩))) hG
      rw [cut_take pn] at z
      exact z) fun c H1 e1 hF => ?_
    refine ⟨_, rfl, _, rfl, a, c, t, g.take p, rfl, hT.mono e1, .inr hF, t0, t1, by omega, by omega, fun s sp fin H2 e2 => ?_⟩
    have l0 : 0 < p := lp.pos
    have hr2 : s % p < p := Nat.mod_lt _ l0
    have hF2 := ex_t e2 hF
    have ln : ∀ {σ'' : L2.St} {H' : Hp}, SqT K H' c (vI (g.take p)) → σ''[2]? = some (some (.ref c)) → Ev (tCB (fun xs H Q => ∃ p ys, xs = [V.ref p] ∧ (SqL K H p ys ∨ SqT K H p ys) ∧ Q (.int ys.length) H) (tCons (tVar 2) tNil)) σ'' H' (.int (p : Int)) := fun e h0 => ev_is (ev_cb (ea_cons (ev_var h0) ea_nil) (rc_lenQ (.inr e))) (by rw [vI_len, fl])
    show tSeq _ _ _ _ _
    refine q_asg (v := .int ((p - s % p : Nat) : Int)) (ev_is (ev_op (ln hF2 rfl) (ev_op (ev_var rfl) (ln hF2 rfl) (rv_I (by omega))) rv_I0) (by congr 1; omega)) fun H3 e3 => ?_
    have E3 := (e1.trans e2).trans e3
    have hF3 := ex_t e3 hF2
    have hs := sp.1
    have c1 : EvTu K (tThen (tSl (rSlQ K) (tVar 0) tNoPart (tPart (tOp (rI0 fun i j => .int (i - j)) (tCB (fun xs H Q => ∃ p ys, xs = [V.ref p] ∧ (SqL K H p ys ∨ SqT K H p ys) ∧ Q (.int ys.length) H) (tCons (tVar 0) tNil)) (tVar 3)))) (kTup K))
        [some (.ref a), some (.ref b), some (.ref c), some (.int (s : Int)), some (.int ((p - s % p : Nat) : Int))] H3 (vI (cutT t s)) := by
      have z := etu_of (K := K) (σ := [some (.ref a), some (.ref b), some (.ref c), some (.int (s : Int)), some (.int ((p - s % p : Nat) : Int))]) (H := H3) (te := tVar 0) (tl := tNoPart)
        (th := tPart (tOp (rI0 fun i j => .int (i - j)) (tCB (fun xs H Q => ∃ p ys, xs = [V.ref p] ∧ (SqL K H p ys ∨ SqT K H p ys) ∧ Q (.int ys.length) H) (tCons (tVar 0) tNil)) (tVar 3))) (a := a) (xs := vI t) (lo := none) (hi := some ((t.length - s : Nat) : Int))
        (ev_var rfl) eo_none (eo_some (ev_is (ev_op (ev_cb (ea_cons (ev_var rfl) ea_nil) (rc_lenQ (hT.mono E3))) (ev_var rfl) rv_I0) (by rw [vI_len]; congr 1; omega))) (hT.mono E3)
      rw [cut_take (by omega)] at z
      exact z
    refine c1 H3 (Ex.refl H3) _ fun u H4 e4 hu => ?_
    have hF4 := ex_t e4 hF3
    have c2 := etu_cat (K := K) (σ := [some (.ref a), some (.ref b), some (.ref c), some (.int (s : Int)), some (.int ((p - s % p : Nat) : Int))]) (H := H4)
      (etu_cut (te := tVar 2) (tl := tPart (tVar 4)) (th := tNoPart) (lo := some ((p - s % p : Nat) : Int)) (hi := none) (ev_var rfl) (eo_some (ev_var rfl)) eo_none hF4)
      (etu_cut (te := tVar 2) (tl := tNoPart) (th := tPart (tVar 4)) (lo := none) (hi := some ((p - s % p : Nat) : Int)) (ev_var rfl) eo_none (eo_some (ev_var rfl)) hF4)
      (by
        have z1 := cutV_length (vI (g.take p)) (some ((p - s % p : Nat) : Int)) none
        have z2 := cutV_length (vI (g.take p)) none (some ((p - s % p : Nat) : Int))
        rw [vI_len, fl] at z1 z2
        omega)
    rw [cut_take (by omega), cut_drop (by omega)] at c2
    refine c2 H4 (Ex.refl H4) _ fun v H5 e5 hv => ?_
    refine ⟨by show 2 ≤ sizeLine; decide, fun r hr => ?_⟩
    have e6 := Ex.new (H := H5) (o := .tup [.ref u, .ref v]) hr
    have gl : 0 < (g.take p).length := by omega
    have ll : Least (dif (g.take p)) (g.take p).length := by rw [fd', fl]; exact lp
    refine k r u v (cutT t s) (cutG (g.take p) s) _ (((E3.trans e4).trans e5).trans e6) (st_of upd_same) (ex_t e6 (ex_t e5 hu)) ?_ (nf_cut gl ll sp fin) (fun n => (val_cut gl sp n).trans (val_congr fd' n)) (by rw [cutT_len hs]; omega) (by rw [cutG_len]; omega)
    have e7 : cutG (g.take p) s = (g.take p).drop (p - s % p) ++ (g.take p).take (p - s % p) := by unfold cutG; rw [fl]
    rw [e7]
    unfold vI at hv ⊢
    rw [List.map_append]
    exact ex_t e6 hv
end
end K06
namespace Gr
/-- the sums of the first gains, from none of them to all -/
def ris (g : List Int) : List Int := (List.range (g.length + 1)).map (acc (dif g))
theorem ris_len {g : List Int} : (ris g).length = g.length + 1 := by unfold ris; rw [List.length_map, List.length_range]
theorem ris_at {g : List Int} {i : Nat} (h : i ≤ g.length) : at' (ris g) i = acc (dif g) i := at_map_range (by omega)
def pre (d : Nat → Int) (n : Nat) : List Int := (List.range (n + 1)).map (acc d)
theorem pre_len {d : Nat → Int} {n : Nat} : (pre d n).length = n + 1 := by unfold pre; rw [List.length_map, List.length_range]
theorem pre_succ {d : Nat → Int} {n : Nat} : pre d (n + 1) = pre d n ++ [acc d n + d n] := by
  unfold pre
  rw [List.range_succ, List.map_append]
  rfl
theorem pre_last {d : Nat → Int} {n : Nat} : at' (pre d n) ((pre d n).length - 1) = acc d n := by
  rw [pre_len]
  exact at_map_range (by omega)
/-- gains whose sum is not great -/
def Small (g : List Int) : Prop := ∀ i, i < g.length → 0 ≤ at' g i ∧ at' g i ≤ 4000000000000000
theorem acc_small {g : List Int} (h : Small g) (hg : 0 < g.length) : ∀ n, 0 ≤ acc (dif g) n ∧ acc (dif g) n ≤ 4000000000000000 * (n : Int)
  | 0 => ⟨Int.le_refl _, by show (0 : Int) ≤ _; omega⟩
  | n + 1 => by
    have a := acc_small h hg n
    have b := h (n % g.length) (Nat.mod_lt _ hg)
    show 0 ≤ acc (dif g) n + dif g n ∧ acc (dif g) n + dif g n ≤ _
    have e : dif g n = at' g (n % g.length) := rfl
    omega
end Gr
namespace K06
open PySem L2 Evl Gr
abbrev sRis : Stmt := top 17
abbrev sVal : Stmt := top 18
/-! ### growths as they stand in the heap -/
structure GCls (K : PySem.W.Frag) (C : Addr) : Prop where
  cls : Cls K C
  told : NoAttr K C "told"
  gains : NoAttr K C "gains"
  rises : NoAttr K C "rises"
def GrAt (K : PySem.W.Frag) (C : Addr) (H : Hp) (o : Addr) (t g : List Int) : Prop := ∃ dx p q r, H o = some (.ins C dx [("told", .ref p), ("gains", .ref q), ("rises", .ref r)]) ∧ SqT K H p (vI t) ∧ SqT K H q (vI g) ∧ SqT K H r (vI (ris g)) ∧
  NF t g ∧ t.length ≤ 2000 ∧ g.length ≤ 2000 ∧ Small g
theorem GrAt.mono {K : PySem.W.Frag} {C : Addr} {H H' : Hp} {o : Addr} {t g : List Int} (e : Ex H H') (h : GrAt K C H o t g) : GrAt K C H' o t g := by
  obtain ⟨dx, p, q, r, h1, h2, h3, h4, h5⟩ := h
  exact ⟨dx, p, q, r, e _ _ h1, ex_t e h2, ex_t e h3, ex_t e h4, h5⟩
theorem ev_fld {K : PySem.W.Frag} {σ : L2.St} {H : Hp} {ta : TE} {o C dx : Addr} {fs : List (Str × V)} {v : V} {f : Str} (ha : Ev ta σ H (.ref o)) (ho : H o = some (.ins C dx fs)) (c : Cls K C) (n : NoAttr K C f) (hf : fs.lookup f = some v) :
    Ev (tFld K ta f) σ H v := fun H1 e Q q => ha H1 e _ fun H2 e2 => ⟨o, C, dx, fs, v, rfl, e2 _ _ (e _ _ ho), c, n, hf, q H2 e2⟩
section
variable {P : Program} {w : World} {K : PySem.W.Frag} {mg : Str → Option Value} {base : Heap}
/-! ### rises_of -/
def spRis (K : PySem.W.Frag) : Sp := fun vs H Q _ => ∃ (a : Addr) (g : List Int), vs = [.ref a] ∧ SqT K H a (vI g) ∧ g.length ≤ 4000 ∧ ∀ p H', Ex H H' → SqT K H' p (vI (ris g)) → Q (.ref p) H'
theorem scRis : FnScope ["gains", "rises", "gain"] ["gains"] (defScope sRis) := ⟨rfl, rfl, rfl, by decide +kernel, rfl, by decide +kernel, by decide +kernel⟩
theorem ok_Ris {f : Addr} {fd : FuncData} (F : Fun K "rises_of" "rises_of" sRis f fd) (T : GlbS mg) : FnOk P w K mg base CX0 1 f fd ["gains"] (spRis K) := by
  refine F.ok scRis (fun vs H Q E h => ?_) (fun cdv A outer s H vs Q E hr h => ?_)
  · obtain ⟨a, g, rfl, _⟩ := h
    rfl
  · obtain ⟨a, g, rfl, hG, g1, k⟩ := h
    refine ⟨_, pss_cons (ps_set (i := 1) scRis.nd rfl (.inl rfl) (pe_lst (pa_cons pe_int pa_nil)))
      (pss_cons (ps_for PassesOwn.never rfl (pi_tup (pv 0)) (pg_name (i := 2) scRis.nd rfl (.inl rfl))
        (pss_one (ps_expr (pe_bm PySem.F.plainAttrs_list PySem.F.slot_list_append PySem.F.type_list_append mt_append (pv 1) (pa_cons (pe_op op_add (pe_ix ix_list (pv 1) (pe_un un_neg pe_int) (fun _ _ => rfl)) (pv 2)) pa_nil)))))
      (pss_one (ps_ret (pe_tupleOf (by rfl) T.tuple (pv 1))))), ?_⟩
    refine q_asgL (xs := vI [0]) (el_lst (ea_cons ev_c ea_nil) (Nat.le_of_ble_eq_true rfl)) fun b H1 hb e1 h1 => ?_
    refine q_forT (xs := vI g) (ev_var rfl) (ex_t e1 hG) (fun i σ' H' => (∃ x, σ' = [some (.ref a), some (.ref b), x]) ∧ H' b = some (.lst (vI (pre (dif g) i))) ∧ Ex H H') (fun H2 e2 => ⟨⟨_, rfl⟩, e2 _ _ h1, e1.trans e2⟩) (fun i σ' H' _ z => ex_t z.2.2 hG) ?_ ?_
    · rintro i x σ' H2 hx ⟨⟨x2, rfl⟩, h2, e2⟩
      have hi : i < g.length := by
        have := (List.getElem?_eq_some_iff.mp hx).1
        rwa [vI_len] at this
      rw [vI_get hi] at hx
      obtain rfl := Option.some.inj hx
      show tDrop _ _ _ _
      refine s_app h2 (ev_var rfl) (v := .int (acc (dif g) i + dif g i)) (ev_op (ev_op (ev_var rfl) (ev_un ev_c ru_neg) (rv_ixL (sq_of h2) (by rw [atI_vlast (by rw [pre_len]; omega), pre_last]))) (ev_is (ev_var rfl) (by rw [dif_lt hi])) rv_I0) (by rw [vI_len, pre_len]; omega) fun H3 e3 => ?_
      exact ⟨⟨_, rfl⟩, by rw [upd_same, vI_app, pre_succ], (e2.trans e3).mut hb⟩
    · rintro σ' H2 ⟨⟨x2, rfl⟩, h2, e2⟩
      rw [vI_len] at h2
      refine ⟨_, rfl, .inl ⟨b, _, rfl, sq_of h2, fun q hq => k q _ (e2.trans (Ex.new hq)) (st_of upd_same)⟩⟩
/-! ### value_at -/
/-- i, j = divmod(a, b) -/
theorem q_divmod {σ : L2.St} {H : Hp} {ta : TA} {a b : Int} {i j : Nat} {tz : TS} {D : Ends} (h : EvA ta σ H [.int a, .int b]) (hc : CDiv a b) (k : ∀ H1, Ex H H1 → tz D ((σ.set i (some (.int (a / b)))).set j (some (.int (a % b)))) H1) :
    tSeq (tAsg (tCB (fun xs H Q => ∃ i j, xs = [V.int i, V.int j] ∧ CDiv i j ∧ ∀ p, H p = none → Q (.ref p) (upd H p (.tup [.int (i / j), .int (i % j)]))) ta) (gTup K 2 (gCons (gName i) (gCons (gName j) gNil)))) tz D σ H :=
  h H (Ex.refl H) _ fun H2 e2 => ⟨a, b, rfl, hc, fun p hp => ⟨p, _, rfl, st_of upd_same, rfl, _, _, rfl, _, _, rfl, rfl, k _ (e2.trans (Ex.new hp))⟩⟩
structure GlbV (mg : Str → Option Value) : Prop where
  divmod : mg "divmod" = none
  max : mg "max" = none
  zip : mg "zip" = none
theorem spv_val_far {t g : List Int} {n : Nat} (h0 : 0 < t.length) (hn : t.length ≤ n) : val t g n = at' t (t.length - 1) + ((n - t.length + 1) / g.length : Nat) * acc (dif g) g.length + acc (dif g) ((n - t.length + 1) % g.length) := val_far h0 hn
def spVal (K : PySem.W.Frag) (C : Addr) : Sp := fun vs H Q _ => ∃ (o : Addr) (n : Nat) (t g : List Int), vs = [.ref o, .int (n : Int)] ∧ GrAt K C H o t g ∧ RetV (.int (val t g n)) H Q
theorem scVal : FnScope ["one", "n", "rounds", "rest"] ["one", "n"] (defScope sVal) := ⟨rfl, rfl, rfl, by decide +kernel, rfl, by decide +kernel, by decide +kernel⟩
theorem ok_Val {C f : Addr} {fd : FuncData} (F : Fun K "value_at" "value_at" sVal f fd) (T : GlbS mg) (DV : GlbV mg) (G : GCls K C) : FnOk P w K mg base CX0 1 f fd ["one", "n"] (spVal K C) := by
  refine F.ok scVal (fun vs H Q E h => ?_) (fun cdv A outer s H vs Q E hr h => ?_)
  · obtain ⟨o, n, t, g, rfl, _⟩ := h
    rfl
  · obtain ⟨o, n, t, g, rfl, hO, k⟩ := h
    refine ⟨_, pss_cons (ps_if (pt_cmpR op_lt (pv 1) (pe_callB call_len_seq (by rfl) T.len PySem.boot_len (pa_cons (pe_fld (pv 0) rfl) pa_nil)) (nomark _)) (pss_one (ps_ret (pe_ix ix_seq (pe_fld (pv 0) rfl) (pv 1) (fun _ _ => rfl)))) pss_nil)
      (pss_cons (ps_asg (pe_callB call_divmod (by rfl) DV.divmod (by decide +kernel) (pa_cons (pe_op op_add (pe_op op_sub (pv 1) (pe_callB call_len_seq (by rfl) T.len PySem.boot_len (pa_cons (pe_fld (pv 0) rfl) pa_nil))) pe_int) (pa_cons (pe_callB call_len_seq (by rfl) T.len PySem.boot_len (pa_cons (pe_fld (pv 0) rfl) pa_nil)) pa_nil)))
        (pg_tup rfl (pgs_cons (pg_name (i := 2) scVal.nd rfl (.inl rfl)) (pgs_cons (pg_name (i := 3) scVal.nd rfl (.inl rfl)) pgs_nil))))
      (pss_one (ps_ret (pe_op op_add (pe_op op_add (pe_ix ix_seq (pe_fld (pv 0) rfl) (pe_un un_neg pe_int) (fun _ _ => rfl)) (pe_op op_mul (pv 2) (pe_ix ix_seq (pe_fld (pv 0) rfl) (pe_un un_neg pe_int) (fun _ _ => rfl)))) (pe_ix ix_seq (pe_fld (pv 0) rfl) (pv 3) (fun _ _ => rfl)))))), ?_⟩
    obtain ⟨dx, p, q, r, h1, h2, h3, h4, nf, t2, g2, sm⟩ := hO
    have t0 := nf.told
    have g0 := nf.gains
    have fT : ∀ {σ'' : L2.St} {H' : Hp}, Ex H H' → σ''[0]? = some (some (.ref o)) → Ev (tFld K (tVar 0) "told") σ'' H' (.ref p) := fun e h0 => ev_fld (ev_var h0) (e _ _ h1) G.cls G.told rfl
    have fG : ∀ {σ'' : L2.St} {H' : Hp}, Ex H H' → σ''[0]? = some (some (.ref o)) → Ev (tFld K (tVar 0) "gains") σ'' H' (.ref q) := fun e h0 => ev_fld (ev_var h0) (e _ _ h1) G.cls G.gains rfl
    have fR : ∀ {σ'' : L2.St} {H' : Hp}, Ex H H' → σ''[0]? = some (some (.ref o)) → Ev (tFld K (tVar 0) "rises") σ'' H' (.ref r) := fun e h0 => ev_fld (ev_var h0) (e _ _ h1) G.cls G.rises rfl
    have lT : ∀ {σ'' : L2.St} {H' : Hp}, Ex H H' → σ''[0]? = some (some (.ref o)) → Ev (tCB (fun xs H Q => ∃ p ys, xs = [V.ref p] ∧ (SqL K H p ys ∨ SqT K H p ys) ∧ Q (.int ys.length) H) (tCons (tFld K (tVar 0) "told") tNil)) σ'' H' (.int (t.length : Int)) :=
      fun e h0 => ev_is (ev_cb (ea_cons (fT e h0) ea_nil) (rc_lenQ (.inr (ex_t e h2)))) (by rw [vI_len])
    have lG : ∀ {σ'' : L2.St} {H' : Hp}, Ex H H' → σ''[0]? = some (some (.ref o)) → Ev (tCB (fun xs H Q => ∃ p ys, xs = [V.ref p] ∧ (SqL K H p ys ∨ SqT K H p ys) ∧ Q (.int ys.length) H) (tCons (tFld K (tVar 0) "gains") tNil)) σ'' H' (.int (g.length : Int)) :=
      fun e h0 => ev_is (ev_cb (ea_cons (fG e h0) ea_nil) (rc_lenQ (.inr (ex_t e h3)))) (by rw [vI_len])
    refine q_when (et_test (ev_op (ev_var rfl) (lT (Ex.refl H) rfl) rv_I0)) (fun ht H1 e1 => ?_) (fun ht H1 e1 => ?_)
    · have hn : n < t.length := by have := of_decide_eq_true ht; omega
      refine s_ret (v := .int (val t g n)) (ev_op (fT e1 rfl) (ev_var rfl) (rv_ix (.inr (ex_t e1 h2)) (by rw [atI_vI hn, val_lt hn]))) fun H2 e2 => k H2 (e1.trans e2)
    · have hn : t.length ≤ n := by have := of_decide_eq_false ht; omega
      obtain ⟨m, hm⟩ : ∃ m, m = n - t.length + 1 := ⟨_, rfl⟩
      have hr2 : m % g.length < g.length := Nat.mod_lt _ g0
      have ea : EvA (tCons (tOp (rI0 fun i j => .int (i + j)) (tOp (rI0 fun i j => .int (i - j)) (tVar 1) (tCB (fun xs H Q => ∃ p ys, xs = [V.ref p] ∧ (SqL K H p ys ∨ SqT K H p ys) ∧ Q (.int ys.length) H) (tCons (tFld K (tVar 0) "told") tNil))) (tC (.int 1)))
          (tCons (tCB (fun xs H Q => ∃ p ys, xs = [V.ref p] ∧ (SqL K H p ys ∨ SqT K H p ys) ∧ Q (.int ys.length) H) (tCons (tFld K (tVar 0) "gains") tNil)) tNil)) [some (.ref o), some (.int (n : Int)), none, none] H1 [.int (m : Int), .int (g.length : Int)] :=
        ea_cons (ev_is (ev_op (ev_op (ev_var rfl) (lT e1 rfl) rv_I0) ev_c rv_I0) (by congr 1; omega)) (ea_cons (lG e1 rfl) ea_nil)
      refine q_divmod ea ⟨by omega, by omega⟩ fun H3 e2 => ?_
      have e3 := e1.trans e2
      show tRet _ _ _ _
      have S := acc_small sm g0 g.length
      refine s_ret (v := .int (val t g n)) (ev_is (ev_op (ev_op (ev_op (fT e3 rfl) (ev_un ev_c ru_neg) (rv_ix (.inr (ex_t e3 h2)) (atI_vlast t0)))
        (ev_op (y := .int (acc (dif g) g.length)) (ev_var rfl) (ev_op (fR e3 rfl) (ev_un ev_c ru_neg) (rv_ix (.inr (ex_t e3 h4)) (by rw [atI_vlast (by rw [ris_len]; omega), ris_len, Nat.add_sub_cancel, ris_at (Nat.le_refl _)]))) (rv_I (.inr ⟨by omega, by omega⟩))) rv_I0)
        (ev_op (y := .int ((m % g.length : Nat) : Int)) (z := .int (acc (dif g) (m % g.length))) (fR e3 rfl) (ev_var rfl) (rv_ix (.inr (ex_t e3 h4)) (by rw [atI_vI (by rw [ris_len]; omega), ris_at (by omega)]))) rv_I0) ?_) fun H4 e4 => k H4 (e3.trans e4)
      rw [spv_val_far t0 hn, ← hm]
      rfl
end
end K06
namespace Gr
theorem pT_at {f : Nat → Int} {n i : Nat} (h : i < n) : at' (pT f n) i = f i := at_map_range h
theorem pT_succ {f : Nat → Int} {n : Nat} : pT f (n + 1) = pT f n ++ [f n] := by
  unfold pT
  rw [List.range_succ, List.map_append]
  rfl
theorem pT_take {t g : List Int} {n : Nat} (h : n ≤ t.length) : t.take n = pT (val t g) n := by
  refine at_eq_of (by rw [pT_len, List.length_take]; omega) fun i hi => ?_
  rw [List.length_take] at hi
  rw [at_take (by omega), pT_at (by omega), val_lt (by omega)]
theorem val_next {t g : List Int} {n : Nat} (h0 : 0 < t.length) (h : t.length ≤ n) : val t g n = val t g (n - 1) + dif g (n - t.length) := by
  have := val_step (g := g) h0 (n - t.length)
  rw [show t.length - 1 + (n - t.length) + 1 = n by omega, show t.length - 1 + (n - t.length) = n - 1 by omega] at this
  omega
end Gr
namespace K06
open PySem L2 Evl Gr
abbrev sFirst : Stmt := top 19
section
variable {K : PySem.W.Frag} {σ : L2.St} {H : Hp} {te : TE} {xs : List V}
/-- list(t), t a tuple that may be a new one -/
theorem el_ofT (h : EvTu K te σ H xs) : EvL (tCB (rListS K) (tCons te tNil)) σ H xs := fun H1 e Q q =>
  h H1 e _ fun p H2 e2 hp => ⟨p, xs, rfl, .inr hp, fun l hl => q l _ (fresh_back e2 hl) (e2.trans (Ex.new hl)) upd_same⟩
end
section
variable {P : Program} {w : World} {K : PySem.W.Frag} {mg : Str → Option Value} {base : Heap}
/-! ### first_values -/
def spFirst (K : PySem.W.Frag) (C : Addr) : Sp := fun vs H Q _ => ∃ (o : Addr) (m : Nat) (t g : List Int), vs = [.ref o, .int (m : Int)] ∧ GrAt K C H o t g ∧ m ≤ 10000 ∧ ∀ p H', H p = none → Ex H H' → H' p = some (.lst (vI (pT (val t g) m))) → Q (.ref p) H'
theorem scFirst : FnScope ["one", "many", "values", "at"] ["one", "many"] (defScope sFirst) := ⟨rfl, rfl, rfl, by decide +kernel, rfl, by decide +kernel, by decide +kernel⟩
theorem ok_First {C f : Addr} {fd : FuncData} (F : Fun K "first_values" "first_values" sFirst f fd) (T : GlbS mg) (G : GCls K C) : FnOk P w K mg base CX0 1 f fd ["one", "many"] (spFirst K C) := by
  refine F.ok scFirst (fun vs H Q E h => ?_) (fun cdv A outer s H vs Q E hr h => ?_)
  · obtain ⟨o, n, t, g, rfl, _⟩ := h
    rfl
  · obtain ⟨o, m, t, g, rfl, hO, hm, k⟩ := h
    refine ⟨_, pss_cons (ps_set (i := 2) scFirst.nd rfl (.inl rfl) (pe_callTy call_list_of (by rfl) T.list (by decide +kernel) (pa_cons (pe_slice sl_tupA (pe_fld (pv 0) rfl) po_none (po_some (pv 1))) pa_nil)))
      (pss_cons (ps_set (i := 3) scFirst.nd rfl (.inl rfl) pe_int)
      (pss_cons (ps_while PassesOwn.never (pt_cmpR op_lt (pe_callB call_len_seq (by rfl) T.len PySem.boot_len (pa_cons (pv 2) pa_nil)) (pv 1) (nomark _))
        (pss_cons (ps_expr (pe_bm PySem.F.plainAttrs_list PySem.F.slot_list_append PySem.F.type_list_append mt_append (pv 2) (pa_cons (pe_op op_add (pe_ix ix_list (pv 2) (pe_un un_neg pe_int) (fun _ _ => rfl)) (pe_ix ix_seq (pe_fld (pv 0) rfl) (pv 3) (fun _ _ => rfl))) pa_nil)))
        (pss_cons (ps_aug (i := 3) scFirst.nd rfl (.inl rfl) pe_int ip_add)
        (pss_one (ps_if (pt_cmpR op_eq (pv 3) (pe_callB call_len_seq (by rfl) T.len PySem.boot_len (pa_cons (pe_fld (pv 0) rfl) pa_nil)) (nomark _)) (pss_one (ps_set (i := 3) scFirst.nd rfl (.inl rfl) pe_int)) pss_nil)))))
      (pss_one (ps_ret (pv 2))))), ?_⟩
    obtain ⟨dx, p, q, r, h1, h2, h3, h4, nf, t2, g2, sm⟩ := hO
    have t0 := nf.told
    have g0 := nf.gains
    have fT : ∀ {σ'' : L2.St} {H' : Hp}, Ex H H' → σ''[0]? = some (some (.ref o)) → Ev (tFld K (tVar 0) "told") σ'' H' (.ref p) := fun e h0 => ev_fld (ev_var h0) (e _ _ h1) G.cls G.told rfl
    have fG : ∀ {σ'' : L2.St} {H' : Hp}, Ex H H' → σ''[0]? = some (some (.ref o)) → Ev (tFld K (tVar 0) "gains") σ'' H' (.ref q) := fun e h0 => ev_fld (ev_var h0) (e _ _ h1) G.cls G.gains rfl
    have lG : ∀ {σ'' : L2.St} {H' : Hp}, Ex H H' → σ''[0]? = some (some (.ref o)) → Ev (tCB (fun xs H Q => ∃ p ys, xs = [V.ref p] ∧ (SqL K H p ys ∨ SqT K H p ys) ∧ Q (.int ys.length) H) (tCons (tFld K (tVar 0) "gains") tNil)) σ'' H' (.int (g.length : Int)) :=
      fun e h0 => ev_is (ev_cb (ea_cons (fG e h0) ea_nil) (rc_lenQ (.inr (ex_t e h3)))) (by rw [vI_len])
    obtain ⟨n0, hn0⟩ : ∃ n0, n0 = min m t.length := ⟨_, rfl⟩
    have c1 : EvL (tCB (rListS K) (tCons (tSl (rSlA K) (tFld K (tVar 0) "told") tNoPart (tPart (tVar 1))) tNil)) [some (.ref o), some (.int (m : Int)), none, none] H (vI (pT (val t g) n0)) := by
      have z := etu_cut (K := K) (σ := [some (.ref o), some (.int (m : Int)), none, none]) (H := H) (te := tFld K (tVar 0) "told") (tl := tNoPart) (th := tPart (tVar 1)) (lo := none) (hi := some (m : Int)) (fT (Ex.refl H) rfl) eo_none (eo_some (ev_var rfl)) h2
      have e : cutV (vI t) none (some (m : Int)) = vI (pT (val t g) n0) := by
        rcases Nat.lt_or_ge t.length m with c | c
        · have e1 : cutV (vI t) none (some (m : Int)) = vI t := cutV_all (n := 0) rfl (by rw [HT.sIx_nat, vI_len]; omega)
          rw [e1, show n0 = t.length by omega, ← pT_take (g := g) (Nat.le_refl _), List.take_length]
        · rw [cut_take c, show n0 = m by omega, pT_take (g := g) c]
      rw [e] at z
      exact el_ofT z
    refine q_asgL c1 fun b H1 hb e1 hb1 => ?_
    refine q_asg ev_c fun H2 e2 => ?_
    refine q_while (fun u σ' H' => ∃ n : Nat, u = m - n ∧ n ≤ m ∧ (n < m → t.length ≤ n) ∧ 0 < n + 1 ∧ σ' = [some (.ref o), some (.int (m : Int)), some (.ref b), some (.int (((n - t.length) % g.length : Nat) : Int))] ∧ H' b = some (.lst (vI (pT (val t g) n))) ∧ Ex H H') (m - n0)
      ⟨n0, rfl, by omega, fun _ => by omega, by omega, by rw [show n0 - t.length = 0 by omega, Nat.zero_mod]; rfl, e2 _ _ hb1, e1.trans e2⟩ ?_
    rintro u σ' H3 ⟨n, rfl, nm, nt, _, rfl, hb3, E3⟩
    refine ⟨_, et_test (ev_op (ev_is (ev_cb (ea_cons (ev_var rfl) ea_nil) (rc_len (sq_of hb3))) (by rw [vI_len, pT_len])) (ev_var rfl) rv_I0), fun ht H4 e4 => ?_, fun ht H4 e4 => ?_⟩
    · have hlt : n < m := by have := of_decide_eq_true ht; omega
      have hT := nt hlt
      have hr2 : (n - t.length) % g.length < g.length := Nat.mod_lt _ g0
      have hb4 := e4 _ _ hb3
      have E4 := E3.trans e4
      refine ⟨fun σ' H' => σ' = [some (.ref o), some (.int (m : Int)), some (.ref b), some (.int (((n + 1 - t.length) % g.length : Nat) : Int))] ∧ H' b = some (.lst (vI (pT (val t g) (n + 1)))) ∧ Ex H H',
        fun σ2 H5 h5 => ⟨m - (n + 1), by omega, n + 1, rfl, by omega, fun _ => by omega, by omega, h5.1, h5.2.1, h5.2.2⟩, ?_⟩
      refine q_app hb4 (ev_var rfl) (v := .int (val t g n)) (ev_is (ev_op (ev_op (ev_var rfl) (ev_un ev_c ru_neg) (rv_ixL (sq_of hb4) (by rw [atI_vlast (by rw [pT_len]; omega), pT_len, pT_at (by omega)])))
        (ev_op (fG E4 rfl) (ev_var rfl) (rv_ix (.inr (ex_t E4 h3)) (atI_vI hr2))) rv_I0) (by rw [val_next t0 hT]; rfl)) (by rw [vI_len, pT_len]; omega) fun H5 e5 => ?_
      have E5 : Ex H (upd H5 b (.lst (vI (pT (val t g) n) ++ [.int (val t g n)]))) := (E4.trans e5).mut hb
      have hb5 : (upd H5 b (.lst (vI (pT (val t g) n) ++ [.int (val t g n)]))) b = some (.lst (vI (pT (val t g) (n + 1)))) := by rw [upd_same, vI_app, pT_succ]
      generalize upd H5 b (.lst (vI (pT (val t g) n) ++ [.int (val t g n)])) = H6 at E5 hb5 ⊢
      refine q_aug (f := fun x y => x + y) (a := (((n - t.length) % g.length : Nat) : Int)) (b := 1) rfl ev_c fun H7 e7 => ?_
      have E7 := E5.trans e7
      have hb7 := e7 _ _ hb5
      have e8 : n + 1 - t.length = n - t.length + 1 := by omega
      refine s_when (et_test (ev_op (ev_var rfl) (lG E7 rfl) (rv_eq rfl))) (fun hq H8 e8' => ?_) (fun hq H8 e8' => ?_)
      · rw [vint_inj] at hq
        have hq' := of_decide_eq_true hq
        refine s_asg ev_c fun H9 e9 => ⟨?_, e9 _ _ (e8' _ _ hb7), (E7.trans e8').trans e9⟩
        have z : (n + 1 - t.length) % g.length = 0 := by
          rw [e8, Nat.add_mod]
          rcases Nat.eq_or_lt_of_le g0 with c | c
          · rw [← c, Nat.mod_one]
          · rw [Nat.mod_eq_of_lt c, show (n - t.length) % g.length + 1 = g.length by omega, Nat.mod_self]
        rw [z]
        rfl
      · rw [vint_inj] at hq
        have hq' := of_decide_eq_false hq
        refine ⟨?_, e8' _ _ hb7, E7.trans e8'⟩
        have z : (n + 1 - t.length) % g.length = (n - t.length) % g.length + 1 := by
          rw [e8, Nat.add_mod]
          rcases Nat.eq_or_lt_of_le g0 with c | c
          · rw [← c, Nat.mod_one] at hq' ⊢
            omega
          · rw [Nat.mod_eq_of_lt c, Nat.mod_eq_of_lt (by omega)]
        rw [z]
        rfl
    · have hge : n = m := by have := of_decide_eq_false ht; omega
      subst hge
      exact s_ret (ev_var rfl) fun H5 e5 => k b H5 hb ((E3.trans e4).trans e5) (e5 _ _ (e4 _ _ hb3))
end
end K06
namespace K06
open PySem L2 Evl Gr
abbrev sPart : Stmt := top 20
abbrev sBegin : Stmt := top 22
section
variable {σ : L2.St} {H : Hp} {te : TE} {t : TT}
/-- [e for j in range(a, b) if t] -/
theorem el_lcR2 {ta : TA} {j : Nat} {vs : List Nat} {lo n : Int} (f : Nat → Bool) (v : Nat → V) (h : EvA ta σ H [.int lo, .int n]) (hn : 0 ≤ lo ∧ lo ≤ n ∧ n ≤ 40000) (hw : ∀ x, wipe ((wipe σ vs).set j (some x)) vs = wipe σ vs)
    (ht : ∀ (i : Nat) H1, Ex H H1 → lo + (i : Int) < n → EvT t ((wipe σ vs).set j (some (.int (lo + (i : Int))))) H1 (f i)) (he : ∀ (i : Nat) H1, Ex H H1 → lo + (i : Int) < n → f i = true → Ev te ((wipe σ vs).set j (some (.int (lo + (i : Int))))) H1 (v i)) :
    EvL (tLc (iRng2 ta) (gName j) t te vs) σ H (given (n - lo).toNat f v) := fun H0 e Q q => h H0 e _ fun H1 e1 => ⟨lo, n, rfl, ⟨by omega, by omega, by omega, by omega⟩, fun Dl hD =>
  lc_range (lo := lo) (n := (n - lo).toNat) (Cw H1 f v Dl) ⟨hD, Ex.new hD, upd_same⟩ (fun i H' hi p =>
    ⟨hw _, cw_turn p (by omega) (ht i H1 (e.trans e1) (by omega)) (fun hf => he i H1 (e.trans e1) (by omega) hf)⟩) (fun H' p => q Dl H' (fresh_back e1 p.1) (e1.trans p.2.1) p.2.2)⟩
theorem given_all {n : Nat} {v : Nat → V} : given n (fun _ => true) v = (List.range n).map v := by
  unfold given
  rw [List.filter_eq_self.mpr fun _ _ => rfl]
theorem et_none : EvT (fun σ H Q => Q true H) σ H true := fun H1 _ _ q => q H1 (Ex.refl H1)
end
section
variable {P : Program} {w : World} {K : PySem.W.Frag} {mg : Str → Option Value} {base : Heap}
/-! ### begin_of_both -/
def spBegin (K : PySem.W.Frag) (C : Addr) : Sp := fun vs H Q _ => ∃ (o u : Addr) (t g t' g' : List Int), vs = [.ref o, .ref u] ∧ GrAt K C H o t g ∧ GrAt K C H u t' g' ∧ RetV (.int ((max t.length t'.length : Nat) : Int)) H Q
theorem scBegin : FnScope ["one", "other"] ["one", "other"] (defScope sBegin) := ⟨rfl, rfl, rfl, by decide +kernel, rfl, by decide +kernel, by decide +kernel⟩
theorem ev_lenF {σ : L2.St} {H : Hp} {ta : TE} {o C dx p : Addr} {fs : List (Str × V)} {f : Str} {g : List Int} (ha : Ev ta σ H (.ref o)) (ho : H o = some (.ins C dx fs)) (c : Cls K C) (n : NoAttr K C f) (hf : fs.lookup f = some (.ref p)) (hp : SqT K H p (vI g)) :
    Ev (tCB (fun xs H Q => ∃ p ys, xs = [V.ref p] ∧ (SqL K H p ys ∨ SqT K H p ys) ∧ Q (.int ys.length) H) (tCons (tFld K ta f) tNil)) σ H (.int (g.length : Int)) :=
  ev_is (ev_cb (ea_cons (ev_fld ha ho c n hf) ea_nil) (rc_lenQ (.inr hp))) (by rw [vI_len])
theorem ok_Begin {C f : Addr} {fd : FuncData} (F : Fun K "begin_of_both" "begin_of_both" sBegin f fd) (T : GlbS mg) (DV : GlbV mg) (G : GCls K C) : FnOk P w K mg base CX0 1 f fd ["one", "other"] (spBegin K C) := by
  refine F.ok scBegin (fun vs H Q E h => ?_) (fun cdv A outer s H vs Q E hr h => ?_)
  · obtain ⟨o, u, t, g, t', g', rfl, _⟩ := h
    rfl
  · obtain ⟨o, u, t, g, t', g', rfl, hO, hU, k⟩ := h
    refine ⟨_, pss_one (ps_ret (pe_callB (call_max2 rfl) (by rfl) DV.max (by decide +kernel) (pa_cons (pe_callB call_len_seq (by rfl) T.len PySem.boot_len (pa_cons (pe_fld (pv 0) rfl) pa_nil)) (pa_cons (pe_callB call_len_seq (by rfl) T.len PySem.boot_len (pa_cons (pe_fld (pv 1) rfl) pa_nil)) pa_nil)))), ?_⟩
    obtain ⟨dx, p, q, r, h1, h2, h3, h4, nf, t2, g2, sm⟩ := hO
    obtain ⟨dx', p', q', r', h1', h2', h3', h4', nf', t2', g2', sm'⟩ := hU
    refine s_ret (ev_is (ev_max2 (ev_lenF (ev_var rfl) h1 G.cls G.told rfl h2) (ev_lenF (ev_var rfl) h1' G.cls G.told rfl h2')) ?_) k
    by_cases c : (t'.length : Int) > (t.length : Int)
    · rw [if_pos c]; congr 1; omega
    · rw [if_neg c]; congr 1; omega
/-! ### parted -/
def spPart (K : PySem.W.Frag) : Sp := fun vs H Q _ => ∃ (a : Addr) (b l : Nat) (f : Nat → Int), vs = [.ref a, .int (b : Int)] ∧ SqL K H a (vI (pT f (b + l))) ∧ 0 < b ∧ b + l ≤ 20000 ∧
  ∀ r p q H', Ex H H' → SqT K H' r [.ref p, .ref q] → SqL K H' p (vI (pT f b)) → SqL K H' q (vI (pG f b l)) → Q (.ref r) H'
theorem scPart : FnScope ["values", "many", "gains", "at"] ["values", "many"] (defScope sPart) := ⟨rfl, rfl, rfl, by decide +kernel, rfl, by decide +kernel, by decide +kernel⟩
theorem ok_Part {f : Addr} {fd : FuncData} (F : Fun K "parted" "parted" sPart f fd) (T : GlbS mg) : FnOk P w K mg base CX0 1 f fd ["values", "many"] (spPart K) := by
  refine F.ok scPart (fun vs H Q E h => ?_) (fun cdv A outer s H vs Q E hr h => ?_)
  · obtain ⟨a, b, l, f, rfl, _⟩ := h
    rfl
  · obtain ⟨a, b, l, f, rfl, hA, b0, bl, k⟩ := h
    refine ⟨_, pss_cons (ps_setLc (i := 2) (own := [("at", 3)]) (g := gName 3) rfl scPart.nd rfl (by rfl) (by rfl) (pi_range2 (by rfl) T.range (pa_cons (pv 1) (pa_cons (pe_callB call_len_seq (by rfl) T.len PySem.boot_len (pa_cons (pv 0) pa_nil)) pa_nil))) (blkOk_by (own := [("at", 3)]) (N := ["values", "many", "gains", "at"]) (sc := defScope sPart) (by decide +kernel))
        (fun _ _ _ _ _ => pg_name (i := 3) scPart.nd rfl (Or.inl rfl)) (fun _ _ _ _ _ => pts_nil) (fun _ _ _ _ _ => pe_op op_sub (pe_ix (show IxR _ (rIxL K) from ix_list) (pv 0) (pv 3) (fun _ _ => rfl)) (pe_ix (show IxR _ (rIxL K) from ix_list) (pv 0) (pe_op op_sub (pv 3) pe_int) (fun _ _ => rfl))))
      (pss_one (ps_ret (pe_tup (pa_cons (pe_slice sl_list (pv 0) po_none (po_some (pv 1))) (pa_cons (pv 2) pa_nil))))), ?_⟩
    have c1 : EvL (tLc (iRng2 (tCons (tVar 1) (tCons (tCB (fun xs H Q => ∃ p ys, xs = [V.ref p] ∧ (SqL K H p ys ∨ SqT K H p ys) ∧ Q (.int ys.length) H) (tCons (tVar 0) tNil)) tNil))) (gName 3) tYes
        (tOp (rI0 fun i j => .int (i - j)) (tOp (rIxL K) (tVar 0) (tVar 3)) (tOp (rIxL K) (tVar 0) (tOp (rI0 fun i j => .int (i - j)) (tVar 3) (tC (.int 1))))) [3]) [some (.ref a), some (.int (b : Int)), none, none] H (vI (pG f b l)) := by
      have z := el_lcR2 (σ := [some (.ref a), some (.int (b : Int)), none, none]) (H := H) (t := tYes) (te := tOp (rI0 fun i j => .int (i - j)) (tOp (rIxL K) (tVar 0) (tVar 3)) (tOp (rIxL K) (tVar 0) (tOp (rI0 fun i j => .int (i - j)) (tVar 3) (tC (.int 1))))) (j := 3) (vs := [3]) (lo := (b : Int)) (n := ((b + l : Nat) : Int))
        (fun _ => true) (fun i => V.int (f (b + i) - f (b + i - 1))) (ta := tCons (tVar 1) (tCons (tCB (fun xs H Q => ∃ p ys, xs = [V.ref p] ∧ (SqL K H p ys ∨ SqT K H p ys) ∧ Q (.int ys.length) H) (tCons (tVar 0) tNil)) tNil))
        (ea_cons (ev_var rfl) (ea_cons (ev_is (ev_cb (ea_cons (ev_var rfl) ea_nil) (rc_lenQ (.inl hA))) (by rw [vI_len, pT_len])) ea_nil)) (by omega) (fun _ => rfl) (fun i H1 e1 hi => et_none) (fun i H1 e1 hi _ => ?_)
      · rw [given_all, show (((b + l : Nat) : Int) - (b : Int)).toNat = l by omega] at z
        have e : vI (pG f b l) = (List.range l).map fun i => V.int (f (b + i) - f (b + i - 1)) := by unfold vI pG; rw [List.map_map]; rfl
        rw [e]
        exact z
      · have hA1 := ex_l e1 hA
        exact ev_op (ev_op (y := .int ((b + i : Nat) : Int)) (ev_var rfl) (ev_is (ev_var rfl) (by congr 1)) (rv_ixL hA1 (by rw [atI_vI (by rw [pT_len]; omega), pT_at (by omega)])))
          (ev_op (y := .int ((b + i - 1 : Nat) : Int)) (ev_var rfl) (ev_is (ev_op (ev_var rfl) ev_c rv_I0) (by congr 1; omega)) (rv_ixL hA1 (by rw [atI_vI (by rw [pT_len]; omega), pT_at (by omega)]))) rv_I0
    refine q_asgL c1 fun q H1 hq e1 h1 => ?_
    have c2 := el_sl (K := K) (σ := [some (.ref a), some (.int (b : Int)), some (.ref q), none]) (H := H1) (te := tVar 0) (tl := tNoPart) (th := tPart (tVar 1)) (lo := none) (hi := some (b : Int)) (ev_var rfl) eo_none (eo_some (ev_var rfl)) (ex_l e1 hA)
    rw [cut_take (by rw [pT_len]; omega)] at c2
    refine c2 H1 (Ex.refl H1) _ fun p H2 hp e2 h2 => ?_
    refine ⟨_, rfl, by show 2 ≤ sizeLine; decide, fun r hr => ?_⟩
    have e3 := Ex.new (H := H2) (o := .tup [.ref p, .ref q]) hr
    refine k r p q _ ((e1.trans e2).trans e3) (st_of upd_same) ?_ (sq_of (e3 _ _ (e2 _ _ h1)))
    have e4 : (pT f (b + l)).take b = pT f b := at_eq_of (by rw [List.length_take, pT_len, pT_len]; omega) fun i hi => by
      rw [List.length_take, pT_len] at hi
      rw [at_take (by omega), pT_at (by omega), pT_at (by omega)]
    rw [e4] at h2
    exact sq_of (e3 _ _ h2)
end
end K06
namespace L2
open PySem PySem.Spec PyProof.Rows
section
variable {X : Cx}
def rLcm : List V → Hp → VK → Prop := fun vs H Q => ∃ a b : Nat, vs = [.int (a : Int), .int (b : Int)] ∧ a < 2 ^ 64 ∧ b < 2 ^ 64 ∧ Q (.int ((Nat.lcm a b : Nat) : Int)) H
theorem cr_lcm : CallR X (.builtin "math.lcm") rLcm := by
  intro pins s σ H vs us Q I r h
  obtain ⟨a, b, rfl, ha, hb, q⟩ := h
  obtain ⟨t, u, rfl⟩ := Vals.int2 r
  exact PySem.W.mc_lcm (by simpa using ha) (by simpa using hb) fun _ => ⟨.int _, H, I.tok _, ⟨_, rfl⟩, by simpa using q⟩
/-- a statement that is not come to -/
def tNo : TS := fun _ _ _ => False
theorem ps_no {st : Stmt} : PS X st tNo := ⟨fun _ _ _ _ _ _ h => h.elim⟩
end
end L2
namespace K06
open PySem L2 Evl Gr
abbrev sCommon : Stmt := top 21
abbrev sSum : Stmt := top 23
section
variable {K : PySem.W.Frag} {σ : L2.St} {H : Hp} {te : TE}
/-- [e for i, j in zip(x, y)] -/
theorem el_lcZ {ta : TA} {i j : Nat} {vs : List Nat} {xs ys : List V} (v : Nat → V) (h : ∀ H1, Ex H H1 → ∀ Q : List V → Hp → Prop, (∀ a b H2, Ex H1 H2 → SqL K H2 a xs → SqL K H2 b ys → Q [.ref a, .ref b] H2) → ta σ H1 Q)
    (hl : xs.length = ys.length) (hz : xs.length ≤ 40000) (hw : ∀ x y, wipe (((wipe σ vs).set i (some x)).set j (some y)) vs = wipe σ vs)
    (he : ∀ (k : Nat) x y H1, Ex H H1 → xs[k]? = some x → ys[k]? = some y → Ev te (((wipe σ vs).set i (some x)).set j (some y)) H1 (v k)) :
    EvL (tLc (iZip K ta) (gTup K 2 (gCons (gName i) (gCons (gName j) gNil))) tYes te vs) σ H ((List.range xs.length).map v) := fun H0 e Q q => h H0 e _ fun a b H1 e1 ha hb =>
  ⟨a, b, xs, ys, rfl, ha, hb, fun Dl hD => lc_it (n := xs.length) (walk_zip (xs := xs) (ys := ys) (by omega)) (Cw H1 (fun _ => true) v Dl) ⟨hD, Ex.new hD, upd_same⟩ (fun _ H' _ p => ⟨ex_l p.2.1 ha, ex_l p.2.1 hb⟩)
    (fun k x H' H'' hk p y => by
      obtain ⟨T, x1, y1, rfl, hT, rfl, hx, hy⟩ := y
      have e2 := Ex.new (H := H') (o := .tup [x1, y1]) hT
      have p' : Cw H1 (fun _ => true) v Dl k (upd H' T (.tup [x1, y1])) := ⟨p.1, p.2.1.trans e2, e2 _ _ p.2.2⟩
      exact ⟨T, _, rfl, st_of upd_same, rfl, _, _, rfl, _, _, rfl, rfl, hw _ _, cw_turn p' (by omega) et_none (fun _ => he k x1 y1 H1 (e.trans e1) hx hy)⟩)
    (fun H' p => q Dl H' (fresh_back e1 p.1) (e1.trans p.2.1) (by rw [← given_all]; exact p.2.2))⟩
end
section
variable {P : Program} {w : World} {K : PySem.W.Frag} {mg : Str → Option Value} {base : Heap}
/-! ### common_length -/
structure GlbL (mg : Str → Option Value) : Prop where
  lcm : mg "lcm" = some (.builtin "math.lcm")
  most : ∃ t, mg "MOST_PARTS" = some (.int 2000 t)
def spCommon (K : PySem.W.Frag) (C : Addr) : Sp := fun vs H Q _ => ∃ (o u : Addr) (t g t' g' : List Int), vs = [.ref o, .ref u] ∧ GrAt K C H o t g ∧ GrAt K C H u t' g' ∧ Nat.lcm g.length g'.length ≤ 2000 ∧ RetV (.int ((Nat.lcm g.length g'.length : Nat) : Int)) H Q
theorem scCommon : FnScope ["one", "other", "length"] ["one", "other"] (defScope sCommon) := ⟨rfl, rfl, rfl, by decide +kernel, rfl, by decide +kernel, by decide +kernel⟩
theorem ok_Common {C f : Addr} {fd : FuncData} (F : Fun K "common_length" "common_length" sCommon f fd) (T : GlbS mg) (L : GlbL mg) (G : GCls K C) : FnOk P w K mg base CX0 1 f fd ["one", "other"] (spCommon K C) := by
  obtain ⟨mt, gm⟩ := L.most
  refine F.ok scCommon (fun vs H Q E h => ?_) (fun cdv A outer s H vs Q E hr h => ?_)
  · obtain ⟨o, u, t, g, t', g', rfl, _⟩ := h
    rfl
  · obtain ⟨o, u, t, g, t', g', rfl, hO, hU, hl, k⟩ := h
    refine ⟨_, pss_cons (ps_set (i := 2) scCommon.nd rfl (.inl rfl) (pe_callBfun cr_lcm (by rfl) L.lcm (pa_cons (pe_callB call_len_seq (by rfl) T.len PySem.boot_len (pa_cons (pe_fld (pv 0) rfl) pa_nil)) (pa_cons (pe_callB call_len_seq (by rfl) T.len PySem.boot_len (pa_cons (pe_fld (pv 1) rfl) pa_nil)) pa_nil))))
      (pss_cons (ps_if (pt_cmpR op_gt (pv 2) (pe_glob (v := .int 2000) rfl gm ⟨_, rfl⟩) (nomark _)) (pss_one ps_no) pss_nil)
      (pss_one (ps_ret (pv 2)))), ?_⟩
    obtain ⟨dx, p, q, r, h1, h2, h3, h4, nf, t2, g2, sm⟩ := hO
    obtain ⟨dx', p', q', r', h1', h2', h3', h4', nf', t2', g2', sm'⟩ := hU
    refine q_asg (ev_cb (ea_cons (ev_lenF (ev_var rfl) h1 G.cls G.gains rfl h3) (ea_cons (ev_lenF (ev_var rfl) h1' G.cls G.gains rfl h3') ea_nil)) (fun H1 e Q q => ⟨_, _, rfl, by omega, by omega, q H1 (Ex.refl H1)⟩)) fun H1 e1 => ?_
    refine q_when (et_test (ev_op (ev_var rfl) ev_c rv_I0)) (fun ht H2 e2 => ?_) (fun ht H2 e2 => ?_)
    · have := of_decide_eq_true ht
      omega
    · exact s_ret (ev_var rfl) fun H3 e3 => k H3 ((e1.trans e2).trans e3)
/-! ### summed_parts -/
def spSum (K : PySem.W.Frag) (C : Addr) : Sp := fun vs H Q _ => ∃ (o u : Addr) (t g t' g' : List Int), vs = [.ref o, .ref u] ∧ GrAt K C H o t g ∧ GrAt K C H u t' g' ∧ Nat.lcm g.length g'.length ≤ 2000 ∧
  ∀ r p q b l H', Ex H H' → SqT K H' r [.ref p, .ref q] → SqL K H' p (vI (pT (fun n => val t g n + val t' g' n) b)) → SqL K H' q (vI (pG (fun n => val t g n + val t' g' n) b l)) → 0 < b → b ≤ 2000 → 0 < l → l ≤ 2000 →
    (∀ n, val (pT (fun n => val t g n + val t' g' n) b) (pG (fun n => val t g n + val t' g' n) b l) n = val t g n + val t' g' n) → Q (.ref r) H'
theorem scSum : FnScope ["one", "other", "begin", "many", "values", "left", "right"] ["one", "other"] (defScope sSum) := ⟨rfl, rfl, rfl, by decide +kernel, rfl, by decide +kernel, by decide +kernel⟩
theorem ok_Sum {C f fB fC fF fP : Addr} {fd fdB fdC fdF fdP : FuncData} (F : Fun K "summed_parts" "summed_parts" sSum f fd) (T : GlbS mg) (DV : GlbV mg) (L : GlbL mg) (G : GCls K C)
    (FB : Fun K "begin_of_both" "begin_of_both" sBegin fB fdB) (bB : Binds K fdB ["one", "other"] []) (gB : mg "begin_of_both" = some (.ref fB))
    (FC : Fun K "common_length" "common_length" sCommon fC fdC) (bC : Binds K fdC ["one", "other"] []) (gC : mg "common_length" = some (.ref fC))
    (FF : Fun K "first_values" "first_values" sFirst fF fdF) (bF : Binds K fdF ["one", "many"] []) (gF : mg "first_values" = some (.ref fF))
    (FP : Fun K "parted" "parted" sPart fP fdP) (bP : Binds K fdP ["values", "many"] []) (gP : mg "parted" = some (.ref fP)) : FnOk P w K mg base CX0 2 f fd ["one", "other"] (spSum K C) := by
  have GB : FnOk P w K mg base CX0 1 fB fdB ["one", "other"] (spBegin K C) := ok_Begin FB T DV G
  have GC : FnOk P w K mg base CX0 1 fC fdC ["one", "other"] (spCommon K C) := ok_Common FC T L G
  have GF : FnOk P w K mg base CX0 1 fF fdF ["one", "many"] (spFirst K C) := ok_First FF T G
  have GP : FnOk P w K mg base CX0 1 fP fdP ["values", "many"] (spPart K) := ok_Part FP T
  refine F.ok scSum (fun vs H Q E h => ?_) (fun cdv A outer s H vs Q E hr h => ?_)
  · obtain ⟨o, u, t, g, t', g', rfl, _⟩ := h
    rfl
  · obtain ⟨o, u, t, g, t', g', rfl, hO, hU, hl, k⟩ := h
    refine ⟨_, pss_cons (ps_set (i := 2) scSum.nd rfl (.inl rfl) (pe_call GB hr (by rfl) gB FB.kp bB .nil pass0 (pa_cons (pv 0) (pa_cons (pv 1) pa_nil))))
      (pss_cons (ps_set (i := 3) scSum.nd rfl (.inl rfl) (pe_op op_add (pv 2) (pe_call GC hr (by rfl) gC FC.kp bC .nil pass0 (pa_cons (pv 0) (pa_cons (pv 1) pa_nil)))))
      (pss_cons (ps_setLc (i := 4) (own := [("left", 5), ("right", 6)]) (g := gTup K 2 (gCons (gName 5) (gCons (gName 6) gNil))) rfl scSum.nd rfl (by rfl) (by rfl)
          (pi_zip (by rfl) DV.zip (pa_cons (pe_call GF hr (by rfl) gF FF.kp bF .nil pass0 (pa_cons (pv 0) (pa_cons (pv 3) pa_nil))) (pa_cons (pe_call GF hr (by rfl) gF FF.kp bF .nil pass0 (pa_cons (pv 1) (pa_cons (pv 3) pa_nil))) pa_nil)))
          (blkOk_by (own := [("left", 5), ("right", 6)]) (N := ["one", "other", "begin", "many", "values", "left", "right"]) (sc := defScope sSum) (by decide +kernel))
          (fun _ _ _ _ _ => pg_tup rfl (pgs_cons (pg_name (i := 5) scSum.nd rfl (Or.inl rfl)) (pgs_cons (pg_name (i := 6) scSum.nd rfl (Or.inl rfl)) pgs_nil))) (fun _ _ _ _ _ => pts_nil) (fun _ _ _ _ _ => pe_op op_add (pv 5) (pv 6)))
      (pss_one (ps_ret (pe_call GP hr (by rfl) gP FP.kp bP .nil pass0 (pa_cons (pv 4) (pa_cons (pv 2) pa_nil))))))), ?_⟩
    have hO0 := hO
    have hU0 := hU
    obtain ⟨dx, p, q, r, h1, h2, h3, h4, nf, t2, g2, sm⟩ := hO
    obtain ⟨dx', p', q', r', h1', h2', h3', h4', nf', t2', g2', sm'⟩ := hU
    have t0 := nf.told
    have t0' := nf'.told
    have l0 : 0 < Nat.lcm g.length g'.length := Nat.lcm_pos nf.gains nf'.gains
    obtain ⟨b, hb⟩ : ∃ b, b = max t.length t'.length := ⟨_, rfl⟩
    obtain ⟨l, hl'⟩ : ∃ l, l = Nat.lcm g.length g'.length := ⟨_, rfl⟩
    rw [← hl'] at hl l0
    refine q_asg (v := .int (b : Int)) (ev_call (ea_cons (ev_var rfl) (ea_cons (ev_var rfl) ea_nil)) (fun H1 e Q q E => ⟨o, u, t, g, t', g', rfl, hO0.mono e, hU0.mono e, by rw [← hb]; exact q⟩)) fun H1 e1 => ?_
    refine q_asg (v := .int ((b + l : Nat) : Int)) (ev_is (ev_op (y := .int (l : Int)) (ev_var rfl) (ev_call (ea_cons (ev_var rfl) (ea_cons (ev_var rfl) ea_nil)) (fun H2 e Q q E => ⟨o, u, t, g, t', g', rfl, hO0.mono (e1.trans e), hU0.mono (e1.trans e), by rw [← hl']; exact hl, by rw [← hl']; exact q⟩)) rv_I0) (by congr 1)) fun H2 e2 => ?_
    have E2 := e1.trans e2
    have c1 := el_lcZ (K := K) (σ := [some (.ref o), some (.ref u), some (.int (b : Int)), some (.int ((b + l : Nat) : Int)), none, none, none]) (H := H2) (te := tOp (rI0 fun i j => .int (i + j)) (tVar 5) (tVar 6)) (i := 5) (j := 6) (vs := [5, 6])
      (ta := tCons (tCall (spFirst K C) [] E0 (tCons (tVar 0) (tCons (tVar 3) tNil))) (tCons (tCall (spFirst K C) [] E0 (tCons (tVar 1) (tCons (tVar 3) tNil))) tNil))
      (xs := vI (pT (val t g) (b + l))) (ys := vI (pT (val t' g') (b + l))) (fun n => V.int (val t g n + val t' g' n))
      (fun H3 e3 Q3 q3 => ⟨_, rfl, _, rfl, o, b + l, t, g, rfl, hO0.mono (E2.trans e3), by omega, fun x H4 _ e4 hx => ⟨_, rfl, _, rfl, u, b + l, t', g', rfl, hU0.mono ((E2.trans e3).trans e4), by omega, fun y H5 _ e5 hy => q3 x y H5 (e4.trans e5) (sq_of (e5 _ _ hx)) (sq_of hy)⟩⟩)
      (by rw [vI_len, vI_len, pT_len, pT_len]) (by rw [vI_len, pT_len]; omega) (fun _ _ => rfl)
      (fun n x y H3 _ hx hy => by
        have hn : n < b + l := by
          have := (List.getElem?_eq_some_iff.mp hx).1
          rwa [vI_len, pT_len] at this
        rw [vI_get (by rw [pT_len]; exact hn), pT_at hn] at hx hy
        obtain rfl := Option.some.inj hx
        obtain rfl := Option.some.inj hy
        exact ev_op (ev_var rfl) (ev_var rfl) rv_I0)
    have e4 : (List.range (vI (pT (val t g) (b + l))).length).map (fun n => V.int (val t g n + val t' g' n)) = vI (pT (fun n => val t g n + val t' g' n) (b + l)) := by
      rw [vI_len, pT_len]
      unfold vI pT
      rw [List.map_map]
      rfl
    rw [e4] at c1
    refine q_asgL c1 fun x H3 hx e3 h3x => ?_
    refine ⟨_, rfl, _, rfl, x, b, l, fun n => val t g n + val t' g' n, rfl, sq_of h3x, by omega, by omega, fun r2 p2 q2 H4 e5 hr2 hp2 hq2 => ?_⟩
    exact k r2 p2 q2 b l H4 ((E2.trans e3).trans e5) hr2 hp2 hq2 (by omega) (by omega) l0 hl (val_sum t0 t0' (by omega) (by omega) l0 (by rw [hl']; exact Nat.dvd_lcm_left _ _) (by rw [hl']; exact Nat.dvd_lcm_right _ _))
end
end K06
namespace L2
open PySem PySem.Spec PyProof.Rows
theorem PI.or {X : Cx} {tg e : Expr} {w1 w2 : TI} (h1 : PI X tg e w1) (h2 : PI X tg e w2) : PI X tg e (fun σ H R => w1 σ H R ∨ w2 σ H R) := ⟨fun pins s σ H R I h => h.elim (h1.run pins s σ H R I) (h2.run pins s σ H R I)⟩
end L2
namespace K06
open PySem L2 Evl Gr
abbrev sParts : Stmt := top 34
/-- over a list or a tuple -/
def iQ (K : PySem.W.Frag) (tl : TE) : TI := fun σ H R => iList K tl σ H R ∨ iTup K tl σ H R
theorem pi_seq {X : Cx} {tg e : Expr} {tl : TE} (h : PE X e tl) : PI X tg e (iQ X.K tl) := (pi_list h).or (pi_tup h)
section
variable {K : PySem.W.Frag} {σ : L2.St} {H : Hp} {te : TE}
theorem el_lcQ {a : Addr} {xs : List V} {tl : TE} {j : Nat} {vs : List Nat} (v : Nat → V) (h : Ev tl σ H (.ref a)) (hx : Sq K H a xs) (hz : xs.length ≤ 40000) (hw : ∀ x, wipe ((wipe σ vs).set j (some x)) vs = wipe σ vs)
    (he : ∀ (i : Nat) (x : V) H1, Ex H H1 → xs[i]? = some x → Ev te ((wipe σ vs).set j (some x)) H1 (v i)) : EvL (tLc (iQ K tl) (gName j) tYes te vs) σ H ((List.range xs.length).map v) := fun H0 e Q q => by
  rcases hx with hx | hx
  · exact .inl (h H0 e _ fun H1 e1 => ⟨a, rfl, ⟨xs, ex_l (e.trans e1) hx⟩, fun Dl hD => lc_it (n := xs.length) (walk_list (xs := xs)) (Cw H1 (fun _ => true) v Dl) ⟨hD, Ex.new hD, upd_same⟩ (fun _ H' _ p => ex_l ((e.trans e1).trans p.2.1) hx)
      (fun k x H' H'' hk p y => by
        obtain ⟨rfl, hx'⟩ := y
        exact ⟨hw _, cw_turn p (by omega) et_none (fun _ => he k x H1 (e.trans e1) hx')⟩)
      (fun H' p => q Dl H' (fresh_back e1 p.1) (e1.trans p.2.1) (by rw [← given_all]; exact p.2.2))⟩)
  · exact .inr (h H0 e _ fun H1 e1 => ⟨a, rfl, ⟨xs, ex_t (e.trans e1) hx⟩, fun Dl hD => lc_it (n := xs.length) (walk_tup (xs := xs)) (Cw H1 (fun _ => true) v Dl) ⟨hD, Ex.new hD, upd_same⟩ (fun _ H' _ p => ex_t ((e.trans e1).trans p.2.1) hx)
      (fun k x H' H'' hk p y => by
        obtain ⟨rfl, hx'⟩ := y
        exact ⟨hw _, cw_turn p (by omega) et_none (fun _ => he k x H1 (e.trans e1) hx')⟩)
      (fun H' p => q Dl H' (fresh_back e1 p.1) (e1.trans p.2.1) (by rw [← given_all]; exact p.2.2))⟩)
/-- a list or a tuple is one of both -/
theorem sq_ty {a : Addr} {xs : List V} (h : Sq K H a xs) : ∃ T : String, TyX K H (.ref a) (.type T) ∧ (T = "list" ∨ T = "tuple") := by
  rcases h with (h | h) | (h | h)
  · rcases h with h | ⟨o, h⟩
    · exact ⟨"list", .base (.lst h), .inl rfl⟩
    · exact ⟨"list", .base (.frz h), .inl rfl⟩
  · obtain ⟨o, its, n, lk, hc, _⟩ := h
    exact ⟨"list", .kList lk hc, .inl rfl⟩
  · rcases h with h | ⟨o, h⟩
    · exact ⟨"tuple", .base (.tup h), .inr rfl⟩
    · exact ⟨"tuple", .fTuple h, .inr rfl⟩
  · obtain ⟨o, its, n, lk, hc, _⟩ := h
    exact ⟨"tuple", .kTuple lk hc, .inr rfl⟩
theorem kit_lt {T : String} (h : T = "list" ∨ T = "tuple") : PySem.W.kitAny K (.type T) [.type "list", .type "tuple"] = some true := by
  rcases h with rfl | rfl
  · exact kitAny_cons (b := true) (kit_ty (by decide +kernel)) (fun h => absurd h (by decide)) fun _ => rfl
  · exact kitAny_cons (b := false) (kit_ty (by decide +kernel)) (fun _ => kitAny_cons (b := true) (kit_ty (by decide +kernel)) (fun h => absurd h (by decide)) fun _ => rfl) fun h => absurd h (by decide)
/-- isinstance(e, (list, tuple)), e one of both -/
theorem ev_isLT {ta : TE} {a : Addr} {xs : List V} (ha : Ev ta σ H (.ref a)) (h : Sq K H a xs) : Ev (tCB (rIsiT K) (tCons ta (tCons (tTup (tCons (tC (.ty "list")) (tCons (tC (.ty "tuple")) tNil))) tNil))) σ H (.bl true) := fun H1 e Q q =>
  ha H1 e _ fun H2 e2 => eu_tup (σ := σ) (H := H2) (ea_cons ev_c (ea_cons ev_c ea_nil)) (by show 2 ≤ 100000; decide) H2 (Ex.refl H2) _ fun p H3 _ e3 h3 => by
    obtain ⟨T, ty, hT⟩ := sq_ty (h.mono ((e.trans e2).trans e3))
    exact ⟨_, p, _, _, _, true, rfl, h3, .cons (.ty "list") (.cons (.ty "tuple") .nil), ty, kit_lt hT, q H3 (e2.trans e3)⟩
/-- all(e), e a new list of bools that are True -/
theorem ev_all {te : TE} {bs : List Bool} (h : EvL te σ H (bs.map V.bl)) : Ev (tCB (rAll K) (tCons te tNil)) σ H (.bl (bs.all id)) := fun H1 e Q q =>
  h H1 e _ fun p H2 _ e2 hp => ⟨p, bs, rfl, sq_of hp, q H2 e2⟩
end
section
variable {P : Program} {w : World} {K : PySem.W.Frag} {mg : Str → Option Value} {base : Heap}
/-! ### are_parts -/
def Pos (l : List Int) : Prop := ∀ i, i < l.length → 0 ≤ at' l i
def spParts (K : PySem.W.Frag) : Sp := fun vs H Q _ => ∃ (a : Addr) (l : List Int), vs = [.ref a, .int 2000] ∧ Sq K H a (vI l) ∧ 0 < l.length ∧ l.length ≤ 2000 ∧ Pos l ∧ RetV (.bl true) H Q
theorem scParts : FnScope ["values", "most", "value"] ["values", "most"] (defScope sParts) := ⟨rfl, rfl, rfl, by decide +kernel, rfl, by decide +kernel, by decide +kernel⟩
theorem ok_Parts {f fI fZ : Addr} {fd fdI fdZ : FuncData} (F : Fun K "are_parts" "are_parts" sParts f fd) (T : GlbS mg) (TT : GlbT mg) (all : mg "all" = none)
    (GZ : FnOk P w K mg base CX0 2 fZ fdZ ["value"] (spFrom0 K)) (kZ : PySem.W.keepIn K (.ref fZ) = true) (bZ : Binds K fdZ ["value"] []) (gZ : mg "is_from_zero" = some (.ref fZ)) :
    FnOk P w K mg base CX0 3 f fd ["values", "most"] (spParts K) := by
  refine F.ok scParts (fun vs H Q E h => ?_) (fun cdv A outer s H vs Q E hr h => ?_)
  · obtain ⟨a, l, rfl, _⟩ := h
    rfl
  · obtain ⟨a, l, rfl, hA, l0, l1, hp, k⟩ := h
    refine ⟨_, pss_cons (ps_if (PW.pt (pw_or (pt_not (pt_val (pe_callB call_isiT (by rfl) TT.inst (by decide +kernel) (pa_cons (pv 0) (pa_cons (pe_tup (pa_cons (pe_bltn (v := .ty "list") (by rfl) T.list (by decide +kernel) rfl) (pa_cons (pe_bltn (v := .ty "tuple") (by rfl) T.tuple (by decide +kernel) rfl) pa_nil))) pa_nil)))))
        (pw_or1 (pt_not (pt_chain op_le op_le pe_int (pe_callB call_len_seq (by rfl) T.len PySem.boot_len (pa_cons (pv 0) pa_nil)) (pv 1)))))) (pss_one (ps_ret pe_bl)) pss_nil)
      (pss_one (ps_ret (pe_callB (cr_all rfl) (by rfl) all (by decide +kernel) (pa_cons (pe_lc (own := [("value", 2)]) (g := gName 2) rfl scParts.nd (pi_seq (pv 0)) (blkOk_by (own := [("value", 2)]) (N := ["values", "most", "value"]) (sc := defScope sParts) (by decide +kernel))
        (fun _ _ _ _ _ => pg_name (i := 2) scParts.nd rfl (Or.inl rfl)) (fun _ _ _ _ _ => pts_nil) (fun _ _ _ _ _ => pe_call GZ hr (by rfl) gZ kZ bZ .nil pass0 (pa_cons (pv 2) pa_nil))) pa_nil)))), ?_⟩
    refine q_when (b := false) (et_is (et_or (et_not (et_B (ev_isLT (ev_var rfl) hA))) (fun _ => et_not (et_B (ev_chain ev_c (ev_is (ev_cb (ea_cons (ev_var rfl) ea_nil) (rc_lenQ hA)) (by rw [vI_len])) (ev_var rfl))))) (by
      rw [decide_eq_true (by omega : (1 : Int) ≤ (l.length : Int)), decide_eq_true (by omega : (l.length : Int) ≤ 2000)]
      rfl)) (fun hb => absurd hb (by decide)) (fun _ H1 e1 => ?_)
    have c1 := el_lcQ (K := K) (σ := [some (.ref a), some (.int 2000), none]) (H := H1) (te := tCall (spFrom0 K) [] E0 (tCons (tVar 2) tNil)) (a := a) (xs := vI l) (tl := tVar 0) (j := 2) (vs := [2]) (fun _ => V.bl true) (ev_var rfl) (hA.mono e1) (by rw [vI_len]; omega) (fun _ => rfl)
      (fun i x H2 e2 hx => by
        have hi : i < l.length := by
          have := (List.getElem?_eq_some_iff.mp hx).1
          rwa [vI_len] at this
        rw [vI_get hi] at hx
        obtain rfl := Option.some.inj hx
        refine ev_call (ea_cons (ev_var rfl) ea_nil) fun H3 e3 Q3 q3 E3 => .inl ⟨_, rfl, ?_⟩
        rw [decide_eq_true (hp i hi)]
        exact q3)
    have e2 : (List.range (vI l).length).map (fun _ => V.bl true) = (List.replicate l.length true).map V.bl := by
      rw [vI_len, List.map_const', List.length_range, List.map_replicate]
    rw [e2] at c1
    refine s_ret (ev_is (ev_all c1) (by congr 1; rw [List.all_eq_true]; intro b hb; exact (List.eq_of_mem_replicate hb))) fun H2 e3 => k H2 (e1.trans e3)
end
end K06
namespace Gr
/-- the gains of a normal form are gains of the growth -/
theorem small_of {t g t' g' : List Int} (nf : NF t' g') (t0 : 0 < t.length) (g0 : 0 < g.length) (sm : Small g) (e : ∀ n, val t' g' n = val t g n) : Small g' := fun i hi => by
  have p := (dif_pd (g := g')).mul t.length i
  rw [dif_lt hi] at p
  have m1 : t.length ≤ t.length * g'.length := Nat.le_mul_of_pos_right _ nf.gains
  have a := val_step (g := g') nf.told (i + t.length * g'.length)
  rw [p, e, e] at a
  have b := rise_ge (g := g) t0 (n := t'.length - 1 + (i + t.length * g'.length)) (by omega)
  unfold rise at b
  rw [b] at a
  rw [← a]
  exact sm _ (Nat.mod_lt _ g0)
end Gr
namespace K06
open PySem L2 Evl Gr ClX
theorem val_nonneg {t g : List Int} (pt : Pos t) (t0 : 0 < t.length) (g0 : 0 < g.length) (sm : Small g) (n : Nat) : 0 ≤ val t g n := by
  unfold val
  by_cases h : n < t.length
  · rw [if_pos h]
    exact pt n h
  · rw [if_neg h]
    have a := pt (t.length - 1) (by omega)
    have b := (acc_small sm g0 (n - t.length + 1)).1
    unfold lst
    omega
abbrev sGr (i : Nat) : Stmt := inClass (top 36) i
theorem sqT_upd {K : PySem.W.Frag} {H : Hp} {o p C dx : Addr} {fs : List (Str × V)} {u : HO} {xs : List V} (h : SqT K H p xs) (ho : H o = some (.ins C dx fs)) : SqT K (upd H o u) p xs := by
  rcases h with (h | ⟨o', h⟩) | h
  · exact .inl (.inl (by rw [upd_ne (fun z => by rw [z, ho] at h; cases h)]; exact h))
  · exact .inl (.inr ⟨o', by rw [upd_ne (fun z => by rw [z, ho] at h; cases h)]; exact h⟩)
  · exact .inr h
theorem ev_cval {K : PySem.W.Frag} {σ : L2.St} {H : Hp} {ta : TE} {C : Addr} {mc : Value} {f : Str} {v : V} {u : Value} (ha : Ev ta σ H (.ref C)) (r : CRead K C mc) (k : CVal K C mc f v u) : Ev (tCVal K ta f) σ H v := fun H1 e Q q =>
  ha H1 e _ fun H2 e2 => ⟨C, mc, v, u, rfl, r, k, q H2 e2⟩
section
variable {P : Program} {w : World} {K : PySem.W.Frag} {mg : Str → Option Value} {base : Heap}
/-! ### Growth.__init__ -/
def spInit (K : PySem.W.Frag) (C : Addr) : Sp := fun vs H Q _ => ∃ (o a b dx : Addr) (t g : List Int), vs = [.ref o, .ref a, .ref b] ∧ H o = some (.ins C dx []) ∧ Sq K H a (vI t) ∧ Sq K H b (vI g) ∧ 0 < t.length ∧ t.length ≤ 2000 ∧ 0 < g.length ∧ g.length ≤ 2000 ∧ Pos t ∧ Small g ∧
  ∀ t' g' H', Keep o H H' → GrAt K C H' o t' g' → Pos t' → (∀ n, val t' g' n = val t g n) → Q .non H'
theorem scInit : FnScope ["self", "told", "gains"] ["self", "told", "gains"] (defScope (sGr 1)) := ⟨rfl, rfl, rfl, by decide +kernel, rfl, by decide +kernel, by decide +kernel⟩
/-- what the class's constant is, and the class's own name -/
structure GName (K : PySem.W.Frag) (mg : Str → Option Value) (C : Addr) (mc : Value) : Prop where
  g : mg "Growth" = some (.ref C)
  rd : CRead K C mc
  most : ∃ u, CVal K C mc "MOST" (.int 2000) u
theorem ok_Init {C f fP fN fR : Addr} {mc : Value} {fd fdP fdN fdR : FuncData} {dvs : List V} (F : FunD K "__init__" "Growth.__init__" (defArgs (sGr 1)) (defBody (sGr 1)) (defScope (sGr 1)) dvs [] f fd) (N : GName K mg C mc) (G : GCls K C)
    (GP : FnOk P w K mg base CX0 3 fP fdP ["values", "most"] (spParts K)) (kP : PySem.W.keepIn K (.ref fP) = true) (bP : Binds K fdP ["values", "most"] []) (gP : mg "are_parts" = some (.ref fP))
    (GN : FnOk P w K mg base CX0 2 fN fdN ["told", "gains"] (spNF K)) (kN : PySem.W.keepIn K (.ref fN) = true) (bN : Binds K fdN ["told", "gains"] []) (gN : mg "normal_form" = some (.ref fN))
    (GR : FnOk P w K mg base CX0 1 fR fdR ["gains"] (spRis K)) (kR : PySem.W.keepIn K (.ref fR) = true) (bR : Binds K fdR ["gains"] []) (gR : mg "rises_of" = some (.ref fR)) :
    FnOk P w K mg base CX0 4 f fd ["self", "told", "gains"] (spInit K C) := by
  obtain ⟨mu, cm⟩ := N.most
  refine F.ok scInit (fun vs H Q E h => ?_) (fun cdv A outer s H vs Q E hr h => ?_)
  · obtain ⟨o, a, b, dx, t, g, rfl, _⟩ := h
    rfl
  · obtain ⟨o, a, b, dx, t, g, rfl, hO, hA, hB, t0, t1, g0, g1, pt, sm, k⟩ := h
    refine ⟨_, pss_cons (ps_if (pt_not (pt_val (pe_call GP hr (by rfl) gP kP bP .nil pass0 (pa_cons (pv 1) (pa_cons (pe_cval (pe_glob (v := .ref C) rfl N.g rfl)) pa_nil))))) (pss_one ps_no) pss_nil)
      (pss_cons (ps_if (pt_not (pt_val (pe_call GP hr (by rfl) gP kP bP .nil pass0 (pa_cons (pv 2) (pa_cons (pe_cval (pe_glob (v := .ref C) rfl N.g rfl)) pa_nil))))) (pss_one ps_no) pss_nil)
      (pss_cons (ps_asg (pe_call GN (hr.mono (by decide)) (by rfl) gN kN bN .nil pass0 (pa_cons (pv 1) (pa_cons (pv 2) pa_nil))) (pg_tup rfl (pgs_cons (pg_fld (pv 0)) (pgs_cons (pg_fld (pv 0)) pgs_nil))))
      (pss_one (ps_fld (pv 0) (pe_call GR (hr.mono (by decide)) (by rfl) gR kR bR .nil pass0 (pa_cons (pe_fld (pv 0) rfl) pa_nil)) (by rfl))))), ?_⟩
    have yes : ∀ {i : Nat} {c : Addr} {l : List Int} {H' : Hp} {σ : L2.St}, σ[i]? = some (some (.ref c)) → Sq K H' c (vI l) → 0 < l.length → l.length ≤ 2000 → Pos l →
        EvT (tNot (tB (tCall (spParts K) [] E0 (tCons (tVar i) (tCons (tCVal K (tC (.ref C)) "MOST") tNil))))) σ H' false := fun h0 hs l0 l1 lp =>
      et_is (et_not (et_B (ev_call (ea_cons (ev_var h0) (ea_cons (ev_cval ev_c N.rd cm) ea_nil)) fun H1 e Q q E => ⟨_, _, rfl, hs.mono e, l0, l1, lp, q⟩))) rfl
    have pg : Pos g := fun i hi => (sm i hi).1
    refine q_when (yes rfl hA t0 t1 pt) (fun hb => absurd hb (by decide)) (fun _ H1 e1 => ?_)
    refine q_when (yes rfl (hB.mono e1) g0 g1 pg) (fun hb => absurd hb (by decide)) (fun _ H2 e2 => ?_)
    have E2 := e1.trans e2
    refine ⟨_, rfl, _, rfl, a, b, t, g, rfl, hA.mono E2, hB.mono E2, t0, by omega, g0, by omega, fun r p q t' g' H3 e3 hr3 hp hq nf hv l1 l2 => ?_⟩
    have hO3 := e3 _ _ (E2 _ _ hO)
    refine ⟨r, [.ref p, .ref q], rfl, hr3, rfl, _, _, rfl, ⟨_, rfl, o, C, dx, [], rfl, hO3, G.cls, G.told, Nat.le_of_ble_eq_true rfl, ⟨_, _, rfl, ⟨_, rfl, o, C, dx, _, rfl, upd_same, G.cls, G.gains, Nat.le_of_ble_eq_true rfl, ⟨rfl, ?_⟩⟩⟩⟩⟩
    have kp3 : Keep o H (upd (upd H3 o (.ins C dx (putF "told" (.ref p) []))) o (.ins C dx (putF "gains" (.ref q) (putF "told" (.ref p) [])))) := fun c u hc hn => by
      rw [upd_ne hn, upd_ne hn]
      exact e3 _ _ (E2 _ _ hc)
    have hp4 : SqT K (upd (upd H3 o (.ins C dx (putF "told" (.ref p) []))) o (.ins C dx (putF "gains" (.ref q) (putF "told" (.ref p) [])))) p (vI t') := sqT_upd (sqT_upd hp hO3) upd_same
    have hq4 : SqT K (upd (upd H3 o (.ins C dx (putF "told" (.ref p) []))) o (.ins C dx (putF "gains" (.ref q) (putF "told" (.ref p) [])))) q (vI g') := sqT_upd (sqT_upd hq hO3) upd_same
    have hO4 : (upd (upd H3 o (.ins C dx (putF "told" (.ref p) []))) o (.ins C dx (putF "gains" (.ref q) (putF "told" (.ref p) [])))) o = some (.ins C dx [("told", .ref p), ("gains", .ref q)]) := upd_same
    generalize upd (upd H3 o (.ins C dx (putF "told" (.ref p) []))) o (.ins C dx (putF "gains" (.ref q) (putF "told" (.ref p) []))) = H4 at kp3 hp4 hq4 hO4 ⊢
    refine ⟨_, rfl, o, C, dx, _, .ref q, rfl, hO4, G.cls, G.gains, rfl, q, g', rfl, hq4, by omega, fun pr H5 e5 hpr => ?_⟩
    refine ⟨_, rfl, o, C, dx, _, rfl, e5 _ _ hO4, G.cls, G.rises, Nat.le_of_ble_eq_true rfl, ?_⟩
    have hO5 := e5 _ _ hO4
    refine k t' g' _ (fun c u hc hn => by rw [upd_ne hn]; exact e5 _ _ (kp3 _ _ hc hn)) ⟨dx, p, q, pr, upd_same, sqT_upd (ex_t e5 hp4) hO5, sqT_upd (ex_t e5 hq4) hO5, sqT_upd hpr hO5, nf, by omega, by omega, small_of nf t0 g0 sm hv⟩ (fun i hi => by
      have z := val_nonneg pt t0 g0 sm i
      rwa [← hv, val_lt hi] at z) hv
end
end K06
namespace Gr
/-- at last it never falls, and rises by no more than B -/
def Tail (f : Nat → Int) (B : Int) : Prop := ∃ m, ∀ n, m ≤ n → 0 ≤ f (n + 1) - f n ∧ f (n + 1) - f n ≤ B
theorem tail_val {t g : List Int} {B : Int} (t0 : 0 < t.length) (g0 : 0 < g.length) (h : ∀ i, i < g.length → 0 ≤ at' g i ∧ at' g i ≤ B) : Tail (val t g) B := ⟨t.length - 1, fun n hn => by
  have := rise_ge (g := g) t0 hn
  unfold rise at this
  rw [this]
  exact h _ (Nat.mod_lt _ g0)⟩
theorem gains_tail {t g : List Int} {f : Nat → Int} {B : Int} (t0 : 0 < t.length) (hf : ∀ n, val t g n = f n) (h : Tail f B) (i : Nat) (hi : i < g.length) : 0 ≤ at' g i ∧ at' g i ≤ B := by
  obtain ⟨m, hm⟩ := h
  have p := (dif_pd (g := g)).mul m i
  rw [dif_lt hi] at p
  have m1 : m ≤ m * g.length := Nat.le_mul_of_pos_right _ (by omega)
  have a := val_step (g := g) t0 (i + m * g.length)
  rw [p, hf, hf] at a
  rw [← a]
  exact hm _ (by omega)
theorem Tail.add {f g : Nat → Int} {A B : Int} (h : Tail f A) (h' : Tail g B) : Tail (fun n => f n + g n) (A + B) := by
  obtain ⟨m, hm⟩ := h
  obtain ⟨k, hk⟩ := h'
  refine ⟨max m k, fun n hn => ?_⟩
  have a := hm n (by omega)
  have b := hk n (by omega)
  show 0 ≤ f (n + 1) + g (n + 1) - (f n + g n) ∧ f (n + 1) + g (n + 1) - (f n + g n) ≤ A + B
  omega
theorem Tail.mono {f : Nat → Int} {A B : Int} (h : Tail f A) (hB : A ≤ B) : Tail f B := by
  obtain ⟨m, hm⟩ := h
  exact ⟨m, fun n hn => ⟨(hm n hn).1, Int.le_trans (hm n hn).2 hB⟩⟩
end Gr
namespace K06
open PySem L2 Evl Gr ClX
/-- a growth of these values stands at o -/
def GrF (K : PySem.W.Frag) (C : Addr) (H : Hp) (o : Addr) (f : Nat → Int) : Prop := ∃ t g, GrAt K C H o t g ∧ Pos t ∧ ∀ n, val t g n = f n
theorem GrF.mono {K : PySem.W.Frag} {C : Addr} {H H' : Hp} {o : Addr} {f : Nat → Int} (e : Ex H H') (h : GrF K C H o f) : GrF K C H' o f := by
  obtain ⟨t, g, h1, h2⟩ := h
  exact ⟨t, g, h1.mono e, h2⟩
/-- gives a new growth of these values -/
def EvG (K : PySem.W.Frag) (C : Addr) (te : TE) (σ : L2.St) (H : Hp) (f : Nat → Int) : Prop := ∀ H1, Ex H H1 → ∀ Q : VK, (∀ o H2, H1 o = none → Ex H1 H2 → GrF K C H2 o f → Q (.ref o) H2) → te σ H1 Q
/-- two parts, lists or tuples, old or new -/
def EvP (K : PySem.W.Frag) (ta : TA) (σ : L2.St) (H : Hp) (t g : List Int) : Prop := ∀ H1, Ex H H1 → ∀ Q : List V → Hp → Prop, (∀ a b H2, Ex H1 H2 → Sq K H2 a (vI t) → Sq K H2 b (vI g) → Q [.ref a, .ref b] H2) → ta σ H1 Q
section
variable {K : PySem.W.Frag} {C : Addr} {σ : L2.St} {H : Hp} {ta : TA} {t g : List Int} {f : Nat → Int}
theorem eg_make (h : EvP K ta σ H t g) (t0 : 0 < t.length) (t1 : t.length ≤ 2000) (g0 : 0 < g.length) (g1 : g.length ≤ 2000) (pt : Pos t) (sm : Small g) (hf : ∀ n, val t g n = f n) : EvG K C (tMake C (spInit K C) [] E0 ta) σ H f := fun H1 e Q q =>
  h H1 e _ fun a b H2 e2 ha hb x dx hx hd hn => by
    have e3 : Ex H2 (upd (upd H2 dx (.own x)) x (.ins C dx [])) := (Ex.new hd).trans (Ex.new (by rw [upd_ne hn.symm]; exact hx))
    refine ⟨x, a, b, dx, t, g, rfl, upd_same, ha.mono e3, hb.mono e3, t0, t1, g0, g1, pt, sm, fun t' g' H' kp gr pt' hv => ⟨rfl, ?_⟩⟩
    refine q x H' (fresh_back e2 hx) (e2.trans fun c u hc => ?_) ⟨t', g', gr, pt', fun n => (hv n).trans (hf n)⟩
    exact kp c u (e3 _ _ hc) (ne_of_none hc hx)
end
end K06
namespace K06
open PySem L2 Evl Gr ClX
theorem eqv_ints : ∀ xs ys : List Int, PyData.eqvAll (xs.map PyData.int) (ys.map PyData.int) = decide (xs = ys)
  | [], [] => by simp [PyData.eqvAll]
  | [], y :: ys => by simp [PyData.eqvAll]
  | x :: xs, [] => by simp [PyData.eqvAll]
  | x :: xs, y :: ys => by
    have ih := eqv_ints xs ys
    simp only [List.map_cons, PyData.eqvAll, PyData.eqv, ih]
    by_cases h : x = y <;> by_cases h2 : xs = ys <;> simp [h, h2]
theorem shaped_tup (ns : List Int) : SeqAt.shaped (.tuple (ns.map PyData.int)) = true := by
  unfold SeqAt.shaped
  simp [PyData.canLay0, canLay_ints, PyData.depth, depth_ints]
/-- what isinstance asks of the class -/
structure GIsi (K : PySem.W.Frag) (C : Addr) : Prop where
  ca : PySem.W.findIn K (.ref C) "__class__" = some (some (.builtin "object.__class__"))
  cn : PySem.W.specialIn K (.builtin "object.__class__") "__get__" = some (some (.builtin "getset_descriptor.__get__"))
  ct : PySem.W.takesIn K (.builtin "object.__class__") = some true
  cm : PySem.W.mroIn K C (.type "object") = some true
  own : PySem.W.kitOne K (.ref C) (.ref C) = some true
  int : PySem.W.kitOne K (.ref C) (.type "int") = some false
  bool : PySem.W.kitOne K (.ref C) (.type "bool") = some false
theorem gr_ty {K : PySem.W.Frag} {C : Addr} {H : Hp} {o : Addr} {t g : List Int} (G : GCls K C) (I : GIsi K C) (h : GrAt K C H o t g) : TyX K H (.ref o) (.ref C) := by
  obtain ⟨dx, p, q, r, h1, _⟩ := h
  exact .base (.ins h1 G.cls I.ca I.cn I.ct I.cm)
section
variable {K : PySem.W.Frag} {C : Addr} {σ : L2.St} {H : Hp} {ta tb : TE}
theorem ev_isG {o : Addr} {t g : List Int} (G : GCls K C) (I : GIsi K C) (ha : Ev ta σ H (.ref o)) (h : GrAt K C H o t g) : Ev (tCB (rIsi K) (tCons ta (tCons (tC (.ref C)) tNil))) σ H (.bl true) :=
  ev_cb (ea_cons ha (ea_cons ev_c ea_nil)) fun H1 e _ q => ⟨.ref o, .ref C, .ref C, .ref C, true, rfl, .own C, tyx_mono e (gr_ty G I h), I.own, q H1 (Ex.refl H1)⟩
/-- two tuples of ints compared -/
theorem ev_eqT {p q : Addr} {xs ys : List Int} (ha : Ev ta σ H (.ref p)) (hb : Ev tb σ H (.ref q)) (hp : SqT K H p (vI xs)) (hq : SqT K H q (vI ys)) : Ev (tOp (rEqD K) ta tb) σ H (.bl (decide (xs = ys))) :=
  ev_op ha hb fun H1 e Q q' => ⟨.tuple (xs.map PyData.int), .tuple (ys.map PyData.int), .tup (ex_t e hp) (dpAll_ints xs), .tup (ex_t e hq) (dpAll_ints ys), shaped_tup xs, shaped_tup ys, by
    have e2 : PyData.eqv (.tuple (xs.map PyData.int)) (.tuple (ys.map PyData.int)) = decide (xs = ys) := by
      rw [← eqv_ints]
      simp [PyData.eqv]
    rw [e2]
    exact q' H1 (Ex.refl H1)⟩
end
section
variable {P : Program} {w : World} {K : PySem.W.Frag} {mg : Str → Option Value} {base : Heap}
/-! ### Growth.__eq__ -/
def spGEq (K : PySem.W.Frag) (C : Addr) : Sp := fun vs H Q _ => ∃ (o u : Addr) (f f' : Nat → Int), vs = [.ref o, .ref u] ∧ GrF K C H o f ∧ GrF K C H u f' ∧ ∀ b : Bool, (b = true ↔ ∀ n, f n = f' n) → RetV (.bl b) H Q
theorem scGEq : FnScope ["self", "other"] ["self", "other"] (defScope (sGr 2)) := ⟨rfl, rfl, rfl, by decide +kernel, rfl, by decide +kernel, by decide +kernel⟩
theorem ok_GEq {C f : Addr} {mc : Value} {fd : FuncData} (F : Fun K "__eq__" "Growth.__eq__" (sGr 2) f fd) (N : GName K mg C mc) (G : GCls K C) (I : GIsi K C) (TT : GlbT mg) : FnOk P w K mg base CX0 1 f fd ["self", "other"] (spGEq K C) := by
  refine F.ok scGEq (fun vs H Q E h => ?_) (fun cdv A outer s H vs Q E hr h => ?_)
  · obtain ⟨o, u, f1, f2, rfl, _⟩ := h
    rfl
  · obtain ⟨o, u, f1, f2, rfl, ⟨t, g, hO, _, v1⟩, ⟨t', g', hU, _, v2⟩, k⟩ := h
    refine ⟨_, pss_one (ps_ret (pe_and (pe_callB call_isi (by rfl) TT.inst (by decide +kernel) (pa_cons (pv 1) (pa_cons (pe_glob (v := .ref C) rfl N.g rfl) pa_nil)))
      (pe_and (pe_cmpR (op_eqD hr.units) (pe_fld (pv 0) rfl) (pe_fld (pv 1) rfl) (nomark _)) (pe_one (pe_cmpR (op_eqD hr.units) (pe_fld (pv 0) rfl) (pe_fld (pv 1) rfl) (nomark _)))))), ?_⟩
    have i1 := ev_isG (σ := [some (.ref o), some (.ref u)]) (ta := tVar 1) G I (ev_var rfl) hU
    obtain ⟨dx, p, q, r, h1, h2, h3, h4, nf, t2, g2, sm⟩ := hO
    obtain ⟨dx', p', q', r', h1', h2', h3', h4', nf', t2', g2', sm'⟩ := hU
    have b1 := ev_eqT (σ := [some (.ref o), some (.ref u)]) (ta := tFld K (tVar 0) "told") (tb := tFld K (tVar 1) "told") (ev_fld (ev_var rfl) h1 G.cls G.told rfl) (ev_fld (ev_var rfl) h1' G.cls G.told rfl) h2 h2'
    have b2 := ev_eqT (σ := [some (.ref o), some (.ref u)]) (ta := tFld K (tVar 0) "gains") (tb := tFld K (tVar 1) "gains") (ev_fld (ev_var rfl) h1 G.cls G.gains rfl) (ev_fld (ev_var rfl) h1' G.cls G.gains rfl) h3 h3'
    refine s_ret (ev_is (ev_andV i1 fun _ => ev_andV b1 fun _ => b2) (by rw [Bool.true_and])) (k _ ?_)
    rw [Bool.and_eq_true_iff, decide_eq_true_iff, decide_eq_true_iff]
    constructor
    · rintro ⟨rfl, rfl⟩ n
      rw [← v1, ← v2]
    · intro hf
      exact nf_one nf nf' fun n => by rw [v1, v2, hf]
end
end K06
namespace Gr
/-- the rises come round at last -/
def PerT (f : Nat → Int) (l : Nat) : Prop := ∃ m, ∀ n, m ≤ n → f (n + l + 1) - f (n + l) = f (n + 1) - f n
theorem nf_dvd {t g : List Int} {f : Nat → Int} {l : Nat} (nf : NF t g) (hf : ∀ n, val t g n = f n) (h : PerT f l) : g.length ∣ l := by
  obtain ⟨m, hm⟩ := h
  have p : Pd (dif g) l := fun k => by
    have a := hm (t.length - 1 + (k + m * g.length)) (by have : m ≤ m * g.length := Nat.le_mul_of_pos_right m nf.gains; omega)
    rw [← hf, ← hf, ← hf, ← hf] at a
    have b := val_step (g := g) nf.told (k + m * g.length)
    have c := val_step (g := g) nf.told (k + l + m * g.length)
    rw [show t.length - 1 + (k + l + m * g.length) = t.length - 1 + (k + m * g.length) + l by omega] at c
    rw [a, b] at c
    rw [dif_pd.mul, dif_pd.mul] at c
    exact c.symm
  have q := Pd.gcd g.length l dif_pd p
  have c := nf.least.le _ (Nat.gcd_pos_of_pos_left _ nf.gains) q
  have d : Nat.gcd g.length l = g.length := Nat.le_antisymm (Nat.gcd_le_left _ nf.gains) c
  rw [← d]
  exact Nat.gcd_dvd_right _ _
theorem perT_val {t g : List Int} (t0 : 0 < t.length) {l : Nat} (h : g.length ∣ l) : PerT (val t g) l := ⟨t.length - 1, fun n hn => rise_pd t0 h hn⟩
theorem PerT.add {f g : Nat → Int} {l : Nat} (h : PerT f l) (h' : PerT g l) : PerT (fun n => f n + g n) l := by
  obtain ⟨m, hm⟩ := h
  obtain ⟨k, hk⟩ := h'
  refine ⟨max m k, fun n hn => ?_⟩
  have a := hm n (by omega)
  have b := hk n (by omega)
  show f (n + l + 1) + g (n + l + 1) - (f (n + l) + g (n + l)) = f (n + 1) + g (n + 1) - (f n + g n)
  omega
theorem PerT.mul {f : Nat → Int} {l : Nat} (h : PerT f l) {k : Nat} (hk : l ∣ k) : PerT f k := by
  obtain ⟨c, rfl⟩ := hk
  obtain ⟨m, hm⟩ := h
  refine ⟨m, ?_⟩
  induction c with
  | zero => intro n _; rw [Nat.mul_zero]; rfl
  | succ c ih =>
    intro n hn
    have a := hm (n + l * c) (by omega)
    rw [Nat.mul_succ, ← Nat.add_assoc, a]
    exact ih n hn
end Gr
namespace K06
open PySem L2 Evl Gr ClX
/-- a list that is walked and one that is made of it, of ints -/
theorem EvP.pair {K : PySem.W.Frag} {σ : L2.St} {H : Hp} {ta tb : TE} {a b : Addr} {t g : List Int} (ha : Ev ta σ H (.ref a)) (hb : Ev tb σ H (.ref b)) (sa : Sq K H a (vI t)) (sb : Sq K H b (vI g)) : EvP K (tCons ta (tCons tb tNil)) σ H t g := fun H1 e Q q =>
  ha H1 e _ fun H2 e2 => hb H2 (e.trans e2) _ fun H3 e3 => q a b H3 (e2.trans e3) (sa.mono ((e.trans e2).trans e3)) (sb.mono ((e.trans e2).trans e3))
theorem EvP.lists {K : PySem.W.Frag} {σ : L2.St} {H : Hp} {ta tb : TE} {t g : List Int} (ha : EvL ta σ H (vI t)) (hb : EvL tb σ H (vI g)) : EvP K (tCons ta (tCons tb tNil)) σ H t g := fun H1 e Q q =>
  ha H1 e _ fun p H2 _ e2 h2 => hb H2 (e.trans e2) _ fun r H3 _ e3 h3 => q p r H3 (e2.trans e3) (.inl (sq_of (e3 _ _ h2))) (.inl (sq_of h3))
section
variable {P : Program} {w : World} {K : PySem.W.Frag} {mg : Str → Option Value} {base : Heap}
/-! ### Growth.__call__ -/
def spGCall (K : PySem.W.Frag) (C : Addr) : Sp := fun vs H Q _ => ∃ (o : Addr) (n : Nat) (f : Nat → Int), vs = [.ref o, .int (n : Int)] ∧ GrF K C H o f ∧ (n : Int) ≤ 10 ^ 40 ∧ RetV (.int (f n)) H Q
theorem scGCall : FnScope ["self", "n"] ["self", "n"] (defScope (sGr 3)) := ⟨rfl, rfl, rfl, by decide +kernel, rfl, by decide +kernel, by decide +kernel⟩
theorem ok_GCall {C f fW fV : Addr} {fd fdW fdV : FuncData} (F : Fun K "__call__" "Growth.__call__" (sGr 3) f fd)
    (GW : FnOk P w K mg base CX0 2 fW fdW ["value", "least", "most"] (spWithin K)) (kW : PySem.W.keepIn K (.ref fW) = true) (bW : Binds K fdW ["value", "least", "most"] []) (gW : mg "is_within" = some (.ref fW))
    (GV : FnOk P w K mg base CX0 1 fV fdV ["one", "n"] (spVal K C)) (kV : PySem.W.keepIn K (.ref fV) = true) (bV : Binds K fdV ["one", "n"] []) (gV : mg "value_at" = some (.ref fV)) :
    FnOk P w K mg base CX0 3 f fd ["self", "n"] (spGCall K C) := by
  refine F.ok scGCall (fun vs H Q E h => ?_) (fun cdv A outer s H vs Q E hr h => ?_)
  · obtain ⟨o, n, f1, rfl, _⟩ := h
    rfl
  · obtain ⟨o, n, f1, rfl, ⟨t, g, hO, _, v1⟩, hn, k⟩ := h
    refine ⟨_, pss_cons (ps_if (pt_not (pt_val (pe_call GW hr (by rfl) gW kW bW .nil pass0 (pa_cons (pv 1) (pa_cons pe_int (pa_cons (pe_op op_pow pe_int pe_int) pa_nil)))))) (pss_one ps_no) pss_nil)
      (pss_one (ps_ret (pe_call GV (hr.mono (by decide)) (by rfl) gV kV bV .nil pass0 (pa_cons (pv 0) (pa_cons (pv 1) pa_nil))))), ?_⟩
    refine q_when (b := false) (et_is (et_not (et_B (ev_call (z := .bl true) (ea_cons (ev_var rfl) (ea_cons ev_c (ea_cons (ev_op ev_c ev_c (rv_I ⟨by decide, by decide, by decide⟩)) ea_nil))) fun H1 e Q q E => .inl ⟨_, _, _, rfl, ?_⟩))) rfl) (fun hb => absurd hb (by decide)) (fun _ H1 e1 => ?_)
    · have z : (decide ((0 : Int) ≤ (n : Int)) && decide ((n : Int) ≤ (10 : Int) ^ (40 : Int).toNat)) = true := by
        rw [decide_eq_true (by omega : (0 : Int) ≤ (n : Int)), decide_eq_true (show (n : Int) ≤ (10 : Int) ^ (40 : Int).toNat from hn)]
        rfl
      rw [z]
      exact q
    · exact s_ret (v := .int (f1 n)) (ev_call (ea_cons (ev_var rfl) (ea_cons (ev_var rfl) ea_nil)) fun H2 e2 Q q E => ⟨o, n, t, g, rfl, hO.mono (e1.trans e2), by rw [v1]; exact q⟩) fun H2 e2 => k H2 (e1.trans e2)
/-! ### Growth.__add__ -/
/-- a new growth of these values is handed back -/
def RetG (K : PySem.W.Frag) (C : Addr) (f : Nat → Int) (H : Hp) (Q : VK) : Prop := ∀ o H', H o = none → Ex H H' → GrF K C H' o f → Q (.ref o) H'
def spAdd (K : PySem.W.Frag) (C : Addr) : Sp := fun vs H Q _ => ∃ (o u : Addr) (f f' : Nat → Int) (l : Nat), vs = [.ref o, .ref u] ∧ GrF K C H o f ∧ GrF K C H u f' ∧ 0 < l ∧ l ≤ 2000 ∧ PerT f l ∧ PerT f' l ∧ Tail (fun n => f n + f' n) 4000000000000000 ∧ (∀ n, 0 ≤ f n + f' n) ∧
  RetG K C (fun n => f n + f' n) H Q
theorem scAdd : FnScope ["self", "other", "told", "gains"] ["self", "other"] (defScope (sGr 5)) := ⟨rfl, rfl, rfl, by decide +kernel, rfl, by decide +kernel, by decide +kernel⟩
theorem ok_Add {C f fI fS : Addr} {mc : Value} {fd fdI fdS : FuncData} {dvs : List V} (F : Fun K "__add__" "Growth.__add__" (sGr 5) f fd) (N : GName K mg C mc) (G : GCls K C) (I : GIsi K C) (TT : GlbT mg) (M : Mk K C fI)
    (GI : FnOk P w K mg base CX0 4 fI fdI ["self", "told", "gains"] (spInit K C)) (bI : Binds K fdI ["self", "told", "gains"] [])
    (GS : FnOk P w K mg base CX0 2 fS fdS ["one", "other"] (spSum K C)) (kS : PySem.W.keepIn K (.ref fS) = true) (bS : Binds K fdS ["one", "other"] []) (gS : mg "summed_parts" = some (.ref fS)) :
    FnOk P w K mg base CX0 6 f fd ["self", "other"] (spAdd K C) := by
  refine F.ok scAdd (fun vs H Q E h => ?_) (fun cdv A outer s H vs Q E hr h => ?_)
  · obtain ⟨o, u, f1, f2, l, rfl, _⟩ := h
    rfl
  · obtain ⟨o, u, f1, f2, l, rfl, ⟨t, g, hO, p1, v1⟩, ⟨t', g', hU, p2, v2⟩, l0, l1, d1, d2, tl, nn, k⟩ := h
    refine ⟨_, pss_cons (ps_if (pt_not (pt_val (pe_callB call_isi (by rfl) TT.inst (by decide +kernel) (pa_cons (pv 1) (pa_cons (pe_glob (v := .ref C) rfl N.g rfl) pa_nil))))) (pss_one ps_no) pss_nil)
      (pss_cons (ps_asg (pe_call GS (hr.mono (by decide)) (by rfl) gS kS bS .nil pass0 (pa_cons (pv 0) (pa_cons (pv 1) pa_nil))) (pg_tup rfl (pgs_cons (pg_name (i := 2) scAdd.nd rfl (.inl rfl)) (pgs_cons (pg_name (i := 3) scAdd.nd rfl (.inl rfl)) pgs_nil))))
      (pss_one (ps_ret (pe_make M GI hr (by rfl) N.g bI .nil pass0 (pa_cons (pv 2) (pa_cons (pv 3) pa_nil)))))), ?_⟩
    have e0 : (fun n => val t g n + val t' g' n) = fun n => f1 n + f2 n := funext fun n => by rw [v1, v2]
    have hO' := hO
    have hU' := hU
    obtain ⟨_, _, _, _, _, _, _, _, nf1, _, _, _⟩ := hO'
    obtain ⟨_, _, _, _, _, _, _, _, nf2, _, _, _⟩ := hU'
    have lc : Nat.lcm g.length g'.length ≤ 2000 := Nat.le_trans (Nat.le_of_dvd l0 (Nat.lcm_dvd (nf_dvd nf1 v1 d1) (nf_dvd nf2 v2 d2))) l1
    refine q_when (et_not (et_B (ev_isG G I (ev_var rfl) hU))) (fun hb => absurd hb (by decide)) (fun _ H1 e1 => ?_)
    refine ⟨_, rfl, _, rfl, o, u, t, g, t', g', rfl, hO.mono e1, hU.mono e1, lc, fun r p q b l' H2 e2 hr2 hp hq b0 b1 l0' l1' hv => ?_⟩
    rw [e0] at hp hq hv
    refine ⟨r, [.ref p, .ref q], rfl, hr2, rfl, _, _, rfl, _, _, rfl, rfl, ?_⟩
    have hv' : ∀ n, val (pT (fun n => f1 n + f2 n) b) (pG (fun n => f1 n + f2 n) b l') n = f1 n + f2 n := fun n => by
      rw [hv, v1, v2]
    refine eg_make (K := K) (C := C) (σ := [some (.ref o), some (.ref u), some (.ref p), some (.ref q)]) (H := H2) (ta := tCons (tVar 2) (tCons (tVar 3) tNil)) (EvP.pair (ev_var rfl) (ev_var rfl) (.inl hp) (.inl hq)) (by rw [pT_len]; exact b0) (by rw [pT_len]; exact b1) (by rw [pG_len]; exact l0') (by rw [pG_len]; exact l1')
      (fun i hi => by
        rw [pT_len] at hi
        rw [pT_at hi]
        exact nn i) (fun i hi => gains_tail (by rw [pT_len]; exact b0) hv' tl i hi) hv' H2 (Ex.refl H2) _ fun x H3 hx e3 gr => k x H3 (fresh_back (e1.trans e2) hx) ((e1.trans e2).trans e3) gr
end
end K06
namespace Gr
theorem tail_many {f : Nat → Int} {m : Nat} {B : Int} (h : ∀ n, m ≤ n → 0 ≤ f (n + 1) - f n ∧ f (n + 1) - f n ≤ B) {n : Nat} (hn : m ≤ n) : ∀ k : Nat, 0 ≤ f (n + k) - f n ∧ f (n + k) - f n ≤ (k : Int) * B
  | 0 => by rw [Nat.add_zero, show ((0 : Nat) : Int) = 0 from rfl, Int.zero_mul]; omega
  | k + 1 => by
    have a := tail_many h hn k
    have b := h (n + k) (by omega)
    rw [show ((k + 1 : Nat) : Int) = (k : Int) + 1 from rfl, Int.add_mul, Int.one_mul, ← Nat.add_assoc]
    omega
theorem rate_tail {t g : List Int} (t0 : 0 < t.length) (g0 : 0 < g.length) {L : Nat} (h : g.length ∣ L) {B : Int} (tl : Tail (val t g) B) : 0 ≤ rate g L ∧ rate g L ≤ (L : Int) * B := by
  obtain ⟨m, hm⟩ := tl
  have a := tail_many hm (n := max m (t.length - 1)) (by omega) L
  rw [val_round t0 g0 h (by omega)] at a
  omega
theorem perT_pk {up : Bool} {f f' : Nat → Int} (h : EqR f f' ∨ Ord f f') (p : PerT f 12) (p' : PerT f' 12) : PerT (fun n => pk up (f n) (f' n)) 12 := by
  obtain ⟨a, ha⟩ := p
  obtain ⟨c, hc⟩ := p'
  rcases h with ⟨m, hm⟩ | h | h
  · refine ⟨max a (max c m), fun n hn => ?_⟩
    have h1 := hm n (by omega)
    have h2 := hm (n + 1) (by omega)
    have h3 := ha n (by omega)
    show pk up (f (n + 12 + 1)) (f' (n + 12 + 1)) - pk up (f (n + 12)) (f' (n + 12)) = pk up (f (n + 1)) (f' (n + 1)) - pk up (f n) (f' n)
    rw [show n + 1 + 12 = n + 12 + 1 by omega] at h2
    rw [show f (n + 12 + 1) = f (n + 1) + (f (n + 12) - f n) by omega, show f' (n + 12 + 1) = f' (n + 1) + (f (n + 12) - f n) by omega, pk_add, show f' (n + 12) = f' n + (f (n + 12) - f n) by omega]
    have : pk up (f (n + 12)) (f' n + (f (n + 12) - f n)) = pk up (f n) (f' n) + (f (n + 12) - f n) := by
      rw [← pk_add]
      congr 1
      omega
    rw [this]
    omega
  · refine ⟨max 1999 (max a c), fun n hn => ?_⟩
    show pk up (f (n + 12 + 1)) (f' (n + 12 + 1)) - pk up (f (n + 12)) (f' (n + 12)) = pk up (f (n + 1)) (f' (n + 1)) - pk up (f n) (f' n)
    rw [pk_ge (h _ (by omega)), pk_ge (h _ (by omega)), pk_ge (h _ (by omega)), pk_ge (h n (by omega))]
    cases up
    · exact hc n (by omega)
    · exact ha n (by omega)
  · refine ⟨max 1999 (max a c), fun n hn => ?_⟩
    show pk up (f (n + 12 + 1)) (f' (n + 12 + 1)) - pk up (f (n + 12)) (f' (n + 12)) = pk up (f (n + 1)) (f' (n + 1)) - pk up (f n) (f' n)
    rw [pk_le (h _ (by omega)), pk_le (h _ (by omega)), pk_le (h _ (by omega)), pk_le (h n (by omega))]
    cases up
    · exact ha n (by omega)
    · exact hc n (by omega)
theorem tail_pk {up : Bool} {f f' : Nat → Int} {B : Int} (h : Tail f B) (h' : Tail f' B) : Tail (fun n => pk up (f n) (f' n)) B := by
  obtain ⟨m, hm⟩ := h
  obtain ⟨c, hc⟩ := h'
  exact ⟨max m c, fun n hn => pk_step (hm n (by omega)) (hc n (by omega))⟩
theorem le_high {a b : Int} : a ≤ pk true a b ∧ b ≤ pk true a b := by
  show a ≤ (if b > a then b else a) ∧ b ≤ (if b > a then b else a)
  split <;> omega
theorem low_le {a b : Int} : pk false a b ≤ a ∧ pk false a b ≤ b := by
  show (if b < a then b else a) ≤ a ∧ (if b < a then b else a) ≤ b
  split <;> omega
theorem high_low {a b : Int} : pk true a b + pk false a b = a + b := by
  show (if b > a then b else a) + (if b < a then b else a) = a + b
  split <;> split <;> omega
theorem high_one {a b : Int} : pk true (pk true a b) a = pk true a b := pk_ge le_high.1
theorem high_low1 {a b : Int} : pk false (pk true a b) a = a := pk_ge le_high.1
theorem pk_self {up : Bool} {a : Int} : pk up a a = a := by
  rw [pk_ge (Int.le_refl a)]
  cases up <;> rfl
end Gr
namespace Gr
theorem sum_take {g : List Int} : ∀ r, r ≤ g.length → (g.take r).sum = acc (dif g) r
  | 0, _ => by rw [List.take_zero]; rfl
  | r + 1, h => by
    have e : g.take (r + 1) = g.take r ++ [at' g r] := at_eq_of (by rw [List.length_append, List.length_take, List.length_take]; show _ = _ + 1; omega) fun i hi => by
      rw [List.length_take] at hi
      rw [at_take (by omega), at_app, List.length_take]
      by_cases z : i < r
      · rw [if_pos (by omega), at_take z]
      · have : i = r := by omega
        subst this
        rw [if_neg (by omega), show i - min i g.length = 0 by omega]
        rfl
    rw [e, List.sum_append, sum_take r (by omega)]
    show acc (dif g) r + List.sum [at' g r] = acc (dif g) r + dif g r
    rw [dif_lt (by omega), List.sum_cons, List.sum_nil, Int.add_zero]
theorem sum_all {g : List Int} : g.sum = acc (dif g) g.length := by
  have := sum_take (g := g) g.length (Nat.le_refl _)
  rwa [List.take_length] at this
end Gr
namespace K06
open PySem L2 Evl Gr ClX
abbrev sLV : Stmt := top 42
abbrev sLVs : Stmt := top 43
/-- plain parts of a growth: a pair of two lists -/
def Pl (K : PySem.W.Frag) (H : Hp) (a : Addr) (t g : List Int) : Prop := ∃ p q, SqT K H a [.ref p, .ref q] ∧ SqL K H p (vI t) ∧ SqL K H q (vI g) ∧ 0 < t.length ∧ t.length ≤ 2000 ∧ 0 < g.length ∧ g.length ≤ 2000 ∧ Pos t ∧ Small g
theorem Pl.mono {K : PySem.W.Frag} {H H' : Hp} {a : Addr} {t g : List Int} (e : Ex H H') (h : Pl K H a t g) : Pl K H' a t g := by
  obtain ⟨p, q, h1, h2, h3, h4⟩ := h
  exact ⟨p, q, ex_t e h1, ex_l e h2, ex_l e h3, h4⟩
section
variable {P : Program} {w : World} {K : PySem.W.Frag} {mg : Str → Option Value} {base : Heap}
/-! ### _law_value -/
def spLV (K : PySem.W.Frag) : Sp := fun vs H Q _ => ∃ (a : Addr) (n : Nat) (t g : List Int), vs = [.ref a, .int (n : Int)] ∧ Pl K H a t g ∧ RetV (.int (val t g n)) H Q
theorem scLV : FnScope ["_law_plain_here", "_law_n", "_law_told", "_law_gains", "_law_steps", "_law_many"] ["_law_plain_here", "_law_n"] (defScope sLV) := ⟨rfl, rfl, rfl, by decide +kernel, rfl, by decide +kernel, by decide +kernel⟩
theorem ev_sum {σ : L2.St} {H : Hp} {ta : TE} {p : Addr} {l : List Int} (h : Ev ta σ H (.ref p)) (hs : SqL K H p (vI l)) : Ev (tCB (rSum K) (tCons ta tNil)) σ H (.int l.sum) := ev_cb (ea_cons h ea_nil) fun H1 e _ q => ⟨p, l, rfl, ex_l e hs, q H1 (Ex.refl H1)⟩
theorem ev_sumL {σ : L2.St} {H : Hp} {ta : TE} {l : List Int} (h : EvL ta σ H (vI l)) : Ev (tCB (rSum K) (tCons ta tNil)) σ H (.int l.sum) := fun H1 e Q q => h H1 e _ fun p H2 _ e2 h2 => ⟨p, l, rfl, sq_of h2, q H2 e2⟩
theorem ok_LV {f : Addr} {fd : FuncData} (F : Fun K "_law_value" "_law_value" sLV f fd) (T : Glb mg) (sum : mg "sum" = none) : FnOk P w K mg base CX0 1 f fd ["_law_plain_here", "_law_n"] (spLV K) := by
  refine F.ok scLV (fun vs H Q E h => ?_) (fun cdv A outer s H vs Q E hr h => ?_)
  · obtain ⟨a, n, t, g, rfl, _⟩ := h
    rfl
  · obtain ⟨a, n, t, g, rfl, ⟨p, q, hA, hp, hq, t0, t1, g0, g1, pt, sm⟩, k⟩ := h
    refine ⟨_, pss_cons (ps_asg (pv 0) (pg_tup rfl (pgs_cons (pg_name (i := 2) scLV.nd rfl (.inl rfl)) (pgs_cons (pg_name (i := 3) scLV.nd rfl (.inl rfl)) pgs_nil))))
      (pss_cons (ps_if (pt_cmpR op_lt (pv 1) (pe_callB call_len_seq (by rfl) T.len PySem.boot_len (pa_cons (pv 2) pa_nil)) (nomark _)) (pss_one (ps_ret (pe_ix ix_list (pv 2) (pv 1) (fun _ _ => rfl)))) pss_nil)
      (pss_cons (ps_set (i := 4) scLV.nd rfl (.inl rfl) (pe_op op_add (pe_op op_sub (pv 1) (pe_callB call_len_seq (by rfl) T.len PySem.boot_len (pa_cons (pv 2) pa_nil))) pe_int))
      (pss_cons (ps_set (i := 5) scLV.nd rfl (.inl rfl) (pe_callB call_len_seq (by rfl) T.len PySem.boot_len (pa_cons (pv 3) pa_nil)))
      (pss_one (ps_ret (pe_op op_add (pe_op op_add (pe_ix ix_list (pv 2) (pe_un un_neg pe_int) (fun _ _ => rfl))
          (pe_op op_mul (pe_op op_fdiv (pe_callTy call_int1 (by rfl) T.int (by decide +kernel) (pa_cons (pv 4) pa_nil)) (pv 5)) (pe_callB (cr_sum rfl) (by rfl) sum (by decide +kernel) (pa_cons (pv 3) pa_nil))))
        (pe_callB (cr_sum rfl) (by rfl) sum (by decide +kernel) (pa_cons (pe_slice sl_list (pv 3) po_none (po_some (pe_op op_mod (pe_callTy call_int1 (by rfl) T.int (by decide +kernel) (pa_cons (pv 4) pa_nil)) (pv 5)))) pa_nil)))))))), ?_⟩
    refine ⟨_, rfl, a, _, rfl, hA, rfl, _, _, rfl, _, _, rfl, rfl, ?_⟩
    show tSeq _ _ _ _ _
    refine q_when (et_test (ev_op (ev_var rfl) (ev_is (ev_cb (ea_cons (ev_var rfl) ea_nil) (rc_len hp)) (by rw [vI_len])) rv_I0)) (fun ht H1 e1 => ?_) (fun ht H1 e1 => ?_)
    · have hn : n < t.length := by have := of_decide_eq_true ht; omega
      exact s_ret (v := .int (val t g n)) (ev_op (ev_var rfl) (ev_var rfl) (rv_ixL (ex_l e1 hp) (by rw [atI_vI hn, val_lt hn]))) fun H2 e2 => k H2 (e1.trans e2)
    · have hn : t.length ≤ n := by have := of_decide_eq_false ht; omega
      obtain ⟨m, hm⟩ : ∃ m, m = n - t.length + 1 := ⟨_, rfl⟩
      have hr2 : m % g.length < g.length := Nat.mod_lt _ g0
      refine q_asg (v := .int (m : Int)) (ev_is (ev_op (ev_op (ev_var rfl) (ev_is (ev_cb (ea_cons (ev_var rfl) ea_nil) (rc_len (ex_l e1 hp))) (by rw [vI_len])) rv_I0) ev_c rv_I0) (by congr 1; omega)) fun H2 e2 => ?_
      have E2 := e1.trans e2
      refine q_asg (v := .int (g.length : Int)) (ev_is (ev_cb (ea_cons (ev_var rfl) ea_nil) (rc_len (ex_l E2 hq))) (by rw [vI_len])) fun H3 e3 => ?_
      have E3 := E2.trans e3
      have S := acc_small sm g0 g.length
      have sl := el_sl (K := K) (σ := [some (.ref a), some (.int (n : Int)), some (.ref p), some (.ref q), some (.int (m : Int)), some (.int (g.length : Int))]) (H := H3) (te := tVar 3) (tl := tNoPart) (th := tPart (tOp (rI (fun _ j => 0 < j) fun i j => .int (i % j)) (tCB (fun xs H Q => (∃ i, xs = [V.int i] ∧ Q (.int i) H) ∨ ∃ k, xs = [V.bl k] ∧ Q (.int (if k then 1 else 0)) H) (tCons (tVar 4) tNil)) (tVar 5)))
        (lo := none) (hi := some ((m % g.length : Nat) : Int)) (ev_var rfl) eo_none (eo_some (ev_is (ev_op (ev_cb (ea_cons (ev_var rfl) ea_nil) rc_int) (ev_var rfl) (rv_I (by omega))) rfl)) (ex_l E3 hq)
      rw [cut_take (by omega)] at sl
      refine s_ret (v := .int (val t g n)) (ev_is (ev_op (ev_op (ev_op (ev_var rfl) (ev_un ev_c ru_neg) (rv_ixL (ex_l E3 hp) (atI_vlast t0)))
        (ev_op (y := .int g.sum) (ev_op (ev_cb (ea_cons (ev_var rfl) ea_nil) rc_int) (ev_var rfl) (rv_I ⟨by omega, by omega⟩)) (ev_sum (ev_var rfl) (ex_l E3 hq)) (rv_I (.inr ⟨by rw [sum_all]; omega, by rw [sum_all]; omega⟩))) rv_I0) (ev_sumL sl) rv_I0) ?_) fun H4 e4 => k H4 (E3.trans e4)
      rw [sum_take _ (by omega), sum_all, spv_val_far t0 hn, ← hm]
      rfl
end
end K06
namespace Gr
def ab (i : Int) : Int := if i < 0 then -i else i
def gapOf (g g' : List Int) : Int := g.sum * (g'.length : Int) - g'.sum * (g.length : Int)
/-- about where two cross stand no numbers that are too far -/
def Near (t g t' g' : List Int) : Prop := gapOf g g' ≠ 0 → ab (val t g 50 - val t' g' 50) * (g.length : Int) * (g'.length : Int) ≤ 30000 * ab (gapOf g g')
theorem acc_up {d : Nat → Int} (h : ∀ k, 0 ≤ d k) (n : Nat) : ∀ k : Nat, acc d n ≤ acc d (n + k)
  | 0 => Int.le_refl _
  | k + 1 => by
    have a := acc_up h n k
    have b := h (n + k)
    show acc d n ≤ acc d (n + k) + d (n + k)
    omega
theorem acc_two {g : List Int} (g0 : 0 < g.length) (hg : ∀ i, i < g.length → 0 ≤ at' g i) (k : Nat) :
    (k : Int) * g.sum ≤ (g.length : Int) * acc (dif g) k + (g.length : Int) * g.sum ∧ (g.length : Int) * acc (dif g) k ≤ (k : Int) * g.sum + (g.length : Int) * g.sum := by
  have up : ∀ n m : Nat, n ≤ m → acc (dif g) n ≤ acc (dif g) m := fun n m h => by
    have := acc_up (d := dif g) (fun k => hg _ (Nat.mod_lt _ g0)) n (m - n)
    rwa [show n + (m - n) = m by omega] at this
  obtain ⟨q, r, hk, hr⟩ : ∃ q r : Nat, k = q * g.length + r ∧ r < g.length := ⟨k / g.length, k % g.length, by have := Nat.mod_add_div k g.length; rw [Nat.mul_comm] at this; omega, Nat.mod_lt _ g0⟩
  have a0 : 0 ≤ acc (dif g) r := up 0 r (Nat.zero_le _)
  have a1 : acc (dif g) r ≤ g.sum := sum_all ▸ up r g.length (by omega)
  have s0 : 0 ≤ g.sum := by omega
  subst hk
  rw [acc_mul dif_pd, ← sum_all]
  have r1 : (r : Int) * g.sum ≤ (g.length : Int) * g.sum := Int.mul_le_mul_of_nonneg_right (by omega) s0
  have r0 : 0 ≤ (r : Int) * g.sum := Int.mul_nonneg (by omega) s0
  have l1 : (g.length : Int) * acc (dif g) r ≤ (g.length : Int) * g.sum := Int.mul_le_mul_of_nonneg_left a1 (by omega)
  have l0 : 0 ≤ (g.length : Int) * acc (dif g) r := Int.mul_nonneg (by omega) a0
  rw [Int.natCast_add, Int.natCast_mul, Int.add_mul, Int.mul_add, show (q : Int) * (g.length : Int) * g.sum = (g.length : Int) * ((q : Int) * g.sum) by rw [Int.mul_comm (q : Int), Int.mul_assoc]]
  omega
theorem val_two {t g : List Int} {M : Int} (t0 : 0 < t.length) (t5 : t.length ≤ 5) (g0 : 0 < g.length) (hg : ∀ i, i < g.length → 0 ≤ at' g i) (ht : ∀ i, i < t.length → 0 ≤ at' t i ∧ at' t i ≤ M) {n : Nat} (hn : 4 ≤ n) :
    (n : Int) * g.sum ≤ (g.length : Int) * val t g n + 4 * g.sum + (g.length : Int) * g.sum ∧ (g.length : Int) * val t g n ≤ (g.length : Int) * M + (n : Int) * g.sum + (g.length : Int) * g.sum := by
  obtain ⟨k, rfl⟩ : ∃ k, n = t.length - 1 + k := ⟨n - (t.length - 1), by omega⟩
  rw [val_ge t0]
  obtain ⟨a, b⟩ := acc_two g0 hg k
  have l := ht (t.length - 1) (by omega)
  have s0 : 0 ≤ g.sum := by
    rw [sum_all]
    have := acc_up (d := dif g) (fun k => hg _ (Nat.mod_lt _ g0)) 0 g.length
    rwa [Nat.zero_add] at this
  have c : ((t.length - 1 : Nat) : Int) * g.sum ≤ 4 * g.sum := Int.mul_le_mul_of_nonneg_right (by omega) s0
  have c0 : 0 ≤ ((t.length - 1 : Nat) : Int) * g.sum := Int.mul_nonneg (by omega) s0
  have m0 : 0 ≤ (g.length : Int) * lst t := Int.mul_nonneg (by omega) l.1
  have m1 : (g.length : Int) * lst t ≤ (g.length : Int) * M := Int.mul_le_mul_of_nonneg_left l.2 (by omega)
  rw [Int.natCast_add, Int.add_mul, Int.mul_add]
  omega
theorem dvd12' {n : Nat} (h0 : 0 < n) (h4 : n ≤ 4) : n ∣ 12 := by
  have : n = 1 ∨ n = 2 ∨ n = 3 ∨ n = 4 := by omega
  rcases this with rfl | rfl | rfl | rfl <;> decide
theorem four {l : Nat} (h0 : 0 < l) (h4 : l ≤ 4) : l = 1 ∨ l = 2 ∨ l = 3 ∨ l = 4 := by omega
theorem ord_nums {l l' : Nat} (h0 : 0 < l) (h4 : l ≤ 4) (h0' : 0 < l') (h4' : l' ≤ 4) {S S' v v' M p p' : Int} (s0 : 0 ≤ S) (s0' : 0 ≤ S') (M0 : 0 ≤ M) (a : p ≤ (l : Int) * v + 4 * S + (l : Int) * S) (b : (l' : Int) * v' ≤ (l' : Int) * M + p' + (l' : Int) * S')
    (g : 0 < S * (l' : Int) - S' * (l : Int)) (c : (M + 7 * (S + S')) * (l : Int) * (l' : Int) ≤ 1200 * (S * (l' : Int) - S' * (l : Int))) (d : 1999 * (S * (l' : Int) - S' * (l : Int)) ≤ p * (l' : Int) - p' * (l : Int)) : v' ≤ v := by
  rcases four h0 h4 with rfl | rfl | rfl | rfl <;> rcases four h0' h4' with rfl | rfl | rfl | rfl <;> omega
theorem near_nums {l l' : Nat} (h0 : 0 < l) (h4 : l ≤ 4) (h0' : 0 < l') (h4' : l' ≤ 4) {S S' v v' M : Int} (s0 : 0 ≤ S) (s0' : 0 ≤ S') (M0 : 0 ≤ M) (v0 : 0 ≤ v) (v0' : 0 ≤ v') (a : (l : Int) * v ≤ (l : Int) * M + 50 * S + (l : Int) * S) (b : (l' : Int) * v' ≤ (l' : Int) * M + 50 * S' + (l' : Int) * S')
    (c : (M + 7 * (S + S')) * (l : Int) * (l' : Int) ≤ 1200 * ab (S * (l' : Int) - S' * (l : Int))) : ab (v - v') * (l : Int) * (l' : Int) ≤ 30000 * ab (S * (l' : Int) - S' * (l : Int)) := by
  have : ab (v - v') ≤ v ∨ ab (v - v') ≤ v' := by
    unfold ab
    split <;> omega
  generalize ab (v - v') = z at this ⊢
  generalize ab (S * (l' : Int) - S' * (l : Int)) = y at c ⊢
  rcases four h0 h4 with rfl | rfl | rfl | rfl <;> rcases four h0' h4' with rfl | rfl | rfl | rfl <;> omega
theorem rate_nums {l l' : Nat} (h0 : 0 < l) (h4 : l ≤ 4) (h0' : 0 < l') (h4' : l' ≤ 4) {S S' : Int} (h : S * (l' : Int) - S' * (l : Int) = 0) : S * ((12 / l : Nat) : Int) = S' * ((12 / l' : Nat) : Int) := by
  rcases four h0 h4 with rfl | rfl | rfl | rfl <;> rcases four h0' h4' with rfl | rfl | rfl | rfl <;> omega
theorem pair_ok {t g t' g' : List Int} {M : Int} (t0 : 0 < t.length) (t5 : t.length ≤ 5) (g0 : 0 < g.length) (g4 : g.length ≤ 4) (hg : ∀ i, i < g.length → 0 ≤ at' g i) (ht : ∀ i, i < t.length → 0 ≤ at' t i ∧ at' t i ≤ M)
    (t0' : 0 < t'.length) (t5' : t'.length ≤ 5) (g0' : 0 < g'.length) (g4' : g'.length ≤ 4) (hg' : ∀ i, i < g'.length → 0 ≤ at' g' i) (ht' : ∀ i, i < t'.length → 0 ≤ at' t' i ∧ at' t' i ≤ M)
    (h : gapOf g g' = 0 ∨ (M + 7 * (g.sum + g'.sum)) * (g.length : Int) * (g'.length : Int) ≤ 1200 * ab (gapOf g g')) : (EqR (val t g) (val t' g') ∨ Ord (val t g) (val t' g')) ∧ Near t g t' g' := by
  have s0 : ∀ {g : List Int}, 0 < g.length → (∀ i, i < g.length → 0 ≤ at' g i) → 0 ≤ g.sum := fun {g} g0 hg => by
    rw [sum_all]
    have := acc_up (d := dif g) (fun k => hg _ (Nat.mod_lt _ g0)) 0 g.length
    rwa [Nat.zero_add] at this
  have S0 := s0 g0 hg
  have S0' := s0 g0' hg'
  have M0 : 0 ≤ M := by have := ht 0 t0; omega
  have vn : ∀ {t g : List Int}, 0 < t.length → 0 < g.length → (∀ i, i < g.length → 0 ≤ at' g i) → (∀ i, i < t.length → 0 ≤ at' t i ∧ at' t i ≤ M) → ∀ n, 0 ≤ val t g n := fun {t g} t0 g0 hg ht n => by
    unfold val
    by_cases c : n < t.length
    · rw [if_pos c]
      exact (ht n c).1
    · rw [if_neg c]
      have a := (ht (t.length - 1) (by omega)).1
      have b := acc_up (d := dif g) (fun k => hg _ (Nat.mod_lt _ g0)) 0 (n - t.length + 1)
      rw [Nat.zero_add] at b
      have b' : (0 : Int) ≤ acc (dif g) (n - t.length + 1) := b
      have a' : 0 ≤ lst t := a
      omega
  by_cases z : gapOf g g' = 0
  · refine ⟨.inl ⟨5, fun n hn => ?_⟩, fun h => absurd z h⟩
    have r : rate g 12 = rate g' 12 := by
      unfold rate
      rw [← sum_all, ← sum_all]
      exact rate_nums g0 g4 g0' g4' z
    rw [val_round t0 g0 (dvd12' g0 g4) (by omega), val_round t0' g0' (dvd12' g0' g4') (by omega), r]
    omega
  · have c := h.resolve_left z
    have a50 := val_two t0 t5 g0 hg ht (n := 50) (by decide)
    have b50 := val_two t0' t5' g0' hg' ht' (n := 50) (by decide)
    refine ⟨.inr ?_, fun _ => near_nums g0 g4 g0' g4' S0 S0' M0 (vn t0 g0 hg ht 50) (vn t0' g0' hg' ht' 50) a50.2 b50.2 c⟩
    by_cases s : 0 < gapOf g g'
    · refine .inl fun n hn => ?_
      have a := val_two t0 t5 g0 hg ht (n := n) (by omega)
      have b := val_two t0' t5' g0' hg' ht' (n := n) (by omega)
      have c' : ab (gapOf g g') = gapOf g g' := by unfold ab; rw [if_neg (by omega)]
      rw [c'] at c
      refine ord_nums g0 g4 g0' g4' S0 S0' M0 a.1 b.2 s c ?_
      have : 1999 * gapOf g g' ≤ (n : Int) * gapOf g g' := Int.mul_le_mul_of_nonneg_right (by omega) (by omega)
      refine Int.le_trans this (Int.le_of_eq ?_)
      show (n : Int) * (g.sum * (g'.length : Int) - g'.sum * (g.length : Int)) = _
      rw [Int.mul_sub, Int.mul_assoc, Int.mul_assoc]
    · refine .inr fun n hn => ?_
      have a := val_two t0 t5 g0 hg ht (n := n) (by omega)
      have b := val_two t0' t5' g0' hg' ht' (n := n) (by omega)
      have c' : ab (gapOf g g') = g'.sum * (g.length : Int) - g.sum * (g'.length : Int) := by
        unfold ab
        rw [if_pos (by omega)]
        unfold gapOf
        omega
      have s' : 0 < g'.sum * (g.length : Int) - g.sum * (g'.length : Int) := by
        unfold gapOf at s z
        omega
      rw [c', Int.mul_assoc, Int.mul_comm (g.length : Int), ← Int.mul_assoc, Int.add_comm g.sum] at c
      refine ord_nums g0' g4' g0 g4 S0' S0 M0 b.1 a.2 s' c ?_
      have : 1999 * (g'.sum * (g.length : Int) - g.sum * (g'.length : Int)) ≤ (n : Int) * (g'.sum * (g.length : Int) - g.sum * (g'.length : Int)) := Int.mul_le_mul_of_nonneg_right (by omega) (by omega)
      refine Int.le_trans this (Int.le_of_eq ?_)
      rw [Int.mul_sub, Int.mul_assoc, Int.mul_assoc]
end Gr
namespace K06
open PySem L2 Evl Gr ClX
theorem given_pT {f : Nat → Int} {n : Nat} : given n (fun _ => true) (fun i => V.int (f i)) = vI (pT f n) := by
  rw [given_all]
  unfold vI pT
  rw [List.map_map]
  rfl
section
variable {P : Program} {w : World} {K : PySem.W.Frag} {mg : Str → Option Value} {base : Heap}
theorem spv_LV {H : Hp} {a : Addr} {n : Nat} {t g : List Int} (h : Pl K H a t g) : SpV (spLV K) [.ref a, .int (n : Int)] H (.int (val t g n)) := fun H1 e Q q E => ⟨a, n, t, g, rfl, h.mono e, q⟩
/-! ### _law_values -/
def spLVs (K : PySem.W.Frag) : Sp := fun vs H Q _ => ∃ (a : Addr) (m : Nat) (t g : List Int), vs = [.ref a, .int (m : Int)] ∧ Pl K H a t g ∧ m ≤ 10000 ∧ ∀ p H', H p = none → Ex H H' → H' p = some (.lst (vI (pT (val t g) m))) → Q (.ref p) H'
theorem scLVs : FnScope ["_law_plain_here", "_law_many", "_law_n"] ["_law_plain_here", "_law_many"] (defScope sLVs) := ⟨rfl, rfl, rfl, by decide +kernel, rfl, by decide +kernel, by decide +kernel⟩
theorem ok_LVs {f fV : Addr} {fd fdV : FuncData} (F : Fun K "_law_values" "_law_values" sLVs f fd) (range : mg "range" = none)
    (GV : FnOk P w K mg base CX0 1 fV fdV ["_law_plain_here", "_law_n"] (spLV K)) (kV : PySem.W.keepIn K (.ref fV) = true) (bV : Binds K fdV ["_law_plain_here", "_law_n"] []) (gV : mg "_law_value" = some (.ref fV)) :
    FnOk P w K mg base CX0 2 f fd ["_law_plain_here", "_law_many"] (spLVs K) := by
  refine F.ok scLVs (fun vs H Q E h => ?_) (fun cdv A outer s H vs Q E hr h => ?_)
  · obtain ⟨a, m, t, g, rfl, _⟩ := h
    rfl
  · obtain ⟨a, m, t, g, rfl, hA, hm, k⟩ := h
    refine ⟨_, pss_one (ps_ret (pe_lc (own := [("_law_n", 2)]) (g := gName 2) rfl scLVs.nd (pi_range1 (by rfl) range (pa_cons (pv 1) pa_nil)) (blkOk_by (own := [("_law_n", 2)]) (N := ["_law_plain_here", "_law_many", "_law_n"]) (sc := defScope sLVs) (by decide +kernel))
      (fun _ _ _ _ _ => pg_name (i := 2) scLVs.nd rfl (Or.inl rfl)) (fun _ _ _ _ _ => pts_nil) (fun _ _ _ _ _ => pe_call GV hr (by rfl) gV kV bV .nil pass0 (pa_cons (pv 0) (pa_cons (pv 2) pa_nil))))), ?_⟩
    have c := el_lcR1 (σ := [some (.ref a), some (.int (m : Int)), none]) (H := H) (t := tYes) (te := tCall (spLV K) [] E0 (tCons (tVar 0) (tCons (tVar 2) tNil))) (ta := tCons (tVar 1) tNil) (j := 2) (vs := [2]) (n := (m : Int)) (fun _ => true) (fun i => V.int (val t g i))
      (ea_cons (ev_var rfl) ea_nil) (by omega) (fun _ => rfl) (fun i H1 _ _ => et_none) (fun i H1 e1 _ _ => ev_call (ea_cons (ev_var rfl) (ea_cons (ev_var rfl) ea_nil)) (spv_LV (hA.mono e1)))
    rw [given_pT, Int.toNat_natCast] at c
    exact s_retL c k
end
end K06
namespace K06
open PySem L2 Evl Gr ClX
/-- one part -/
def EvP1 (K : PySem.W.Frag) (ta : TA) (σ : L2.St) (H : Hp) (t : List Int) : Prop := ∀ H1, Ex H H1 → ∀ Q : List V → Hp → Prop, (∀ a H2, Ex H1 H2 → Sq K H2 a (vI t) → Q [.ref a] H2) → ta σ H1 Q
section
variable {K : PySem.W.Frag} {C : Addr} {σ : L2.St} {H : Hp} {ta : TA} {t g : List Int} {f : Nat → Int}
theorem eg_make1 {T0 : Addr} (h : EvP1 K ta σ H t) (hT : ∀ H, Sq K H T0 (vI g)) (t0 : 0 < t.length) (t1 : t.length ≤ 2000) (g0 : 0 < g.length) (g1 : g.length ≤ 2000) (pt : Pos t) (sm : Small g) (hf : ∀ n, val t g n = f n) : EvG K C (tMake C (spInit K C) [.ref T0] E0 ta) σ H f := fun H1 e Q q =>
  h H1 e _ fun a H2 e2 ha x dx hx hd hn => by
    have e3 : Ex H2 (upd (upd H2 dx (.own x)) x (.ins C dx [])) := (Ex.new hd).trans (Ex.new (by rw [upd_ne hn.symm]; exact hx))
    refine ⟨x, a, T0, dx, t, g, rfl, upd_same, ha.mono e3, hT _, t0, t1, g0, g1, pt, sm, fun t' g' H' kp gr pt' hv => ⟨rfl, ?_⟩⟩
    refine q x H' (fresh_back e2 hx) (e2.trans fun c u hc => ?_) ⟨t', g', gr, pt', fun n => (hv n).trans (hf n)⟩
    exact kp c u (e3 _ _ hc) (ne_of_none hc hx)
theorem EvP.tup1 {te tf : TE} {x y : Int} (h : Ev te σ H (.int x)) (h' : ∀ H1, Ex H H1 → Ev tf σ H1 (.int y)) : EvP K (tCons (tTup (tCons te tNil)) (tCons (tTup (tCons tf tNil)) tNil)) σ H [x] [y] := fun H1 e Q q =>
  eu_tup (σ := σ) (H := H) (ea_cons h ea_nil) (Nat.le_of_ble_eq_true rfl) H1 e _ fun p H2 _ e2 h2 => eu_tup (σ := σ) (H := H2) (ea_cons (h' H2 (e.trans e2)) ea_nil) (Nat.le_of_ble_eq_true rfl) H2 (Ex.refl H2) _ fun r H3 _ e3 h3 =>
    q p r H3 (e2.trans e3) (.inr (st_of (e3 _ _ h2))) (.inr (st_of h3))
theorem EvP1.tup {te : TE} {x : Int} (h : Ev te σ H (.int x)) : EvP1 K (tCons (tTup (tCons te tNil)) tNil) σ H [x] := fun H1 e Q q =>
  eu_tup (σ := σ) (H := H) (ea_cons h ea_nil) (Nat.le_of_ble_eq_true rfl) H1 e _ fun p H2 _ e2 h2 => q p H2 e2 (.inr (st_of h2))
end
theorem val_one {x y : Int} (n : Nat) : val [x] [y] n = x + n * y := by
  have a := val_ge (t := [x]) (g := [y]) Nat.one_pos n
  rw [show [x].length - 1 + n = n from Nat.zero_add n] at a
  rw [a]
  have b : ∀ m : Nat, acc (dif [y]) m = m * y := fun m => by
    induction m with
    | zero => show (0 : Int) = ((0 : Nat) : Int) * y; rw [Int.natCast_zero, Int.zero_mul]
    | succ m ih =>
      show acc _ m + dif [y] m = _
      have d : dif [y] m = y := by
        unfold dif
        rw [show m % [y].length = 0 from Nat.mod_one m]
        rfl
      rw [ih, d, show ((m + 1 : Nat) : Int) = (m : Int) + 1 from rfl, Int.add_mul, Int.one_mul]
  rw [b]
  rfl
section
variable {P : Program} {w : World} {K : PySem.W.Frag} {mg : Str → Option Value} {base : Heap}
/-! ### Growth.constant, Growth.ramp -/
def spConst (K : PySem.W.Frag) (C : Addr) : Sp := fun vs H Q _ => ∃ x : Nat, vs = [.int (x : Int)] ∧ RetG K C (fun _ => (x : Int)) H Q
theorem scConst : FnScope ["value"] ["value"] (defScope (sGr 17)) := ⟨rfl, rfl, rfl, by decide +kernel, rfl, by decide +kernel, by decide +kernel⟩
theorem ok_Const {C T0 f fI fZ : Addr} {mc : Value} {fd fdI fdZ : FuncData} {d0 : Value} (F : Fun K "constant" "Growth.constant" (sGr 17) f fd) (N : GName K mg C mc) (M : Mk K C fI)
    (GI : FnOk P w K mg base CX0 4 fI fdI ["self", "told", "gains"] (spInit K C)) (bI : Binds K fdI ["self", "told", "gains"] [.ref T0]) (hT : ∀ H, Sq K H T0 (vI [0]))
    (GZ : FnOk P w K mg base CX0 2 fZ fdZ ["value"] (spFrom0 K)) (kZ : PySem.W.keepIn K (.ref fZ) = true) (bZ : Binds K fdZ ["value"] []) (gZ : mg "is_from_zero" = some (.ref fZ)) :
    FnOk P w K mg base CX0 6 f fd ["value"] (spConst K C) := by
  refine F.ok scConst (fun vs H Q E h => ?_) (fun cdv A outer s H vs Q E hr h => ?_)
  · obtain ⟨x, rfl, _⟩ := h
    rfl
  · obtain ⟨x, rfl, k⟩ := h
    refine ⟨_, pss_cons (ps_if (pt_not (pt_val (pe_call GZ (hr.mono (by decide)) (by rfl) gZ kZ bZ .nil pass0 (pa_cons (pv 0) pa_nil)))) (pss_one ps_no) pss_nil)
      (pss_one (ps_ret (pe_make M GI hr (by rfl) N.g bI (dvs := [.ref T0]) (.cons rfl .nil) pass0 (pa_cons (pe_tup (pa_cons (pv 0) pa_nil)) pa_nil)))), ?_⟩
    refine q_when (b := false) (et_is (et_not (et_B (ev_call (z := .bl true) (ea_cons (ev_var rfl) ea_nil) fun H1 e Q q E => .inl ⟨_, rfl, by rw [decide_eq_true (by omega : (0 : Int) ≤ (x : Int))]; exact q⟩))) rfl) (fun hb => absurd hb (by decide)) (fun _ H1 e1 => ?_)
    refine eg_make1 (K := K) (C := C) (σ := [some (.int (x : Int))]) (H := H1) (t := [(x : Int)]) (g := [0]) (f := fun _ => (x : Int)) (EvP1.tup (ev_var rfl)) hT Nat.one_pos (Nat.le_of_ble_eq_true rfl) Nat.one_pos (Nat.le_of_ble_eq_true rfl)
      (fun i hi => by
        have z : i = 0 := by
          have : i < 1 := hi
          omega
        subst z
        show (0 : Int) ≤ (x : Int)
        omega) (fun i hi => by
        have z : i = 0 := by
          have : i < 1 := hi
          omega
        subst z
        exact ⟨Int.le_refl _, by decide⟩) (fun n => by rw [val_one, Int.mul_zero, Int.add_zero]) H1 (Ex.refl H1) _ fun o H2 ho e2 gr => k o H2 (fresh_back e1 ho) (e1.trans e2) gr
def spRamp (K : PySem.W.Frag) (C : Addr) : Sp := fun vs H Q _ => ∃ x y : Nat, vs = [.int (y : Int), .int (x : Int)] ∧ y ≤ 4000000000000000 ∧ RetG K C (fun n => (x : Int) + n * (y : Int)) H Q
theorem scRamp : FnScope ["gain", "begin"] ["gain", "begin"] (defScope (sGr 18)) := ⟨rfl, rfl, rfl, by decide +kernel, rfl, by decide +kernel, by decide +kernel⟩
theorem ok_Ramp {C f fI fZ : Addr} {mc : Value} {fd fdI fdZ : FuncData} {dvs : List V} (F : FunD K "ramp" "Growth.ramp" (defArgs (sGr 18)) (defBody (sGr 18)) (defScope (sGr 18)) dvs [] f fd) (N : GName K mg C mc) (M : Mk K C fI)
    (GI : FnOk P w K mg base CX0 4 fI fdI ["self", "told", "gains"] (spInit K C)) (bI : Binds K fdI ["self", "told", "gains"] [])
    (GZ : FnOk P w K mg base CX0 2 fZ fdZ ["value"] (spFrom0 K)) (kZ : PySem.W.keepIn K (.ref fZ) = true) (bZ : Binds K fdZ ["value"] []) (gZ : mg "is_from_zero" = some (.ref fZ)) :
    FnOk P w K mg base CX0 6 f fd ["gain", "begin"] (spRamp K C) := by
  refine F.ok scRamp (fun vs H Q E h => ?_) (fun cdv A outer s H vs Q E hr h => ?_)
  · obtain ⟨x, y, rfl, _⟩ := h
    rfl
  · obtain ⟨x, y, rfl, hy, k⟩ := h
    refine ⟨_, pss_cons (ps_if (pt_not (pt_val (pe_call GZ (hr.mono (by decide)) (by rfl) gZ kZ bZ .nil pass0 (pa_cons (pv 0) pa_nil)))) (pss_one ps_no) pss_nil)
      (pss_cons (ps_if (pt_not (pt_val (pe_call GZ (hr.mono (by decide)) (by rfl) gZ kZ bZ .nil pass0 (pa_cons (pv 1) pa_nil)))) (pss_one ps_no) pss_nil)
      (pss_one (ps_ret (pe_make M GI hr (by rfl) N.g bI .nil pass0 (pa_cons (pe_tup (pa_cons (pv 1) pa_nil)) (pa_cons (pe_tup (pa_cons (pv 0) pa_nil)) pa_nil)))))), ?_⟩
    refine q_when (b := false) (et_is (et_not (et_B (ev_call (z := .bl true) (ea_cons (ev_var rfl) ea_nil) fun H1 e Q q E => .inl ⟨_, rfl, by rw [decide_eq_true (by omega : (0 : Int) ≤ (y : Int))]; exact q⟩))) rfl) (fun hb => absurd hb (by decide)) (fun _ H1 e1 => ?_)
    refine q_when (b := false) (et_is (et_not (et_B (ev_call (z := .bl true) (ea_cons (ev_var rfl) ea_nil) fun H1 e Q q E => .inl ⟨_, rfl, by rw [decide_eq_true (by omega : (0 : Int) ≤ (x : Int))]; exact q⟩))) rfl) (fun hb => absurd hb (by decide)) (fun _ H2 e2 => ?_)
    refine eg_make (K := K) (C := C) (σ := [some (.int (y : Int)), some (.int (x : Int))]) (H := H2) (t := [(x : Int)]) (g := [(y : Int)]) (f := fun n => (x : Int) + n * (y : Int)) (EvP.tup1 (ev_var rfl) (fun _ _ => ev_var rfl)) Nat.one_pos (Nat.le_of_ble_eq_true rfl) Nat.one_pos (Nat.le_of_ble_eq_true rfl)
      (fun i hi => by
        have z : i = 0 := by
          have : i < 1 := hi
          omega
        subst z
        show (0 : Int) ≤ (x : Int)
        omega) (fun i hi => by
        have z : i = 0 := by
          have : i < 1 := hi
          omega
        subst z
        show (0 : Int) ≤ (y : Int) ∧ (y : Int) ≤ 4000000000000000
        omega) (fun n => val_one n) H2 (Ex.refl H2) _ fun o H3 ho e3 gr => k o H3 (fresh_back (e1.trans e2) ho) ((e1.trans e2).trans e3) gr
end
end K06
namespace K06
open PySem L2 Evl Gr ClX
/-! ### what draws: it may move the pen, and makes objects -/
def EvW (p l : Addr) (cells : List Int) (n : Nat) (te : TE) (σ : L2.St) (H : Hp) (R : V → Prop) : Prop := ∀ m H1, Keep p H H1 → PenAt H1 p l cells m → m + n ≤ 50000 → ∀ Q : VK, (∀ v H2, R v → PenAt H2 p l cells (m + n) → Keep p H1 H2 → Q v H2) → te σ H1 Q
section
variable {p l : Addr} {cells : List Int} {σ : L2.St} {H : Hp}
theorem w_draw {i : Nat} {tb : TE} {many : Int} (hi : σ[i]? = some (some (.ref p))) (hb : ∀ H1, Keep p H H1 → Ev tb σ H1 (.int many)) (h0 : 0 < many) (h1 : many ≤ 1000000000) (h63 : cells.length ≤ 63) :
    EvW p l cells 1 (tCall spDraw [] E0 (tCons (tVar i) (tCons tb tNil))) σ H (fun v => ∃ d : Nat, v = .int (d : Int) ∧ (d : Int) < many) := fun m H1 kp hP hm Q q =>
  ⟨_, hi, hb H1 kp H1 (Ex.refl H1) _ fun H2 e2 => ⟨p, l, cells, m, many, rfl, hP.mono e2 (Nat.le_refl m), by omega, h63, h0, h1, fun d H3 d0 d1 hP3 k3 => by
    obtain ⟨n, rfl⟩ := Int.eq_ofNat_of_zero_le d0
    exact q _ H3 ⟨n, rfl, d1⟩ hP3 ((Keep.of_ex e2).trans k3)⟩⟩
theorem w_pick {i : Nat} {tr : TA} {ns : List Int} (hi : σ[i]? = some (some (.ref p))) (hr : ∀ H1, EvA tr σ H1 (vI ns)) (h0 : 0 < ns.length) (h1 : ns.length ≤ 1000) (h63 : cells.length ≤ 63) :
    EvW p l cells 1 (tCall spPick [] E0 (tCons (tVar i) (tCons (tLst tr) tNil))) σ H (fun v => ∃ x, v = .int x ∧ x ∈ ns) := fun m H1 kp hP hm Q q =>
  ⟨_, hi, hr H1 H1 (Ex.refl H1) _ fun H2 e2 => ⟨by rw [vI_len]; exact sz_of (by omega), fun a ha => by
    have e3 := e2.trans (Ex.new (o := .lst (vI ns)) ha)
    have hap : a ≠ p := by
      obtain ⟨k, r, hp, _⟩ := hP
      intro z
      rw [z, e2 _ _ hp] at ha
      cases ha
    refine ⟨p, l, a, cells, m, vI ns, rfl, hP.mono e3 (Nat.le_refl m), by omega, h63, upd_same, hap, by rw [vI_len]; exact h0, by rw [vI_len]; omega, fun j x H3 hx hP3 k3 => ?_⟩
    have hj : j < ns.length := by
      have := (List.getElem?_eq_some_iff.mp hx).1
      rwa [vI_len] at this
    rw [vI_get hj] at hx
    obtain rfl := Option.some.inj hx
    refine q _ H3 ⟨_, rfl, ?_⟩ hP3 ((Keep.of_ex e3).trans k3)
    unfold at'
    rw [List.getD_eq_getElem?_getD, List.getElem?_eq_getElem hj]
    exact List.getElem_mem hj⟩⟩
end
abbrev sPlain : Stmt := top 41
theorem scPlain : FnScope ["_law_pen_here", "_law_is_rising", "_law_told", "_law_top", "_law_turn_so", "_law_most", "_law_gains"] ["_law_pen_here", "_law_is_rising"] (defScope sPlain) := ⟨rfl, rfl, rfl, by decide +kernel, rfl, by decide +kernel, by decide +kernel⟩
theorem PenAt.upd' {H : Hp} {p l a : Addr} {cells : List Int} {m : Nat} {o : HO} (h : PenAt H p l cells m) (h1 : a ≠ p) (h2 : a ≠ l) : PenAt (upd H a o) p l cells m := by
  obtain ⟨k, r, q1, q2, q3⟩ := h
  exact ⟨k, r, by rw [upd_ne h1.symm]; exact q1, by rw [upd_ne h2.symm]; exact q2, q3⟩
theorem PenAt.le {H : Hp} {p l : Addr} {cells : List Int} {m n : Nat} (h : PenAt H p l cells m) (hm : m ≤ n) : PenAt H p l cells n := h.mono (Ex.refl H) hm
/-- what is fresh may change -/
theorem Keep.mut {p a : Addr} {H H' : Hp} {o : HO} (h : Keep p H H') (ha : H a = none) : Keep p H (L2.upd H' a o) := fun b u hb hn => by
  have : b ≠ a := fun z => by rw [z, ha] at hb; cases hb
  rw [upd_ne this]
  exact h b u hb hn
section
variable {p l : Addr} {cells : List Int} {σ : L2.St} {H : Hp} {te : TE} {tu tz : TS} {D : Ends} {j m : Nat} {many : Int}
/-- a for over range(1 + what is drawn) -/
theorem q_forW (hw : EvW p l cells 1 te σ H (fun v => ∃ d : Nat, v = .int (d : Int) ∧ (d : Int) < many)) (hP : PenAt H p l cells m) (hm : m + 1 ≤ 50000) (hmany : many ≤ 100) (Pv : Nat → L2.St → Hp → Prop) (h0 : ∀ H1, PenAt H1 p l cells (m + 1) → Keep p H H1 → Pv 0 σ H1)
    (hs : ∀ (i : Nat) σ' H', (i : Int) < many → Pv i σ' H' → tu { D with nx := Pv (i + 1), ct := Pv (i + 1), bk := tz D } (σ'.set j (some (.int (i : Int)))) H') (hd : ∀ (n : Nat) σ' H', 0 < n → (n : Int) ≤ many → Pv n σ' H' → tz D σ' H') :
    tSeq (tFor (iRng1 (tCons (tOp (rI0 fun i j => .int (i + j)) (tC (.int 1)) te) tNil)) (gName j) tu) tz D σ H :=
  hw m H (Keep.of_ex (Ex.refl H)) hP hm _ fun v H2 hv hP2 k2 => by
    obtain ⟨d, rfl, hd'⟩ := hv
    refine ⟨1, (d : Int), rfl, rfl, ?_⟩
    refine ⟨1 + (d : Int), rfl, by omega, by omega, for_range (lo := 0) (n := (1 + (d : Int)).toNat) Pv (h0 H2 hP2 k2) (fun i σ' H' hi q => ?_) (fun σ' H' q => hd _ σ' H' (by omega) (by omega) q)⟩
    have e0 : (0 : Int) + (i : Int) = (i : Int) := Int.zero_add _
    show tu { D with nx := Pv (i + 1), ct := Pv (i + 1), bk := tz D } (σ'.set j (some (.int ((0 : Int) + (i : Int))))) H'
    rw [e0]
    exact hs i σ' H' (by omega) q
end
theorem q_asgR {σ : L2.St} {H : Hp} {te : TE} {i : Nat} {tz : TS} {D : Ends} (h : te σ H fun x H1 => tz D (σ.set i (some x)) H1) : tSeq (tAsg te (gName i)) tz D σ H := h
/-- [what is drawn for j in range(1 + what is drawn)] -/
theorem lc_draws {p l : Addr} {cells : List Int} {σ : L2.St} {H : Hp} {te0 te : TE} {j m : Nat} {many B : Int} {Q : VK} (hw : EvW p l cells 1 te0 σ H (fun v => ∃ d : Nat, v = .int (d : Int) ∧ (d : Int) < many)) (hP : PenAt H p l cells m) (hm : m + 102 ≤ 50000) (hmany : many ≤ 100)
    (hwi : ∀ x, wipe ((wipe σ [j]).set j (some x)) [j] = wipe σ [j]) (ht : ∀ x H1, Keep p H H1 → EvW p l cells 1 te ((wipe σ [j]).set j (some x)) H1 (fun v => ∃ d : Nat, v = .int (d : Int) ∧ (d : Int) < B))
    (k : ∀ a g H', H a = none → Keep p H H' → PenAt H' p l cells (m + 1 + g.length) → H' a = some (.lst (vI g)) → 0 < g.length → (g.length : Int) ≤ many → (∀ i, i < g.length → 0 ≤ at' g i ∧ at' g i < B) → Q (.ref a) H') :
    tLc (iRng1 (tCons (tOp (rI0 fun i j => .int (i + j)) (tC (.int 1)) te0) tNil)) (gName j) tYes te [j] σ H Q :=
  hw m H (Keep.of_ex (Ex.refl H)) hP (by omega) _ fun v H2 hv hP2 k2 => by
    obtain ⟨d, rfl, hd'⟩ := hv
    refine ⟨1, (d : Int), rfl, rfl, ?_⟩
    refine ⟨1 + (d : Int), rfl, by omega, by omega, fun Dl hD => ?_⟩
    have hDp : Dl ≠ p := fun z => by
      obtain ⟨_, _, q, _⟩ := hP2
      rw [z, q] at hD
      cases hD
    have hDl : Dl ≠ l := fun z => by
      obtain ⟨_, _, _, q, _⟩ := hP2
      rw [z, q] at hD
      cases hD
    have hDn : H Dl = none := by
      cases z : H Dl with
      | none => rfl
      | some u =>
        have := k2 _ _ z hDp
        rw [hD] at this
        cases this
    refine lc_range (lo := 0) (n := (1 + (d : Int)).toNat) (fun i H' => ∃ g : List Int, H' Dl = some (.lst (vI g)) ∧ g.length = i ∧ (∀ i', i' < g.length → 0 ≤ at' g i' ∧ at' g i' < B) ∧ PenAt H' p l cells (m + 1 + i) ∧ Keep p H2 H') ⟨[], upd_same, rfl, fun i' h => absurd h (Nat.not_lt_zero _), hP2.upd' hDp hDl, (Keep.of_ex (Ex.refl H2)).mut hD⟩ (fun i H' hi q => ⟨hwi _, ?_⟩) (fun H' q => ?_)
    · obtain ⟨g, hg, hlen, hb, hP3, k3⟩ := q
      show te ((wipe σ [j]).set j (some (.int ((0 : Int) + (i : Int))))) H' fun y H4 => ∃ acc, H4 Dl = some (.lst acc) ∧ acc.length < sizeLine ∧ _
      refine ht _ H' (k2.trans k3) (m + 1 + i) H' (Keep.of_ex (Ex.refl H')) hP3 (by omega) _ fun v H4 hv hP4 k4 => ?_
      obtain ⟨e, rfl, he⟩ := hv
      refine ⟨vI g, k4 _ _ hg hDp, sz_lt (by rw [vI_len]; omega), g ++ [(e : Int)], by rw [upd_same, vI_app], by rw [List.length_append, hlen]; rfl, fun i' hi' => ?_, (hP4.upd' hDp hDl).le (by omega), (k3.trans k4).mut hD⟩
      rw [List.length_append] at hi'
      have hi2 : i' < g.length + 1 := hi'
      rw [at_app]
      by_cases c : i' < g.length
      · rw [if_pos c]
        exact hb _ c
      · rw [if_neg c, show i' - g.length = 0 by omega]
        show 0 ≤ (e : Int) ∧ (e : Int) < B
        omega
    · obtain ⟨g, hg, hlen, hb, hP3, k3⟩ := q
      exact k Dl g H' hDn (k2.trans k3) (hP3.le (by omega)) hg (by omega) (by omega) hb
section
variable {P : Program} {w : World} {K : PySem.W.Frag} {mg : Str → Option Value} {base : Heap}
/-! ### _law_plain -/
/-- plain parts, new ones: at most five told -/
def PlN (H : Hp) (a : Addr) (t g : List Int) : Prop := ∃ p q, H a = some (.tup [.ref p, .ref q]) ∧ H p = some (.lst (vI t)) ∧ H q = some (.lst (vI g)) ∧ t.length ≤ 5
def spPlain (K : PySem.W.Frag) : Sp := fun vs H Q _ => ∃ (p l : Addr) (cells : List Int) (m : Nat) (r : Bool), vs = [.ref p, .bl r] ∧ PenAt H p l cells m ∧ m + 120 ≤ 50000 ∧ cells.length ≤ 63 ∧
  ∀ t g x H', Keep p H H' → PenAt H' p l cells (m + 13) → PlN H' x t g → Pl K H' x t g → g.length ≤ 4 → (∀ i, i < g.length → at' g i ≤ 1000000) → (∀ i, i < t.length → at' t i ≤ 5000000000) → Q (.ref x) H'
theorem ok_Plain {f fD fP : Addr} {fd fdD fdP : FuncData} (F : Fun K "_law_plain" "_law_plain" sPlain f fd) (range : mg "range" = none)
    (GD : FnOk P w K mg base CX0 1 fD fdD ["_law_pen_here", "_law_many"] spDraw) (kD : PySem.W.keepIn K (.ref fD) = true) (bD : Binds K fdD ["_law_pen_here", "_law_many"] []) (gD : mg "_law_draw" = some (.ref fD))
    (GP : FnOk P w K mg base CX0 2 fP fdP ["_law_pen_here", "_law_some"] spPick) (kP : PySem.W.keepIn K (.ref fP) = true) (bP : Binds K fdP ["_law_pen_here", "_law_some"] []) (gP : mg "_law_pick" = some (.ref fP)) :
    FnOk P w K mg base CX0 3 f fd ["_law_pen_here", "_law_is_rising"] (spPlain K) := by
  refine F.ok scPlain (fun vs H Q E h => ?_) (fun cdv A outer s H vs Q E hr h => ?_)
  · obtain ⟨p, l, cells, m, r, rfl, _⟩ := h
    rfl
  · obtain ⟨p, l, cells, m, r, rfl, hP, hm, h63, k⟩ := h
    refine ⟨_, pss_cons (ps_par (i := 2) (j := 3) rfl scPlain.nd rfl rfl (by decide) (by rfl) (by rfl) (pa_cons (pe_lst pa_nil) (pa_cons (pe_call GP hr (by rfl) gP kP bP .nil pass0 (pa_cons (pv 0) (pa_cons (pe_lst (pa_cons pe_int (pa_cons pe_int (pa_cons pe_int (pa_cons pe_int (pa_cons (pe_op op_pow pe_int pe_int) pa_nil)))))) pa_nil))) pa_nil)) (by rfl))
      (pss_cons (ps_for PassesOwn.never rfl (pi_range1 (by rfl) range (pa_cons (pe_op op_add pe_int (pe_call GD (hr.mono (by decide)) (by rfl) gD kD bD .nil pass0 (pa_cons (pv 0) (pa_cons pe_int pa_nil)))) pa_nil)) (pg_name (i := 4) scPlain.nd rfl (.inl rfl))
        (pss_one (ps_expr (pe_bm PySem.F.plainAttrs_list PySem.F.slot_list_append PySem.F.type_list_append mt_append (pv 2) (pa_cons (pe_op op_add (pe_call GD (hr.mono (by decide)) (by rfl) gD kD bD .nil pass0 (pa_cons (pv 0) (pa_cons (pv 3) pa_nil)))
          (pe_ifExp (PW.pt (pw_and (pt_cmpR (op_neD hr.units) (pv 2) (pe_lst pa_nil) (nomark _)) (pw_and1 (pt_val (pv 1))))) (pe_ix ix_list (pv 2) (pe_un un_neg pe_int) (fun _ _ => rfl)) pe_int)) pa_nil)))))
      (pss_cons (ps_set (i := 5) scPlain.nd rfl (.inr rfl) (pe_call GP hr (by rfl) gP kP bP .nil pass0 (pa_cons (pv 0) (pa_cons (pe_lst (pa_cons pe_int (pa_cons pe_int (pa_cons pe_int (pa_cons pe_int (pa_cons (pe_op op_pow pe_int pe_int) pa_nil)))))) pa_nil))))
      (pss_cons (ps_setLc (i := 6) (own := [("_law_turn_so", 4)]) (g := gName 4) rfl scPlain.nd rfl (by rfl) (by rfl) (pi_range1 (by rfl) range (pa_cons (pe_op op_add pe_int (pe_call GD (hr.mono (by decide)) (by rfl) gD kD bD .nil pass0 (pa_cons (pv 0) (pa_cons pe_int pa_nil)))) pa_nil)) (blkOk_by (own := [("_law_turn_so", 4)]) (N := ["_law_pen_here", "_law_is_rising", "_law_told", "_law_top", "_law_turn_so", "_law_most", "_law_gains"]) (sc := defScope sPlain) (by decide +kernel))
          (fun _ _ _ _ _ => pg_name (i := 4) scPlain.nd rfl (Or.inl rfl)) (fun _ _ _ _ _ => pts_nil) (fun _ _ _ _ _ => pe_call GD (hr.mono (by decide)) (by rfl) gD kD bD .nil pass0 (pa_cons (pv 0) (pa_cons (pe_op op_add (pv 5) pe_int) pa_nil))))
      (pss_one (ps_ret (pe_tup (pa_cons (pv 2) (pa_cons (pv 6) pa_nil)))))))), ?_⟩
    have hp0 : ∃ u, H p = some u := let ⟨_, _, q, _⟩ := hP; ⟨_, q⟩
    have hl0 : ∃ u, H l = some u := let ⟨_, _, _, q, _⟩ := hP; ⟨_, q⟩
    have kp0 : Keep p H H := Keep.of_ex (Ex.refl H)
    -- told = [], top = ..
    refine ⟨by decide, fun tl htl => ?_⟩
    have e1 := Ex.new (H := H) (o := .lst []) htl
    have hP1 := hP.mono e1 (Nat.le_refl m)
    have ntp : tl ≠ p := fun z => by
      obtain ⟨u, hu⟩ := hp0
      rw [z, hu] at htl
      cases htl
    have ntl : tl ≠ l := fun z => by
      obtain ⟨u, hu⟩ := hl0
      rw [z, hu] at htl
      cases htl
    refine w_pick (p := p) (l := l) (cells := cells) (σ := L2.start _ [V.ref p, V.bl r]) (H := upd H tl (.lst [])) (i := 0) (ns := [2, 5, 9, 40, (10 : Int) ^ (9 : Int).toNat]) rfl (fun H1 => ea_cons ev_c (ea_cons ev_c (ea_cons ev_c (ea_cons ev_c (ea_cons (ev_op ev_c ev_c (rv_I ⟨by decide, by decide, by decide⟩)) ea_nil))))) (by decide) (by decide) h63 m _ (Keep.of_ex (Ex.refl _)) hP1 (by omega) _ fun v H2 hv hP2 k2 => ?_
    obtain ⟨top, rfl, htop⟩ := hv
    have top2 : 0 < top ∧ top ≤ 1000000000 := by
      have : ∀ z ∈ [2, 5, 9, 40, (10 : Int) ^ (9 : Int).toNat], 0 < z ∧ z ≤ 1000000000 := by decide
      exact this _ htop
    refine ⟨_, _, rfl, ?_⟩
    have kH2 : Keep p H H2 := (Keep.of_ex e1).trans k2
    have htl2 : H2 tl = some (.lst (vI [])) := k2 _ _ upd_same ntp
    show tSeq _ _ _ _ _
    -- the loop of told values
    refine q_forW (p := p) (l := l) (cells := cells) (m := m + 1) (many := 5) (w_draw (i := 0) rfl (fun H1 _ => ev_c) (by decide) (by decide) h63) hP2 (by omega) (by decide)
      (fun i σ' H' => ∃ (x4 : Option V) (t : List Int), σ' = [some (.ref p), some (.bl r), some (.ref tl), some (.int top), x4, none, none] ∧ H' tl = some (.lst (vI t)) ∧ t.length = i ∧ Pos t ∧ PenAt H' p l cells (m + 2 + i) ∧ Keep p H H' ∧ ∀ j, j < t.length → at' t j ≤ 1000000000 * (t.length : Int))
      (fun H3 hP3 k3 => ⟨_, [], rfl, k3 _ _ htl2 ntp, rfl, fun i hi => absurd hi (Nat.not_lt_zero i), hP3, kH2.trans k3, fun j hj => absurd hj (Nat.not_lt_zero j)⟩) ?_ ?_
    · rintro i σ' H3 hi ⟨x4, t, rfl, ht, hlen, pt, hP3, k3, bt⟩
      show tDrop _ _ _ _
      refine ⟨_, rfl, Or.inl ⟨rfl, vI t, sq_of ht⟩, ?_⟩
      refine w_draw (p := p) (l := l) (cells := cells) (σ := [some (.ref p), some (.bl r), some (.ref tl), some (.int top), some (.int (i : Int)), none, none]) (H := H3) (i := 0) (tb := tVar 3) (many := top) rfl (fun H1 _ => ev_var rfl) top2.1 top2.2 h63 (m + 2 + i) H3 (Keep.of_ex (Ex.refl _)) hP3 (by omega) _ fun v H4 hv hP4 k4 => ?_
      obtain ⟨d, rfl, hd⟩ := hv
      have ht4 := k4 _ _ ht ntp
      obtain ⟨bn, evn, hne⟩ := ev_neNil (K := K) (σ := [some (.ref p), some (.bl r), some (.ref tl), some (.int top), some (.int (i : Int)), none, none]) (H := H4) (cells := t) (l := tl) (ta := tVar 2) (ev_var rfl) (sq_of ht4)
      have evi : ∃ z : Int, 0 ≤ z ∧ z ≤ 1000000000 * (t.length : Int) ∧ Ev (tIf (tAnd (tTest (tOp (rNeD K) (tVar 2) (tLst tNil))) (tB (tVar 1))) (tOp (rIxL K) (tVar 2) (tUn (rU fun i => .int (-i)) (tC (.int 1)))) (tC (.int 0))) [some (.ref p), some (.bl r), some (.ref tl), some (.int top), some (.int (i : Int)), none, none] H4 (.int z) := by
        have tst : EvT (tAnd (tTest (tOp (rNeD K) (tVar 2) (tLst tNil))) (tB (tVar 1))) [some (.ref p), some (.bl r), some (.ref tl), some (.int top), some (.int (i : Int)), none, none] H4 (bn && r) := et_and (et_test evn) fun _ => et_B (ev_var rfl)
        cases hbr : (bn && r) with
        | true =>
          rw [hbr] at tst
          have tn : 0 < t.length := List.length_pos_iff.mpr (hne (Bool.and_eq_true_iff.mp hbr).1)
          exact ⟨at' t (t.length - 1), pt _ (by omega), bt _ (by omega), ev_if tst (fun _ => ev_op (ev_var rfl) (ev_un ev_c ru_neg) (rv_ixL (sq_of ht4) (atI_vlast tn))) (fun hb => absurd hb (by decide))⟩
        | false =>
          rw [hbr] at tst
          exact ⟨0, Int.le_refl 0, by omega, ev_if tst (fun hb => absurd hb (by decide)) (fun _ => ev_c)⟩
      obtain ⟨z, z0, z1, evz⟩ := evi
      refine evz H4 (Ex.refl H4) _ fun H5 e5 => ?_
      refine ⟨(d : Int), z, rfl, rfl, tl, vI t, .int ((d : Int) + z), rfl, rfl, e5 _ _ ht4, sz_lt (by rw [vI_len]; omega), ?_⟩
      refine ⟨_, t ++ [(d : Int) + z], rfl, by rw [upd_same, vI_app], by rw [List.length_append, hlen]; rfl, fun i' hi' => ?_, ((hP4.mono e5 (Nat.le_refl _)).upd' ntp ntl).le (by omega), ((k3.trans k4).trans (Keep.of_ex e5)).mut htl, fun i' hi' => ?_⟩
      rotate_left
      · rw [List.length_append] at hi' ⊢
        have hi2 : i' < t.length + 1 := hi'
        show at' (t ++ [(d : Int) + z]) i' ≤ 1000000000 * ((t.length + 1 : Nat) : Int)
        rw [at_app]
        by_cases c : i' < t.length
        · rw [if_pos c]
          have := bt _ c
          omega
        · rw [if_neg c, show i' - t.length = 0 by omega]
          show (d : Int) + z ≤ _
          have := top2.2
          omega
      rw [List.length_append] at hi'
      have hi2 : i' < t.length + 1 := hi'
      rw [at_app]
      by_cases c : i' < t.length
      · rw [if_pos c]
        exact pt _ c
      · rw [if_neg c, show i' - t.length = 0 by omega]
        show 0 ≤ (d : Int) + z
        omega
    · rintro n σ' H3 n0 n5 ⟨x4, t, rfl, ht, hlen, pt, hP3, k3, bt⟩
      refine q_asgR (w_pick (p := p) (l := l) (cells := cells) (σ := [some (.ref p), some (.bl r), some (.ref tl), some (.int top), x4, none, none]) (H := H3) (i := 0) (ns := [1, 2, 3, 7, (10 : Int) ^ (6 : Int).toNat]) rfl (fun H1 => ea_cons ev_c (ea_cons ev_c (ea_cons ev_c (ea_cons ev_c (ea_cons (ev_op ev_c ev_c (rv_I ⟨by decide, by decide, by decide⟩)) ea_nil))))) (by decide) (by decide) h63 (m + 2 + n) H3 (Keep.of_ex (Ex.refl _)) hP3 (by omega) _ fun v H4 hv hP4 k4 => ?_)
      obtain ⟨most, rfl, hmost⟩ := hv
      have most2 : 0 < most ∧ most ≤ 1000000 := by
        have : ∀ z ∈ [1, 2, 3, 7, (10 : Int) ^ (6 : Int).toNat], 0 < z ∧ z ≤ 1000000 := by decide
        exact this _ hmost
      have ht4 := k4 _ _ ht ntp
      refine q_asgR (lc_draws (p := p) (l := l) (cells := cells) (σ := [some (.ref p), some (.bl r), some (.ref tl), some (.int top), x4, some (.int most), none]) (H := H4) (j := 4) (m := m + 2 + n + 1) (many := 4) (B := most + 1) (w_draw (i := 0) rfl (fun H1 _ => ev_c) (by decide) (by decide) h63) hP4 (by omega) (by decide) (fun _ => rfl)
        (fun x H1 _ => w_draw (i := 0) rfl (fun H2 _ => ev_op (ev_var rfl) ev_c rv_I0) (by omega) (by omega) h63) fun a g H5 ha k5 hP5 hg g0 g4 hb => ?_)
      show tRet _ _ _ _
      refine ⟨_, rfl, _, rfl, by show 2 ≤ sizeLine; decide, fun x hx => ?_⟩
      have e6 := Ex.new (H := H5) (o := .tup [.ref tl, .ref a]) hx
      have sg : Small g := fun i hi => ⟨(hb i hi).1, by have := (hb i hi).2; omega⟩
      refine k t g x _ (((k3.trans k4).trans k5).trans (Keep.of_ex e6)) ((hP5.mono e6 (Nat.le_refl _)).le (by omega)) ⟨tl, a, upd_same, e6 _ _ (k5 _ _ ht4 ntp), e6 _ _ hg, by omega⟩ ⟨tl, a, st_of upd_same, sq_of (e6 _ _ (k5 _ _ ht4 ntp)), sq_of (e6 _ _ hg), by omega, by omega, g0, by omega, pt, sg⟩ (by omega) (fun i hi => by have := (hb i hi).2; omega) (fun i hi => by have := bt i hi; omega)
end
end K06
namespace K06
open PySem L2 Evl Gr ClX
/-- one, and nought behind it -/
def stp (n : Nat) : List Int := (List.range n).map fun i => if i = 0 then 1 else 0
theorem stp_len {n : Nat} : (stp n).length = n := by unfold stp; rw [List.length_map, List.length_range]
section
variable {K : PySem.W.Frag} {σ : L2.St} {H : Hp}
theorem EvP.tupL {te tb : TE} {x : Int} {g : List Int} (h : Ev te σ H (.int x)) (h' : ∀ H1, Ex H H1 → EvL tb σ H1 (vI g)) : EvP K (tCons (tTup (tCons te tNil)) (tCons tb tNil)) σ H [x] g := fun H1 e Q q =>
  eu_tup (σ := σ) (H := H) (ea_cons h ea_nil) (Nat.le_of_ble_eq_true rfl) H1 e _ fun p H2 _ e2 h2 => h' H2 (e.trans e2) H2 (Ex.refl H2) _ fun r H3 _ e3 h3 =>
    q p r H3 (e2.trans e3) (.inr (st_of (e3 _ _ h2))) (.inl (sq_of h3))
end
section
variable {P : Program} {w : World} {K : PySem.W.Frag} {mg : Str → Option Value} {base : Heap}
/-! ### Growth.steps -/
def spSteps (K : PySem.W.Frag) (C : Addr) : Sp := fun vs H Q _ => ∃ m : Nat, vs = [.int (m : Int)] ∧ 0 < m ∧ m ≤ 2000 ∧ RetG K C (val [0] (stp m)) H Q
theorem scSteps : FnScope ["many", "at"] ["many"] (defScope (sGr 19)) := ⟨rfl, rfl, rfl, by decide +kernel, rfl, by decide +kernel, by decide +kernel⟩
theorem ok_Steps {C f fI fZ : Addr} {mc : Value} {fd fdI fdZ : FuncData} (F : Fun K "steps" "Growth.steps" (sGr 19) f fd) (range : mg "range" = none) (N : GName K mg C mc) (M : Mk K C fI)
    (GI : FnOk P w K mg base CX0 4 fI fdI ["self", "told", "gains"] (spInit K C)) (bI : Binds K fdI ["self", "told", "gains"] [])
    (GZ : FnOk P w K mg base CX0 1 fZ fdZ ["value"] (spIsInt K)) (kZ : PySem.W.keepIn K (.ref fZ) = true) (bZ : Binds K fdZ ["value"] []) (gZ : mg "is_integer" = some (.ref fZ)) :
    FnOk P w K mg base CX0 6 f fd ["many"] (spSteps K C) := by
  obtain ⟨mu, cm⟩ := N.most
  refine F.ok scSteps (fun vs H Q E h => ?_) (fun cdv A outer s H vs Q E hr h => ?_)
  · obtain ⟨x, rfl, _⟩ := h
    rfl
  · obtain ⟨m, rfl, m0, m1, k⟩ := h
    refine ⟨_, pss_cons (ps_if (PW.pt (pw_or (pt_not (pt_val (pe_call GZ (hr.mono (by decide)) (by rfl) gZ kZ bZ .nil pass0 (pa_cons (pv 0) pa_nil)))) (pw_or1 (pt_not (pt_chain op_le op_le pe_int (pv 0) (pe_cval (pe_glob (v := .ref C) rfl N.g rfl))))))) (pss_one ps_no) pss_nil)
      (pss_one (ps_ret (pe_make M GI hr (by rfl) N.g bI .nil pass0 (pa_cons (pe_tup (pa_cons pe_int pa_nil)) (pa_cons (pe_lc (own := [("at", 1)]) (g := gName 1) rfl scSteps.nd (pi_range1 (by rfl) range (pa_cons (pv 0) pa_nil)) (blkOk_by (own := [("at", 1)]) (N := ["many", "at"]) (sc := defScope (sGr 19)) (by decide +kernel))
        (fun _ _ _ _ _ => pg_name (i := 1) scSteps.nd rfl (Or.inl rfl)) (fun _ _ _ _ _ => pts_nil) (fun _ _ _ _ _ => pe_ifExp (pt_cmpR op_eq (pv 1) pe_int (nomark _)) pe_int pe_int)) pa_nil))))), ?_⟩
    refine q_when (b := false) (et_is (et_or (et_not (et_B (ev_call (z := .bl true) (ea_cons (ev_var rfl) ea_nil) (spv_isInt (.base (.int _)) kit_int_int kit_int_bool)))) (fun _ => et_not (et_test (ev_chain ev_c (ev_var rfl) (ev_cval ev_c N.rd cm))))) (by
      rw [decide_eq_true (by omega : (1 : Int) ≤ (m : Int)), decide_eq_true (by omega : (m : Int) ≤ 2000)]
      rfl)) (fun hb => absurd hb (by decide)) (fun _ H1 e1 => ?_)
    have c1 : ∀ H2, Ex H1 H2 → EvL (tLc (iRng1 (tCons (tVar 0) tNil)) (gName 1) tYes (tIf (tTest (tOp rEq (tVar 1) (tC (.int 0)))) (tC (.int 1)) (tC (.int 0))) [1]) [some (.int (m : Int)), none] H2 (vI (stp m)) := fun H2 _ => by
      have z := el_lcR1 (σ := [some (.int (m : Int)), none]) (H := H2) (t := tYes) (te := tIf (tTest (tOp rEq (tVar 1) (tC (.int 0)))) (tC (.int 1)) (tC (.int 0))) (ta := tCons (tVar 0) tNil) (j := 1) (vs := [1]) (n := (m : Int)) (fun _ => true) (fun i => V.int (if i = 0 then 1 else 0))
        (ea_cons (ev_var rfl) ea_nil) (by omega) (fun _ => rfl) (fun i H1 _ _ => et_none) (fun i H3 _ _ _ => by
          by_cases h : i = 0
          · subst h
            exact ev_if (b := true) (et_is (et_test (ev_op (ev_var rfl) ev_c (rv_eq rfl))) (by rw [vint_inj]; rfl)) (fun _ => ev_c) (fun hb => absurd hb (by decide))
          · rw [if_neg h]
            exact ev_if (b := false) (et_is (et_test (ev_op (ev_var rfl) ev_c (rv_eq rfl))) (by rw [vint_inj, decide_eq_false (by omega)])) (fun hb => absurd hb (by decide)) (fun _ => ev_c))
      rw [given_all, Int.toNat_natCast] at z
      have e : vI (stp m) = (List.range m).map fun i => V.int (if i = 0 then 1 else 0) := by
        unfold vI stp
        rw [List.map_map]
        rfl
      rw [e]
      exact z
    refine eg_make (K := K) (C := C) (σ := [some (.int (m : Int)), none]) (H := H1) (t := [0]) (g := stp m) (f := val [0] (stp m)) (EvP.tupL ev_c c1) Nat.one_pos (Nat.le_of_ble_eq_true rfl) (by rw [stp_len]; exact m0) (by rw [stp_len]; exact m1)
      (fun i hi => by
        have z : i = 0 := by
          have : i < 1 := hi
          omega
        subst z
        exact Int.le_refl 0) (fun i hi => by
        rw [stp_len] at hi
        have e : at' (stp m) i = if i = 0 then 1 else 0 := at_map_range hi
        rw [e]
        by_cases h : i = 0
        · rw [if_pos h]; decide
        · rw [if_neg h]; decide) (fun n => rfl) H1 (Ex.refl H1) _ fun o H2 ho e2 gr => k o H2 (fresh_back e1 ho) (e1.trans e2) gr
end
end K06
namespace K06
open PySem L2 Evl Gr ClX OwX StX
/-! ### the text of a growth -/
def tx (x : Int) : Str := toString x
def tv : V → V
  | .int i => .str (tx i)
  | x => x
def wordsG (t g : List Int) : List Str := t.map tx ++ (("then" : Str) :: g.map tx)
def strG (t g : List Int) : Str := Txt.join " " (wordsG t g)
/-- a number that is not too great, or a short text -/
def okV (x : V) : Prop := (∃ i : Int, x = .int i ∧ 0 ≤ i ∧ i < 10 ^ 60) ∨ x = .str "then"
theorem given_map {l : List V} {f : V → V} : given l.length (fun _ => true) (fun n => f (l.getD n .non)) = l.map f := by
  rw [given_all]
  refine List.ext_getElem (by rw [List.length_map, List.length_map, List.length_range]) fun i h1 h2 => ?_
  rw [List.length_map] at h2
  rw [List.getElem_map, List.getElem_map, List.getElem_range, List.getD_eq_getElem?_getD, List.getElem?_eq_getElem h2]
  rfl
theorem words_tv {t g : List Int} : (vI t ++ (V.str "then" :: vI g)).map tv = (wordsG t g).map V.str := by
  unfold wordsG vI
  rw [List.map_append, List.map_append, List.map_cons, List.map_cons, List.map_map, List.map_map, List.map_map, List.map_map]
  rfl
theorem tx_len {x : Int} (h0 : 0 ≤ x) (h1 : x < 10 ^ 60) : (tx x).length ≤ 60 := PyProof.Rows.toString_length_le h0 (by decide) h1
theorem log_small {x : Int} (h0 : 0 ≤ x) (h1 : x < 10 ^ 60) : x.natAbs.log2 < 1920 := by
  have e : (10 : Int) ^ 60 = 1000000000000000000000000000000000000000000000000000000000000 := by decide
  rw [e] at h1
  have z : x.natAbs < 2 ^ 200 := by
    have : (2 : Nat) ^ 200 = 1606938044258990275541962092341162602522202993782792835301376 := by decide
    rw [this]
    omega
  exact Nat.lt_trans (PySem.Flt.log2_lt_of (by decide) z) (by decide)
theorem sum_le {ys : List Str} (h : ∀ y ∈ ys, y.length ≤ 60) : (ys.map (·.length)).sum ≤ 60 * ys.length := by
  induction ys with
  | nil => exact Nat.le_refl _
  | cons y ys ih =>
    rw [List.map_cons, List.sum_cons, List.length_cons]
    have a := h y (List.mem_cons_self ..)
    have b := ih fun z hz => h z (List.mem_cons_of_mem _ hz)
    omega
section
variable {K : PySem.W.Frag} {σ : L2.St} {H : Hp} {te : TE} {t : TA}
theorem ea_star {p : Addr} {xs ys : List V} (h : Ev te σ H (.ref p)) (hs : Sq K H p xs) (hr : EvA t σ H ys) : EvA (tStar K te t) σ H (xs ++ ys) := fun H1 e Q q =>
  h H1 e _ fun H2 e2 => ⟨p, xs, rfl, (hs.mono (e.trans e2)).symm, hr H2 (e.trans e2) _ fun H3 e3 => q H3 (e2.trans e3)⟩
abbrev rStrV : List V → Hp → VK → Prop := fun xs H Q => (∃ i, xs = [V.int i] ∧ i.natAbs.log2 < 1920 ∧ Q (.str (toString i)) H) ∨ ∃ a, xs = [V.str a] ∧ Q (.str a) H
theorem rc_strV {x : V} (h : okV x) : RC rStrV [x] H (tv x) := fun H1 e Q q => by
  rcases h with ⟨i, rfl, h0, h1⟩ | rfl
  · exact .inl ⟨i, rfl, log_small h0 h1, q H1 (Ex.refl H1)⟩
  · exact .inr ⟨_, rfl, q H1 (Ex.refl H1)⟩
end
section
variable {P : Program} {w : World} {K : PySem.W.Frag} {mg : Str → Option Value} {base : Heap}
/-! ### Growth.__str__ -/
def spStr (K : PySem.W.Frag) (C : Addr) : Sp := fun vs H Q _ => ∃ (o : Addr) (t g : List Int), vs = [.ref o] ∧ GrAt K C H o t g ∧ Pos t ∧ (∀ i, i < t.length → at' t i < 10 ^ 60) ∧ RetV (.str (strG t g)) H Q
theorem scStr : FnScope ["self", "value"] ["self"] (defScope (sGr 21)) := ⟨rfl, rfl, rfl, by decide +kernel, rfl, by decide +kernel, by decide +kernel⟩
theorem ok_Str {C f : Addr} {fd : FuncData} (F : Fun K "__str__" "Growth.__str__" (sGr 21) f fd) (G : GCls K C) (TT : GlbT mg) : FnOk P w K mg base CX0 1 f fd ["self"] (spStr K C) := by
  refine F.ok scStr (fun vs H Q E h => ?_) (fun cdv A outer s H vs Q E hr h => ?_)
  · obtain ⟨o, t, g, rfl, _⟩ := h
    rfl
  · obtain ⟨o, t, g, rfl, hO, pt, bt, k⟩ := h
    refine ⟨_, pss_one (ps_ret (pe_join pe_str (pe_lc (own := [("value", 1)]) (g := gName 1) rfl scStr.nd (pi_list (pe_lst (pa_star (pe_fld (pv 0) rfl) (pa_cons pe_str (pa_star (pe_fld (pv 0) rfl) pa_nil)))))
      (blkOk_by (own := [("value", 1)]) (N := ["self", "value"]) (sc := defScope (sGr 21)) (by decide +kernel)) (fun _ _ _ _ _ => pg_name (i := 1) scStr.nd rfl (Or.inl rfl)) (fun _ _ _ _ _ => pts_nil)
      (fun _ _ _ _ _ => pe_callTy call_strV (by rfl) TT.str (by decide +kernel) (pa_cons (pv 1) pa_nil))))), ?_⟩
    obtain ⟨dx, p, q, r, h1, h2, h3, h4, nf, t2, g2, sm⟩ := hO
    have L : EvL (tLst (tStar K (tFld K (tVar 0) "told") (tCons (tC (.str "then")) (tStar K (tFld K (tVar 0) "gains") tNil)))) [some (.ref o), none] H (vI t ++ (V.str "then" :: (vI g ++ []))) :=
      el_lst (ea_star (ev_fld (ev_var rfl) h1 G.cls G.told rfl) (.inr h2) (ea_cons ev_c (ea_star (ev_fld (ev_var rfl) h1 G.cls G.gains rfl) (.inr h3) ea_nil))) (by
        rw [List.append_nil, List.length_append, List.length_cons, vI_len, vI_len]
        omega)
    rw [List.append_nil] at L
    have all : ∀ x ∈ vI t ++ (V.str "then" :: vI g), okV x := fun x hx => by
      have num : ∀ {l : List Int}, (∀ i, i < l.length → 0 ≤ at' l i ∧ at' l i < 10 ^ 60) → x ∈ vI l → okV x := fun {l} hl hm => by
        obtain ⟨z, hz, rfl⟩ := List.mem_map.mp hm
        obtain ⟨i, hi, rfl⟩ := List.getElem_of_mem hz
        have b := hl i hi
        have e : at' l i = l[i] := by
          unfold at'
          rw [List.getD_eq_getElem?_getD, List.getElem?_eq_getElem hi]
          rfl
        rw [e] at b
        exact .inl ⟨_, rfl, b.1, b.2⟩
      rcases List.mem_append.mp hx with hm | hm
      · exact num (fun i hi => ⟨pt i hi, bt i hi⟩) hm
      · rcases List.mem_cons.mp hm with rfl | hm
        · exact .inr rfl
        · refine num (fun i hi => ⟨(sm i hi).1, Int.lt_of_le_of_lt (sm i hi).2 (by decide)⟩) hm
    have M := el_lcNL (K := K) (σ := [some (.ref o), none]) (H := H) (t := tYes) (te := tCB rStrV (tCons (tVar 1) tNil)) (j := 1) (vs := [1]) (fun _ => true) (fun n => tv ((vI t ++ (V.str "then" :: vI g)).getD n .non)) L (by
        rw [List.length_append, List.length_cons, vI_len, vI_len]
        omega) (fun _ => rfl) (fun i x H1 _ _ => et_none) (fun i x H1 e1 hx _ => by
        have e : (vI t ++ (V.str "then" :: vI g)).getD i .non = x := by
          rw [List.getD_eq_getElem?_getD, hx]
          rfl
        rw [e]
        exact ev_cb (ea_cons (ev_var rfl) ea_nil) (rc_strV (all x (List.mem_of_getElem? hx))))
    rw [given_map, words_tv] at M
    refine ⟨⟨_, rfl⟩, M H (Ex.refl H) _ fun a H1 ha e1 h => ⟨" ", a, wordsG t g, rfl, rfl, .inl (sq_of h), ?_, k H1 e1⟩⟩
    have wl : (wordsG t g).length ≤ 4001 := by
      unfold wordsG
      rw [List.length_append, List.length_cons, List.length_map, List.length_map]
      omega
    have sl := sum_le (ys := wordsG t g) fun y hy => by
      have hm : V.str y ∈ (wordsG t g).map V.str := List.mem_map.mpr ⟨y, hy, rfl⟩
      rw [← words_tv] at hm
      obtain ⟨x, hx, ex⟩ := List.mem_map.mp hm
      rcases all x hx with ⟨i, rfl, h0, h1⟩ | rfl
      · cases ex
        exact tx_len h0 h1
      · cases ex
        decide
    have one : (" " : Str).length = 1 := rfl
    rw [one]
    omega
end
end K06
namespace Gr
theorem Tail.sc {f : Nat → Int} {B : Int} (h : Tail f B) {k : Nat} : Tail (fun n => (k : Int) * f n) ((k : Int) * B) := by
  obtain ⟨m, hm⟩ := h
  refine ⟨m, fun n hn => ?_⟩
  obtain ⟨a, b⟩ := hm n hn
  show 0 ≤ (k : Int) * f (n + 1) - (k : Int) * f n ∧ (k : Int) * f (n + 1) - (k : Int) * f n ≤ (k : Int) * B
  rw [← Int.mul_sub]
  exact ⟨Int.mul_nonneg (by omega) a, Int.mul_le_mul_of_nonneg_left b (by omega)⟩
theorem acc_le {d : Nat → Int} {B : Int} (h : ∀ k, d k ≤ B) : ∀ n : Nat, acc d n ≤ (n : Int) * B
  | 0 => by rw [show ((0 : Nat) : Int) = 0 from rfl, Int.zero_mul]; exact Int.le_refl 0
  | n + 1 => by
    show acc d n + d n ≤ _
    rw [show ((n + 1 : Nat) : Int) = (n : Int) + 1 from rfl, Int.add_mul, Int.one_mul]
    exact Int.add_le_add (acc_le h n) (h n)
theorem val_le {t g : List Int} {A B : Int} (t0 : 0 < t.length) (g0 : 0 < g.length) (B0 : 0 ≤ B) (ht : ∀ i, i < t.length → at' t i ≤ A) (hg : ∀ i, i < g.length → at' g i ≤ B) (n : Nat) : val t g n ≤ A + (n : Int) * B := by
  unfold val
  by_cases h : n < t.length
  · rw [if_pos h]
    have a := ht n h
    have b := Int.mul_nonneg (show (0 : Int) ≤ (n : Int) by omega) B0
    omega
  · rw [if_neg h]
    have a : lst t ≤ A := ht _ (by omega)
    have b := acc_le (d := dif g) (fun k => hg _ (Nat.mod_lt _ g0)) (n - t.length + 1)
    have c : ((n - t.length + 1 : Nat) : Int) * B ≤ (n : Int) * B := Int.mul_le_mul_of_nonneg_right (by omega) B0
    omega
theorem dvd12 {n : Nat} (h0 : 0 < n) (h4 : n ≤ 4) : n ∣ 12 := by
  have : n = 1 ∨ n = 2 ∨ n = 3 ∨ n = 4 := by omega
  rcases this with rfl | rfl | rfl | rfl <;> decide
end Gr
namespace K06
open PySem L2 Evl Gr ClX OpX StX OwX
theorem q_call {σ : L2.St} {H : Hp} {sp : Sp} {dvs vs : List V} {E : XK} {ta : TA} {i : Nat} {tz : TS} {D : Ends} (h : EvA ta σ H vs) (k : ∀ H1, Ex H H1 → sp (vs ++ dvs) H1 (fun v H2 => tz D (σ.set i (some v)) H2) E) :
    tSeq (tAsg (tCall sp dvs E ta) (gName i)) tz D σ H := h H (Ex.refl H) _ k
theorem lst_i {t : TA} {Q : VK} {σ : L2.St} {H : Hp} (h : t σ H fun xs H1 => xs.length ≤ sizeLine ∧ ∀ l, H1 l = none → Q (.ref l) (upd H1 l (.lst xs))) : tLst t σ H Q := h
theorem cons_i {te : TE} {tr : TA} {σ : L2.St} {H : Hp} {Q : List V → Hp → Prop} (h : te σ H fun x H1 => tr σ H1 fun xs H2 => Q (x :: xs) H2) : tCons te tr σ H Q := h
theorem op_i {r : R2} {ta tb : TE} {σ : L2.St} {H : Hp} {Q : VK} (h : ta σ H fun x H1 => tb σ H1 fun y H2 => r x y H2 Q) : tOp r ta tb σ H Q := h
theorem fnR0 {P : Program} {w : World} {K : PySem.W.Frag} {mg : Str → Option Value} {base : Heap} {CX : CXT} {k : Nat} {f : Addr} {fd : FuncData} {ps : List Str} {sp : Sp} (F : FnOk P w K mg base CX k f fd ps sp) (b : Binds K fd ps []) : FnR P w K mg base CX k f sp :=
  (F.raw b .nil).imp fun vs H Q E h => by rw [List.append_nil]; exact h
theorem gr_ins {X : Cx} {C : Addr} {H : Hp} {o : Addr} {f : Nat → Int} (h : GrF X.K C H o f) : InsC X H o C := by
  obtain ⟨t, g, ⟨dx, p, q, r, h1, _⟩, _⟩ := h
  exact .inr ⟨dx, _, h1⟩
/-- a def of the module, found by its name -/
def Gfn (P : Program) (w : World) (K : PySem.W.Frag) (mg : Str → Option Value) (base : Heap) (k : Nat) (name : Str) (ps : List Str) (sp : Sp) : Prop :=
  ∃ f fd, FnOk P w K mg base CX0 k f fd ps sp ∧ PySem.W.keepIn K (.ref f) = true ∧ Binds K fd ps [] ∧ mg name = some (.ref f)
/-- what != asks of the class -/
structure GNe (K : PySem.W.Frag) (C fE : Addr) : Prop where
  has : Has K C fE "__eq__"
  ne : PySem.W.findIn K (.ref C) "__ne__" = some (some (.builtin "object.__ne__"))
  ob : PySem.W.mroIn K C (.type "object") = some true
  nf : PySem.W.notFirst K C (.ref C) = true
section
variable {p l : Addr} {cells : List Int} {σ : L2.St} {H : Hp}
/-- one of some things, one of which is drawn -/
theorem w_pickD {i : Nat} {tr : TA} {R : List Int → Prop} (hi : σ[i]? = some (some (.ref p)))
    (hr : ∀ m H1, Keep p H H1 → PenAt H1 p l cells m → m + 1 ≤ 50000 → ∀ Q : List V → Hp → Prop, (∀ ns H2, R ns → PenAt H2 p l cells (m + 1) → Keep p H1 H2 → Q (vI ns) H2) → tr σ H1 Q) (hR : ∀ ns, R ns → 0 < ns.length ∧ ns.length ≤ 1000) (h63 : cells.length ≤ 63) :
    EvW p l cells 2 (tCall spPick [] E0 (tCons (tVar i) (tCons (tLst tr) tNil))) σ H (fun v => ∃ x ns, v = .int x ∧ R ns ∧ x ∈ ns) := fun m H1 kp hP hm Q q =>
  ⟨_, hi, hr m H1 kp hP (by omega) _ fun ns H2 rn hP2 k2 => ⟨by rw [vI_len]; exact sz_of (by have := (hR ns rn).2; omega), fun a ha => by
    have e3 := Ex.new (H := H2) (o := .lst (vI ns)) ha
    have hap : a ≠ p := by
      obtain ⟨k, r, hp, _⟩ := hP2
      intro z
      rw [z, hp] at ha
      cases ha
    refine ⟨p, l, a, cells, m + 1, vI ns, rfl, hP2.mono e3 (Nat.le_refl _), by omega, h63, upd_same, hap, by rw [vI_len]; exact (hR ns rn).1, by rw [vI_len]; have := (hR ns rn).2; omega, fun j x H3 hx hP3 k3 => ?_⟩
    have hj : j < ns.length := by
      have := (List.getElem?_eq_some_iff.mp hx).1
      rwa [vI_len] at this
    rw [vI_get hj] at hx
    obtain rfl := Option.some.inj hx
    refine q _ H3 ⟨_, ns, rfl, rn, ?_⟩ hP3 ((k2.trans (Keep.of_ex e3)).trans k3)
    unfold at'
    rw [List.getD_eq_getElem?_getD, List.getElem?_eq_getElem hj]
    exact List.getElem_mem hj⟩⟩
theorem c_i {x : V} {Q : VK} (h : Q x H) : tC x σ H Q := h
theorem q_par {ta : TA} {i j : Nat} {tz : TS} {D : Ends} (h : ta σ H fun vs H1 => ∃ u v, vs = [u, v] ∧ tz D ((σ.set i (some u)).set j (some v)) H1) : tSeq (tPar i j ta) tz D σ H := h
theorem q_par3 {ta : TA} {i j n : Nat} {tz : TS} {D : Ends} (h : ta σ H fun vs H1 => ∃ u v w, vs = [u, v, w] ∧ tz D (((σ.set i (some u)).set j (some v)).set n (some w)) H1) : tSeq (tPar3 i j n ta) tz D σ H := h
theorem etu_tuple {K : PySem.W.Frag} {te : TE} {xs : List V} (h : EvL te σ H xs) : EvTu K (tThen te (kTup K)) σ H xs := fun H1 e Q q =>
  h H1 e _ fun p H2 _ e2 h2 => .inl ⟨p, xs, rfl, sq_of h2, fun r hr => q r _ (e2.trans (Ex.new hr)) (st_of upd_same)⟩
end
end K06
namespace K06
open PySem L2 Evl Gr ClX OpX StX OwX StM
/-! ### growths as they are, old or new -/
/-- gives a growth of these values -/
def EvR (K : PySem.W.Frag) (C : Addr) (te : TE) (σ : L2.St) (H : Hp) (f : Nat → Int) : Prop := ∀ H1, Ex H H1 → ∀ Q : VK, (∀ o H2, Ex H1 H2 → GrF K C H2 o f → Q (.ref o) H2) → te σ H1 Q
section
variable {K : PySem.W.Frag} {C : Addr} {σ : L2.St} {H H' : Hp} {te : TE} {f g : Nat → Int}
theorem EvG.any (h : EvG K C te σ H f) : EvR K C te σ H f := fun H1 e Q q => h H1 e Q fun o H2 _ e2 gr => q o H2 e2 gr
theorem er_var {i : Nat} {o : Addr} (h0 : σ[i]? = some (some (.ref o))) (h : GrF K C H o f) : EvR K C (tVar i) σ H f := fun H1 e Q q => ⟨_, h0, q o H1 (Ex.refl H1) (h.mono e)⟩
theorem EvR.mono (h : EvR K C te σ H f) (e : Ex H H') : EvR K C te σ H' f := fun H1 e1 => h H1 (e.trans e1)
theorem EvR.is (h : EvR K C te σ H f) (e : ∀ n, f n = g n) : EvR K C te σ H g := (funext e : f = g) ▸ h
theorem GrF.is {o : Addr} (h : GrF K C H o f) (e : ∀ n, f n = g n) : GrF K C H o g := (funext e : f = g) ▸ h
theorem GrF.ins {o : Addr} (h : GrF K C H o f) : ∃ dx p q r, H o = some (.ins C dx [("told", .ref p), ("gains", .ref q), ("rises", .ref r)]) := by
  obtain ⟨t, g, ⟨dx, p, q, r, h1, _⟩, _⟩ := h
  exact ⟨dx, p, q, r, h1⟩
end
section
variable {X : Cx} {C : Addr} {σ : L2.St} {H : Hp} {ta tb : TE} {f g : Nat → Int}
theorem er_add {l : Nat} (ha : EvR X.K C ta σ H f) (hb : EvR X.K C tb σ H g) (l0 : 0 < l) (l1 : l ≤ 2000) (d1 : PerT f l) (d2 : PerT g l) (tl : Tail (fun n => f n + g n) 4000000000000000) (nn : ∀ n, 0 ≤ f n + g n) :
    EvR X.K C (tOp (rS X C (spAdd X.K C) E0) ta tb) σ H (fun n => f n + g n) := fun H1 e Q q =>
  ha H1 e _ fun o H2 e2 go => hb H2 (e.trans e2) _ fun u H3 e3 gu => ⟨o, u, rfl, rfl, gr_ins (go.mono e3), gr_ins gu, o, u, f, g, l, rfl, go.mono e3, gu, l0, l1, d1, d2, tl, nn, fun a H4 _ e4 gr => q a H4 ((e2.trans e3).trans e4) gr⟩
/-- two of the same values are not unlike -/
theorem ev_neR (ha : EvR X.K C ta σ H f) (hb : EvR X.K C tb σ H f) (_n1 : PySem.W.notFirst X.K C (.ref C) = true) : Ev (tOp (rNeO X C (spGEq X.K C) E0) ta tb) σ H (.bl false) := fun H1 e Q q =>
  ha H1 e _ fun o H2 e2 go => hb H2 (e.trans e2) _ fun u H3 e3 gu => ⟨o, u, rfl, rfl, gr_ins (go.mono e3), gr_ins gu, o, u, f, f, rfl, go.mono e3, gu, fun b hb => by
    obtain rfl : b = true := hb.mpr fun _ => rfl
    exact fun H4 e4 => ⟨true, rfl, q H4 ((e2.trans e3).trans e4)⟩⟩
theorem ev_eqR (ha : EvR X.K C ta σ H f) (hb : EvR X.K C tb σ H f) (n1 : PySem.W.notFirst X.K C (.ref C) = true) : Ev (tOp (rEqO X C (spGEq X.K C) E0) ta tb) σ H (.bl true) := fun H1 e Q q =>
  ha H1 e _ fun o H2 e2 go => hb H2 (e.trans e2) _ fun u H3 e3 gu => ⟨o, u, C, rfl, rfl, gr_ins (go.mono e3), gr_ins gu, n1, o, u, f, f, rfl, go.mono e3, gu, fun b hb => by
    obtain rfl : b = true := hb.mpr fun _ => rfl
    exact fun H4 e4 => q H4 ((e2.trans e3).trans e4)⟩
theorem ev_callG {n : Nat} (ha : EvR X.K C ta σ H f) (hn : Ev tb σ H (.int (n : Int))) (h : (n : Int) ≤ 10 ^ 40) : Ev (tCallO X C (spGCall X.K C) E0 ta (tCons tb tNil)) σ H (.int (f n)) := fun H1 e Q q =>
  ha H1 e _ fun o H2 e2 go => ⟨o, rfl, hn H2 (e.trans e2) _ fun H3 e3 => ⟨gr_ins (go.mono e3), o, n, f, rfl, go.mono e3, h, fun H4 e4 => q H4 ((e2.trans e3).trans e4)⟩⟩
/-- the text of a growth is that of its normal form -/
theorem ev_strR {t' g' : List Int} (ha : EvR X.K C ta σ H f) (nf : NF t' g') (hv : ∀ n, val t' g' n = f n) (bd : ∀ i, i < t'.length → f i < 10 ^ 60) :
    Ev (tCB (fun xs H Q => ∃ a, xs = [V.ref a] ∧ InsC X H a C ∧ spStr X.K C [.ref a] H (fun v H' => ∃ y, v = .str y ∧ Q v H') E0) (tCons ta tNil)) σ H (.str (strG t' g')) := fun H1 e Q q =>
  ha H1 e _ fun o H2 e2 go => by
    obtain ⟨t, g, hG, pt, v⟩ := go
    have nf2 : NF t g := let ⟨_, _, _, _, _, _, _, _, z, _⟩ := hG; z
    obtain ⟨rfl, rfl⟩ := nf_one nf2 nf fun n => by rw [v, hv]
    exact ⟨o, rfl, gr_ins ⟨_, _, hG, pt, v⟩, o, _, _, rfl, hG, pt, fun i hi => by
      have := bd i hi
      rw [← v, val_lt hi] at this
      exact this, fun H3 e3 => ⟨_, rfl, q H3 (e2.trans e3)⟩⟩
end
section
variable {K : PySem.W.Frag} {C : Addr} {σ : L2.St} {H : Hp} {ta tb : TE} {tk : TA} {f g : Nat → Int}
/-- a growth made of the parts of one -/
theorem ep_parts {o : Addr} {i : Nat} (G : GCls K C) (h0 : σ[i]? = some (some (.ref o))) {t g : List Int} (h : GrAt K C H o t g) : EvP K (tCons (tFld K (tVar i) "told") (tCons (tFld K (tVar i) "gains") tNil)) σ H t g := by
  obtain ⟨dx, p, q, r, h1, h2, h3, _⟩ := h
  exact EvP.pair (ev_fld (ev_var h0) h1 G.cls G.told rfl) (ev_fld (ev_var h0) h1 G.cls G.gains rfl) (.inr h2) (.inr h3)
theorem er_again {o : Addr} {i : Nat} (G : GCls K C) (h0 : σ[i]? = some (some (.ref o))) (h : GrF K C H o f) :
    EvR K C (tMake C (spInit K C) [] E0 (tCons (tFld K (tVar i) "told") (tCons (tFld K (tVar i) "gains") tNil))) σ H f := by
  obtain ⟨t, g, hG, pt, v⟩ := h
  have hG' := hG
  obtain ⟨_, _, _, _, _, _, _, _, nf, t2, g2, sm⟩ := hG'
  exact (eg_make (ep_parts G h0 hG) nf.told t2 nf.gains g2 pt sm v).any
/-- a growth made of plain parts -/
theorem er_plain {a : Addr} {i : Nat} {t g : List Int} (h0 : σ[i]? = some (some (.ref a))) (h : Pl K H a t g) : EvG K C (tMake C (spInit K C) [] E0 (tCons (tOp (rIx K) (tVar i) (tC (.int 0))) (tCons (tOp (rIx K) (tVar i) (tC (.int 1))) tNil))) σ H (val t g) := by
  obtain ⟨p, q, h1, h2, h3, t0, t1, g0, g1, pt, sm⟩ := h
  exact eg_make (EvP.pair (ev_op (ev_var h0) ev_c (rv_ix (.inr h1) rfl)) (ev_op (ev_var h0) ev_c (rv_ix (.inr h1) rfl)) (.inl h2) (.inl h3)) t0 t1 g0 g1 pt sm fun _ => rfl
/-- two tuples of the same ints -/
theorem ev_eqTu {xs : List Int} (ha : EvTu K ta σ H (vI xs)) (hb : EvTu K tb σ H (vI xs)) : Ev (tOp (rEqD K) ta tb) σ H (.bl true) := fun H1 e Q q =>
  ha H1 e _ fun p H2 e2 hp => hb H2 (e.trans e2) _ fun r H3 e3 hr => ⟨.tuple (xs.map PyData.int), .tuple (xs.map PyData.int), .tup (ex_t e3 hp) (dpAll_ints xs), .tup hr (dpAll_ints xs), shaped_tup xs, shaped_tup xs, by
    have e2' : PyData.eqv (.tuple (xs.map PyData.int)) (.tuple (xs.map PyData.int)) = true := by
      have := eqv_ints xs xs
      rw [decide_eq_true rfl] at this
      simpa [PyData.eqv] using this
    rw [e2']
    exact q H3 (e2.trans e3)⟩
/-- two lists of the same ints -/
theorem ev_neLs {xs : List Int} (ha : EvL ta σ H (vI xs)) (hb : EvL tb σ H (vI xs)) : Ev (tOp (rNeD K) ta tb) σ H (.bl false) := fun H1 e Q q =>
  ha H1 e _ fun p H2 _ e2 hp => hb H2 (e.trans e2) _ fun r H3 _ e3 hr => ⟨.list (xs.map PyData.int), .list (xs.map PyData.int), .lst (sq_of (e3 _ _ hp)) (dpAll_ints xs), .lst (sq_of hr) (dpAll_ints xs), shaped_ints xs, shaped_ints xs, by
    have e2' : PyData.eqv (.list (xs.map PyData.int)) (.list (xs.map PyData.int)) = true := by
      have := eqv_ints xs xs
      rw [decide_eq_true rfl] at this
      simpa [PyData.eqv] using this
    rw [e2']
    exact q H3 (e2.trans e3)⟩
end
/-! ### what stands while the pen moves -/
section
variable {K : PySem.W.Frag} {C : Addr} {H H' : Hp} {p l : Addr} {cells : List Int} {m : Nat}
theorem sqt_keep {q : Addr} {xs : List V} (hP : PenAt H p l cells m) (kp : Keep p H H') (h : SqT K H q xs) : SqT K H' q xs := by
  obtain ⟨_, _, hp, _⟩ := hP
  rcases h with (h | ⟨o, h⟩) | h
  · exact .inl (.inl (kp _ _ h fun z => by rw [z, hp] at h; cases h))
  · exact .inl (.inr ⟨o, kp _ _ h fun z => by rw [z, hp] at h; cases h⟩)
  · exact .inr h
theorem sql_keep {q : Addr} {xs : List Int} (hP : PenAt H p l cells m) (kp : Keep p H H') (h : SqL K H q (vI xs)) : SqL K H' q (vI xs) := by
  obtain ⟨_, _, hp, _⟩ := hP
  have no : ∀ {k r : Int}, ¬ [V.ref l, V.int k, V.int r] = vI xs := fun e => by
    cases xs with
    | nil => cases e
    | cons x xs => cases e
  rcases h with (h | ⟨o, h⟩) | h
  · exact .inl (.inl (kp _ _ h fun z => by rw [z, hp] at h; exact no (HO.lst.inj (Option.some.inj h))))
  · exact .inl (.inr ⟨o, kp _ _ h fun z => by rw [z, hp] at h; cases h⟩)
  · exact .inr h
theorem Pl.keep {a : Addr} {t g : List Int} (hP : PenAt H p l cells m) (kp : Keep p H H') (h : Pl K H a t g) : Pl K H' a t g := by
  obtain ⟨x, y, h1, h2, h3, h4⟩ := h
  exact ⟨x, y, sqt_keep hP kp h1, sql_keep hP kp h2, sql_keep hP kp h3, h4⟩
theorem GrF.keep {o : Addr} {f : Nat → Int} (hP : PenAt H p l cells m) (kp : Keep p H H') (h : GrF K C H o f) : GrF K C H' o f := by
  obtain ⟨t, g, ⟨dx, x, y, z, h1, h2, h3, h4, h5⟩, h6⟩ := h
  refine ⟨t, g, ⟨dx, x, y, z, kp _ _ h1 fun e => ?_, sqt_keep hP kp h2, sqt_keep hP kp h3, sqt_keep hP kp h4, h5⟩, h6⟩
  obtain ⟨_, _, hp, _⟩ := hP
  rw [e, hp] at h1
  cases h1
end
section
variable {K : PySem.W.Frag}
/-- plain parts as they are drawn -/
def PlB (K : PySem.W.Frag) (H : Hp) (a : Addr) (t g : List Int) : Prop := Pl K H a t g ∧ g.length ≤ 4 ∧ (∀ i, i < g.length → at' g i ≤ 1000000) ∧ ∀ i, i < t.length → at' t i ≤ 5000000000
structure Drawn (f : Nat → Int) : Prop where
  per : PerT f 12
  tail : Tail f 1000000
  pos : ∀ n, 0 ≤ f n
  le : ∀ n : Nat, f n ≤ 5000000000 + (n : Int) * 1000000
theorem PlB.drawn {H : Hp} {a : Addr} {t g : List Int} (h : PlB K H a t g) : Drawn (val t g) := by
  obtain ⟨⟨p, q, h1, h2, h3, t0, t1, g0, g1, pt, sm⟩, g4, bg, bt⟩ := h
  exact ⟨perT_val t0 (dvd12 g0 g4), tail_val t0 g0 fun i hi => ⟨(sm i hi).1, bg i hi⟩, val_nonneg pt t0 g0 sm, val_le t0 g0 (by decide) bt bg⟩
end
section
variable {K : PySem.W.Frag} {C : Addr} {σ : L2.St} {H : Hp} {te : TE} {ta : TA} {f : Nat → Int}
theorem er_of {o : Addr} (h : Ev te σ H (.ref o)) (g : GrF K C H o f) : EvR K C te σ H f := fun H1 e Q q => h H1 e _ fun H2 e2 => q o H2 e2 (g.mono (e.trans e2))
theorem er_const {x : Nat} : EvR K C (tSMeth C (spConst K C) E0 (tC (.ref C)) (tCons (tC (.int (x : Int))) tNil)) σ H (fun _ => (x : Int)) := fun H1 e Q q =>
  ⟨rfl, x, rfl, fun a H3 _ e4 gr => q a H3 e4 gr⟩
theorem gr_updL {o Dl : Addr} {xs : List V} {u : HO} (h : GrF K C H o f) (hD : H Dl = some (.lst xs)) : GrF K C (L2.upd H Dl u) o f := by
  obtain ⟨t, g, ⟨dx, x, y, z, h1, h2, h3, h4, h5⟩, h6⟩ := h
  have tup : ∀ {q : Addr} {ys : List V}, SqT K H q ys → SqT K (L2.upd H Dl u) q ys := fun {q ys} s => by
    rcases s with (s | ⟨w, s⟩) | s
    · exact .inl (.inl (by rw [upd_ne (fun e => by rw [e, hD] at s; cases s)]; exact s))
    · exact .inl (.inr ⟨w, by rw [upd_ne (fun e => by rw [e, hD] at s; cases s)]; exact s⟩)
    · exact .inr s
  exact ⟨t, g, ⟨dx, x, y, z, by rw [upd_ne (fun e => by rw [e, hD] at h1; cases h1)]; exact h1, tup h2, tup h3, tup h4, h5⟩, h6⟩
end
theorem PlB.keep {K : PySem.W.Frag} {H H' : Hp} {p l a : Addr} {cells : List Int} {m : Nat} {t g : List Int} (h : PlB K H a t g) (hP : PenAt H p l cells m) (kp : Keep p H H') : PlB K H' a t g := ⟨Pl.keep hP kp h.1, h.2⟩
theorem yes_i {σ : L2.St} {H : Hp} {A B : Hp → Prop} (h : A H) : tYes σ H (fun b H3 => if b = true then A H3 else B H3) := iteT (A := A H) (B := B H) h
end K06
namespace Gr
theorem lead_le {f f' : Nat → Int} {b L : Nat} {D D' : Int} (h : ∀ n, f n ≤ f' n) (hf : Rnd f b L D) (hf' : Rnd f' b L D') : D ≤ D' := by
  rcases Int.lt_or_le D' D with lt | le
  · have := ord_lead (Or.inr fun n _ => h n) hf hf' lt
    exfalso
    obtain ⟨j, hj⟩ : ∃ j : Nat, f' (b + 1999) - f (b + 1999) < (j : Int) := ⟨(f' (b + 1999) - f (b + 1999)).toNat + 1, by omega⟩
    have a : f (b + 1999 + j * L) - f' (b + 1999 + j * L) = f (b + 1999) - f' (b + 1999) + (j : Int) * (D - D') := (hf.sub hf').many j (b + 1999) (by omega)
    have c := h (b + 1999 + j * L)
    have d : (j : Int) ≤ (j : Int) * (D - D') := by
      have : (j : Int) * 1 ≤ (j : Int) * (D - D') := Int.mul_le_mul_of_nonneg_left (by omega) (by omega)
      rwa [Int.mul_one] at this
    omega
  · exact le
end Gr
namespace K06
open PySem L2 Evl Gr ClX OpX StX OwX
abbrev sGaps : Stmt := top 24
abbrev sLead : Stmt := top 25
abbrev sFirstAb : Stmt := top 26
abbrev sLastAb : Stmt := top 27
section
variable {K : PySem.W.Frag} {σ : L2.St} {H : Hp}
/-- for i, x in enumerate(a list) -/
theorem q_forN {a : Addr} {xs : List V} {ta : TA} {g : TG} {tu tz : TS} {D : Ends} (h : EvA ta σ H [.ref a]) (hx : SqL K H a xs) (Pv : Nat → L2.St → Hp → Prop) (h0 : ∀ H1, Ex H H1 → Pv 0 σ H1) (hl : ∀ i σ' H', i ≤ xs.length → Pv i σ' H' → SqL K H' a xs)
    (hs : ∀ i x σ' H' T, xs[i]? = some x → Pv i σ' H' → H' T = none → g (.ref T) σ' (L2.upd H' T (.tup [.int (i : Nat), x])) fun σ2 H2 => tu { D with nx := Pv (i + 1), ct := Pv (i + 1), bk := tz D } σ2 H2)
    (hd : ∀ σ' H', Pv xs.length σ' H' → tz D σ' H') : tSeq (tFor (iEnum K ta) g tu) tz D σ H :=
  h H (Ex.refl H) _ fun H1 e1 => ⟨a, xs, rfl, ex_l e1 hx, for_it (D := { D with nx := tz D }) walk_enum Pv (h0 H1 e1) hl (fun i v σ' H' H2 hi p y => by
    obtain ⟨T, x, z, rfl, hn, rfl, ex, ez⟩ := y
    obtain rfl := Option.some.inj ex
    exact hs i z σ' H' T ez p hn) hd⟩
theorem q_join {tt tz : TS} {D : Ends} (M : L2.St → Hp → Prop) (k : ∀ σ' H', M σ' H' → tz D σ' H') (h : (∀ σ' H', M σ' H' → tz D σ' H') → tSeq tt tz D σ H) : tSeq tt tz D σ H := h k
end
section
variable {P : Program} {w : World} {K : PySem.W.Frag} {mg : Str → Option Value} {base : Heap}
/-! ### gaps_of -/
/-- two growths, and the numbers that both know -/
structure Two (K : PySem.W.Frag) (C : Addr) (H : Hp) (o u : Addr) (t g t' g' : List Int) (b L : Nat) : Prop where
  one : GrAt K C H o t g
  other : GrAt K C H u t' g'
  hb : b = max t.length t'.length
  hL : L = Nat.lcm g.length g'.length
  few : L ≤ 2000
section
variable {C o u : Addr} {H H' : Hp} {t g t' g' : List Int} {b L : Nat}
theorem Two.mono (e : Ex H H') (h : Two K C H o u t g t' g' b L) : Two K C H' o u t g t' g' b L := ⟨h.one.mono e, h.other.mono e, h.hb, h.hL, h.few⟩
theorem grAt_nf (h : GrAt K C H o t g) : NF t g ∧ t.length ≤ 2000 ∧ g.length ≤ 2000 ∧ Small g := by
  obtain ⟨_, _, _, _, _, _, _, _, nf, a, b, c⟩ := h
  exact ⟨nf, a, b, c⟩
theorem Two.l0 (h : Two K C H o u t g t' g' b L) : 0 < L := h.hL ▸ Nat.lcm_pos (grAt_nf h.one).1.gains (grAt_nf h.other).1.gains
theorem Two.b0 (h : Two K C H o u t g t' g' b L) : 0 < b := by
  have := (grAt_nf h.one).1.told
  have := h.hb
  omega
theorem Two.b1 (h : Two K C H o u t g t' g' b L) : b ≤ 2000 := by
  have := (grAt_nf h.one).2.1
  have := (grAt_nf h.other).2.1
  have := h.hb
  omega
theorem Two.rnd1 (h : Two K C H o u t g t' g' b L) : Rnd (val t g) b L (rate g L) := rnd_val (grAt_nf h.one).1.told (grAt_nf h.one).1.gains (by rw [h.hb]; omega) (h.hL ▸ Nat.dvd_lcm_left _ _)
theorem Two.rnd2 (h : Two K C H o u t g t' g' b L) : Rnd (val t' g') b L (rate g' L) := rnd_val (grAt_nf h.other).1.told (grAt_nf h.other).1.gains (by rw [h.hb]; omega) (h.hL ▸ Nat.dvd_lcm_right _ _)
theorem Two.swap (h : Two K C H o u t g t' g' b L) : Two K C H u o t' g' t g b L := ⟨h.other, h.one, by rw [h.hb, Nat.max_comm], by rw [h.hL, Nat.lcm_comm], h.few⟩
end
def spGaps (K : PySem.W.Frag) (C : Addr) : Sp := fun vs H Q _ => ∃ (o u : Addr) (t g t' g' : List Int) (b L : Nat), vs = [.ref o, .ref u] ∧ Two K C H o u t g t' g' b L ∧
  ∀ p H', H p = none → Ex H H' → H' p = some (.lst (vI (pT (fun n => val t g n - val t' g' n) (b + L)))) → Q (.ref p) H'
abbrev nGaps : List Str := ["one", "other", "many", "left", "right"]
theorem scGaps : FnScope nGaps ["one", "other"] (defScope sGaps) := ⟨rfl, rfl, rfl, by decide +kernel, rfl, by decide +kernel, by decide +kernel⟩
/-- the values of both, side by side -/
theorem el_both {C o u : Addr} {σ : L2.St} {H : Hp} {t g t' g' : List Int} {m i j : Nat} {ta : TA} {te : TE} {f : Nat → Int}
    (ha : ∀ H1, Ex H H1 → ∀ Q : List V → Hp → Prop, (∀ x y H2, Ex H1 H2 → SqL K H2 x (vI (pT (val t g) m)) → SqL K H2 y (vI (pT (val t' g') m)) → Q [.ref x, .ref y] H2) → ta σ H1 Q) (hm : m ≤ 10000)
    (hw : ∀ x y, wipe (((wipe σ [i, j]).set i (some x)).set j (some y)) [i, j] = wipe σ [i, j])
    (he : ∀ n H1, Ex H H1 → n < m → Ev te (((wipe σ [i, j]).set i (some (.int (val t g n)))).set j (some (.int (val t' g' n)))) H1 (.int (f n))) :
    EvL (tLc (iZip K ta) (gTup K 2 (gCons (gName i) (gCons (gName j) gNil))) tYes te [i, j]) σ H (vI (pT f m)) := by
  have c := el_lcZ (K := K) (σ := σ) (H := H) (te := te) (i := i) (j := j) (vs := [i, j]) (ta := ta) (xs := vI (pT (val t g) m)) (ys := vI (pT (val t' g') m)) (fun n => V.int (f n)) ha (by rw [vI_len, vI_len, pT_len, pT_len]) (by rw [vI_len, pT_len]; omega) hw
    (fun n x y H3 e3 hx hy => by
      have hn : n < m := by
        have := (List.getElem?_eq_some_iff.mp hx).1
        rwa [vI_len, pT_len] at this
      rw [vI_get (by rw [pT_len]; exact hn), pT_at hn] at hx hy
      obtain rfl := Option.some.inj hx
      obtain rfl := Option.some.inj hy
      exact he n H3 e3 hn)
  have e4 : (List.range (vI (pT (val t g) m)).length).map (fun n => V.int (f n)) = vI (pT f m) := by
    rw [vI_len, pT_len]
    unfold vI pT
    rw [List.map_map]
    rfl
  rw [e4] at c
  exact c
theorem ok_Gaps {C f : Addr} {fd : FuncData} (F : Fun K "gaps_of" "gaps_of" sGaps f fd) (DV : GlbV mg)
    (LB : Gfn P w K mg base 1 "begin_of_both" ["one", "other"] (spBegin K C)) (LC : Gfn P w K mg base 1 "common_length" ["one", "other"] (spCommon K C)) (LF : Gfn P w K mg base 1 "first_values" ["one", "many"] (spFirst K C)) :
    FnOk P w K mg base CX0 2 f fd ["one", "other"] (spGaps K C) := by
  obtain ⟨fB, fdB, GB, kB, bB, gB⟩ := LB
  obtain ⟨fC, fdC, GC, kC, bC, gC⟩ := LC
  obtain ⟨fF, fdF, GF, kF, bF, gF⟩ := LF
  refine F.ok scGaps (fun vs H Q E h => ?_) (fun cdv A outer s H vs Q E hr h => ?_)
  · obtain ⟨o, u, t, g, t', g', b, L, rfl, _⟩ := h
    rfl
  · obtain ⟨o, u, t, g, t', g', b, L, rfl, hT, k⟩ := h
    refine ⟨_, pss_cons (ps_set (i := 2) scGaps.nd rfl (.inl rfl) (pe_op op_add (pe_call GB hr (by rfl) gB kB bB .nil pass0 (pa_cons (pv 0) (pa_cons (pv 1) pa_nil))) (pe_call GC hr (by rfl) gC kC bC .nil pass0 (pa_cons (pv 0) (pa_cons (pv 1) pa_nil)))))
      (pss_one (ps_ret (pe_lc (own := [("left", 3), ("right", 4)]) (g := gTup K 2 (gCons (gName 3) (gCons (gName 4) gNil))) rfl scGaps.nd
          (pi_zip (by rfl) DV.zip (pa_cons (pe_call GF hr (by rfl) gF kF bF .nil pass0 (pa_cons (pv 0) (pa_cons (pv 2) pa_nil))) (pa_cons (pe_call GF hr (by rfl) gF kF bF .nil pass0 (pa_cons (pv 1) (pa_cons (pv 2) pa_nil))) pa_nil)))
          (blkOk_by (own := [("left", 3), ("right", 4)]) (N := nGaps) (sc := defScope sGaps) (by decide +kernel))
          (fun _ _ _ _ _ => pg_tup rfl (pgs_cons (pg_name (i := 3) scGaps.nd rfl (Or.inl rfl)) (pgs_cons (pg_name (i := 4) scGaps.nd rfl (Or.inl rfl)) pgs_nil))) (fun _ _ _ _ _ => pts_nil) (fun _ _ _ _ _ => pe_op op_sub (pv 3) (pv 4))))), ?_⟩
    have b1 := hT.b1
    have few := hT.few
    refine q_asg (v := .int ((b + L : Nat) : Int)) (ev_is (ev_op (x := .int (b : Int)) (y := .int (L : Int)) (ev_call (ea_cons (ev_var rfl) (ea_cons (ev_var rfl) ea_nil)) (fun H1 e Q q E => ⟨o, u, t, g, t', g', rfl, hT.one.mono e, hT.other.mono e, by rw [← hT.hb]; exact q⟩))
      (ev_call (ea_cons (ev_var rfl) (ea_cons (ev_var rfl) ea_nil)) (fun H1 e Q q E => ⟨o, u, t, g, t', g', rfl, hT.one.mono e, hT.other.mono e, by rw [← hT.hL]; exact hT.few, by rw [← hT.hL]; exact q⟩)) rv_I0) rfl) fun H1 e1 => ?_
    refine s_retL (el_both (K := K) (C := C) (o := o) (u := u) (t := t) (g := g) (t' := t') (g' := g') (m := b + L) (f := fun n => val t g n - val t' g' n)
      (fun H3 e3 Q3 q3 => ⟨_, rfl, _, rfl, o, b + L, t, g, rfl, hT.one.mono (e1.trans e3), by omega, fun x H4 _ e4 hx => ⟨_, rfl, _, rfl, u, b + L, t', g', rfl, hT.other.mono ((e1.trans e3).trans e4), by omega, fun y H5 _ e5 hy => q3 x y H5 (e4.trans e5) (sq_of (e5 _ _ hx)) (sq_of hy)⟩⟩)
      (by omega) (fun _ _ => rfl) (fun n H3 _ _ => ev_op (ev_var rfl) (ev_var rfl) rv_I0)) fun p H2 hp e2 h2 => k p H2 (fresh_back e1 hp) (e1.trans e2) h2
/-! ### lead_of -/
def spLead (K : PySem.W.Frag) (C : Addr) : Sp := fun vs H Q _ => ∃ (o u : Addr) (t g t' g' : List Int) (b L : Nat), vs = [.ref o, .ref u] ∧ Two K C H o u t g t' g' b L ∧ RetV (.int (rate g L - rate g' L)) H Q
theorem scLead : FnScope ["one", "other", "length"] ["one", "other"] (defScope sLead) := ⟨rfl, rfl, rfl, by decide +kernel, rfl, by decide +kernel, by decide +kernel⟩
theorem ok_Lead {C f : Addr} {fd : FuncData} (F : Fun K "lead_of" "lead_of" sLead f fd) (T : GlbS mg) (G : GCls K C) (LC : Gfn P w K mg base 1 "common_length" ["one", "other"] (spCommon K C)) : FnOk P w K mg base CX0 2 f fd ["one", "other"] (spLead K C) := by
  obtain ⟨fC, fdC, GC, kC, bC, gC⟩ := LC
  refine F.ok scLead (fun vs H Q E h => ?_) (fun cdv A outer s H vs Q E hr h => ?_)
  · obtain ⟨o, u, t, g, t', g', b, L, rfl, _⟩ := h
    rfl
  · obtain ⟨o, u, t, g, t', g', b, L, rfl, hT, k⟩ := h
    refine ⟨_, pss_cons (ps_set (i := 2) scLead.nd rfl (.inl rfl) (pe_call GC hr (by rfl) gC kC bC .nil pass0 (pa_cons (pv 0) (pa_cons (pv 1) pa_nil))))
      (pss_one (ps_ret (pe_op op_sub (pe_op op_mul (pe_ix ix_seq (pe_fld (pv 0) rfl) (pe_un un_neg pe_int) (fun _ _ => rfl)) (pe_op op_fdiv (pv 2) (pe_callB call_len_seq (by rfl) T.len PySem.boot_len (pa_cons (pe_fld (pv 0) rfl) pa_nil))))
        (pe_op op_mul (pe_ix ix_seq (pe_fld (pv 1) rfl) (pe_un un_neg pe_int) (fun _ _ => rfl)) (pe_op op_fdiv (pv 2) (pe_callB call_len_seq (by rfl) T.len PySem.boot_len (pa_cons (pe_fld (pv 1) rfl) pa_nil))))))), ?_⟩
    refine q_asg (v := .int (L : Int)) (ev_call (ea_cons (ev_var rfl) (ea_cons (ev_var rfl) ea_nil)) (fun H1 e Q q E => ⟨o, u, t, g, t', g', rfl, hT.one.mono e, hT.other.mono e, by rw [← hT.hL]; exact hT.few, by rw [← hT.hL]; exact q⟩)) fun H1 e1 => ?_
    have few := hT.few
    have half : ∀ {i : Nat} {x : Addr} {tt gg : List Int}, [some (V.ref o), some (.ref u), some (.int (L : Int))][i]? = some (some (.ref x)) → GrAt K C H1 x tt gg →
        Ev (tOp (L2.rI CMul fun i j => .int (i * j)) (tOp (rIx K) (tFld K (tVar i) "rises") (tUn (rU fun i => .int (-i)) (tC (.int 1)))) (tOp (L2.rI CDiv fun i j => .int (i / j)) (tVar 2) (tCB (fun xs H Q => ∃ p ys, xs = [V.ref p] ∧ (SqL K H p ys ∨ SqT K H p ys) ∧ Q (.int ys.length) H) (tCons (tFld K (tVar i) "gains") tNil))))
          [some (.ref o), some (.ref u), some (.int (L : Int))] H1 (.int (rate gg L)) := fun {i x tt gg} h0 hx => by
      obtain ⟨dx, p, q, r, h1, h2, h3, h4, nf, t2, g2, sm⟩ := hx
      have g0 := nf.gains
      have ac := acc_small sm g0 gg.length
      have rl := ris_len (g := gg)
      have div : (L : Int) / (gg.length : Int) = ((L / gg.length : Nat) : Int) := rfl
      have dl : L / gg.length ≤ L := Nat.div_le_self _ _
      have d0 : (0 : Int) ≤ (L : Int) / (gg.length : Int) := Int.ediv_nonneg (by omega) (by omega)
      have d1 : (L : Int) / (gg.length : Int) ≤ 2000 := by rw [div]; omega
      refine ev_op (y := .int ((L / gg.length : Nat) : Int)) (ev_op (ev_fld (ev_var h0) h1 G.cls G.rises rfl) (ev_un ev_c ru_neg) (rv_ix (v := .int (acc (dif gg) gg.length)) (.inr h4) ?_)) (ev_op (ev_var rfl) (ev_lenF (ev_var h0) h1 G.cls G.gains rfl h3) (rv_I ⟨by omega, by omega⟩)) (rv_I (.inr ⟨by omega, by omega⟩))
      have z := atI_vlast (g := ris gg) (by omega)
      rw [ris_at (by omega), show (ris gg).length - 1 = gg.length by omega] at z
      exact z
    exact s_ret (v := .int (rate g L - rate g' L)) (ev_op (half (i := 0) rfl (hT.one.mono e1)) (half (i := 1) rfl (hT.other.mono e1)) rv_I0) fun H2 e2 => k H2 (e1.trans e2)
end
end K06
namespace Gr
/-- the first number at which one is above the other, if there is one -/
def First (f f' : Nat → Int) : Option Nat → Prop
  | none => ∀ n, f n ≤ f' n
  | some n => f' n < f n ∧ ∀ k, k < n → f k ≤ f' k
theorem First.one {f f' : Nat → Int} {a b : Option Nat} (h : First f f' a) (h' : First f f' b) : a = b := by
  cases a with
  | none =>
    cases b with
    | none => rfl
    | some n =>
      have := h n
      have := h'.1
      omega
  | some m =>
    cases b with
    | none =>
      have := h' m
      have := h.1
      omega
    | some n =>
      rcases Nat.lt_trichotomy m n with z | z | z
      · have := h'.2 m z
        have := h.1
        omega
      · rw [z]
      · have := h.2 n z
        have := h'.1
        omega
section
variable {G : Nat → Int} {b L : Nat} {D : Int}
theorem far_form (L0 : 0 < L) {n : Nat} (h : b + L ≤ n) : ∃ i j : Nat, i < L ∧ n = b + i + j * L := by
  refine ⟨(n - b) % L, (n - b) / L, Nat.mod_lt _ L0, ?_⟩
  have := Nat.mod_add_div (n - b) L
  rw [Nat.mul_comm] at this
  omega
theorem above_none (h : ∀ n, n < b + L → G n ≤ 0) (P : Rnd G b L D) (L0 : 0 < L) (hD : D ≤ 0) (n : Nat) : G n ≤ 0 := by
  rcases Nat.lt_or_ge n (b + L) with z | z
  · exact h n z
  · obtain ⟨i, j, hi, rfl⟩ := far_form L0 z
    rw [P.many j (b + i) (by omega)]
    have a := h (b + i) (by omega)
    have c : (j : Int) * D ≤ 0 := by
      have : 0 ≤ (j : Int) * (-D) := Int.mul_nonneg (by omega) (by omega)
      rw [Int.mul_neg] at this
      omega
    omega
theorem above_min (h : ∀ n, n < b + L → G n ≤ 0) (P : Rnd G b L D) (L0 : 0 < L) (hD : 0 < D) {m : Int} (hm : ∃ i : Nat, i < L ∧ m = ((b + i : Nat) : Int) + (-G (b + i) / D + 1) * (L : Int))
    (hall : ∀ i : Nat, i < L → m ≤ ((b + i : Nat) : Int) + (-G (b + i) / D + 1) * (L : Int)) : ∃ n : Nat, m = (n : Int) ∧ 0 < G n ∧ ∀ k, k < n → G k ≤ 0 := by
  obtain ⟨i, hi, em⟩ := hm
  have q0 : 0 ≤ -G (b + i) / D := Int.ediv_nonneg (by have := h (b + i) (by omega); omega) (by omega)
  obtain ⟨q, hq⟩ := Int.eq_ofNat_of_zero_le q0
  have en : m = ((b + i + (q + 1) * L : Nat) : Int) := by
    rw [em, hq, Int.natCast_add (b + i), Int.natCast_mul]
    rfl
  refine ⟨_, en, ?_, fun k hk => ?_⟩
  · rw [P.many (q + 1) (b + i) (by omega)]
    have a : -G (b + i) < (-G (b + i) / D + 1) * D := Int.lt_ediv_add_one_mul_self _ hD
    rw [hq] at a
    have e : ((q + 1 : Nat) : Int) = (q : Int) + 1 := rfl
    rw [e]
    omega
  · rcases Nat.lt_or_ge k (b + L) with z | z
    · exact h k z
    · obtain ⟨a, j, ha, rfl⟩ := far_form L0 z
      rcases Int.lt_or_le 0 (G (b + a + j * L)) with g | g
      · exfalso
        rw [P.many j (b + a) (by omega)] at g
        have j1 : -G (b + a) / D < (j : Int) := (Int.ediv_lt_iff_lt_mul hD).mpr (by omega)
        have c := hall a ha
        rw [en] at c
        have d : (-G (b + a) / D + 1) * (L : Int) ≤ (j : Int) * (L : Int) := Int.mul_le_mul_of_nonneg_right (by omega) (by omega)
        rw [← Int.natCast_mul] at d
        omega
      · exact g
end
section
variable {t g : List Int} {x : Int}
theorem over_zero (t0 : 0 < t.length) (g0 : 0 < g.length) (hg : ∀ i, i < g.length → 0 ≤ at' g i) (ht : ∀ i, i < t.length → at' t i ≤ x) (s : acc (dif g) g.length = 0) : First (val t g) (fun _ => x) none := fun n => by
  rcases Nat.lt_or_ge n t.length with z | z
  · rw [val_lt z]
    exact ht n z
  · obtain ⟨k, rfl⟩ : ∃ k, n = t.length - 1 + k := ⟨n - (t.length - 1), by omega⟩
    rw [val_ge t0]
    show lst t + acc (dif g) k ≤ x
    have a : lst t ≤ x := ht _ (by omega)
    have b := acc_two g0 hg k
    have c : g.sum = 0 := by rw [sum_all, s]
    rw [c, Int.mul_zero, Int.mul_zero] at b
    have d : acc (dif g) k ≤ 0 := by
      rcases Int.lt_or_le 0 (acc (dif g) k) with y | y
      · have : 0 < (g.length : Int) * acc (dif g) k := Int.mul_pos (by omega) y
        omega
      · exact y
    omega
theorem over_some (t0 : 0 < t.length) (g0 : 0 < g.length) (hg : ∀ i, i < g.length → 0 ≤ at' g i) (ht : ∀ i, i < t.length → at' t i ≤ x) (s : 0 < acc (dif g) g.length) {r st : Nat} (hr : (x - lst t) / acc (dif g) g.length = (r : Int))
    (s1 : 1 ≤ st) (h1 : (x - lst t) % acc (dif g) g.length < acc (dif g) st) (h0 : acc (dif g) (st - 1) ≤ (x - lst t) % acc (dif g) g.length) : First (val t g) (fun _ => x) (some (t.length - 1 + (r * g.length + st))) := by
  have e := Int.emod_add_mul_ediv (x - lst t) (acc (dif g) g.length)
  rw [hr, Int.mul_comm] at e
  refine ⟨?_, fun k hk => ?_⟩
  · show x < val t g _
    rw [val_ge t0, acc_mul dif_pd]
    omega
  · show val t g k ≤ x
    rcases Nat.lt_or_ge k t.length with z | z
    · rw [val_lt z]
      exact ht k z
    · obtain ⟨j, rfl⟩ : ∃ j, k = t.length - 1 + j := ⟨k - (t.length - 1), by omega⟩
      rw [val_ge t0]
      have u := acc_up (d := dif g) (fun k => hg _ (Nat.mod_lt _ g0)) j (r * g.length + (st - 1) - j)
      rw [show j + (r * g.length + (st - 1) - j) = r * g.length + (st - 1) by omega, acc_mul dif_pd] at u
      omega
end
end Gr
/-! enumerate over a tuple -/
namespace EnT
open PySem PySem.Spec PyProof.Rows L2
/-- the iterator of a tuple, as it begins -/
abbrev tupIt (t : Addr) : Obj := { cls := .type "tuple_iterator", data := .fields #[.ref t, .int 0 0] }
/-- the enumeration over the iterator at n, as it begins -/
abbrev enuAt (n : Addr) : Obj := { cls := .type "enumerate", data := .fields #[.none, .bool false, .ref n, rawInt 0, .none, .none] }
set_option maxHeartbeats 2000000 in
theorem new_enumT (t : Addr) (its : Array Value) : Meets (Builtin.«enumerate.__new__» ⟨[.type "enumerate", .ref t], []⟩)
    (fun _ R s => s.heap.IsTuple t its ∧ R (.ok (.ret (.ref (s.heap.push (tupIt t)).objs.size))) { s with heap := (s.heap.push (tupIt t)).push (enuAt s.heap.objs.size) }) := Meets.of_wp fun P w A R s hh => by
  rcases s with ⟨hp, gs, ds, tk, sys⟩
  rcases hh with ⟨hT, goal⟩
  have kind := sub_enumerate
  have begin_ : ∀ {B : Around} {E : Value → Shared → Prop} {Q : Value → Shared → Prop}, Q (.ref hp.objs.size) ⟨hp.push (tupIt t), gs, ds, tk, sys⟩ → wpAny (model P w) B (pyIter (.ref t)) Q E ⟨hp, gs, ds, tk, sys⟩ := fun q => wpAny_pyIter_tuple hT q
  wp_walk using begin_
  refine wpAny_stack_any (fun _ => wpAny_pure ?_)
  split
  next c _ _ _ _ _ => cases (c == Value.type "enumerate") <;> (wp_walk using begin_; exact ⟨_, rfl, goal⟩)
  next => (wp_walk using begin_; exact ⟨_, rfl, goal⟩)
theorem call_enumT {P : Program} {w : World} {A : Around} {E : Value → Shared → Prop} {s : Shared} {t : Addr} {its : Array Value} {Q : Value → Shared → Prop} (hT : s.heap.IsTuple t its)
    (k : ∀ h', IsEnum h' (s.heap.objs.size + 1) s.heap.objs.size 0 .none → h'.IsTupleIter s.heap.objs.size t 0 → (∀ b o, s.heap.get? b = some o → h'.get? b = some o) → Q (.ref (s.heap.objs.size + 1)) { s with heap := h' }) :
    wpAny (model P w) A (call (.type "enumerate") [.ref t]) Q E s := by
  have sz : (s.heap.push (tupIt t)).objs.size = s.heap.objs.size + 1 := Heap.size_push ..
  have at1 : ((s.heap.push (tupIt t)).push (enuAt s.heap.objs.size)).get? (s.heap.objs.size + 1) = some (enuAt s.heap.objs.size) := sz ▸ Heap.get?_push_size (s.heap.push (tupIt t)) rfl
  have at0 : ((s.heap.push (tupIt t)).push (enuAt s.heap.objs.size)).get? s.heap.objs.size = some (tupIt t) := Heap.get?_push_of_some _ (Heap.get?_push_size _ rfl)
  refine callType_new F.called_enumerate (by decide) (F.typeCall_enumerate_1 _) (F.newCall_enumerate_1 _) (fun obj => F.args_object_init_2 obj _) F.entry_enumerate_new (new_enumT t its) ⟨hT, ?_⟩
  show _ ∧ _
  rw [sz]
  exact ⟨⟨_, at1, rfl⟩, k _ at1 ⟨_, at0, rfl, rfl⟩ fun b o e => Heap.get?_push_of_some _ (Heap.get?_push_of_some _ e)⟩
/-- the tuple at a, turn by turn: each item with its place, in a new pair -/
def Itn (K : PySem.W.Frag) (a : Addr) : It where
  go i H := ∃ (ys : List V) (y : V), SqT K H a ys ∧ ys[i]? = some y
  yld i H v H' := ∃ T y, v = .ref T ∧ H T = none ∧ H' = upd H T (.tup [.int (i : Nat), y]) ∧ ∀ ys, SqT K H a ys → ys[i]? = some y
  stop i H := ∃ ys : List V, SqT K H a ys ∧ ys.length = i
theorem turn_enumT {P : Program} {w : World} {K : PySem.W.Frag} {elts : List Expr} {kk : Nat} {tpos : Pos} (a e it : Addr) :
    Turn P w K (.Tuple elts kk tpos) (Itn K a) [e, it] e (fun i h => (∃ old, IsEnum h e it ((i : Nat) : Int) old) ∧ h.IsTupleIter it a i) where
  mem := List.mem_cons_self ..
  obj := fun i h ⟨⟨old, he⟩, o, ho, _, hd⟩ b hb => by
    rcases List.mem_cons.mp hb with rfl | hb
    · exact ⟨_, he, fun v q => nomatch q⟩
    · obtain rfl := List.mem_singleton.mp hb
      exact ⟨o, ho, fun v q => by rw [hd] at q; cases q⟩
  keep := fun i h h' ⟨⟨old, he⟩, hi⟩ k => ⟨⟨old, k e (List.mem_cons_self ..) _ he⟩, hi.at fun o q => k it (by simp) o q⟩
  item := by
    rintro X rfl rfl rfl hc i pins s σ H E I hf ⟨⟨old, he⟩, hit⟩ ⟨ys, y, hq, hy⟩
    obtain ⟨its, rv, p, hz⟩ := I.tuple hq
    have ht : s.heap.IsTuple a its.toArray := p
    obtain ⟨u, hu, ru⟩ := rv.get hy
    have len : i < its.length := (List.getElem?_eq_some_iff.mp hu).1
    have ai : a ≠ it := fun z => by
      obtain ⟨o1, g1, c1, _⟩ := ht
      obtain ⟨o2, g2, c2, _⟩ := id hit
      rw [z, g2] at g1
      rw [← Option.some.inj g1, c2] at c1
      exact absurd c1 (by decide)
    have ei : e ≠ it := fun z => by
      obtain ⟨o2, g2, c2, _⟩ := id hit
      have g1 : s.heap.get? e = _ := he
      rw [z, g2] at g1
      rw [Option.some.inj g1] at c2
      exact absurd (show Value.type "enumerate" = Value.type "tuple_iterator" from c2) (by decide)
    have ea : e ≠ a := fun z => by
      obtain ⟨o2, g2, c2, _⟩ := ht
      have g1 : s.heap.get? e = _ := he
      rw [z, g2] at g1
      rw [Option.some.inj g1] at c2
      exact absurd (show Value.type "enumerate" = Value.type "tuple" from c2) (by decide)
    refine wpAny_pyNext_enum_itemD (Draws.tuple (A := X.A.in1) (I.ok.hd hc) it a ai its.toArray) he ⟨hit, ht⟩ (by simpa using len) ei (by simp [ei, ea]) fun x h' tk hx ho hst hT sz1 hk => ?_
    have xu : x = u := by
      have : its[i]? = some x := by simpa using hx
      rw [hu] at this
      exact (Option.some.inj this).symm
    subst xu
    have hel : e < s.heap.objs.size := Heap.lt_size he
    have hil : it < s.heap.objs.size := by obtain ⟨_, q, _⟩ := hit; exact Heap.lt_size q
    refine ⟨_, rfl, wpAny_letOwnedTupleGo_enum (s := { s with heap := h', toks := tk + 1 }) ho fun h2 he2 sb => ?_⟩
    have pair : h2.get? s.heap.objs.size = some { cls := .type "tuple", data := .seq #[.int i tk, x] } := (sb.2 _ (Nat.ne_of_gt hel)).trans hT
    have new : ObjOk X.prog X.w (upd H s.heap.objs.size (.tup [.int (i : Nat), y])) h2 s.heap.objs.size (.tup [.int (i : Nat), y]) :=
      ⟨by show 2 ≤ sizeLine; decide, [.int i tk, x], .cons ⟨_, rfl⟩ (.cons ru .nil), ⟨_, pair, rfl, _, rfl⟩⟩
    have J : Inv X pins σ (upd H s.heap.objs.size (.tup [.int (i : Nat), y])) { s with heap := h2, toks := tk + 1 } :=
      I.turnedNew (ch := [e, it]) (fun b o hb q => (sb.2 b fun z => hb (by simp [z])).trans (hk b o (fun z => hb (by simp [z])) (fun z => hb (by simp [z])) q)) hf (Nat.le_refl _) new
    refine ⟨.ref s.heap.objs.size, _, J, rfl, ⟨_, y, rfl, I.hok.fresh (Nat.le_refl _), rfl, fun zs hz => by rw [I.tuple_inj hz hq]; exact hy⟩, ⟨⟨x, ?_⟩, hst.1.at fun o q => (sb.2 it (Ne.symm ei)).trans q⟩, fun b hb => ?_⟩
    · have e1 : ((i + 1 : Nat) : Int) = (i : Int) + 1 := rfl
      rw [e1]
      exact he2
    · have lt : b < s.heap.objs.size := by
        rcases List.mem_cons.mp hb with rfl | hb
        · exact hel
        · obtain rfl := List.mem_singleton.mp hb
          exact hil
      rw [upd_ne (Nat.ne_of_lt lt)]
      exact (hf b hb).1
  done := by
    rintro X rfl rfl rfl hc i pins s σ H E I hf ⟨⟨old, he⟩, hit⟩ ⟨ys, hq, hy⟩
    obtain ⟨its, rv, p, hz⟩ := I.tuple hq
    have ht : s.heap.IsTuple a its.toArray := p
    have hl := rv.length
    obtain ⟨f0, f1, f2, f3, f4, f5⟩ := hf it (by simp)
    have ai : a ≠ it := fun z => by
      obtain ⟨o1, g1, c1, _⟩ := ht
      obtain ⟨o2, g2, c2, _⟩ := id hit
      rw [z, g2] at g1
      rw [← Option.some.inj g1, c2] at c1
      exact absurd c1 (by decide)
    have hi : its.toArray.size = i := by rw [List.size_toArray]; omega
    exact wpAny_pyNext_enum_endD (Draws.tuple (A := X.A.in1) (I.ok.hd hc) it a ai its.toArray) he (hi.symm ▸ ⟨hit, ht⟩) fun h' eb => ⟨rfl, I.turned (t' := s.toks) (fun b o hb z => eb b o hb z) f0 f1 f3 f4 f5⟩
  self := fun A i s Q E ⟨⟨_, he⟩, _⟩ h => wpAny_pyIter_enum he h
/-- enumerate(a tuple) -/
def iEnumT (K : PySem.W.Frag) (ta : TA) : TI := fun σ H R => ta σ H fun vs H1 => ∃ a ys, vs = [.ref a] ∧ SqT K H1 a ys ∧ R (Itn K a) H1
theorem pi_enumT {X : Cx} {e : Expr} {ta : TA} {p pos tpos : Pos} {elts : List Expr} {kk : Nat} (hg : Gl X "enumerate") (hm : X.mg "enumerate" = none) (ha : PA X [e] ta)
    (one : starEach [e] X.env = [(false, eval e X.env)] := by rfl) : PI X (.Tuple elts kk tpos) (.Call (.Name "enumerate" p) [e] [] pos) (iEnumT X.K ta) := by
  refine ⟨fun pins s σ H R I h => Call_ (ld_blt I hg hm boot_enumerate (PyProof.Rows.callWith_type1 (thn (ha.run pos pins s σ H _ I h) fun us s1 ⟨vs, H1, J, r1, a, ys, ev, hq, q⟩ => ?_) one rfl))⟩
  subst ev
  rcases r1 with _ | ⟨r, r0⟩
  cases r0
  cases r
  obtain ⟨its, rv, at_, hz⟩ := J.tuple hq
  refine call_enumT (its := its.toArray) at_ fun h' he hit hk => wpAny_pyIter_enum he ?_
  refine ⟨s1.heap.objs.size + 1, [s1.heap.objs.size + 1, s1.heap.objs.size], _, _, H1, rfl, J.kept (t' := s1.toks) hk, turn_enumT a _ _, ⟨⟨.none, he⟩, hit⟩, fun b hb => ?_, q⟩
  have le : s1.heap.objs.size ≤ b := by
    rcases List.mem_cons.mp hb with rfl | hb
    · exact Nat.le_succ _
    · exact Nat.le_of_eq (List.mem_singleton.mp hb).symm
  exact J.fpOk le (J.hok.fresh le)
theorem walk_enumT {K : PySem.W.Frag} {a : Addr} {ys : List V} : Walk (Itn K a) ys.length (fun H => SqT K H a ys) (YPair (fun i => some (.int (i : Nat))) (fun i => ys[i]?)) :=
  ⟨fun i _ hi q => ⟨ys, ys[i], q, List.getElem?_eq_getElem hi⟩, fun _ q => ⟨ys, q, rfl⟩, fun i H v H' _ q ⟨T, y, h1, h2, h3, h4⟩ => ⟨T, .int (i : Nat), y, h1, h2, h3, rfl, h4 ys q⟩⟩
end EnT
namespace Gr
theorem pT_mem {f : Nat → Int} {b : Nat} {x : Int} : x ∈ pT f b ↔ ∃ i, i < b ∧ x = f i := by
  unfold pT
  rw [List.mem_map]
  exact ⟨fun ⟨i, hi, e⟩ => ⟨i, List.mem_range.mp hi, e.symm⟩, fun ⟨i, hi, e⟩ => ⟨i, List.mem_range.mpr hi, e.symm⟩⟩
end Gr
namespace K06
open PySem L2 Evl Gr ClX OpX StX OwX
/-- None, or a number -/
def vO : Option Nat → V
  | none => .non
  | some n => .int (n : Int)
section
variable {P : Program} {w : World} {K : PySem.W.Frag} {mg : Str → Option Value} {base : Heap}
/-! ### first_number_above -/
def spFAb (K : PySem.W.Frag) (C : Addr) : Sp := fun vs H Q _ => ∃ (o u : Addr) (t g t' g' : List Int) (b L : Nat), vs = [.ref o, .ref u] ∧ Two K C H o u t g t' g' b L ∧ rate g L - rate g' L < 1073741824 ∧ ∀ r, First (val t g) (val t' g') r → RetV (vO r) H Q
abbrev nFAb : List Str := ["one", "other", "gaps", "at", "gap", "lead", "length"]
theorem scFAb : FnScope nFAb ["one", "other"] (defScope sFirstAb) := ⟨rfl, rfl, rfl, by decide +kernel, rfl, by decide +kernel, by decide +kernel⟩
theorem ok_FAb {C f : Addr} {fd : FuncData} (F : Fun K "first_number_above" "first_number_above" sFirstAb f fd) (T : GlbS mg) (enum_ : mg "enumerate" = none) (min_ : mg "min" = none)
    (LG : Gfn P w K mg base 2 "gaps_of" ["one", "other"] (spGaps K C)) (LL : Gfn P w K mg base 2 "lead_of" ["one", "other"] (spLead K C)) (LC : Gfn P w K mg base 1 "common_length" ["one", "other"] (spCommon K C)) :
    FnOk P w K mg base CX0 3 f fd ["one", "other"] (spFAb K C) := by
  obtain ⟨fG, fdG, GG, kG, bG, gG⟩ := LG
  obtain ⟨fL, fdL, GL, kL, bL, gL⟩ := LL
  obtain ⟨fC, fdC, GC, kC, bC, gC⟩ := LC
  refine F.ok scFAb (fun vs H Q E h => ?_) (fun cdv A outer s H vs Q E hr h => ?_)
  · obtain ⟨o, u, t, g, t', g', b, L, rfl, _⟩ := h
    rfl
  · obtain ⟨o, u, t, g, t', g', b, L, rfl, hT, hfw, k⟩ := h
    have r1 := hr.mono (show 1 ≤ 2 by decide)
    refine ⟨_, pss_cons (ps_set (i := 2) scFAb.nd rfl (.inr rfl) (pe_call GG hr (by rfl) gG kG bG .nil pass0 (pa_cons (pv 0) (pa_cons (pv 1) pa_nil))))
      (pss_cons (ps_for PassesOwn.never rfl (pi_enum (by rfl) enum_ (pa_cons (pv 2) pa_nil)) (pg_tup rfl (pgs_cons (pg_name (i := 3) scFAb.nd rfl (.inl rfl)) (pgs_cons (pg_name (i := 4) scFAb.nd rfl (.inl rfl)) pgs_nil)))
        (pss_one (ps_if (pt_cmpR op_gt (pv 4) pe_int (nomark _)) (pss_one (ps_ret (pv 3))) pss_nil)))
      (pss_cons (ps_set (i := 5) scFAb.nd rfl (.inr rfl) (pe_call GL hr (by rfl) gL kL bL .nil pass0 (pa_cons (pv 0) (pa_cons (pv 1) pa_nil))))
      (pss_cons (ps_if (pt_cmpR op_le (pv 5) pe_int (nomark _)) (pss_one (ps_ret pe_non)) pss_nil)
      (pss_cons (ps_set (i := 6) scFAb.nd rfl (.inr rfl) (pe_call GC r1 (by rfl) gC kC bC .nil pass0 (pa_cons (pv 0) (pa_cons (pv 1) pa_nil))))
      (pss_one (ps_ret (pe_callB (cr_min rfl) (by rfl) min_ (by decide +kernel) (pa_cons (pe_lc (own := [("at", 3)]) (g := gName 3) rfl scFAb.nd (pi_range2 (by rfl) T.range (pa_cons (pe_op op_sub (pe_callB call_len_seq (by rfl) T.len PySem.boot_len (pa_cons (pv 2) pa_nil)) (pv 6)) (pa_cons (pe_callB call_len_seq (by rfl) T.len PySem.boot_len (pa_cons (pv 2) pa_nil)) pa_nil)))
            (blkOk_by (own := [("at", 3)]) (N := nFAb) (sc := defScope sFirstAb) (by decide +kernel))
            (fun _ _ _ _ _ => pg_name (i := 3) scFAb.nd rfl (Or.inl rfl)) (fun _ _ _ _ _ => pts_nil)
            (fun _ _ _ _ _ => pe_op op_add (pv 3) (pe_op op_mul (pe_op op_add (pe_op op_fdiv (pe_un un_neg (pe_ix (show IxR _ (rIxL K) from ix_list) (pv 2) (pv 3) (fun _ _ => rfl))) (pv 5)) pe_int) (pv 6)))) pa_nil)))))))), ?_⟩
    have L0 := hT.l0
    have few := hT.few
    have b1 := hT.b1
    have P : Rnd (fun n => val t g n - val t' g' n) b L (rate g L - rate g' L) := hT.rnd1.sub hT.rnd2
    refine q_call (vs := [.ref o, .ref u]) (ea_cons (ev_var rfl) (ea_cons (ev_var rfl) ea_nil)) fun H1 e1 => ⟨o, u, t, g, t', g', b, L, rfl, hT.mono e1, fun p H2 hp e2 h2 => ?_⟩
    have T2 := hT.mono (e1.trans e2)
    have E2 := e1.trans e2
    show tSeq _ _ _ [some (.ref o), some (.ref u), some (.ref p), none, none, none, none] H2
    refine q_forN (K := K) (a := p) (xs := vI (pT (fun n => val t g n - val t' g' n) (b + L))) (ea_cons (ev_var rfl) ea_nil) (sq_of h2)
      (fun i σ' H' => ∃ (x3 x4 : Option V), σ' = [some (.ref o), some (.ref u), some (.ref p), x3, x4, none, none] ∧ Ex H2 H' ∧ ∀ n, n < i → val t g n - val t' g' n ≤ 0)
      (fun H6 e6 => ⟨none, none, rfl, e6, fun n h => absurd h (Nat.not_lt_zero n)⟩) (fun _ _ H' _ ⟨_, _, _, e, _⟩ => sq_of (e _ _ h2)) ?_ ?_
    · rintro i x σ' H6 Tn hx ⟨x3, x4, rfl, e6, hle⟩ hTn
      have hi : i < b + L := by
        have := (List.getElem?_eq_some_iff.mp hx).1
        rwa [vI_len, pT_len] at this
      rw [vI_get (by rw [pT_len]; exact hi), pT_at hi] at hx
      obtain rfl := Option.some.inj hx
      have e7 := Ex.new (o := .tup [.int (i : Nat), .int (val t g i - val t' g' i)]) hTn
      refine ⟨Tn, [.int (i : Nat), .int (val t g i - val t' g' i)], rfl, st_of upd_same, rfl, _, _, rfl, _, _, rfl, rfl, ?_⟩
      refine s_when (et_test (ev_op (ev_var rfl) ev_c rv_I0)) (fun hb H8 e8 => ?_) (fun hb H8 e8 => ⟨_, _, rfl, (e6.trans e7).trans e8, fun n hn => ?_⟩)
      · have := of_decide_eq_true hb
        exact s_ret (ev_var rfl) fun H9 e9 => k (some i) ⟨by omega, fun n hn => by have := hle n hn; omega⟩ H9 (E2.trans (e6.trans (e7.trans (e8.trans e9))))
      · have := of_decide_eq_false hb
        rcases Nat.lt_or_ge n i with z | z
        · exact hle n z
        · obtain rfl : n = i := by omega
          omega
    · rintro σ' H6 ⟨x3, x4, rfl, e6, hle⟩
      rw [vI_len, pT_len] at hle
      refine q_asg (v := .int (rate g L - rate g' L)) (ev_call (ea_cons (ev_var rfl) (ea_cons (ev_var rfl) ea_nil)) (fun H1 e' Q q E => ⟨o, u, t, g, t', g', b, L, rfl, T2.mono (e6.trans e'), q⟩)) fun H7 e7 => ?_
      refine q_when (et_test (ev_op (ev_var rfl) ev_c rv_I0)) (fun hb H8 e8 => ?_) (fun hb H8 e8 => ?_)
      · have hb' := of_decide_eq_true hb
        exact s_ret ev_c fun H9 e9 => k none (fun n => by have := above_none hle P L0 (by omega) n; omega) H9 (E2.trans (e6.trans (e7.trans (e8.trans e9))))
      · have hb' := of_decide_eq_false hb
        have D0 : 0 < rate g L - rate g' L := by omega
        have E8 := (e6.trans e7).trans e8
        refine q_asg (v := .int (L : Int)) (ev_call (ea_cons (ev_var rfl) (ea_cons (ev_var rfl) ea_nil)) (fun H1 e Q q E => ⟨o, u, t, g, t', g', rfl, T2.one.mono (E8.trans e), T2.other.mono (E8.trans e), by rw [← hT.hL]; exact hT.few, by rw [← hT.hL]; exact q⟩)) fun H9 e9 => ?_
        have E9 := E8.trans e9
        have h9 := E9 _ _ h2
        obtain ⟨D, hD⟩ : ∃ D : Int, D = rate g L - rate g' L := ⟨_, rfl⟩
        rw [← hD] at D0 hfw P ⊢
        show tRet _ _ [some (.ref o), some (.ref u), some (.ref p), x3, x4, some (.int D), some (.int (L : Int))] H9
        have len : Ev (tCB (fun xs H Q => ∃ p ys, xs = [V.ref p] ∧ (SqL K H p ys ∨ SqT K H p ys) ∧ Q (.int ys.length) H) (tCons (tVar 2) tNil)) [some (.ref o), some (.ref u), some (.ref p), x3, x4, some (.int D), some (.int (L : Int))] H9 (.int ((b + L : Nat) : Int)) :=
          ev_is (ev_cb (ea_cons (ev_var rfl) ea_nil) (rc_lenQ (.inl (sq_of h9)))) (by rw [vI_len, pT_len])
        have c1 := el_lcR2 (σ := [some (.ref o), some (.ref u), some (.ref p), x3, x4, some (.int D), some (.int (L : Int))]) (H := H9) (t := tYes) (j := 3) (vs := [3]) (lo := (b : Int)) (n := ((b + L : Nat) : Int))
          (te := tOp (rI0 fun i j => .int (i + j)) (tVar 3) (tOp (L2.rI CMul fun i j => .int (i * j)) (tOp (rI0 fun i j => .int (i + j)) (tOp (L2.rI CDiv fun i j => .int (i / j)) (tUn (rU fun i => .int (-i)) (tOp (rIxL K) (tVar 2) (tVar 3))) (tVar 5)) (tC (.int 1))) (tVar 6)))
          (fun _ => true) (fun i => V.int (((b + i : Nat) : Int) + (-(val t g (b + i) - val t' g' (b + i)) / D + 1) * (L : Int)))
          (ta := tCons (tOp (rI0 fun i j => .int (i - j)) (tCB (fun xs H Q => ∃ p ys, xs = [V.ref p] ∧ (SqL K H p ys ∨ SqT K H p ys) ∧ Q (.int ys.length) H) (tCons (tVar 2) tNil)) (tVar 6)) (tCons (tCB (fun xs H Q => ∃ p ys, xs = [V.ref p] ∧ (SqL K H p ys ∨ SqT K H p ys) ∧ Q (.int ys.length) H) (tCons (tVar 2) tNil)) tNil))
          (ea_cons (ev_is (ev_op len (ev_var rfl) rv_I0) (by congr 1; omega)) (ea_cons len ea_nil)) (by omega) (fun _ => rfl) (fun i H1 e1 hi => et_none) (fun i H1 e1 hi _ => by
            have hi' : i < L := by omega
            have ix := rv_ixL (K := K) (H := H1) (p := p) (xs := vI (pT (fun n => val t g n - val t' g' n) (b + L))) (i := ((b + i : Nat) : Int)) (v := .int (val t g (b + i) - val t' g' (b + i))) (sq_of (e1 _ _ h9)) (by rw [atI_vI (by rw [pT_len]; omega), pT_at (by omega)])
            exact ev_op (ev_var rfl) (ev_op (ev_op (ev_op (ev_un (ev_op (ev_var rfl) (ev_var rfl) ix) ru_neg) (ev_var rfl) (rv_I ⟨D0, hfw⟩)) ev_c rv_I0) (ev_var rfl) (rv_I (.inr ⟨by omega, by omega⟩))) rv_I0)
        rw [given_all, show (((b + L : Nat) : Int) - (b : Int)).toNat = L by omega] at c1
        have c2 : (List.range L).map (fun i : Nat => V.int (((b + i : Nat) : Int) + (-(val t g (b + i) - val t' g' (b + i)) / D + 1) * (L : Int))) = vI (pT (fun i => ((b + i : Nat) : Int) + (-(val t g (b + i) - val t' g' (b + i)) / D + 1) * (L : Int)) L) := by
          unfold vI pT
          rw [List.map_map]
          rfl
        rw [c2] at c1
        show tCB (rMin K) (tCons _ tNil) _ H9 _
        refine cons_i (c1 H9 (Ex.refl H9) _ fun q H10 hq e10 hq10 => ⟨q, _, rfl, sq_of hq10, by rw [pT_len]; exact L0, fun m hm hall => ?_⟩)
        obtain ⟨n, en, pos, before⟩ := above_min (G := fun n => val t g n - val t' g' n) hle P L0 D0 (m := m) (pT_mem.mp hm) (fun i hi => hall _ (pT_mem.mpr ⟨i, hi, rfl⟩))
        rw [en]
        have pos' : 0 < val t g n - val t' g' n := pos
        exact k (some n) ⟨by omega, fun a ha => by have z : val t g a - val t' g' a ≤ 0 := before a ha; omega⟩ H10 (E2.trans (E9.trans e10))
/-! ### Growth.first_above, Growth.at_most -/
/-- two growths whose rises come round together -/
theorem two_of {C o u : Addr} {H : Hp} {t g t' g' : List Int} {f f' : Nat → Int} {l : Nat} (hO : GrAt K C H o t g) (hU : GrAt K C H u t' g') (v : ∀ n, val t g n = f n) (v' : ∀ n, val t' g' n = f' n) (l0 : 0 < l) (l1 : l ≤ 2000) (d : PerT f l) (d' : PerT f' l) :
    Nat.lcm g.length g'.length ∣ l ∧ Two K C H o u t g t' g' (max t.length t'.length) (Nat.lcm g.length g'.length) := by
  have a := Nat.lcm_dvd (nf_dvd (grAt_nf hO).1 v d) (nf_dvd (grAt_nf hU).1 v' d')
  exact ⟨a, hO, hU, rfl, rfl, Nat.le_trans (Nat.le_of_dvd l0 a) l1⟩
/-- what both are -/
structure Cmp (f f' : Nat → Int) : Prop where
  d : PerT f 12
  d' : PerT f' 12
  t : Tail f 10000000
  t' : Tail f' 10000000
def spGFA (K : PySem.W.Frag) (C : Addr) : Sp := fun vs H Q _ => ∃ (o u : Addr) (f f' : Nat → Int), vs = [.ref o, .ref u] ∧ GrF K C H o f ∧ GrF K C H u f' ∧ Cmp f f' ∧ ∀ r, First f f' r → RetV (vO r) H Q
theorem scGFA : FnScope ["self", "other"] ["self", "other"] (defScope (sGr 12)) := ⟨rfl, rfl, rfl, by decide +kernel, rfl, by decide +kernel, by decide +kernel⟩
theorem ok_GFA {C f : Addr} {mc : Value} {fd : FuncData} (F : Fun K "first_above" "Growth.first_above" (sGr 12) f fd) (N : GName K mg C mc) (G : GCls K C) (I : GIsi K C) (TT : GlbT mg)
    (LA' : Gfn P w K mg base 3 "first_number_above" ["one", "other"] (spFAb K C)) : FnOk P w K mg base CX0 4 f fd ["self", "other"] (spGFA K C) := by
  obtain ⟨fA, fdA, GA, kA, bA, gA⟩ := LA'
  refine F.ok scGFA (fun vs H Q E h => ?_) (fun cdv A outer s H vs Q E hr h => ?_)
  · obtain ⟨o, u, f1, f2, rfl, _⟩ := h
    rfl
  · obtain ⟨o, u, f1, f2, rfl, ⟨t, g, hO, p1, v1⟩, ⟨t', g', hU, p2, v2⟩, c, k⟩ := h
    refine ⟨_, pss_cons (ps_if (pt_not (pt_val (pe_callB call_isi (by rfl) TT.inst (by decide +kernel) (pa_cons (pv 1) (pa_cons (pe_glob (v := .ref C) rfl N.g rfl) pa_nil))))) (pss_one ps_no) pss_nil)
      (pss_one (ps_ret (pe_call GA hr (by rfl) gA kA bA .nil pass0 (pa_cons (pv 0) (pa_cons (pv 1) pa_nil))))), ?_⟩
    obtain ⟨lc, T⟩ := two_of hO hU v1 v2 (by decide) (by decide) c.d c.d'
    have e1 : val t g = f1 := funext v1
    have e2 : val t' g' = f2 := funext v2
    have q1 := (grAt_nf hO).1
    have q2 := (grAt_nf hU).1
    have L12 : Nat.lcm g.length g'.length ≤ 12 := Nat.le_of_dvd (by decide) lc
    have w1 := rate_tail q1.told q1.gains (Nat.dvd_lcm_left g.length g'.length) (e1 ▸ c.t)
    have w2 := rate_tail q2.told q2.gains (Nat.dvd_lcm_right g.length g'.length) (e2 ▸ c.t')
    refine q_when (et_not (et_B (ev_isG G I (ev_var rfl) hU))) (fun hb => absurd hb (by decide)) (fun _ H1 e3 => ?_)
    refine ⟨_, rfl, _, rfl, o, u, t, g, t', g', _, _, rfl, T.mono e3, by omega, fun r hr H2 e4 => k r (by rw [← e1, ← e2]; exact hr) H2 (e3.trans e4)⟩
def spGAM (K : PySem.W.Frag) (C : Addr) : Sp := fun vs H Q _ => ∃ (o u : Addr) (f f' : Nat → Int), vs = [.ref o, .ref u] ∧ GrF K C H o f ∧ GrF K C H u f' ∧ Cmp f f' ∧ ∀ r, First f f' r → RetV (.bl r.isNone) H Q
theorem scGAM : FnScope ["self", "other"] ["self", "other"] (defScope (sGr 13)) := ⟨rfl, rfl, rfl, by decide +kernel, rfl, by decide +kernel, by decide +kernel⟩
theorem isN_vO (r : Option Nat) : decide (vO r = V.non) = r.isNone := by
  cases r with
  | none => rfl
  | some n => exact decide_eq_false (fun z => by cases z)
theorem ok_GAM {C f fA : Addr} {fd fdA : FuncData} (F : Fun K "at_most" "Growth.at_most" (sGr 13) f fd) (G : GCls K C) (MA : Meth K C "first_above" fA)
    (GA : FnOk P w K mg base CX0 4 fA fdA ["self", "other"] (spGFA K C)) (bA : Binds K fdA ["self", "other"] []) : FnOk P w K mg base CX0 5 f fd ["self", "other"] (spGAM K C) := by
  refine F.ok scGAM (fun vs H Q E h => ?_) (fun cdv A outer s H vs Q E hr h => ?_)
  · obtain ⟨o, u, f1, f2, rfl, _⟩ := h
    rfl
  · obtain ⟨o, u, f1, f2, rfl, h1, h2, c, k⟩ := h
    obtain ⟨dx, a1, a2, a3, hi⟩ := h1.ins
    refine ⟨_, pss_one (ps_ret (pe_cmp (pc_isN (pe_meth (pv 0) G.cls MA GA hr bA .nil pass0 (pa_cons (pv 1) pa_nil))))), ?_⟩
    refine ⟨_, rfl, o, dx, _, rfl, hi, rfl, _, rfl, o, u, f1, f2, rfl, h1, h2, c, fun r hr H2 e2 => ?_⟩
    have z := k r hr H2 e2
    rw [← isN_vO] at z
    exact z
end
end K06
namespace Gr
/-- whether told values never fall -/
def isR (t : List Int) : Bool := (List.range (t.length - 1)).all fun i => decide (at' t i ≤ at' t (i + 1))
theorem isR_iff {t : List Int} : isR t = true ↔ ∀ i, i + 1 < t.length → at' t i ≤ at' t (i + 1) := by
  unfold isR
  rw [List.all_eq_true]
  exact ⟨fun h i hi => of_decide_eq_true (h i (List.mem_range.mpr (by omega))), fun h i hi => decide_eq_true (h i (by have := List.mem_range.mp hi; omega))⟩
theorem isR_val {t g : List Int} (t0 : 0 < t.length) (g0 : 0 < g.length) (hg : ∀ i, i < g.length → 0 ≤ at' g i) : isR t = true ↔ ∀ n, val t g n ≤ val t g (n + 1) := by
  rw [isR_iff]
  refine ⟨fun h n => ?_, fun h i hi => ?_⟩
  · rcases Nat.lt_or_ge (n + 1) t.length with z | z
    · rw [val_lt z, val_lt (by omega)]
      exact h n z
    · obtain ⟨k, rfl⟩ : ∃ k, n = t.length - 1 + k := ⟨n - (t.length - 1), by omega⟩
      rw [Nat.add_assoc, val_ge t0, val_ge t0]
      have := acc_up (d := dif g) (fun k => hg _ (Nat.mod_lt _ g0)) k 1
      omega
  · have := h i
    rwa [val_lt hi, val_lt (by omega)] at this
theorem isR_one {t g t' g' : List Int} (t0 : 0 < t.length) (g0 : 0 < g.length) (hg : ∀ i, i < g.length → 0 ≤ at' g i) (t0' : 0 < t'.length) (g0' : 0 < g'.length) (hg' : ∀ i, i < g'.length → 0 ≤ at' g' i) (e : ∀ n, val t g n = val t' g' n) : isR t = isR t' := by
  have a := isR_val t0 g0 hg
  have b := isR_val t0' g0' hg'
  rw [Bool.eq_iff_iff, a, b]
  exact ⟨fun h n => by rw [← e, ← e]; exact h n, fun h n => by rw [e, e]; exact h n⟩
/-- in lowest terms -/
def red (s : Int) (l : Nat) : Int × Int := (s / ((Nat.gcd s.natAbs l : Nat) : Int), (l : Int) / ((Nat.gcd s.natAbs l : Nat) : Int))
theorem low_terms {a b c d : Nat} (b0 : 0 < b) (d0 : 0 < d) (h : a * d = c * b) : a / Nat.gcd a b = c / Nat.gcd c d ∧ b / Nat.gcd a b = d / Nat.gcd c d := by
  have g0 : 0 < Nat.gcd a b := Nat.gcd_pos_of_pos_right _ b0
  have k0 : 0 < Nat.gcd c d := Nat.gcd_pos_of_pos_right _ d0
  have e1 : Nat.gcd a b * d = Nat.gcd c d * b := by
    rw [← Nat.gcd_mul_right, ← Nat.gcd_mul_right, h, Nat.mul_comm b d]
  have e2 : Nat.gcd a b * c = Nat.gcd c d * a := by
    rw [← Nat.gcd_mul_right, ← Nat.gcd_mul_right, Nat.mul_comm b c, ← h, Nat.mul_comm c a, Nat.mul_comm d a]
  obtain ⟨a1, ha⟩ := Nat.gcd_dvd_left a b
  obtain ⟨b1, hb⟩ := Nat.gcd_dvd_right a b
  obtain ⟨c1, hc⟩ := Nat.gcd_dvd_left c d
  obtain ⟨d1, hd⟩ := Nat.gcd_dvd_right c d
  generalize Nat.gcd a b = g at *
  generalize Nat.gcd c d = k at *
  subst ha hb hc hd
  rw [Nat.mul_div_cancel_left _ g0, Nat.mul_div_cancel_left _ g0, Nat.mul_div_cancel_left _ k0, Nat.mul_div_cancel_left _ k0]
  refine ⟨?_, ?_⟩
  · rw [← Nat.mul_assoc, ← Nat.mul_assoc, Nat.mul_comm k g] at e2
    exact (Nat.eq_of_mul_eq_mul_left (Nat.mul_pos g0 k0) e2).symm
  · rw [← Nat.mul_assoc, ← Nat.mul_assoc, Nat.mul_comm k g] at e1
    exact (Nat.eq_of_mul_eq_mul_left (Nat.mul_pos g0 k0) e1).symm
theorem red_one {s s' : Int} {l l' : Nat} (s0 : 0 ≤ s) (s0' : 0 ≤ s') (l0 : 0 < l) (l0' : 0 < l') (h : s * (l' : Int) = s' * (l : Int)) : red s l = red s' l' := by
  obtain ⟨a, rfl⟩ := Int.eq_ofNat_of_zero_le s0
  obtain ⟨c, rfl⟩ := Int.eq_ofNat_of_zero_le s0'
  have e : a * l' = c * l := by
    have : ((a * l' : Nat) : Int) = ((c * l : Nat) : Int) := by rw [Int.natCast_mul, Int.natCast_mul]; exact h
    exact Int.ofNat.inj this
  obtain ⟨p, q⟩ := low_terms l0 l0' e
  unfold red
  rw [Int.natAbs_natCast, Int.natAbs_natCast]
  show (((a / _ : Nat) : Int), ((l / _ : Nat) : Int)) = (((c / _ : Nat) : Int), ((l' / _ : Nat) : Int))
  rw [p, q]
theorem sum_one {t g t' g' : List Int} (t0 : 0 < t.length) (g0 : 0 < g.length) (t0' : 0 < t'.length) (g0' : 0 < g'.length) (e : ∀ n, val t g n = val t' g' n) : acc (dif g) g.length * (g'.length : Int) = acc (dif g') g'.length * (g.length : Int) := by
  have a := val_round t0 g0 (L := g.length * g'.length) (Nat.dvd_mul_right ..) (n := t.length + t'.length) (by omega)
  have b := val_round t0' g0' (L := g.length * g'.length) (Nat.dvd_mul_left ..) (n := t.length + t'.length) (by omega)
  rw [e, e] at a
  have c : rate g (g.length * g'.length) = rate g' (g.length * g'.length) := by omega
  unfold rate at c
  rw [Nat.mul_div_cancel_left _ g0, Nat.mul_div_cancel _ g0'] at c
  exact c
end Gr
namespace K06
open PySem L2 Evl Gr ClX OpX StX OwX EnT
abbrev sOver : Stmt := top 28
section
variable {K : PySem.W.Frag} {σ : L2.St} {H : Hp}
/-- for i, x in enumerate(a tuple) -/
theorem q_forNT {a : Addr} {xs : List V} {ta : TA} {g : TG} {tu tz : TS} {D : Ends} (h : EvA ta σ H [.ref a]) (hx : SqT K H a xs) (Pv : Nat → L2.St → Hp → Prop) (h0 : ∀ H1, Ex H H1 → Pv 0 σ H1) (hl : ∀ i σ' H', i ≤ xs.length → Pv i σ' H' → SqT K H' a xs)
    (hs : ∀ i x σ' H' T, xs[i]? = some x → Pv i σ' H' → H' T = none → g (.ref T) σ' (L2.upd H' T (.tup [.int (i : Nat), x])) fun σ2 H2 => tu { D with nx := Pv (i + 1), ct := Pv (i + 1), bk := tz D } σ2 H2)
    (hd : ∀ σ' H', Pv xs.length σ' H' → tz D σ' H') : tSeq (tFor (iEnumT K ta) g tu) tz D σ H :=
  h H (Ex.refl H) _ fun H1 e1 => ⟨a, xs, rfl, ex_t e1 hx, for_it (D := { D with nx := tz D }) walk_enumT Pv (h0 H1 e1) hl (fun i v σ' H' H2 hi p y => by
    obtain ⟨T, x, z, rfl, hn, rfl, ex, ez⟩ := y
    obtain rfl := Option.some.inj ex
    exact hs i z σ' H' T ez p hn) hd⟩
end
section
variable {P : Program} {w : World} {K : PySem.W.Frag} {mg : Str → Option Value} {base : Heap}
/-! ### first_number_over -/
def spFOv (K : PySem.W.Frag) (C : Addr) : Sp := fun vs H Q _ => ∃ (o : Addr) (x : Int) (t g : List Int), vs = [.ref o, .int x] ∧ GrAt K C H o t g ∧ acc (dif g) g.length < 1073741824 ∧ ∀ r, First (val t g) (fun _ => x) r → RetV (vO r) H Q
abbrev nOver : List Str := ["one", "value", "at", "told", "rounds", "rest", "steps"]
theorem scOver : FnScope nOver ["one", "value"] (defScope sOver) := ⟨rfl, rfl, rfl, by decide +kernel, rfl, by decide +kernel, by decide +kernel⟩
theorem ok_FOv {C f : Addr} {fd : FuncData} (F : Fun K "first_number_over" "first_number_over" sOver f fd) (T : GlbS mg) (DV : GlbV mg) (enum_ : mg "enumerate" = none) (G : GCls K C) : FnOk P w K mg base CX0 1 f fd ["one", "value"] (spFOv K C) := by
  refine F.ok scOver (fun vs H Q E h => ?_) (fun cdv A outer s H vs Q E hr h => ?_)
  · obtain ⟨o, x, t, g, rfl, _⟩ := h
    rfl
  · obtain ⟨o, x, t, g, rfl, hO, hS, k⟩ := h
    refine ⟨_, pss_cons (ps_for PassesOwn.never rfl (pi_enumT (by rfl) enum_ (pa_cons (pe_fld (pv 0) rfl) pa_nil)) (pg_tup rfl (pgs_cons (pg_name (i := 2) scOver.nd rfl (.inl rfl)) (pgs_cons (pg_name (i := 3) scOver.nd rfl (.inl rfl)) pgs_nil)))
        (pss_one (ps_if (pt_cmpR op_gt (pv 3) (pv 1) (nomark _)) (pss_one (ps_ret (pv 2))) pss_nil)))
      (pss_cons (ps_if (pt_cmpR op_eq (pe_ix ix_seq (pe_fld (pv 0) rfl) (pe_un un_neg pe_int) (fun _ _ => rfl)) pe_int (nomark _)) (pss_one (ps_ret pe_non)) pss_nil)
      (pss_cons (ps_asg (pe_callB call_divmod (by rfl) DV.divmod (by decide +kernel) (pa_cons (pe_op op_sub (pv 1) (pe_ix ix_seq (pe_fld (pv 0) rfl) (pe_un un_neg pe_int) (fun _ _ => rfl))) (pa_cons (pe_ix ix_seq (pe_fld (pv 0) rfl) (pe_un un_neg pe_int) (fun _ _ => rfl)) pa_nil)))
        (pg_tup rfl (pgs_cons (pg_name (i := 4) scOver.nd rfl (.inl rfl)) (pgs_cons (pg_name (i := 5) scOver.nd rfl (.inl rfl)) pgs_nil))))
      (pss_cons (ps_set (i := 6) scOver.nd rfl (.inl rfl) pe_int)
      (pss_cons (ps_while PassesOwn.never (pt_cmpR op_le (pe_ix ix_seq (pe_fld (pv 0) rfl) (pv 6) (fun _ _ => rfl)) (pv 5) (nomark _)) (pss_one (ps_aug (i := 6) scOver.nd rfl (.inl rfl) pe_int ip_add)))
      (pss_one (ps_ret (pe_op op_add (pe_op op_add (pe_op op_sub (pe_callB call_len_seq (by rfl) T.len PySem.boot_len (pa_cons (pe_fld (pv 0) rfl) pa_nil)) pe_int) (pe_op op_mul (pv 4) (pe_callB call_len_seq (by rfl) T.len PySem.boot_len (pa_cons (pe_fld (pv 0) rfl) pa_nil)))) (pv 6)))))))), ?_⟩
    obtain ⟨dx, p, q, r, h1, h2, h3, h4, nf, t2, g2, sm⟩ := hO
    have t0 := nf.told
    have g0 := nf.gains
    have hg : ∀ i, i < g.length → 0 ≤ at' g i := fun i hi => (sm i hi).1
    have up : ∀ n m : Nat, n ≤ m → acc (dif g) n ≤ acc (dif g) m := fun n m h => by
      have := acc_up (d := dif g) (fun k => hg _ (Nat.mod_lt _ g0)) n (m - n)
      rwa [show n + (m - n) = m by omega] at this
    have rl := ris_len (g := g)
    have fT : ∀ {σ'' : L2.St} {H' : Hp}, Ex H H' → σ''[0]? = some (some (.ref o)) → Ev (tFld K (tVar 0) "told") σ'' H' (.ref p) := fun e h0 => ev_fld (ev_var h0) (e _ _ h1) G.cls G.told rfl
    have fR : ∀ {σ'' : L2.St} {H' : Hp}, Ex H H' → σ''[0]? = some (some (.ref o)) → Ev (tFld K (tVar 0) "rises") σ'' H' (.ref r) := fun e h0 => ev_fld (ev_var h0) (e _ _ h1) G.cls G.rises rfl
    have lstV : ∀ {σ'' : L2.St} {H' : Hp}, Ex H H' → σ''[0]? = some (some (.ref o)) → Ev (tOp (rIx K) (tFld K (tVar 0) "told") (tUn (rU fun i => .int (-i)) (tC (.int 1)))) σ'' H' (.int (lst t)) := fun e h0 => ev_op (fT e h0) (ev_un ev_c ru_neg) (rv_ix (.inr (ex_t e h2)) (atI_vlast t0))
    have sumV : ∀ {σ'' : L2.St} {H' : Hp}, Ex H H' → σ''[0]? = some (some (.ref o)) → Ev (tOp (rIx K) (tFld K (tVar 0) "rises") (tUn (rU fun i => .int (-i)) (tC (.int 1)))) σ'' H' (.int (acc (dif g) g.length)) := fun e h0 => ev_op (fR e h0) (ev_un ev_c ru_neg) (rv_ix (.inr (ex_t e h4)) (by
      have z := atI_vlast (g := ris g) (by omega)
      rw [ris_at (by omega), show (ris g).length - 1 = g.length by omega] at z
      exact z))
    refine q_forNT (K := K) (a := p) (xs := vI t) (ea_cons (fT (Ex.refl H) rfl) ea_nil) h2
      (fun i σ' H' => ∃ (x2 x3 : Option V), σ' = [some (.ref o), some (.int x), x2, x3, none, none, none] ∧ Ex H H' ∧ ∀ n, n < i → at' t n ≤ x)
      (fun H6 e6 => ⟨none, none, rfl, e6, fun n h => absurd h (Nat.not_lt_zero n)⟩) (fun _ _ H' _ ⟨_, _, _, e, _⟩ => ex_t e h2) ?_ ?_
    · rintro i y σ' H6 Tn hx ⟨x2, x3, rfl, e6, hle⟩ hTn
      have hi : i < t.length := by
        have := (List.getElem?_eq_some_iff.mp hx).1
        rwa [vI_len] at this
      rw [vI_get hi] at hx
      obtain rfl := Option.some.inj hx
      have e7 := Ex.new (o := .tup [.int (i : Nat), .int (at' t i)]) hTn
      refine ⟨Tn, [.int (i : Nat), .int (at' t i)], rfl, st_of upd_same, rfl, _, _, rfl, _, _, rfl, rfl, ?_⟩
      refine s_when (et_test (ev_op (ev_var rfl) (ev_var rfl) rv_I0)) (fun hb H8 e8 => ?_) (fun hb H8 e8 => ⟨_, _, rfl, (e6.trans e7).trans e8, fun n hn => ?_⟩)
      · have hb' := of_decide_eq_true hb
        exact s_ret (ev_var rfl) fun H9 e9 => k (some i) ⟨by rw [val_lt hi]; omega, fun n hn => by rw [val_lt (by omega)]; exact hle n hn⟩ H9 (e6.trans (e7.trans (e8.trans e9)))
      · have hb' := of_decide_eq_false hb
        rcases Nat.lt_or_ge n i with z | z
        · exact hle n z
        · obtain rfl : n = i := by omega
          omega
    · rintro σ' H6 ⟨x2, x3, rfl, e6, hle⟩
      rw [vI_len] at hle
      have S0 : 0 ≤ acc (dif g) g.length := up 0 _ (Nat.zero_le _)
      refine q_when (et_test (ev_op (sumV e6 rfl) ev_c (rv_eq rfl))) (fun hb H7 e7 => ?_) (fun hb H7 e7 => ?_)
      · have hb' := V.int.inj (of_decide_eq_true hb)
        exact s_ret ev_c fun H8 e8 => k none (over_zero t0 g0 hg hle hb') H8 (e6.trans (e7.trans e8))
      · have hb' : acc (dif g) g.length ≠ 0 := fun z => by
          rw [z, decide_eq_true rfl] at hb
          cases hb
        have E7 := e6.trans e7
        have Sp : 0 < acc (dif g) g.length := by omega
        refine q_divmod (ea_cons (ev_op (ev_var rfl) (lstV E7 rfl) rv_I0) (ea_cons (sumV E7 rfl) ea_nil)) ⟨Sp, hS⟩ fun H8 e8 => ?_
        have lx : lst t ≤ x := hle _ (by omega)
        obtain ⟨rd, hrd⟩ := Int.eq_ofNat_of_zero_le (show 0 ≤ (x - lst t) / acc (dif g) g.length from Int.ediv_nonneg (by omega) (by omega))
        have re0 : 0 ≤ (x - lst t) % acc (dif g) g.length := Int.emod_nonneg _ hb'
        have re1 : (x - lst t) % acc (dif g) g.length < acc (dif g) g.length := Int.emod_lt_of_pos _ Sp
        rw [hrd]
        obtain ⟨rs, hrs⟩ : ∃ rs : Int, rs = (x - lst t) % acc (dif g) g.length := ⟨_, rfl⟩
        rw [← hrs] at re0 re1 ⊢
        show tSeq _ _ _ [some (.ref o), some (.int x), x2, x3, some (.int (rd : Int)), some (.int rs), none] H8
        refine q_asg (v := .int 1) ev_c fun H9 e9 => ?_
        have E9 := E7.trans (e8.trans e9)
        refine q_while (fun m σ' H' => ∃ st : Nat, m = g.length - st ∧ σ' = [some (.ref o), some (.int x), x2, x3, some (.int (rd : Int)), some (.int rs), some (.int (st : Int))] ∧ Ex H H' ∧ 1 ≤ st ∧ st ≤ g.length ∧ acc (dif g) (st - 1) ≤ rs) (g.length - 1) ⟨1, rfl, rfl, E9, Nat.le_refl 1, g0, re0⟩ ?_
        rintro m σ' H10 ⟨st, rfl, rfl, E10, s1, sl, sb⟩
        refine ⟨_, et_test (ev_op (ev_op (fR E10 rfl) (ev_var rfl) (rv_ix (v := .int (acc (dif g) st)) (.inr (ex_t E10 h4)) (by rw [atI_vI (by omega), ris_at (by omega)]))) (ev_var rfl) rv_I0), fun ht H11 e11 => ?_, fun ht H11 e11 => ?_⟩
        · have ht' := of_decide_eq_true ht
          have sl2 : st < g.length := by
            rcases Nat.lt_or_ge st g.length with z | z
            · exact z
            · have := up g.length st z
              omega
          refine ⟨fun σ' H' => σ' = [some (.ref o), some (.int x), x2, x3, some (.int (rd : Int)), some (.int rs), some (.int ((st + 1 : Nat) : Int))] ∧ Ex H H', fun σ2 H12 h12 => ⟨g.length - (st + 1), by omega, st + 1, rfl, h12.1, h12.2, by omega, by omega, by rw [Nat.add_sub_cancel]; exact ht'⟩, ?_⟩
          exact s_aug rfl ev_c fun H12 e12 => ⟨rfl, (E10.trans e11).trans e12⟩
        · have ht' := of_decide_eq_false ht
          have E11 := E10.trans e11
          have fin := over_some (x := x) t0 g0 hg hle Sp hrd s1 (by rw [← hrs]; omega) (by rw [← hrs]; exact sb)
          have lT := ev_lenF (K := K) (σ := [some (.ref o), some (.int x), x2, x3, some (.int (rd : Int)), some (.int rs), some (.int (st : Int))]) (H := H11) (ta := tVar 0) (ev_var rfl) (E11 _ _ h1) G.cls G.told rfl (ex_t E11 h2)
          have lG := ev_lenF (K := K) (σ := [some (.ref o), some (.int x), x2, x3, some (.int (rd : Int)), some (.int rs), some (.int (st : Int))]) (H := H11) (ta := tVar 0) (ev_var rfl) (E11 _ _ h1) G.cls G.gains rfl (ex_t E11 h3)
          refine s_ret (ev_is (ev_op (ev_op (ev_op lT ev_c rv_I0) (ev_op (ev_var rfl) lG (rv_I (.inr ⟨by omega, by omega⟩))) rv_I0) (ev_var rfl) rv_I0) ?_) fun H12 e12 => k _ fin H12 (E11.trans e12)
          show V.int _ = V.int ((t.length - 1 + (rd * g.length + st) : Nat) : Int)
          rw [Int.natCast_add, Int.natCast_add, Int.natCast_mul]
          congr 1
          omega
/-! ### Growth.first_over -/
def spGFO (K : PySem.W.Frag) (C : Addr) : Sp := fun vs H Q _ => ∃ (o : Addr) (x : Nat) (f : Nat → Int), vs = [.ref o, .int (x : Int)] ∧ GrF K C H o f ∧ (x : Int) ≤ 10 ^ 40 ∧ PerT f 12 ∧ Tail f 10000000 ∧ ∀ r, First f (fun _ => (x : Int)) r → RetV (vO r) H Q
theorem scGFO : FnScope ["self", "value"] ["self", "value"] (defScope (sGr 14)) := ⟨rfl, rfl, rfl, by decide +kernel, rfl, by decide +kernel, by decide +kernel⟩
theorem sum_small {t g : List Int} {f : Nat → Int} (nf : NF t g) (v : ∀ n, val t g n = f n) (p : PerT f 12) (tl : Tail f 10000000) : 0 ≤ acc (dif g) g.length ∧ acc (dif g) g.length ≤ 120000000 := by
  have d := nf_dvd nf v p
  have l12 : g.length ≤ 12 := Nat.le_of_dvd (by decide) d
  have e : val t g = f := funext v
  have a := rate_tail nf.told nf.gains (Nat.dvd_refl g.length) (e ▸ tl)
  unfold rate at a
  rw [Nat.div_self nf.gains, show ((1 : Nat) : Int) = 1 from rfl, Int.mul_one] at a
  omega
theorem ok_GFO {C f fO fW : Addr} {fd fdO fdW : FuncData} (F : Fun K "first_over" "Growth.first_over" (sGr 14) f fd)
    (GW : FnOk P w K mg base CX0 2 fW fdW ["value", "least", "most"] (spWithin K)) (kW : PySem.W.keepIn K (.ref fW) = true) (bW : Binds K fdW ["value", "least", "most"] []) (gW : mg "is_within" = some (.ref fW))
    (GO : FnOk P w K mg base CX0 1 fO fdO ["one", "value"] (spFOv K C)) (kO : PySem.W.keepIn K (.ref fO) = true) (bO : Binds K fdO ["one", "value"] []) (gO : mg "first_number_over" = some (.ref fO)) :
    FnOk P w K mg base CX0 3 f fd ["self", "value"] (spGFO K C) := by
  refine F.ok scGFO (fun vs H Q E h => ?_) (fun cdv A outer s H vs Q E hr h => ?_)
  · obtain ⟨o, n, f1, rfl, _⟩ := h
    rfl
  · obtain ⟨o, n, f1, rfl, ⟨t, g, hO, _, v1⟩, hn, p, tl, k⟩ := h
    refine ⟨_, pss_cons (ps_if (pt_not (pt_val (pe_call GW hr (by rfl) gW kW bW .nil pass0 (pa_cons (pv 1) (pa_cons pe_int (pa_cons (pe_op op_pow pe_int pe_int) pa_nil)))))) (pss_one ps_no) pss_nil)
      (pss_one (ps_ret (pe_call GO (hr.mono (by decide)) (by rfl) gO kO bO .nil pass0 (pa_cons (pv 0) (pa_cons (pv 1) pa_nil))))), ?_⟩
    refine q_when (b := false) (et_is (et_not (et_B (ev_call (z := .bl true) (ea_cons (ev_var rfl) (ea_cons ev_c (ea_cons (ev_op ev_c ev_c (rv_I ⟨by decide, by decide, by decide⟩)) ea_nil))) fun H1 e Q q E => .inl ⟨_, _, _, rfl, ?_⟩))) rfl) (fun hb => absurd hb (by decide)) (fun _ H1 e1 => ?_)
    · have z : (decide ((0 : Int) ≤ (n : Int)) && decide ((n : Int) ≤ (10 : Int) ^ (40 : Int).toNat)) = true := by
        rw [decide_eq_true (by omega : (0 : Int) ≤ (n : Int)), decide_eq_true (show (n : Int) ≤ (10 : Int) ^ (40 : Int).toNat from hn)]
        rfl
      rw [z]
      exact q
    · have sm := sum_small (grAt_nf hO).1 v1 p tl
      have e : val t g = f1 := funext v1
      exact ⟨_, rfl, _, rfl, o, n, t, g, rfl, hO.mono e1, by omega, fun r hr H2 e2 => k r (by rw [← e]; exact hr) H2 (e1.trans e2)⟩
/-! ### Growth.is_rising, Growth.rate -/
def spGRis (K : PySem.W.Frag) (C : Addr) : Sp := fun vs H Q _ => ∃ (o : Addr) (t g : List Int), vs = [.ref o] ∧ GrAt K C H o t g ∧ RetV (.bl (isR t)) H Q
theorem scGRis : FnScope ["self", "at"] ["self"] (defScope (sGr 15)) := ⟨rfl, rfl, rfl, by decide +kernel, rfl, by decide +kernel, by decide +kernel⟩
theorem ok_GRis {C f : Addr} {fd : FuncData} (F : Fun K "is_rising" "Growth.is_rising" (sGr 15) f fd) (T : GlbS mg) (all : mg "all" = none) (G : GCls K C) : FnOk P w K mg base CX0 1 f fd ["self"] (spGRis K C) := by
  refine F.ok scGRis (fun vs H Q E h => ?_) (fun cdv A outer s H vs Q E hr h => ?_)
  · obtain ⟨o, t, g, rfl, _⟩ := h
    rfl
  · obtain ⟨o, t, g, rfl, ⟨dx, p, q, r, h1, h2, h3, h4, nf, t2, g2, sm⟩, k⟩ := h
    refine ⟨_, pss_one (ps_ret (pe_callB (cr_all rfl) (by rfl) all (by decide +kernel) (pa_cons (pe_lc (own := [("at", 1)]) (g := gName 1) rfl scGRis.nd (pi_range2 (by rfl) T.range (pa_cons pe_int (pa_cons (pe_callB call_len_seq (by rfl) T.len PySem.boot_len (pa_cons (pe_fld (pv 0) rfl) pa_nil)) pa_nil)))
        (blkOk_by (own := [("at", 1)]) (N := ["self", "at"]) (sc := defScope (sGr 15)) (by decide +kernel))
        (fun _ _ _ _ _ => pg_name (i := 1) scGRis.nd rfl (Or.inl rfl)) (fun _ _ _ _ _ => pts_nil)
        (fun _ _ _ _ _ => pe_cmpR op_le (pe_ix (show IxR _ (rIx K) from ix_seq) (show PE _ _ (tFld K (tVar 0) "told") from pe_fld (pv 0) rfl) (pe_op op_sub (pv 1) pe_int) (fun _ _ => rfl)) (pe_ix (show IxR _ (rIx K) from ix_seq) (show PE _ _ (tFld K (tVar 0) "told") from pe_fld (pv 0) rfl) (pv 1) (fun _ _ => rfl)) (nomark _))) pa_nil))), ?_⟩
    have fT : ∀ {σ'' : L2.St} {H' : Hp}, Ex H H' → σ''[0]? = some (some (.ref o)) → Ev (tFld K (tVar 0) "told") σ'' H' (.ref p) := fun e h0 => ev_fld (ev_var h0) (e _ _ h1) G.cls G.told rfl
    have lT := ev_lenF (K := K) (σ := [some (.ref o), none]) (H := H) (ta := tVar 0) (ev_var rfl) h1 G.cls G.told rfl h2
    rw [← vI_len] at lT
    have t0 := nf.told
    have c1 := el_lcR2 (σ := [some (.ref o), none]) (H := H) (t := tYes) (j := 1) (vs := [1]) (lo := 1) (n := (t.length : Int))
      (te := tOp (rI0 fun i j => .bl (decide (i ≤ j))) (tOp (rIx K) (tFld K (tVar 0) "told") (tOp (rI0 fun i j => .int (i - j)) (tVar 1) (tC (.int 1)))) (tOp (rIx K) (tFld K (tVar 0) "told") (tVar 1)))
      (fun _ => true) (fun i => V.bl (decide (at' t i ≤ at' t (i + 1))))
      (ta := tCons (tC (.int 1)) (tCons (tCB (fun xs H Q => ∃ p ys, xs = [V.ref p] ∧ (SqL K H p ys ∨ SqT K H p ys) ∧ Q (.int ys.length) H) (tCons (tFld K (tVar 0) "told") tNil)) tNil))
      (ea_cons ev_c (ea_cons (ev_is lT (by rw [vI_len])) ea_nil)) (by omega) (fun _ => rfl) (fun i H1 e1 hi => et_none) (fun i H1 e1 hi _ => by
        have hi' : i + 1 < t.length := by omega
        exact ev_op (ev_op (y := .int (i : Int)) (fT e1 rfl) (ev_is (ev_op (ev_var rfl) ev_c rv_I0) (by congr 1; omega)) (rv_ix (.inr (ex_t e1 h2)) (atI_vI (by omega)))) (ev_op (y := .int ((i + 1 : Nat) : Int)) (fT e1 rfl) (ev_is (ev_var rfl) (by congr 1; omega)) (rv_ix (.inr (ex_t e1 h2)) (atI_vI hi'))) rv_I0)
    rw [given_all, show ((t.length : Int) - 1).toNat = t.length - 1 by omega] at c1
    have c2 : (List.range (t.length - 1)).map (fun i : Nat => V.bl (decide (at' t i ≤ at' t (i + 1)))) = ((List.range (t.length - 1)).map fun i => decide (at' t i ≤ at' t (i + 1))).map V.bl := by
      rw [List.map_map]
      rfl
    rw [c2] at c1
    refine s_ret (ev_is (ev_all c1) ?_) k
    congr 1
    unfold isR
    rw [List.all_map]
    rfl
def spGRate (K : PySem.W.Frag) (C : Addr) : Sp := fun vs H Q _ => ∃ (o : Addr) (t g : List Int), vs = [.ref o] ∧ GrAt K C H o t g ∧ ∀ r H', Ex H H' → SqT K H' r [.int (red (acc (dif g) g.length) g.length).1, .int (red (acc (dif g) g.length) g.length).2] → Q (.ref r) H'
theorem scGRate : FnScope ["self", "common"] ["self"] (defScope (sGr 16)) := ⟨rfl, rfl, rfl, by decide +kernel, rfl, by decide +kernel, by decide +kernel⟩
theorem ok_GRate {C f : Addr} {fd : FuncData} (F : Fun K "rate" "Growth.rate" (sGr 16) f fd) (T : GlbS mg) (gcd : mg "gcd" = some (.builtin "math.gcd")) (G : GCls K C) : FnOk P w K mg base CX0 1 f fd ["self"] (spGRate K C) := by
  refine F.ok scGRate (fun vs H Q E h => ?_) (fun cdv A outer s H vs Q E hr h => ?_)
  · obtain ⟨o, t, g, rfl, _⟩ := h
    rfl
  · obtain ⟨o, t, g, rfl, ⟨dx, p, q, r, h1, h2, h3, h4, nf, t2, g2, sm⟩, k⟩ := h
    refine ⟨_, pss_cons (ps_set (i := 1) scGRate.nd rfl (.inl rfl) (pe_callBfun cr_gcd (by rfl) gcd (pa_cons (pe_ix ix_seq (pe_fld (pv 0) rfl) (pe_un un_neg pe_int) (fun _ _ => rfl)) (pa_cons (pe_callB call_len_seq (by rfl) T.len PySem.boot_len (pa_cons (pe_fld (pv 0) rfl) pa_nil)) pa_nil))))
      (pss_one (ps_ret (pe_tup (pa_cons (pe_op op_fdiv (pe_ix ix_seq (pe_fld (pv 0) rfl) (pe_un un_neg pe_int) (fun _ _ => rfl)) (pv 1)) (pa_cons (pe_op op_fdiv (pe_callB call_len_seq (by rfl) T.len PySem.boot_len (pa_cons (pe_fld (pv 0) rfl) pa_nil)) (pv 1)) pa_nil))))), ?_⟩
    have g0 := nf.gains
    have rl := ris_len (g := g)
    have fR : ∀ {σ'' : L2.St} {H' : Hp}, Ex H H' → σ''[0]? = some (some (.ref o)) → Ev (tFld K (tVar 0) "rises") σ'' H' (.ref r) := fun e h0 => ev_fld (ev_var h0) (e _ _ h1) G.cls G.rises rfl
    have sumV : ∀ {σ'' : L2.St} {H' : Hp}, Ex H H' → σ''[0]? = some (some (.ref o)) → Ev (tOp (rIx K) (tFld K (tVar 0) "rises") (tUn (rU fun i => .int (-i)) (tC (.int 1)))) σ'' H' (.int (acc (dif g) g.length)) := fun e h0 => ev_op (fR e h0) (ev_un ev_c ru_neg) (rv_ix (.inr (ex_t e h4)) (by
      have z := atI_vlast (g := ris g) (by omega)
      rw [ris_at (by omega), show (ris g).length - 1 = g.length by omega] at z
      exact z))
    have lG : ∀ {σ'' : L2.St} {H' : Hp}, Ex H H' → σ''[0]? = some (some (.ref o)) → Ev (tCB (fun xs H Q => ∃ p ys, xs = [V.ref p] ∧ (SqL K H p ys ∨ SqT K H p ys) ∧ Q (.int ys.length) H) (tCons (tFld K (tVar 0) "gains") tNil)) σ'' H' (.int (g.length : Int)) := fun e h0 => ev_lenF (ev_var h0) (e _ _ h1) G.cls G.gains rfl (ex_t e h3)
    obtain ⟨cm, hcm⟩ : ∃ cm : Nat, cm = Nat.gcd (acc (dif g) g.length).natAbs g.length := ⟨_, rfl⟩
    have c0 : 0 < cm := hcm ▸ Nat.gcd_pos_of_pos_right _ g0
    have c1 : cm ≤ g.length := hcm ▸ Nat.le_of_dvd g0 (Nat.gcd_dvd_right _ _)
    refine q_asg (v := .int (cm : Int)) (ev_is (ev_cb (ea_cons (sumV (Ex.refl H) rfl) (ea_cons (lG (Ex.refl H) rfl) ea_nil)) (fun H1 e Q q => ⟨_, _, rfl, q H1 (Ex.refl H1)⟩)) (by rw [Int.natAbs_natCast, ← hcm])) fun H1 e1 => ?_
    refine s_retU (eu_tup (ea_cons (ev_op (sumV e1 rfl) (ev_var rfl) (rv_I ⟨by omega, by omega⟩)) (ea_cons (ev_op (lG e1 rfl) (ev_var rfl) (rv_I ⟨by omega, by omega⟩)) ea_nil)) (by show 2 ≤ 100000; decide)) fun x H2 hx e2 h2' => k x H2 (e1.trans e2) ?_
    unfold red
    rw [← hcm]
    exact st_of h2'
end
end K06
namespace L2
open PySem PySem.Spec PyProof.Rows
/-! ### defs that are called where no repr runs (the law, and what it calls): FnG -/
def Qt (A : Around) : Prop := A.guards = some []
theorem Qt.deeper {A : Around} (h : Qt A) (env : Env) : Qt (A.deeper env) := h
structure FnG (P : Program) (w : World) (K : PySem.W.Frag) (mg : Str → Option Value) (base : Heap) (k : Nat) (f : Addr) (fd : FuncData) (ps : List Str) (sp : Sp) : Prop where
  len : ∀ vs H Q E, sp vs H Q E → vs.length = ps.length
  run : ∀ (A : Around) (outer : List Env) (s : Shared) (H : Hp) (args : Args) (us : List Value) (vs : List V) (Q : VK) (E : XK), Qt A → Room k A → Env0 P w K mg base A outer s H → BindsTo s fd args (ps.zip us) → Vals vs us → sp vs H Q E →
    codeAny (model P w) A (.call (.ref f) args) (CR CX0 outer P w H s Q E) s
/-- a def whose body is walked where no repr runs -/
theorem fnG_of {P : Program} {w : World} {K : PySem.W.Frag} {mg : Str → Option Value} {base : Heap} {k : Nat} {f : Addr} {fd : FuncData} {x qual : Str} {st : Stmt} {N ps : List Str} {sp : Sp} (F : Fun K x qual st f fd) (S : FnScope N ps (defScope st))
    (len : ∀ vs H Q E, sp vs H Q E → vs.length = ps.length)
    (hbody : ∀ (cdv : Value) (A : Around) (outer : List Env) (s : Shared) (H : Hp) (vs : List V) (Q : VK) (E : XK), Qt A → Room k (A.deeper (envOfC qual (defScope st) s.heap.objs.size f cdv)) → sp vs H Q E →
      ∃ t, PSs (cxOf CX0 P w K mg base N qual (defScope st) f cdv A outer s H E).nox (defBody st) t ∧ t { nx := fun _ H' => Q .non H', rt := Q } (start N vs) H) : FnG P w K mg base (k + 1) f fd ps sp := by
  obtain ⟨oc, od, kV, doc, pm, an, cdv, ct, osl, rfl, lk, hcd⟩ := F.ex
  refine ⟨len, fun A outer s H args us vs Q E gd room e0 bound rel hsp => ?_⟩
  obtain ⟨t, ht, hq⟩ := hbody cdv A outer s H vs Q E gd (room.deeper _) hsp
  have many := len _ _ _ _ hsp
  have inK : K.In s.heap := e0.mod.kin.keeps fun b o e => (e0.bs b o e).1
  have free : s.heap.NoLimit := e0.mod.nolimit.keeps fun b o e => (e0.bs b o e).1
  refine codeAny_call_function room.depth (inK _ _ lk) rfl S.co S.gen rfl (PySem.W.codeRec_of inK hcd) (bound _ _ _ _ ?_)
  have kinds : ∀ y ∈ ps.zip us, (defScope st).names.lookup y.1 = some .local ∨ ((defScope st).names.lookup y.1 = some .cell ∧ ((cellsFrom (s.heap.objs.size + 1) (defScope st).names []).lookup y.1).isSome = true) := by
    rintro ⟨n, v⟩ hy
    exact (S.par n (List.of_mem_zip hy).1).imp id fun q => ⟨q, PySem.W.cellsFrom_some _ _ _ (.inl q)⟩
  refine wpAny_newFunctionEnv_cells S.kind kinds fun env he s1 x => ?_
  cases he
  refine ⟨free.keeps x.toInCall.keep, codeAny_func ?_⟩
  refine wpAny_mono (ht.nox.run [] s1 (start N vs) H _ (inv_start S room.hd e0 many rel x) hq) (fun fl s' hs => ?_) fun e s' hs => hs
  cases fl with
  | ret u =>
    obtain ⟨v, σ', H', J, rv, q⟩ := hs
    exact ⟨v, H', J.os, J.bare, J.base, J.hok, rv, q⟩
  | next =>
    obtain ⟨σ', H', J, q⟩ := hs
    exact ⟨V.non, H', J.os, J.bare, J.base, J.hok, rfl, q⟩
  | brk => exact (hs.choose_spec.choose_spec.2).elim
  | cont => exact (hs.choose_spec.choose_spec.2).elim
section
variable {X : Cx} {k : Nat} {f : Addr} {fd : FuncData} {ps : List Str} {sp : Sp} {x : Str} {p pos : Pos} {e : Expr} {es : List Expr} {t : TA}
theorem pe_callG (F : FnG X.prog X.w X.K X.mg X.base k f fd ps sp) (gd : Qt X.A) (hr : Room k X.A) (hg : Gl X x) (hm : X.mg x = some (.ref f)) (hk : PySem.W.keepIn X.K (.ref f) = true) (hb : Binds X.K fd ps [])
    (ha : PA X (e :: es) t) (hdb : (x == ("__debug__" : Str)) = false := by decide) (he : starEach (e :: es) X.env = (false, eval e X.env) :: starEach es X.env := by rfl) (hpl : (backTo pos (starEach es X.env)).any (·.1) = false := by rfl) :
    PE X (.Call (.Name x p) (e :: es) [] pos) (tCall sp [] E0 t) := by
  refine ⟨fun pins s σ H Q I h => ?_⟩
  refine wpAny_Call_Name_kw (ld_glob I hg hm ?_ hdb)
  refine PySem.W.callWith_K (h₀ := X.base) I.ok.mod.kin hk (thn (ha.run pos pins s σ H _ I h) fun us s1 ⟨vs, H1, I1, r, q⟩ => ⟨I1.kIn, ?_⟩) he hpl
  have q0 : sp vs H1 Q E0 := by simpa using q
  have many : us.length = ps.length := r.length.symm.trans (F.len _ _ _ _ q0)
  have bd : BindsTo s1 fd ⟨us, []⟩ (ps.zip us) := by simpa using hb s1 us I1.kIn (by simpa using many)
  show wpAny _ _ (call (.ref f) us) _ _ _
  refine wpAny_call (codeAny_mono (F.run X.A X.stack s1 H1 ⟨us, []⟩ us vs Q E0 gd hr I1.env0 bd r q0) fun res s' hq => ?_)
  cases res with
  | error er => exact (show False from hq).elim
  | ok fl =>
    cases fl with
    | next => exact False.elim hq
    | brk => exact False.elim hq
    | cont => exact False.elim hq
    | ret u => exact I1.after hq
end

/-! ### repr of data -/
mutual
inductive Ds (K : PySem.W.Frag) (H : Hp) : V → PyData → Prop
  | non : Ds K H .non .none
  | bl (b : Bool) : Ds K H (.bl b) (.bool b)
  | int (i : Int) : Ds K H (.int i) (.int i)
  | str (x : Str) : Ds K H (.str x) (.str x)
  | lst {a : Addr} {xs : List V} {ds : List PyData} : SqL K H a xs → a ≠ sysModules → DsAll K H xs ds → Ds K H (.ref a) (.list ds)
  | tup {a : Addr} {xs : List V} {ds : List PyData} : SqT K H a xs → DsAll K H xs ds → Ds K H (.ref a) (.tuple ds)
  | one {a : Addr} {x : Str} {i : Int} : H a = some (.dK [(.inr x, .int i)]) → Ds K H (.ref a) (.dict [(.str x, .int i)])
inductive DsAll (K : PySem.W.Frag) (H : Hp) : List V → List PyData → Prop
  | nil : DsAll K H [] []
  | cons {v : V} {vs : List V} {d : PyData} {ds : List PyData} : Ds K H v d → DsAll K H vs ds → DsAll K H (v :: vs) (d :: ds)
end
section
variable {X : Cx} {pins : List (Addr × Obj)} {σ : St} {H : Hp} {s : Shared}
theorem pairs_one {P : Program} {w : World} {x : Str} {i : Int} {es : List DictEntry} {vs : List (Key × Value)} (hp : Pairs (mixKind P w) es vs) (kv : KV [((Sum.inr x : Key), V.int i)] vs) (h : Heap) :
    ReadsAll h (es.map (·.key)) [.str x] [] ∧ ReadsAll h (es.map (·.val)) [.int i] [] := by
  cases kv with
  | cons k1 k2 =>
    cases k2
    rename_i q
    obtain ⟨k, u⟩ := q
    obtain ⟨e1, e2⟩ := k1
    simp only at e1 e2
    subst e1
    obtain ⟨t, rfl⟩ := e2
    cases hp with
    | cons i1 i2 i3 =>
      rename_i e es'
      cases i3
      rcases keyIs_shape (show keyIs (Sum.inr x) e.key = true from i1) with ⟨j, t', e3, e4⟩ | ⟨y, t', e3, e4⟩
      · cases e3
      · cases e3
        rw [List.map_cons, List.map_nil, e4, List.map_cons, List.map_nil, i2]
        exact ⟨ReadsAll.cons (as := []) (bs := []) (Reads.str x t') ReadsAll.nil, ReadsAll.cons (as := []) (bs := []) (Reads.int i t) ReadsAll.nil⟩
mutual
theorem Ds.reads (I : Inv X pins σ H s) : ∀ (d : PyData) (v : V) (u : Value), Ds X.K H v d → RelV v u → ∃ as, Reads s.heap u d as ∧ sysModules ∉ as
  | .none, _, _, h, r => by
    cases h
    cases r
    exact ⟨_, Reads.none, by simp⟩
  | .bool b, _, _, h, r => by
    cases h
    cases r
    exact ⟨_, Reads.bool b, by simp⟩
  | .int i, _, _, h, r => by
    cases h
    obtain ⟨t, rfl⟩ := r
    exact ⟨_, Reads.int i t, by simp⟩
  | .str x, _, _, h, r => by
    cases h
    obtain ⟨t, rfl⟩ := r
    exact ⟨_, Reads.str x t, by simp⟩
  | .list ds, _, _, h, r => by
    cases h with
    | lst hs hne ha =>
      cases r
      obtain ⟨its, rv, ⟨o, n, ho, hc, _, hd⟩, _⟩ := I.list hs
      obtain ⟨as, hr, hq⟩ := Ds.readsAll I ds _ its ha rv
      exact ⟨_, Reads.list ho hc hd hr, by simp only [List.mem_cons, not_or]; exact ⟨Ne.symm hne, hq⟩⟩
  | .tuple ds, _, _, h, r => by
    cases h with
    | tup hs ha =>
      cases r
      obtain ⟨its, rv, ⟨o, ho, hc, n, hd⟩, _⟩ := I.tuple hs
      obtain ⟨as, hr, hq⟩ := Ds.readsAll I ds _ its ha rv
      exact ⟨_, Reads.tuple ho hc hd hr, hq⟩
  | .dict _, _, _, h, r => by
    cases h with
    | @one a x i h =>
      cases r
      obtain ⟨_, ns, vs, kv, o, es, ep, ho, hx, hd, _, hp, _⟩ := (show ObjOk X.prog X.w H s.heap a (.dK [(.inr x, .int i)]) from I.hok a _ h)
      obtain ⟨r1, r2⟩ := pairs_one hp kv s.heap
      exact ⟨_, Reads.dict ho hx.1 hd r1 r2, by
        simp only [List.append_nil, List.mem_cons, List.not_mem_nil, or_false]
        exact fun z => absurd (beq_iff_eq.mpr z.symm) (by rw [ns]; decide)⟩
theorem Ds.readsAll (I : Inv X pins σ H s) : ∀ (ds : List PyData) (vs : List V) (us : List Value), DsAll X.K H vs ds → Vals vs us → ∃ as, ReadsAll s.heap us ds as ∧ sysModules ∉ as
  | [], _, _, h, r => by
    cases h
    cases r
    exact ⟨_, ReadsAll.nil, by simp⟩
  | d :: ds, _, _, h, r => by
    cases h with
    | cons h1 h2 =>
      cases r with
      | cons r1 r2 =>
        obtain ⟨as, q1, n1⟩ := Ds.reads I d _ _ h1 r1
        obtain ⟨bs, q2, n2⟩ := Ds.readsAll I ds _ _ h2 r2
        exact ⟨_, ReadsAll.cons q1 q2, by rw [List.mem_append]; exact fun z => z.elim n1 n2⟩
end
end
/-- repr(x), x such data -/
def rRepr (K : PySem.W.Frag) : List V → Hp → VK → Prop := fun xs H Q => ∃ (x : V) (d : PyData), xs = [x] ∧ Ds K H x d ∧ d.showable = true ∧ d.depth ≤ 60 ∧ d.shown.length ≤ sizeLine ∧ Q (.str d.shown) H
theorem call_reprD {X : Cx} (gd : Qt X.A) (hu : X.A.units + 64 < cLine) : CallR X (.builtin "repr") (rRepr X.K) := by
  intro pins s σ H xs us Q I r h
  obtain ⟨x, d, rfl, hd, sh, dp, sz, q⟩ := h
  obtain ⟨u, rfl, ru⟩ := vals1 r
  obtain ⟨as, rd, ns⟩ := Ds.reads I d x u hd ru
  cases rd with
  | none => exact PySem.P.repr_of_none ⟨.str _, H, I.tok _, ⟨_, rfl⟩, q⟩
  | bool b => exact PySem.P.repr_of_bool ⟨.str _, H, I.tok _, ⟨_, rfl⟩, q⟩
  | int i t => exact PySem.P.repr_of_int (of_decide_eq_true sh) ⟨.str _, H, I.tok _, ⟨_, rfl⟩, q⟩
  | str z t => exact PySem.P.repr_of_str ⟨.str _, H, I.tok _, ⟨_, rfl⟩, q⟩ sz
  | list h1 h2 h3 h4 => exact repr_of_reads' (Reads.list h1 h2 h3 h4) sh (fun _ => ns) gd (by omega) (fun _ _ z => z) (fun h' u tk k => ⟨.str _, H, I.kept k, ⟨_, rfl⟩, q⟩) sz
  | tuple h1 h2 h3 h4 => exact repr_of_reads' (Reads.tuple h1 h2 h3 h4) sh (fun _ => ns) gd (by omega) (fun _ _ z => z) (fun h' u tk k => ⟨.str _, H, I.kept k, ⟨_, rfl⟩, q⟩) sz
  | dict h1 h2 h3 h4 h5 => exact repr_of_reads' (Reads.dict h1 h2 h3 h4 h5) sh (fun _ => ns) gd (by omega) (fun _ _ z => z) (fun h' u tk k => ⟨.str _, H, I.kept k, ⟨_, rfl⟩, q⟩) sz
/-- a list display, whose place is known not to be the table of modules -/
def tLstS (t : TA) : TE := fun σ H Q => t σ H fun xs H1 => xs.length ≤ sizeLine ∧ ∀ l, H1 l = none → l ≠ sysModules → Q (.ref l) (upd H1 l (.lst xs))
theorem pe_lstS {X : Cx} {es : List Expr} {t : TA} {pos : Pos} (h : PA X es t) : PE X (.List es pos) (tLstS t) := by
  refine ⟨fun pins s σ H Q I hq => ?_⟩
  refine wpAny_List_spliced (thn (h.run pos pins s σ H _ I hq) fun us s1 ⟨xs, H1, I1, r, z, q⟩ => ⟨by rw [← r.length]; exact z, ?_⟩)
  have far : s1.heap.objs.size ≠ sysModules := by
    have z1 : (3 : Nat) < X.base.objs.size := I1.mod.glob.lt
    have z2 := I1.ok.bsz
    have z3 := I1.sz
    show s1.heap.objs.size ≠ 1
    omega
  exact ⟨.ref s1.heap.objs.size, _, I1.laid (t' := s1.toks) (o := .lst xs) (fun b u e => Heap.get?_push_of_some _ e) (Nat.le_refl _) ⟨z, us, 0, r, Heap.get?_push_size _ rfl⟩, rfl, q _ (I1.hok.fresh (Nat.le_refl _)) far⟩
end L2
namespace Gr
/-- the numbers below n of which something holds -/
def which (n : Nat) (p : Nat → Bool) : List Nat := (List.range n).filter p
theorem which_nil {n : Nat} {p : Nat → Bool} : which n p = [] ↔ ∀ k, k < n → p k = false := by
  unfold which
  rw [List.filter_eq_nil_iff]
  exact ⟨fun h k hk => by have := h k (List.mem_range.mpr hk); cases z : p k; rfl; exact absurd z this, fun h k hk z => by rw [h k (List.mem_range.mp hk)] at z; cases z⟩
theorem which_first {n : Nat} {p : Nat → Bool} {m : Nat} (hm : m < n) (hp : p m = true) (h : ∀ k, k < m → p k = false) : ∃ r, which n p = m :: r := by
  obtain ⟨d, rfl⟩ : ∃ d, n = m + (d + 1) := ⟨n - m - 1, by omega⟩
  unfold which
  rw [List.range_add, List.filter_append]
  have z : (List.range m).filter p = [] := which_nil.mpr h
  rw [z, List.nil_append, List.range_succ_eq_map, List.map_cons, List.filter_cons, if_pos (by rw [Nat.add_zero]; exact hp)]
  exact ⟨_, rfl⟩
end Gr
namespace K06
open PySem L2 Evl Gr ClX OpX StX OwX EnT
abbrev sShared : Stmt := top 44
abbrev sTR : Stmt := top 45
section
variable {K : PySem.W.Frag} {σ : L2.St} {H : Hp} {ta tb : TE}
theorem s_par {i j : Nat} {t : TA} {D : Ends} (h : t σ H fun vs H1 => ∃ u v, vs = [u, v] ∧ D.nx ((σ.set i (some u)).set j (some v)) H1) : tPar i j t D σ H := h
theorem eqv_lists (xs ys : List Int) : PyData.eqv (.list (xs.map PyData.int)) (.list (ys.map PyData.int)) = decide (xs = ys) := by
  have := eqv_ints xs ys
  simpa [PyData.eqv] using this
/-- a list of ints beside one -/
theorem ev_eqP {p : Addr} {xs ys : List Int} (ha : Ev ta σ H (.ref p)) (hp : SqL K H p (vI xs)) (hb : EvL tb σ H (vI ys)) : Ev (tOp (rEqD K) ta tb) σ H (.bl (decide (xs = ys))) := fun H1 e Q q =>
  ha H1 e _ fun H2 e2 => hb H2 (e.trans e2) _ fun r H3 _ e3 hr => ⟨.list (xs.map PyData.int), .list (ys.map PyData.int), .lst (ex_l (e.trans (e2.trans e3)) hp) (dpAll_ints xs), .lst (sq_of hr) (dpAll_ints ys), shaped_ints xs, shaped_ints ys, by rw [eqv_lists]; exact q H3 (e2.trans e3)⟩
theorem ev_neP {p : Addr} {xs ys : List Int} (ha : Ev ta σ H (.ref p)) (hp : SqL K H p (vI xs)) (hb : EvL tb σ H (vI ys)) : Ev (tOp (rNeD K) ta tb) σ H (.bl (!decide (xs = ys))) := fun H1 e Q q =>
  ha H1 e _ fun H2 e2 => hb H2 (e.trans e2) _ fun r H3 _ e3 hr => ⟨.list (xs.map PyData.int), .list (ys.map PyData.int), .lst (ex_l (e.trans (e2.trans e3)) hp) (dpAll_ints xs), .lst (sq_of hr) (dpAll_ints ys), shaped_ints xs, shaped_ints ys, by rw [eqv_lists]; exact q H3 (e2.trans e3)⟩
theorem ev_eqL {xs ys : List Int} (ha : EvL ta σ H (vI xs)) (hb : EvL tb σ H (vI ys)) : Ev (tOp (rEqD K) ta tb) σ H (.bl (decide (xs = ys))) := fun H1 e Q q =>
  ha H1 e _ fun p H2 _ e2 hp => hb H2 (e.trans e2) _ fun r H3 _ e3 hr => ⟨.list (xs.map PyData.int), .list (ys.map PyData.int), .lst (sq_of (e3 _ _ hp)) (dpAll_ints xs), .lst (sq_of hr) (dpAll_ints ys), shaped_ints xs, shaped_ints ys, by rw [eqv_lists]; exact q H3 (e2.trans e3)⟩
theorem ev_neL {xs ys : List Int} (ha : EvL ta σ H (vI xs)) (hb : EvL tb σ H (vI ys)) : Ev (tOp (rNeD K) ta tb) σ H (.bl (!decide (xs = ys))) := fun H1 e Q q =>
  ha H1 e _ fun p H2 _ e2 hp => hb H2 (e.trans e2) _ fun r H3 _ e3 hr => ⟨.list (xs.map PyData.int), .list (ys.map PyData.int), .lst (sq_of (e3 _ _ hp)) (dpAll_ints xs), .lst (sq_of hr) (dpAll_ints ys), shaped_ints xs, shaped_ints ys, by rw [eqv_lists]; exact q H3 (e2.trans e3)⟩
theorem el_nil : EvL (tLst tNil) σ H (vI []) := el_lst ea_nil (by decide)
/-- [j for j in range(n) if ..] -/
theorem el_which {t : TT} {j n : Nat} {p : Nat → Bool} {tn : TA} (hn : EvA tn σ H [.int (n : Int)]) (h4 : n ≤ 40000) (hw : ∀ x, wipe ((wipe σ [j]).set j (some x)) [j] = wipe σ [j]) (hj : ∀ x, ((wipe σ [j]).set j (some x))[j]? = some (some x))
    (ht : ∀ (i : Nat) H1, Ex H H1 → i < n → EvT t ((wipe σ [j]).set j (some (.int (i : Int)))) H1 (p i)) : EvL (tLc (iRng1 tn) (gName j) t (tVar j) [j]) σ H (vI ((which n p).map Int.ofNat)) := by
  have c := el_lcR1 (σ := σ) (H := H) (t := t) (te := tVar j) (j := j) (vs := [j]) p (fun i => V.int (i : Int)) hn (by omega) hw (fun i H1 e hi => ht i H1 e (by omega)) (fun i H1 e hi _ => ev_var (hj _))
  have e : given ((n : Int)).toNat p (fun i => V.int (i : Int)) = vI ((which n p).map Int.ofNat) := by
    unfold given which vI
    rw [List.map_map]
    rfl
  rw [e] at c
  exact c
/-- [j for j in range(a, b) if ..], of which none holds -/
theorem el_none2 {t : TT} {j : Nat} {lo n : Int} {tn : TA} (hn : EvA tn σ H [.int lo, .int n]) (h1 : -(2 ^ 62) ≤ lo ∧ lo < 2 ^ 62) (h2 : -(2 ^ 62) ≤ n ∧ n < 2 ^ 62) (h4 : n - lo ≤ 40000) (hw : ∀ x, wipe ((wipe σ [j]).set j (some x)) [j] = wipe σ [j])
    (ht : ∀ (i : Nat) H1, Ex H H1 → lo + (i : Int) < n → EvT t ((wipe σ [j]).set j (some (.int (lo + (i : Int))))) H1 false) : EvL (tLc (iRng2 tn) (gName j) t (tVar j) [j]) σ H (vI []) := fun H0 e Q q => hn H0 e _ fun H1 e1 => ⟨lo, n, rfl, ⟨by omega, by omega, by omega, by omega⟩, fun Dl hD =>
  lc_range (lo := lo) (n := (n - lo).toNat) (Cw H1 (fun _ => false) (fun _ => .non) Dl) ⟨hD, Ex.new hD, upd_same⟩ (fun i H' hi p =>
    ⟨hw _, cw_turn p (by omega) (ht i H1 (e.trans e1) (by omega)) (fun hf => by cases hf)⟩) (fun H' p => q Dl H' (fresh_back e1 p.1) (e1.trans p.2.1) (by
      have z := p.2.2
      have y : given (n - lo).toNat (fun _ => false) (fun _ => V.non) = vI [] := by
        unfold given
        have f : ∀ l : List Nat, l.filter (fun _ => false) = [] := fun l => by induction l with | nil => rfl | cons a l ih => exact ih
        rw [f]
        rfl
      rwa [y] at z))⟩
/-- [j for j in a list if ..], of which none holds -/
theorem el_noneL {t : TT} {j : Nat} {p : Addr} {xs : List V} {tl : TE} (hl : Ev tl σ H (.ref p)) (hx : SqL K H p xs) (h4 : xs.length ≤ 40000) (hw : ∀ x, wipe ((wipe σ [j]).set j (some x)) [j] = wipe σ [j])
    (ht : ∀ (i : Nat) (x : V) H1, Ex H H1 → xs[i]? = some x → EvT t ((wipe σ [j]).set j (some x)) H1 false) : EvL (tLc (iList K tl) (gName j) t (tVar j) [j]) σ H (vI []) := by
  have c := el_lcL (K := K) (σ := σ) (H := H) (t := t) (te := tVar j) (j := j) (vs := [j]) (fun _ => false) (fun _ => V.non) hl hx h4 hw ht (fun i x H1 e hi hf => by cases hf)
  have y : given xs.length (fun _ => false) (fun _ => V.non) = vI [] := by
    unfold given
    have f : ∀ l : List Nat, l.filter (fun _ => false) = [] := fun l => by induction l with | nil => rfl | cons a l ih => exact ih
    rw [f]
    rfl
  rw [y] at c
  exact c
theorem ev_isN {x : V} (ha : Ev ta σ H x) : Ev (tIsN ta) σ H (.bl (decide (x = .non))) := fun H1 e Q q => ha H1 e _ fun H2 e2 => q H2 e2
end
section
variable {P : Program} {w : World} {K : PySem.W.Frag} {mg : Str → Option Value} {base : Heap}
/-! ### _law_shared -/
def spShared : Sp := fun vs H Q _ => ∃ a b : Nat, vs = [.int (a : Int), .int (b : Int)] ∧ RetV (.int ((Nat.gcd a b : Nat) : Int)) H Q
theorem scShared : FnScope ["_law_one", "_law_other"] ["_law_one", "_law_other"] (defScope sShared) := ⟨rfl, rfl, rfl, by decide +kernel, rfl, by decide +kernel, by decide +kernel⟩
theorem ok_Shared {f : Addr} {fd : FuncData} (F : Fun K "_law_shared" "_law_shared" sShared f fd) (T : Glb mg) : FnOk P w K mg base CX0 1 f fd ["_law_one", "_law_other"] spShared := by
  refine F.ok scShared (fun vs H Q E h => ?_) (fun cdv A outer s H vs Q E hr h => ?_)
  · obtain ⟨a, b, rfl, _⟩ := h
    rfl
  · obtain ⟨a, b, rfl, k⟩ := h
    refine ⟨_, pss_cons (ps_while PassesOwn.never (pt_cmpR op_gt (pv 1) pe_int (nomark _)) (pss_one (ps_par (i := 0) (j := 1) rfl scShared.nd rfl rfl (by decide) (by rfl) (by rfl)
        (pa_cons (pv 1) (pa_cons (pe_op op_mod (pe_callTy call_int1 (by rfl) T.int (by decide +kernel) (pa_cons (pv 0) pa_nil)) (pv 1)) pa_nil)) (by rfl))))
      (pss_one (ps_ret (pv 0))), ?_⟩
    refine q_while (fun m σ' H' => ∃ x : Nat, σ' = [some (.int (x : Int)), some (.int (m : Int))] ∧ Ex H H' ∧ Nat.gcd x m = Nat.gcd a b) b ⟨a, rfl, Ex.refl H, rfl⟩ ?_
    rintro m σ' H1 ⟨x, rfl, e1, hg⟩
    refine ⟨_, et_test (ev_op (ev_var rfl) ev_c rv_I0), fun ht H2 e2 => ?_, fun ht H2 e2 => ?_⟩
    · have m0 : 0 < m := by have := of_decide_eq_true ht; omega
      refine ⟨fun σ' H' => σ' = [some (.int (m : Int)), some (.int ((x % m : Nat) : Int))] ∧ Ex H H', fun σ2 H3 h3 => ⟨x % m, Nat.mod_lt _ m0, m, h3.1, h3.2, by rw [← hg, Nat.gcd_comm x m, Nat.gcd_rec m x, Nat.gcd_comm]⟩, ?_⟩
      have ev : Ev (tOp (rI (fun _ j => 0 < j) fun i j => .int (i % j)) (tCB (fun xs H Q => (∃ i, xs = [V.int i] ∧ Q (.int i) H) ∨ ∃ k, xs = [V.bl k] ∧ Q (.int (if k then 1 else 0)) H) (tCons (tVar 0) tNil)) (tVar 1)) [some (.int (x : Int)), some (.int (m : Int))] H2 (.int ((x % m : Nat) : Int)) :=
        ev_is (ev_op (ev_cb (ea_cons (ev_var rfl) ea_nil) rc_int) (ev_var rfl) (rv_I (by omega))) rfl
      refine s_par ⟨_, rfl, ev H2 (Ex.refl H2) _ fun H3 e3 => ⟨_, _, rfl, rfl, (e1.trans e2).trans e3⟩⟩
    · have m0 : m = 0 := by have := of_decide_eq_false ht; omega
      subst m0
      rw [Nat.gcd_zero_right] at hg
      exact s_ret (ev_is (ev_var rfl) (by rw [hg])) fun H3 e3 => k H3 ((e1.trans e2).trans e3)
/-! ### _law_told_right -/
def spTR (K : PySem.W.Frag) : Sp := fun vs H Q _ => ∃ (a c : Addr) (t g t' g' : List Int) (r : Option Nat), vs = [.ref a, .ref c, vO r] ∧ Pl K H a t g ∧ Pl K H c t' g' ∧ First (val t g) (val t' g') r ∧ (∀ n, r = some n → n < 1152921504606846976) ∧ RetV (.bl true) H Q
abbrev nTR : List Str := ["_law_plain_here", "_law_other", "_law_n", "_law_near", "_law_k", "_law_far", "_law_around"]
theorem scTR : FnScope nTR ["_law_plain_here", "_law_other", "_law_n"] (defScope sTR) := ⟨rfl, rfl, rfl, by decide +kernel, rfl, by decide +kernel, by decide +kernel⟩
theorem ok_TR {f : Addr} {fd : FuncData} (F : Fun K "_law_told_right" "_law_told_right" sTR f fd) (range : mg "range" = none)
    (LV : Gfn P w K mg base 1 "_law_value" ["_law_plain_here", "_law_n"] (spLV K)) : FnOk P w K mg base CX0 2 f fd ["_law_plain_here", "_law_other", "_law_n"] (spTR K) := by
  obtain ⟨fV, fdV, GV, kV, bV, gV⟩ := LV
  refine F.ok scTR (fun vs H Q E h => ?_) (fun cdv A outer s H vs Q E hr h => ?_)
  · obtain ⟨a, c, t, g, t', g', r, rfl, _⟩ := h
    rfl
  · obtain ⟨a, c, t, g, t', g', r, rfl, hA, hC, hF, hn, k⟩ := h
    refine ⟨_, pss_cons (ps_setLc (i := 3) (own := [("_law_k", 4)]) (g := gName 4) rfl scTR.nd rfl (by rfl) (by rfl) (pi_range1 (by rfl) range (pa_cons pe_int pa_nil)) (blkOk_by (own := [("_law_k", 4)]) (N := nTR) (sc := defScope sTR) (by decide +kernel))
        (fun _ _ _ _ _ => pg_name (i := 4) scTR.nd rfl (Or.inl rfl)) (fun _ _ _ _ _ => pts_one (pt_cmpR op_gt (pe_call GV hr (by rfl) gV kV bV .nil pass0 (pa_cons (pv 0) (pa_cons (pv 4) pa_nil))) (pe_call GV hr (by rfl) gV kV bV .nil pass0 (pa_cons (pv 1) (pa_cons (pv 4) pa_nil))) (nomark _))) (fun _ _ _ _ _ => pv 4))
      (pss_cons (ps_if (pt_cmpR (op_neD hr.units) (pv 3) (pe_lst pa_nil) (nomark _)) (pss_one (ps_ret (pe_cmpR op_eq (pv 2) (pe_ix ix_list (pv 3) pe_int (fun _ _ => rfl)) (nomark _)))) pss_nil)
      (pss_cons (ps_if (pt_cmp (pc_isN (pv 2)))
        (pss_cons (ps_set (i := 5) scTR.nd rfl (.inl rfl) (pe_lst (pa_cons (pe_op op_pow pe_int pe_int) (pa_cons (pe_op op_pow pe_int pe_int) (pa_cons (pe_op op_pow pe_int pe_int) (pa_cons (pe_op op_pow pe_int pe_int) pa_nil))))))
        (pss_one (ps_ret (pe_cmpR (op_eqD hr.units) (pe_lc (own := [("_law_k", 4)]) (g := gName 4) rfl scTR.nd (pi_list (pv 5)) (blkOk_by (own := [("_law_k", 4)]) (N := nTR) (sc := defScope sTR) (by decide +kernel))
          (fun _ _ _ _ _ => pg_name (i := 4) scTR.nd rfl (Or.inl rfl)) (fun _ _ _ _ _ => pts_one (pt_cmpR op_gt (pe_call GV hr (by rfl) gV kV bV .nil pass0 (pa_cons (pv 0) (pa_cons (pv 4) pa_nil))) (pe_call GV hr (by rfl) gV kV bV .nil pass0 (pa_cons (pv 1) (pa_cons (pv 4) pa_nil))) (nomark _))) (fun _ _ _ _ _ => pv 4)) (pe_lst pa_nil) (nomark _))))) pss_nil)
      (pss_cons (ps_setLc (i := 6) (own := [("_law_k", 4)]) (g := gName 4) rfl scTR.nd rfl (by rfl) (by rfl) (pi_range2 (by rfl) range (pa_cons (pe_op op_sub (pv 2) pe_int) (pa_cons (pv 2) pa_nil))) (blkOk_by (own := [("_law_k", 4)]) (N := nTR) (sc := defScope sTR) (by decide +kernel))
        (fun _ _ _ _ _ => pg_name (i := 4) scTR.nd rfl (Or.inl rfl)) (fun _ _ _ _ _ => pts_one (pt_cmpR op_gt (pe_call GV hr (by rfl) gV kV bV .nil pass0 (pa_cons (pv 0) (pa_cons (pv 4) pa_nil))) (pe_call GV hr (by rfl) gV kV bV .nil pass0 (pa_cons (pv 1) (pa_cons (pv 4) pa_nil))) (nomark _))) (fun _ _ _ _ _ => pv 4))
      (pss_one (ps_ret (pe_and (pe_cmpR op_gt (pe_call GV hr (by rfl) gV kV bV .nil pass0 (pa_cons (pv 0) (pa_cons (pv 2) pa_nil))) (pe_call GV hr (by rfl) gV kV bV .nil pass0 (pa_cons (pv 1) (pa_cons (pv 2) pa_nil))) (nomark _)) (pe_one (pe_cmpR (op_eqD hr.units) (pv 6) (pe_lst pa_nil) (nomark _))))))))), ?_⟩
    have cmp : ∀ {σ' : L2.St} {H' : Hp} {j n : Nat}, Ex H H' → σ'[0]? = some (some (.ref a)) → σ'[1]? = some (some (.ref c)) → σ'[j]? = some (some (.int (n : Int))) →
        Ev (tOp (rI0 fun i j => .bl (decide (i > j))) (tCall (spLV K) [] E0 (tCons (tVar 0) (tCons (tVar j) tNil))) (tCall (spLV K) [] E0 (tCons (tVar 1) (tCons (tVar j) tNil)))) σ' H' (.bl (decide (val t g n > val t' g' n))) := fun e h0 h1 hj =>
      ev_op (ev_call (ea_cons (ev_var h0) (ea_cons (ev_var hj) ea_nil)) (spv_LV (hA.mono e))) (ev_call (ea_cons (ev_var h1) (ea_cons (ev_var hj) ea_nil)) (spv_LV (hC.mono e))) rv_I0
    obtain ⟨p, hp⟩ : ∃ p : Nat → Bool, p = fun n => decide (val t g n > val t' g' n) := ⟨_, rfl⟩
    have pv' : ∀ n, p n = decide (val t g n > val t' g' n) := fun n => by rw [hp]
    have below : ∀ {k n : Nat}, r = some n → k < n → p k = false := fun {k n} e hk => by
      rw [e] at hF
      rw [pv']
      exact decide_eq_false (by have := hF.2 k hk; omega)
    refine q_asgL (el_which (σ := [some (.ref a), some (.ref c), some (vO r), none, none, none, none]) (H := H) (j := 4) (n := 60) (p := p) (ea_cons ev_c ea_nil) (by decide) (fun _ => rfl) (fun _ => rfl) fun i H1 e hi => by rw [pv']; exact et_test (cmp e rfl rfl rfl)) fun nr H1 hnr e1 h1 => ?_
    show tSeq _ _ _ [some (.ref a), some (.ref c), some (vO r), some (.ref nr), none, none, none] H1
    refine q_when (et_test (ev_neP (ev_var rfl) (sq_of h1) el_nil)) (fun hb H2 e2 => ?_) (fun hb H2 e2 => ?_)
    · have ne : which 60 p ≠ [] := fun z => by
        rw [z, List.map_nil, decide_eq_true rfl] at hb
        cases hb
      cases r with
      | none =>
        exact absurd (which_nil.mpr fun k _ => by
          rw [pv']
          exact decide_eq_false (by have := hF k; omega)) ne
      | some n =>
        have n60 : n < 60 := by
          rcases Nat.lt_or_ge n 60 with z | z
          · exact z
          · exact absurd (which_nil.mpr fun k hk => below rfl (by omega)) ne
        obtain ⟨rest, hw⟩ := which_first n60 (p := p) (by rw [pv']; exact decide_eq_true hF.1) fun k hk => below rfl hk
        rw [hw, List.map_cons] at h1
        refine s_ret (ev_is (ev_op (ev_var rfl) (ev_op (y := .int 0) (ev_var rfl) ev_c (rv_ixL (v := .int (n : Int)) (sq_of (e2 _ _ h1)) (atI_vI (g := Int.ofNat n :: List.map Int.ofNat rest) (i := 0) (Nat.succ_pos _)))) (rv_eq rfl)) ?_) fun H3 e3 => k H3 ((e1.trans e2).trans e3)
        show V.bl (decide (V.int (n : Int) = V.int (n : Int))) = _
        rw [decide_eq_true rfl]
    · have nil : which 60 p = [] := by
        rcases Decidable.em (which 60 p = []) with z | z
        · exact z
        · rw [decide_eq_false (fun y => z (by simpa using y))] at hb
          cases hb
      have E2 := e1.trans e2
      cases r with
      | none =>
        refine q_when (et_B (ev_isN (ev_var rfl))) (fun hb H3 e3 => ?_) (fun hb H3 e3 => by rw [isN_vO] at hb; cases hb)
        have E3 := E2.trans e3
        have pw : ∀ {a b : Int} {σ : L2.St} {H1 : Hp}, CPow a b → Ev (tOp (rI CPow fun i j => .int (i ^ j.toNat)) (tC (.int a)) (tC (.int b))) σ H1 (.int (a ^ b.toNat)) := fun h => ev_op ev_c ev_c (rv_I h)
        refine q_asgL (xs := vI (([1000000, 1000000000000, 1000000000000000000000000000000, 10000000000000000000000000000000000000000] : List Nat).map Int.ofNat)) (el_lst (ea_cons (ev_is (pw ⟨by decide, by decide, by decide⟩) (by decide +kernel)) (ea_cons (ev_is (pw ⟨by decide, by decide, by decide⟩) (by decide +kernel)) (ea_cons (ev_is (pw ⟨by decide, by decide, by decide⟩) (by decide +kernel)) (ea_cons (ev_is (pw ⟨by decide, by decide, by decide⟩) (by decide +kernel)) ea_nil)))) (by show 4 ≤ 100000; decide)) fun fr H4 hfr e4 h4 => ?_
        show tRet _ _ [some (.ref a), some (.ref c), some .non, some (.ref nr), none, some (.ref fr), none] H4
        refine s_ret (ev_is (ev_eqL (xs := []) (ys := []) (el_noneL (K := K) (σ := [some (.ref a), some (.ref c), some .non, some (.ref nr), none, some (.ref fr), none]) (H := H4) (j := 4) (p := fr) (ev_var rfl) (sq_of h4) (by rw [vI_len]; decide) (fun _ => rfl) fun i x H5 e5 hx => ?_) el_nil) rfl) fun H5 e5 => k H5 ((E3.trans e4).trans e5)
        have hi : i < (([1000000, 1000000000000, 1000000000000000000000000000000, 10000000000000000000000000000000000000000] : List Nat).map Int.ofNat).length := by
          have := (List.getElem?_eq_some_iff.mp hx).1
          rwa [vI_len] at this
        obtain ⟨n, hn'⟩ : ∃ n : Nat, x = .int (n : Int) := by
          rw [vI_get hi] at hx
          have hi4 : i < 4 := hi
          have : i = 0 ∨ i = 1 ∨ i = 2 ∨ i = 3 := by omega
          obtain rfl := Option.some.inj hx
          rcases this with rfl | rfl | rfl | rfl <;> exact ⟨_, rfl⟩
        subst hn'
        exact et_is (et_test (cmp ((E3.trans e4).trans e5) rfl rfl rfl)) (decide_eq_false (by have := hF n; omega))
      | some n =>
        have n60 : 60 ≤ n := by
          rcases Nat.lt_or_ge n 60 with z | z
          · have := which_nil.mp nil n z
            rw [pv', decide_eq_true hF.1] at this
            cases this
          · exact z
        have nb := hn n rfl
        refine q_when (et_B (ev_isN (ev_var rfl))) (fun hb H3 e3 => by rw [isN_vO] at hb; cases hb) (fun hb H3 e3 => ?_)
        have E3 := E2.trans e3
        refine q_asgL (xs := vI []) (el_none2 (σ := [some (.ref a), some (.ref c), some (.int (n : Int)), some (.ref nr), none, none, none]) (H := H3) (j := 4) (lo := ((n - 30 : Nat) : Int)) (n := (n : Int)) (ea_cons (ev_is (ev_op (ev_var rfl) ev_c rv_I0) (by congr 1; omega)) (ea_cons (ev_var rfl) ea_nil)) (by omega) (by omega) (by omega) (fun _ => rfl) fun i H4 e4 hi => ?_) fun ar H4 har e4 h4 => ?_
        · have b := below (k := n - 30 + i) rfl (by omega)
          rw [pv'] at b
          exact et_is (et_test (cmp (n := n - 30 + i) (E3.trans e4) rfl rfl rfl)) b
        · show tRet _ _ [some (.ref a), some (.ref c), some (.int (n : Int)), some (.ref nr), none, none, some (.ref ar)] H4
          refine s_ret (ev_is (ev_andV (cmp (E3.trans e4) rfl rfl rfl) fun _ => ev_eqP (ev_var rfl) (sq_of h4) el_nil) ?_) fun H5 e5 => k H5 ((E3.trans e4).trans e5)
          rw [decide_eq_true (show val t g n > val t' g' n from hF.1)]
          rfl
end
end K06
namespace L2
open PySem PySem.Spec PyProof.Rows
def rReprB : List V → Hp → VK → Prop := fun xs H Q => ∃ b : Bool, xs = [.bl b] ∧ Q (.str (if b then "True" else "False")) H
theorem call_reprB {X : Cx} : CallR X (.builtin "repr") rReprB := by
  intro pins s σ H xs us Q I r h
  obtain ⟨b, rfl, q⟩ := h
  obtain ⟨u, rfl, ru⟩ := vals1 r
  cases ru
  exact PySem.P.repr_of_bool ⟨.str _, H, I.tok _, ⟨_, rfl⟩, q⟩
end L2
namespace Gr
/-- a plain growth that is drawn -/
structure Drawn8 (t g : List Int) : Prop where
  t0 : 0 < t.length
  t1 : t.length ≤ 2000
  g0 : 0 < g.length
  g1 : g.length ≤ 2000
  per : PerT (val t g) 12
  tail : Tail (val t g) 1000000
  pos : ∀ n, 0 ≤ val t g n
  le : ∀ n : Nat, val t g n ≤ 5000000000 + (n : Int) * 1000000
theorem first_small {t g t' g' : List Int} (h : Drawn8 t g) (h' : Drawn8 t' g') {n : Nat} (hF : First (val t g) (val t' g') (some n)) : n < 1152921504606846976 := by
  have L0 : 0 < g.length * g'.length := Nat.mul_pos h.g0 h'.g0
  have L1 : g.length * g'.length ≤ 2000 * 2000 := Nat.mul_le_mul h.g1 h'.g1
  obtain ⟨b, hb⟩ : ∃ b, b = max t.length t'.length := ⟨_, rfl⟩
  obtain ⟨L, hL⟩ : ∃ L, L = g.length * g'.length := ⟨_, rfl⟩
  have t1 := h.t1
  have t1' := h'.t1
  have P : Rnd (fun n => val t g n - val t' g' n) b L (rate g L - rate g' L) := (rnd_val h.t0 h.g0 (by omega) (hL ▸ Nat.dvd_mul_right ..)).sub (rnd_val h'.t0 h'.g0 (by omega) (hL ▸ Nat.dvd_mul_left ..))
  rw [← hL] at L0 L1
  rcases Nat.lt_or_ge n (b + L) with z | z
  · omega
  · have le : ∀ k, k < n → val t g k - val t' g' k ≤ 0 := fun k hk => by have := hF.2 k hk; omega
    have up := hF.1
    rcases Int.lt_or_le 0 (rate g L - rate g' L) with d | d
    · have a := h.pos b
      have c := h'.le b
      obtain ⟨j, hj⟩ := Int.eq_ofNat_of_zero_le (show 0 ≤ val t' g' b - val t g b + 1 by have := le b (by omega); omega)
      have m := P.many j b (by omega)
      have m' : val t g (b + j * L) - val t' g' (b + j * L) = val t g b - val t' g' b + (j : Int) * (rate g L - rate g' L) := m
      have e : (j : Int) * 1 ≤ (j : Int) * (rate g L - rate g' L) := Int.mul_le_mul_of_nonneg_left (by omega) (by omega)
      have n1 : n ≤ b + j * L := by
        rcases Nat.lt_or_ge (b + j * L) n with y | y
        · have := le _ y
          omega
        · exact y
      have j1 : j ≤ 7000000001 := by omega
      have : j * L ≤ 7000000001 * 4000000 := Nat.mul_le_mul j1 L1
      omega
    · have := above_none (G := fun n => val t g n - val t' g' n) (fun k hk => le k (by omega)) P L0 d n
      have this' : val t g n - val t' g' n ≤ 0 := this
      omega
/-- who is never above rises no more -/
theorem slower {t g t' g' : List Int} (t0 : 0 < t.length) (g0 : 0 < g.length) (t0' : 0 < t'.length) (g0' : 0 < g'.length) (h : ∀ n, val t g n ≤ val t' g' n) : g.sum * (g'.length : Int) ≤ g'.sum * (g.length : Int) := by
  have a := lead_le h (rnd_val t0 g0 (b := max t.length t'.length) (by omega) (Nat.dvd_mul_right g.length g'.length)) (rnd_val t0' g0' (by omega) (Nat.dvd_mul_left g'.length g.length))
  unfold rate at a
  rw [Nat.mul_div_cancel_left _ g0, Nat.mul_div_cancel _ g0', ← sum_all, ← sum_all] at a
  exact a
end Gr
namespace K06
open PySem L2 Evl Gr ClX OpX StX OwX EnT
abbrev sPR : Stmt := top 46
section
variable {K : PySem.W.Frag} {C : Addr} {σ : L2.St} {H : Hp} {ta tb : TE} {tk : TA} {f f' : Nat → Int}
theorem ev_lenL {p : Addr} {g : List Int} (h : Ev ta σ H (.ref p)) (hs : SqL K H p (vI g)) : Ev (tCB (fun xs H Q => ∃ p ys, xs = [V.ref p] ∧ (SqL K H p ys ∨ SqT K H p ys) ∧ Q (.int ys.length) H) (tCons ta tNil)) σ H (.int (g.length : Int)) := ev_is (ev_cb (ea_cons h ea_nil) (rc_lenQ (.inl hs))) (by rw [vI_len])
theorem ev_reprB {b : Bool} (h : Ev ta σ H (.bl b)) : Ev (tCB rReprB (tCons ta tNil)) σ H (.str (if b then "True" else "False")) := ev_cb (ea_cons h ea_nil) fun H1 _ _ q => ⟨b, rfl, q H1 (Ex.refl H1)⟩
theorem ev_atMost {r : Option Nat} (ha : EvR K C ta σ H f) (hb : EvR K C tb σ H f') (c : Cmp f f') (hr : First f f' r) : Ev (tMeth C "at_most" (spGAM K C) [] E0 ta (tCons tb tNil)) σ H (.bl r.isNone) := fun H1 e Q q =>
  ha H1 e _ fun o H2 e2 go => by
    obtain ⟨dx, p, q', r', h1⟩ := go.ins
    exact ⟨o, dx, _, rfl, h1, rfl, hb H2 (e.trans e2) _ fun u H3 e3 gu => ⟨o, u, f, f', rfl, go.mono e3, gu, c, fun r2 h2 H4 e4 => by rw [First.one h2 hr]; exact q H4 ((e2.trans e3).trans e4)⟩⟩
theorem ev_first {r : Option Nat} (ha : EvR K C ta σ H f) (hb : EvR K C tb σ H f') (c : Cmp f f') (hr : First f f' r) : Ev (tMeth C "first_above" (spGFA K C) [] E0 ta (tCons tb tNil)) σ H (vO r) := fun H1 e Q q =>
  ha H1 e _ fun o H2 e2 go => by
    obtain ⟨dx, p, q', r', h1⟩ := go.ins
    exact ⟨o, dx, _, rfl, h1, rfl, hb H2 (e.trans e2) _ fun u H3 e3 gu => ⟨o, u, f, f', rfl, go.mono e3, gu, c, fun r2 h2 H4 e4 => by rw [First.one h2 hr]; exact q H4 ((e2.trans e3).trans e4)⟩⟩
theorem ev_firstK {r : Option Nat} {u : Addr} (ha : EvR K C ta σ H f) (hb : EvA tk σ H [.ref u]) (hu : GrF K C H u f') (c : Cmp f f') (hr : First f f' r) :
    Ev (fun σ H Q => ta σ H fun x H1 => ∃ a dx fs, x = .ref a ∧ H1 a = some (.ins C dx fs) ∧ fs.lookup ("first_above" : Str) = none ∧ tk σ H1 fun zs H2 => zs.length = (["other"] : List Str).length ∧ spGFA K C ((fun vs zs => vs ++ zs) [V.ref a] zs) H2 Q E0) σ H (vO r) := fun H1 e Q q =>
  ha H1 e _ fun o H2 e2 go => by
    obtain ⟨dx, p, q', r', h1⟩ := go.ins
    exact ⟨o, dx, _, rfl, h1, rfl, hb H2 (e.trans e2) _ fun H3 e3 => ⟨rfl, o, u, f, f', rfl, go.mono e3, hu.mono ((e.trans e2).trans e3), c, fun r2 h2 H4 e4 => by rw [First.one h2 hr]; exact q H4 ((e2.trans e3).trans e4)⟩⟩
end
section
variable {P : Program} {w : World} {K : PySem.W.Frag} {mg : Str → Option Value} {base : Heap}
/-! ### _law_pair_right -/
def spPR (K : PySem.W.Frag) : Sp := fun vs H Q _ => ∃ (a c : Addr) (t g t' g' : List Int), vs = [.ref a, .ref c] ∧ Pl K H a t g ∧ Pl K H c t' g' ∧ Drawn8 t g ∧ Drawn8 t' g' ∧ RetV (.bl true) H Q
abbrev nPR : List Str := ["_law_plain_here", "_law_other", "_law_one", "_law_last", "_law_n", "_law_faster"]
theorem scPR : FnScope nPR ["_law_plain_here", "_law_other"] (defScope sPR) := ⟨rfl, rfl, rfl, by decide +kernel, rfl, by decide +kernel, by decide +kernel⟩
theorem ok_PR {C f fI fA fF fM : Addr} {mc : Value} {fd fdI fdA fdF fdM : FuncData} (F : Fun K "_law_pair_right" "_law_pair_right" sPR f fd) (T : Glb mg) (sum : mg "sum" = none) (repr : mg "repr" = none) (N : GName K mg C mc) (G : GCls K C) (M : Mk K C fI)
    (first : PySem.W.selfFirst K C = true) (add : Has K C fA (PySem.dunder "add")) (MF : Meth K C "first_above" fF) (MM : Meth K C "at_most" fM)
    (GI : FnOk P w K mg base CX0 4 fI fdI ["self", "told", "gains"] (spInit K C)) (bI : Binds K fdI ["self", "told", "gains"] [])
    (GA : FnOk P w K mg base CX0 6 fA fdA ["self", "other"] (spAdd K C)) (bA : Binds K fdA ["self", "other"] [])
    (GF : FnOk P w K mg base CX0 4 fF fdF ["self", "other"] (spGFA K C)) (bF : Binds K fdF ["self", "other"] []) (kF : KBn K fdF ["self", "other"] 1 ["other"] (fun us ws => us ++ ws) (fun vs zs => vs ++ zs))
    (GM : FnOk P w K mg base CX0 5 fM fdM ["self", "other"] (spGAM K C)) (bM : Binds K fdM ["self", "other"] [])
    (LT : Gfn P w K mg base 2 "_law_told_right" ["_law_plain_here", "_law_other", "_law_n"] (spTR K)) : FnOk P w K mg base CX0 8 f fd ["_law_plain_here", "_law_other"] (spPR K) := by
  obtain ⟨fT, fdT, GT, kT, bT, gT⟩ := LT
  refine F.ok scPR (fun vs H Q E h => ?_) (fun cdv A outer s H vs Q E hr h => ?_)
  · obtain ⟨a, c, t, g, t', g', rfl, _⟩ := h
    rfl
  · obtain ⟨a, c, t, g, t', g', rfl, hA, hC, dA, dC, k⟩ := h
    have r5 := hr.mono (show 5 ≤ 7 by decide)
    have r6 := hr.mono (show 6 ≤ 7 by decide)
    have r4 := hr.mono (show 4 ≤ 7 by decide)
    have r2 := hr.mono (show 2 ≤ 7 by decide)
    refine ⟨_, pss_cons (ps_par (i := 2) (j := 3) rfl scPR.nd rfl rfl (by decide) (by rfl) (by rfl)
        (pa_cons (pe_make M GI r5 (by rfl) N.g bI .nil pass0 (pa_cons (pe_ix ix_seq (pv 0) pe_int (fun _ _ => rfl)) (pa_cons (pe_ix ix_seq (pv 0) pe_int (fun _ _ => rfl)) pa_nil)))
        (pa_cons (pe_make M GI r5 (by rfl) N.g bI .nil pass0 (pa_cons (pe_ix ix_seq (pv 1) pe_int (fun _ _ => rfl)) (pa_cons (pe_ix ix_seq (pv 1) pe_int (fun _ _ => rfl)) pa_nil))) pa_nil)) (by rfl))
      (pss_cons (ps_set (i := 4) scPR.nd rfl (.inl rfl) (pe_meth (pv 2) G.cls MF GF r4 bF .nil pass0 (pa_cons (pv 3) pa_nil)))
      (pss_cons (ps_if (PW.pt (pw_or (pt_cmpR op_ne (pe_callB call_reprB (by rfl) repr (by decide +kernel) (pa_cons (pe_meth (pv 2) G.cls MM GM r5 bM .nil pass0 (pa_cons (pv 3) pa_nil)) pa_nil)) (pe_callB call_reprB (by rfl) repr (by decide +kernel) (pa_cons (pe_cmp (pc_isN (pv 4))) pa_nil)) (nomark _))
          (pw_or1 (pt_cmpR op_ne (pe_methKw (pv 2) G.cls MF GF r4 kF (pk_cons (pv 3) pk_nil)) (pv 4) (nomark _))))) (pss_one ps_no) pss_nil)
      (pss_cons (ps_set (i := 5) scPR.nd rfl (.inl rfl) (pe_cmpR op_gt
        (pe_op op_mul (pe_callB (cr_sum rfl) (by rfl) sum (by decide +kernel) (pa_cons (pe_ix ix_seq (pv 0) pe_int (fun _ _ => rfl)) pa_nil)) (pe_callB call_len_seq (by rfl) T.len PySem.boot_len (pa_cons (pe_ix ix_seq (pv 1) pe_int (fun _ _ => rfl)) pa_nil)))
        (pe_op op_mul (pe_callB (cr_sum rfl) (by rfl) sum (by decide +kernel) (pa_cons (pe_ix ix_seq (pv 1) pe_int (fun _ _ => rfl)) pa_nil)) (pe_callB call_len_seq (by rfl) T.len PySem.boot_len (pa_cons (pe_ix ix_seq (pv 0) pe_int (fun _ _ => rfl)) pa_nil))) (nomark _)))
      (pss_one (ps_ret (pe_and (pe_or (pe_cmp (pc_notN (pv 4))) (pe_one (pe_not (pv 5)))) (pe_and (pe_call GT r2 (by rfl) gT kT bT .nil pass0 (pa_cons (pv 0) (pa_cons (pv 1) (pa_cons (pv 4) pa_nil))))
        (pe_one (pe_meth (pv 2) G.cls MM GM r5 bM .nil pass0 (pa_cons (pe_op (op_binS (E := E0) (op := .Add) first add (fnR0 GA bA) r6 pass0) (pv 2) (pv 3)) pa_nil)))))))))), ?_⟩
    generalize ef1 : val t g = f1
    generalize ef2 : val t' g' = f2
    have d1 := dA.per
    have d2 := dC.per
    have tl1 := dA.tail
    have tl2 := dC.tail
    have n1 := dA.pos
    have n2 := dC.pos
    rw [ef1] at d1 tl1 n1
    rw [ef2] at d2 tl2 n2
    have cm : Cmp f1 f2 := ⟨d1, d2, tl1.mono (by decide), tl2.mono (by decide)⟩
    have cs : Cmp f1 (fun n => f1 n + f2 n) := ⟨d1, d1.add d2, tl1.mono (by decide), (tl1.add tl2).mono (by decide)⟩
    refine q_par ?_
    refine cons_i ((er_plain rfl hA) H (Ex.refl H) _ fun o1 H1 ho1 e1 g1 => cons_i ((er_plain rfl (hC.mono e1)) H1 (Ex.refl H1) _ fun o2 H2 ho2 e2 g2 => ⟨_, _, rfl, ?_⟩))
    rw [ef1] at g1
    rw [ef2] at g2
    have E2 := e1.trans e2
    have F2 := g1.mono e2
    have A2 := hA.mono E2
    have C2 := hC.mono E2
    show tSeq _ _ _ [some (.ref a), some (.ref c), some (.ref o1), some (.ref o2), none, none] H2
    obtain ⟨dx, p1, p2, p3, hi⟩ := F2.ins
    refine q_asgR ⟨_, rfl, o1, dx, _, rfl, hi, rfl, _, rfl, o1, o2, f1, f2, rfl, F2, g2, cm, fun r hF H3 e3 => ?_⟩
    have F3 := F2.mono e3
    have S3 := g2.mono e3
    have A3 := A2.mono e3
    have C3 := C2.mono e3
    show tSeq _ _ _ [some (.ref a), some (.ref c), some (.ref o1), some (.ref o2), some (vO r), none] H3
    have sc : scal (vO r) (vO r) = true := by cases r <;> rfl
    refine q_when (et_is (et_or (et_test (ev_op (ev_reprB (ev_atMost (er_var rfl F3) (er_var rfl S3) cm hF)) (ev_reprB (ev_isN (ev_var rfl))) (rv_ne rfl))) fun _ => et_test (ev_op (ev_firstK (er_var rfl F3) (ea_cons (ev_var rfl) ea_nil) S3 cm hF) (ev_var rfl) (rv_ne sc))) (by rw [isN_vO, decide_eq_true rfl, decide_eq_true rfl])) (fun hb => absurd hb (by decide)) (fun _ H4 e4 => ?_)
    have F4 := F3.mono e4
    have S4 := S3.mono e4
    have A4 := A3.mono e4
    have C4 := C3.mono e4
    obtain ⟨a1, a2, ha1, ha2, ha3, t0, t1, g0, g1', pt, sm⟩ := id A4
    obtain ⟨c1, c2, hc1, hc2, hc3, t0', t1', g0', g1'', pt', sm'⟩ := id C4
    have q1 : ∀ {i : Nat} {σ' : L2.St} {J' : Hp} {y z1 z2 : Addr}, Ex H4 J' → σ'[i]? = some (some (.ref y)) → SqT K H4 y [.ref z1, .ref z2] → Ev (tOp (rIx K) (tVar i) (tC (.int 1))) σ' J' (.ref z2) := fun e h0 h1 => ev_op (ev_var h0) ev_c (rv_ix (.inr (ex_t e h1)) rfl)
    refine q_asg (v := .bl (decide (g.sum * (g'.length : Int) > g'.sum * (g.length : Int)))) (ev_op (ev_op (ev_sum (q1 (Ex.refl H4) rfl ha1) ha3) (ev_lenL (q1 (Ex.refl H4) rfl hc1) hc3) (rv_I (.inr ⟨by omega, by omega⟩))) (ev_op (ev_sum (q1 (Ex.refl H4) rfl hc1) hc3) (ev_lenL (q1 (Ex.refl H4) rfl ha1) ha3) (rv_I (.inr ⟨by omega, by omega⟩))) rv_I0) fun H5 e5 => ?_
    have E5 := e4.trans e5
    show tRet _ _ [some (.ref a), some (.ref c), some (.ref o1), some (.ref o2), some (vO r), some (.bl (decide (g.sum * (g'.length : Int) > g'.sum * (g.length : Int))))] H5
    have F5 := F4.mono e5
    have S5 := S4.mono e5
    have tr : Ev (tCall (spTR K) [] E0 (tCons (tVar 0) (tCons (tVar 1) (tCons (tVar 4) tNil)))) [some (.ref a), some (.ref c), some (.ref o1), some (.ref o2), some (vO r), some (.bl (decide (g.sum * (g'.length : Int) > g'.sum * (g.length : Int))))] H5 (.bl true) :=
      ev_call (ea_cons (ev_var rfl) (ea_cons (ev_var rfl) (ea_cons (ev_var rfl) ea_nil))) fun H6 e6 Q q E => ⟨a, c, t, g, t', g', r, rfl, A4.mono (e5.trans e6), C4.mono (e5.trans e6), by rw [ef1, ef2]; exact hF, fun n hn => first_small dA dC (by rw [ef1, ef2, ← hn]; exact hF), q⟩
    refine s_ret (ev_is (ev_andV (ev_orV (a := !decide (vO r = V.non)) (fun H1 e Q q => ⟨_, rfl, q H1 (Ex.refl H1)⟩) fun _ => ev_notV (ev_var rfl)) fun _ => ev_andV tr fun _ => ev_atMost (r := none) (er_var rfl F5) (er_add (X := (cxOf CX0 P w K mg base nPR "_law_pair_right" (defScope sPR) f cdv A outer s H E).nox) (er_var rfl F5) (er_var rfl S5) (l := 12) (by decide) (by decide) d1 d2 ((tl1.add tl2).mono (by decide)) fun n => Int.add_nonneg (n1 n) (n2 n)) cs fun n => by have := n2 n; omega) ?_) fun H6 e6 => k H6 ((E2.trans e3).trans (E5.trans e6))
    rw [isN_vO]
    cases r with
    | some n => rfl
    | none =>
      have z := slower dA.t0 dA.g0 dC.t0 dC.g0 fun n => by have := hF n; rw [← ef1, ← ef2] at this; exact this
      rw [decide_eq_false (by omega)]
      rfl
end
end K06
/-! ranges of numbers of any size -/
namespace RgX
open PySem PySem.Spec PyProof.Rows L2
theorem turn_wide {P : Program} {w : World} {K : PySem.W.Frag} {tg : Expr} (it : Addr) (lo : Int) (n : Nat) : Turn P w K tg (Itr lo n) [it] it (fun i h => IsLongIter h it (lo + (i : Nat) * 1) ((n : Int) - (i : Nat)) 1) where
  mem := List.mem_cons_self ..
  obj := fun i h hs b hb => by
    obtain rfl := List.mem_singleton.mp hb
    exact ⟨_, hs, fun v z => by
      have z' : Data.fields _ = Data.cell v := z
      cases z'⟩
  keep := fun i h h' hs kp => kp it (List.mem_cons_self ..) _ hs
  item := by
    rintro Y rfl rfl rfl calm i pins s σ H E J own here lt
    obtain ⟨f0, f1, f2, f3, f4, f5⟩ := own it (List.mem_cons_self ..)
    refine (Walks.longrange (prog := Y.prog) (w := Y.w) (J.ok.hd calm) it lo 1 n).item i s _ _ lt here fun v h' tk given next same => ?_
    obtain ⟨t, rfl⟩ := given
    have J' : Inv Y pins σ H { s with heap := h', toks := tk } := J.turned (fun b o hb e => same b o (by simpa using hb) e) f0 f1 f3 f4 f5
    exact ⟨_, rfl, go_of (s := { s with heap := h', toks := tk }) (n := "longrange_iterator") next rfl rfl (by decide) ⟨.int (lo + i), H, J', ⟨t, by rw [Int.mul_one]⟩, ⟨rfl, rfl⟩, next, fun b hb => (own b hb).1⟩⟩
  done := by
    rintro Y rfl rfl rfl calm i pins s σ H E J own here over
    obtain ⟨f0, f1, f2, f3, f4, f5⟩ := own it (List.mem_cons_self ..)
    have le : n ≤ i := over
    exact wpAny_pyNext_long_end (J.ok.hd calm) here (by omega) fun h' eb => ⟨rfl, J.turned (t' := s.toks) (fun b o hb e => eb b o hb e) f0 f1 f3 f4 f5⟩
  self := fun _ _ _ _ _ here h => wpAny_pyIter_longiter here h
section
variable {X : Cx} {tg : Expr}
/-- a range that was just made, of any numbers -/
theorem wide_it {pins : List (Addr × Obj)} {σ : L2.St} {H : Hp} {s : Shared} {R : It → Hp → Prop} {E : Value → Shared → Prop} {lo hi : Int} {t u v : Tok} {tk : Nat} (J : Inv X pins σ H s) (q : R (Itr lo (hi - lo).toNat) H) :
    wpAny (model X.prog X.w) X.A (pyIter (.ref s.heap.objs.size)) (PIE X pins σ tg R) E { s with heap := s.heap.push { cls := .type "range", data := .fields #[.int lo t, .int hi u, .int 1 v] }, toks := tk } := by
  obtain ⟨h1, e1⟩ : ∃ h1, h1 = s.heap.push { cls := .type "range", data := .fields #[.int lo t, .int hi u, .int 1 v] } := ⟨_, rfl⟩
  have J1 : Inv X pins σ H { s with heap := h1, toks := tk } := e1 ▸ J.kept fun b o e => Heap.get?_push_of_some _ e
  have many : (((hi - lo).toNat : Nat) : Int) - ((0 : Nat) : Int) = Builtin.Range.rangeSize lo hi 1 := by
    rw [rangeSize_one]
    split <;> omega
  have from_ : lo + ((0 : Nat) : Int) * 1 = lo := by simp
  cases hs : Builtin.Range.small lo hi 1 with
  | true =>
    refine wpAny_pyIter_range (IsRange.new ..) hs ?_
    rw [← e1]
    refine ⟨h1.objs.size, [h1.objs.size], _, _, H, rfl, J1.kept (t' := tk) fun b o e => Heap.get?_push_of_some _ e, turn_range _ lo (hi - lo).toNat, ?_, fun b hb => ?_, q⟩
    · show IsRangeIter _ _ (lo + ((0 : Nat) : Int) * 1) ((((hi - lo).toNat : Nat) : Int) - ((0 : Nat) : Int)) 1
      rw [from_, many]
      exact Heap.get?_push_size _ rfl
    · obtain rfl := List.mem_singleton.mp hb
      exact J1.fpOk (Nat.le_refl _) (J1.hok.fresh (Nat.le_refl _))
  | false =>
    refine wpAny_pyIter_longrange (IsRange.new ..) hs ?_
    rw [← e1]
    refine ⟨h1.objs.size, [h1.objs.size], _, _, H, rfl, J1.kept (t' := tk) fun b o e => Heap.get?_push_of_some _ e, turn_wide _ lo (hi - lo).toNat, ?_, fun b hb => ?_, q⟩
    · show IsLongIter _ _ (lo + ((0 : Nat) : Int) * 1) ((((hi - lo).toNat : Nat) : Int) - ((0 : Nat) : Int)) 1
      rw [from_, many]
      exact Heap.get?_push_size _ rfl
    · obtain rfl := List.mem_singleton.mp hb
      exact J1.fpOk (Nat.le_refl _) (J1.hok.fresh (Nat.le_refl _))
/-- range(a, b) -/
def iRngW (ta : TA) : TI := fun σ H R => ta σ H fun vs H1 => ∃ lo hi : Int, vs = [.int lo, .int hi] ∧ R (Itr lo (hi - lo).toNat) H1
theorem pi_rangeW {a b : Expr} {ta : TA} {p pos : Pos} (hg : Gl X "range") (hm : X.mg "range" = none) (ha : PA X [a, b] ta) (two : starEach [a, b] X.env = [(false, eval a X.env), (false, eval b X.env)] := by rfl)
    (one : starEach [b] X.env = [(false, eval b X.env)] := by rfl) : PI X tg (.Call (.Name "range" p) [a, b] [] pos) (iRngW ta) := by
  refine ⟨fun pins s σ H R I h => Call_ (ld_blt I hg hm boot_range (PyProof.Rows.callWith_type1 (thn (ha.run pos pins s σ H _ I h) fun us s1 told => ?_) (by rw [two, one]) (by rw [one]; rfl)))⟩
  obtain ⟨vs, H1, J, rv, lo, hi, ev, q⟩ := told
  subst ev
  obtain ⟨x, y, rfl⟩ := Vals.int2 rv
  exact call_range_2 (wide_it J q)
end
end RgX
namespace Gr
theorem sum_bound {g : List Int} (g0 : 0 < g.length) (g4 : g.length ≤ 4) (sm : Small g) (bg : ∀ i, i < g.length → at' g i ≤ 1000000) : 0 ≤ g.sum ∧ g.sum ≤ 4000000 := by
  rw [sum_all]
  have z := acc_small sm g0 g.length
  have y := acc_le (d := dif g) (B := 1000000) (fun k => bg _ (Nat.mod_lt _ g0)) g.length
  omega
theorem over_total {t g : List Int} {x : Int} (t0 : 0 < t.length) (g0 : 0 < g.length) (pt : ∀ i, i < t.length → 0 ≤ at' t i) (x0 : 0 ≤ x) (h : ∀ n, val t g n ≤ x) : g.sum ≤ 0 := by
  rcases Int.lt_or_le 0 g.sum with s | s
  · exfalso
    obtain ⟨j, rfl⟩ := Int.eq_ofNat_of_zero_le x0
    have a := h (t.length - 1 + ((j + 1) * g.length + 0))
    rw [val_ge t0, acc_mul dif_pd, ← sum_all] at a
    have l : 0 ≤ lst t := pt _ (by omega)
    have z : acc (dif g) 0 = 0 := rfl
    have m : ((j + 1 : Nat) : Int) * 1 ≤ ((j + 1 : Nat) : Int) * g.sum := Int.mul_le_mul_of_nonneg_left (by omega) (by omega)
    rw [z] at a
    omega
  · exact s
theorem which_isR {t : List Int} : decide ((which (t.length - 1) fun i => decide (at' t (i + 1) < at' t i)) = []) = isR t := by
  rw [Bool.eq_iff_iff, decide_eq_true_iff, which_nil, isR_iff]
  exact ⟨fun h i hi => by have := of_decide_eq_false (h i (by omega)); omega, fun h i hi => decide_eq_false (by have := h i (by omega); omega)⟩
end Gr
namespace K06
open PySem L2 Evl Gr ClX OpX StX OwX EnT RgX
abbrev sAR : Stmt := top 47
section
variable {K : PySem.W.Frag} {σ : L2.St} {H : Hp} {ta tb tl : TE}
abbrev rMinV : List V → Hp → VK → Prop := fun xs H Q => ∃ i j, xs = [V.int i, V.int j] ∧ Q (.int (if j < i then j else i)) H
theorem ev_min2 {i j : Int} (ha : Ev ta σ H (.int i)) (hb : Ev tb σ H (.int j)) : Ev (tCB rMinV (tCons ta (tCons tb tNil))) σ H (.int (if j < i then j else i)) := fun H1 e Q q =>
  ha H1 e _ fun H2 e2 => hb H2 (e.trans e2) _ fun H3 e3 => ⟨i, j, rfl, q H3 (e2.trans e3)⟩
/-- [int(x) for x in a list of ints] -/
theorem el_intsP {tl : TE} {q : Addr} {xs : List Int} {j : Nat} (h : Ev tl σ H (.ref q)) (hq : SqL K H q (vI xs)) (hz : xs.length ≤ 40000) (hw : ∀ x, wipe ((wipe σ [j]).set j (some x)) [j] = wipe σ [j]) (hj : ∀ x, ((wipe σ [j]).set j (some x))[j]? = some (some x)) :
    EvL (tLc (iList K tl) (gName j) tYes (tCB (fun xs H Q => (∃ i, xs = [V.int i] ∧ Q (.int i) H) ∨ ∃ k, xs = [V.bl k] ∧ Q (.int (if k then 1 else 0)) H) (tCons (tVar j) tNil)) [j]) σ H (vI xs) := by
  have c := el_lcL (K := K) (σ := σ) (H := H) (tl := tl) (j := j) (vs := [j]) (t := tYes) (te := tCB (fun xs H Q => (∃ i, xs = [V.int i] ∧ Q (.int i) H) ∨ ∃ k, xs = [V.bl k] ∧ Q (.int (if k then 1 else 0)) H) (tCons (tVar j) tNil)) (xs := vI xs) (fun _ => true) (fun i => V.int (at' xs i)) h hq (by rw [vI_len]; exact hz) hw
    (fun i x H1 e1 hi => et_none) (fun i x H1 e1 hi _ => by
      have il : i < xs.length := by
        have := (List.getElem?_eq_some_iff.mp hi).1
        rwa [vI_len] at this
      rw [vI_get il] at hi
      obtain rfl := Option.some.inj hi
      exact ev_cb (ea_cons (ev_var (hj _)) ea_nil) rc_int)
  rw [given_all] at c
  have e : (List.range (vI xs).length).map (fun i : Nat => V.int (at' xs i)) = vI xs := by
    rw [vI_len]
    refine List.ext_getElem? fun i => ?_
    rw [List.getElem?_map]
    rcases Nat.lt_or_ge i xs.length with z | z
    · rw [List.getElem?_range z, vI_get z]
      rfl
    · rw [List.getElem?_eq_none (by rw [List.length_range]; exact z), List.getElem?_eq_none (by rw [vI_len]; exact z)]
      rfl
  rw [e] at c
  exact c
/-- repr([a bool, a pair of ints]) -/
theorem ev_reprP {b : Bool} {p q : Int} (ha : Ev ta σ H (.bl b)) (hb : EvTu K tb σ H [.int p, .int q]) (hp : p.natAbs < 10 ^ 12) (hq : q.natAbs < 10 ^ 12) :
    Ev (tCB (rRepr K) (tCons (tLstS (tCons ta (tCons tb tNil))) tNil)) σ H (.str (PyData.list [.bool b, .tuple [.int p, .int q]]).shown) := fun H1 e Q k =>
  ha H1 e _ fun H2 e2 => hb H2 (e.trans e2) _ fun r H3 e3 hr => ⟨by show 2 ≤ sizeLine; decide, fun lA hl hne => by
    have e4 := Ex.new (H := H3) (o := .lst [.bl b, .ref r]) hl
    have big : ∀ {i : Int}, i.natAbs < 10 ^ 12 → i.natAbs.log2 < 1920 := fun {i} h => by
      rcases Nat.eq_zero_or_pos i.natAbs with z | z
      · rw [z]; decide
      · exact (Nat.log2_lt (by omega)).mpr (Nat.lt_trans h (by decide))
    refine ⟨_, PyData.list [.bool b, .tuple [.int p, .int q]], rfl, .lst (sq_of upd_same) hne (.cons (.bl b) (.cons (.tup (ex_t e4 hr) (.cons (.int p) (.cons (.int q) .nil))) .nil)), ?_, ?_, ?_, k _ ((e2.trans e3).trans e4)⟩
    · simp [PyData.showable, PyData.showableAll, big hp, big hq]
    · simp [PyData.depth, PyData.depthAll]
    · exact PyData.shown_fits (B := 13) (by decide) (by decide) (by simp [PyData.leavesShort, PyData.leavesShortAll, PyData.shown_int_le hp, PyData.shown_int_le hq]) (by
        have l1 := big hp
        have l2 := big hq
        simp [PyData.weight, PyData.weightAll]
        split <;> split <;> omega)⟩
theorem etu_tup {p q : Int} (ha : Ev ta σ H (.int p)) (hb : Ev tb σ H (.int q)) : EvTu K (tTup (tCons ta (tCons tb tNil))) σ H [.int p, .int q] := fun H1 e Q k =>
  eu_tup (ea_cons ha (ea_cons hb ea_nil)) (by show 2 ≤ 100000; decide) H1 e _ fun r H2 _ e2 h2 => k r H2 e2 (st_of h2)
/-- max of some ints beside a number that is none of them below -/
theorem et_maxGt {xs : List Int} {x : Int} (hl : EvL tl σ H (vI xs)) (h0 : 0 < xs.length) (hx : Ev tb σ H (.int x)) (le : ∀ y, y ∈ xs → y ≤ x) : EvT (tTest (tOp (rI0 fun i j => .bl (decide (i > j))) (tCB (rMax K) (tCons tl tNil)) tb)) σ H false := fun H1 e Q q =>
  hl H1 e _ fun p H2 _ e2 hp => ⟨p, xs, rfl, sq_of hp, h0, fun m hm _ => hx H2 (e.trans e2) _ fun H3 e3 => ⟨_, _, rfl, rfl, false, by show V.bl (decide (m > x)) = V.bl false; rw [decide_eq_false (by have := le m hm; omega)], q H3 (e2.trans e3)⟩⟩
/-- [j for j in range(a, b) if ..], of which none holds, numbers of any size -/
theorem el_noneW {t : TT} {j : Nat} {lo n : Int} {tn : TA} (hn : EvA tn σ H [.int lo, .int n]) (h4 : n - lo ≤ 40000) (hw : ∀ x, wipe ((wipe σ [j]).set j (some x)) [j] = wipe σ [j])
    (ht : ∀ (i : Nat) H1, Ex H H1 → lo + (i : Int) < n → EvT t ((wipe σ [j]).set j (some (.int (lo + (i : Int))))) H1 false) : EvL (tLc (iRngW tn) (gName j) t (tVar j) [j]) σ H (vI []) := fun H0 e Q q => hn H0 e _ fun H1 e1 => ⟨lo, n, rfl, fun Dl hD =>
  lc_range (lo := lo) (n := (n - lo).toNat) (Cw H1 (fun _ => false) (fun _ => .non) Dl) ⟨hD, Ex.new hD, upd_same⟩ (fun i H' hi p =>
    ⟨hw _, cw_turn p (by omega) (ht i H1 (e.trans e1) (by omega)) (fun hf => by cases hf)⟩) (fun H' p => q Dl H' (fresh_back e1 p.1) (e1.trans p.2.1) (by
      have z := p.2.2
      have y : given (n - lo).toNat (fun _ => false) (fun _ => V.non) = vI [] := by
        unfold given
        have f : ∀ l : List Nat, l.filter (fun _ => false) = [] := fun l => by induction l with | nil => rfl | cons a l ih => exact ih
        rw [f]
        rfl
      rwa [y] at z))⟩
theorem ev_over {C : Addr} {f : Nat → Int} {x : Nat} {r : Option Nat} (ha : EvR K C ta σ H f) (hb : Ev tb σ H (.int (x : Int))) (hx : (x : Int) ≤ 10 ^ 40) (p : PerT f 12) (tl : Tail f 10000000) (hr : First f (fun _ => (x : Int)) r) : Ev (tMeth C "first_over" (spGFO K C) [] E0 ta (tCons tb tNil)) σ H (vO r) := fun H1 e Q q =>
  ha H1 e _ fun o H2 e2 go => by
    obtain ⟨dx, p1, q', r', h1⟩ := go.ins
    exact ⟨o, dx, _, rfl, h1, rfl, hb H2 (e.trans e2) _ fun H3 e3 => ⟨o, x, f, rfl, go.mono e3, hx, p, tl, fun r2 h2 H4 e4 => by rw [First.one h2 hr]; exact q H4 ((e2.trans e3).trans e4)⟩⟩
theorem ev_overK {C : Addr} {f : Nat → Int} {x : Nat} {r : Option Nat} {tk : TA} (ha : EvR K C ta σ H f) (hb : EvA tk σ H [.int (x : Int)]) (hx : (x : Int) ≤ 10 ^ 40) (p : PerT f 12) (tl : Tail f 10000000) (hr : First f (fun _ => (x : Int)) r) :
    Ev (fun σ H Q => ta σ H fun x H1 => ∃ a dx fs, x = .ref a ∧ H1 a = some (.ins C dx fs) ∧ fs.lookup ("first_over" : Str) = none ∧ tk σ H1 fun zs H2 => zs.length = (["value"] : List Str).length ∧ spGFO K C ((fun vs zs => vs ++ zs) [V.ref a] zs) H2 Q E0) σ H (vO r) := fun H1 e Q q =>
  ha H1 e _ fun o H2 e2 go => by
    obtain ⟨dx, p1, q', r', h1⟩ := go.ins
    exact ⟨o, dx, _, rfl, h1, rfl, hb H2 (e.trans e2) _ fun H3 e3 => ⟨rfl, o, x, f, rfl, go.mono e3, hx, p, tl, fun r2 h2 H4 e4 => by rw [First.one h2 hr]; exact q H4 ((e2.trans e3).trans e4)⟩⟩
end
section
variable {P : Program} {w : World} {K : PySem.W.Frag} {mg : Str → Option Value} {base : Heap}
/-! ### _law_alone_right -/
def spAR (K : PySem.W.Frag) : Sp := fun vs H Q _ => ∃ (p l : Addr) (cells : List Int) (m : Nat) (a : Addr) (t g : List Int), vs = [.ref p, .ref a] ∧ PenAt H p l cells m ∧ m + 10 ≤ 50000 ∧ cells.length ≤ 63 ∧ PlB K H a t g ∧ ∀ H', Keep p H H' → PenAt H' p l cells (m + 2) → Q (.bl true) H'
abbrev nAR : List Str := ["_law_pen_here", "_law_plain_here", "_law_made", "_law_total", "_law_many", "_law_value_here", "_law_n", "_law_rising", "_law_shared_here", "_law_one", "_law_k"]
theorem scAR : FnScope nAR ["_law_pen_here", "_law_plain_here"] (defScope sAR) := ⟨rfl, rfl, rfl, by decide +kernel, rfl, by decide +kernel, by decide +kernel⟩
theorem ok_AR {C f fI fO fRi fRt pRi pRt : Addr} {mc : Value} {fd fdI fdO fdRi fdRt : FuncData} (F : Fun K "_law_alone_right" "_law_alone_right" sAR f fd) (T : Glb mg) (DV : GlbV mg) (range : mg "range" = none) (sum : mg "sum" = none) (min_ : mg "min" = none) (repr : mg "repr" = none) (N : GName K mg C mc) (G : GCls K C) (M : Mk K C fI)
    (MO : Meth K C "first_over" fO) (PRi : PropOf K C "is_rising" pRi fRi) (PRt : PropOf K C "rate" pRt fRt)
    (GI : FnOk P w K mg base CX0 4 fI fdI ["self", "told", "gains"] (spInit K C)) (bI : Binds K fdI ["self", "told", "gains"] [])
    (GO : FnOk P w K mg base CX0 3 fO fdO ["self", "value"] (spGFO K C)) (bO : Binds K fdO ["self", "value"] []) (kO : KBn K fdO ["self", "value"] 1 ["value"] (fun us ws => us ++ ws) (fun vs zs => vs ++ zs))
    (GRi : FnOk P w K mg base CX0 1 fRi fdRi ["self"] (spGRis K C)) (bRi : Binds K fdRi ["self"] []) (GRt : FnOk P w K mg base CX0 1 fRt fdRt ["self"] (spGRate K C)) (bRt : Binds K fdRt ["self"] [])
    (LD : Gfn P w K mg base 1 "_law_draw" ["_law_pen_here", "_law_many"] spDraw) (LP : Gfn P w K mg base 2 "_law_pick" ["_law_pen_here", "_law_some"] spPick)
    (LV : Gfn P w K mg base 1 "_law_value" ["_law_plain_here", "_law_n"] (spLV K)) (LS : Gfn P w K mg base 1 "_law_shared" ["_law_one", "_law_other"] spShared) :
    FnG P w K mg base 7 f fd ["_law_pen_here", "_law_plain_here"] (spAR K) := by
  obtain ⟨fD, fdD, GD, kD, bD, gD⟩ := LD
  obtain ⟨fP, fdP, GP, kP, bP, gP⟩ := LP
  obtain ⟨fV, fdV, GV, kV, bV, gV⟩ := LV
  obtain ⟨fS, fdS, GS, kS, bS, gS⟩ := LS
  refine fnG_of F scAR (fun vs H Q E h => ?_) (fun cdv A outer s H vs Q E gd hr h => ?_)
  · obtain ⟨p, l, cells, m, a, t, g, rfl, _⟩ := h
    rfl
  · obtain ⟨p, l, cells, m, a, t, g, rfl, hP, hm, h63, hA, k⟩ := h
    have gq : ∀ env, Qt (A.deeper env) := fun env => gd.deeper env
    have r5 := hr.mono (show 5 ≤ 6 by decide)
    have r3 := hr.mono (show 3 ≤ 6 by decide)
    have r2 := hr.mono (show 2 ≤ 6 by decide)
    have r1 := hr.mono (show 1 ≤ 6 by decide)
    refine ⟨_, pss_cons (ps_par3 (i := 2) (j := 3) (l := 4) rfl scAR.nd rfl rfl rfl (by decide) (by decide) (by decide) (by rfl) (by rfl) (by rfl)
        (pa_cons (pe_make M GI r5 (by rfl) N.g bI .nil pass0 (pa_cons (pe_ix ix_seq (pv 1) pe_int (fun _ _ => rfl)) (pa_cons (pe_ix ix_seq (pv 1) pe_int (fun _ _ => rfl)) pa_nil)))
        (pa_cons (pe_callB (cr_sum rfl) (by rfl) sum (by decide +kernel) (pa_cons (pe_ix ix_seq (pv 1) pe_int (fun _ _ => rfl)) pa_nil)) (pa_cons (pe_callB call_len_seq (by rfl) T.len PySem.boot_len (pa_cons (pe_ix ix_seq (pv 1) pe_int (fun _ _ => rfl)) pa_nil)) pa_nil))) (by rfl))
      (pss_cons (ps_set (i := 5) scAR.nd rfl (.inr rfl) (pe_call GP r2 (by rfl) gP kP bP .nil pass0 (pa_cons (pv 0) (pa_cons (pe_lst (pa_cons pe_int (pa_cons (pe_call GD r1 (by rfl) gD kD bD .nil pass0 (pa_cons (pv 0) (pa_cons pe_int pa_nil))) (pa_cons (pe_op op_pow pe_int pe_int) (pa_cons (pe_op op_pow pe_int pe_int) pa_nil))))) pa_nil))))
      (pss_cons (ps_set (i := 6) scAR.nd rfl (.inl rfl) (pe_meth (pv 2) G.cls MO GO r3 bO .nil pass0 (pa_cons (pv 5) pa_nil)))
      (pss_cons (ps_if (PW.pt (pw_or (pt_cmpR op_ne (pe_methKw (pv 2) G.cls MO GO r3 kO (pk_cons (pv 5) pk_nil)) (pv 6) (nomark _))
          (pw_or1 (PW.pt (pw_and (pt_cmp (pc_isN (pv 6))) (pw_and1 (PW.pt (pw_or (pt_cmpR op_gt (pv 3) pe_int (nomark _)) (pw_or1 (pt_cmpR op_gt (pe_callB (cr_max rfl) (by rfl) DV.max (by decide +kernel) (pa_cons (pe_lc (own := [("_law_one", 9)]) (g := gName 9) rfl scAR.nd (pi_list (pe_ix ix_seq (pv 1) pe_int (fun _ _ => rfl)))
            (blkOk_by (own := [("_law_one", 9)]) (N := nAR) (sc := defScope sAR) (by decide +kernel)) (fun _ _ _ _ _ => pg_name (i := 9) scAR.nd rfl (Or.inl rfl)) (fun _ _ _ _ _ => pts_nil) (fun _ _ _ _ _ => pe_callTy call_int1 (by rfl) T.int (by decide +kernel) (pa_cons (pv 9) pa_nil))) pa_nil)) (pv 5) (nomark _))))))))))) (pss_one ps_no) pss_nil)
      (pss_cons (ps_if (PW.pt (pw_and (pt_cmp (pc_notN (pv 6))) (pw_and1 (PW.pt (pw_or (pt_cmpR op_le (pe_call GV r1 (by rfl) gV kV bV .nil pass0 (pa_cons (pv 1) (pa_cons (pv 6) pa_nil))) (pv 5) (nomark _))
          (pw_or1 (pt_cmpR (op_neD hr.units) (pe_lc (own := [("_law_k", 10)]) (g := gName 10) rfl scAR.nd (pi_rangeW (by rfl) range (pa_cons (pe_callB (call_max2 rfl) (by rfl) DV.max (by decide +kernel) (pa_cons pe_int (pa_cons (pe_op op_sub (pv 6) pe_int) pa_nil))) (pa_cons (pv 6) pa_nil)))
            (blkOk_by (own := [("_law_k", 10)]) (N := nAR) (sc := defScope sAR) (by decide +kernel)) (fun _ _ _ _ _ => pg_name (i := 10) scAR.nd rfl (Or.inl rfl)) (fun _ _ _ _ _ => pts_one (pt_cmpR op_gt (pe_call GV r1 (by rfl) gV kV bV .nil pass0 (pa_cons (pv 1) (pa_cons (pv 10) pa_nil))) (pv 5) (nomark _))) (fun _ _ _ _ _ => pv 10)) (pe_lst pa_nil) (nomark _)))))))) (pss_one ps_no) pss_nil)
      (pss_cons (ps_if (PW.pt (pw_and (pt_cmp (pc_notN (pv 6))) (pw_and1 (pt_cmpR (op_neD hr.units) (pe_lc (own := [("_law_k", 10)]) (g := gName 10) rfl scAR.nd (pi_range1 (by rfl) range (pa_cons (pe_callB (call_min2 rfl) (by rfl) min_ (by decide +kernel) (pa_cons pe_int (pa_cons (pe_callTy call_int1 (by rfl) T.int (by decide +kernel) (pa_cons (pv 6) pa_nil)) pa_nil))) pa_nil))
            (blkOk_by (own := [("_law_k", 10)]) (N := nAR) (sc := defScope sAR) (by decide +kernel)) (fun _ _ _ _ _ => pg_name (i := 10) scAR.nd rfl (Or.inl rfl)) (fun _ _ _ _ _ => pts_one (pt_cmpR op_gt (pe_call GV r1 (by rfl) gV kV bV .nil pass0 (pa_cons (pv 1) (pa_cons (pv 10) pa_nil))) (pv 5) (nomark _))) (fun _ _ _ _ _ => pv 10)) (pe_lst pa_nil) (nomark _))))) (pss_one ps_no) pss_nil)
      (pss_cons (ps_set (i := 7) scAR.nd rfl (.inl rfl) (pe_cmpR (op_eqD hr.units) (pe_lc (own := [("_law_k", 10)]) (g := gName 10) rfl scAR.nd (pi_range2 (by rfl) range (pa_cons pe_int (pa_cons (pe_callB call_len_seq (by rfl) T.len PySem.boot_len (pa_cons (pe_ix ix_seq (pv 1) pe_int (fun _ _ => rfl)) pa_nil)) pa_nil)))
            (blkOk_by (own := [("_law_k", 10)]) (N := nAR) (sc := defScope sAR) (by decide +kernel)) (fun _ _ _ _ _ => pg_name (i := 10) scAR.nd rfl (Or.inl rfl))
            (fun _ _ _ _ _ => pts_one (pt_cmpR op_lt (pe_ix (show IxR _ (rIx K) from ix_seq) (pe_ix (show IxR _ (rIx K) from ix_seq) (pv 1) pe_int (fun _ _ => rfl)) (pv 10) (fun _ _ => rfl)) (pe_ix (show IxR _ (rIx K) from ix_seq) (pe_ix (show IxR _ (rIx K) from ix_seq) (pv 1) pe_int (fun _ _ => rfl)) (pe_op op_sub (pv 10) pe_int) (fun _ _ => rfl)) (nomark _))) (fun _ _ _ _ _ => pv 10)) (pe_lst pa_nil) (nomark _)))
      (pss_cons (ps_set (i := 8) scAR.nd rfl (.inl rfl) (pe_call GS r1 (by rfl) gS kS bS .nil pass0 (pa_cons (pv 3) (pa_cons (pv 4) pa_nil))))
      (pss_one (ps_ret (pe_cmpR op_eq (pe_callB (call_reprD (gq _) hr.units) (by rfl) repr (by decide +kernel) (pa_cons (pe_lstS (pa_cons (pe_prop (pv 2) G.cls PRi GRi r2 bRi .nil pass0 rfl) (pa_cons (pe_prop (pv 2) G.cls PRt GRt r2 bRt .nil pass0 rfl) pa_nil))) pa_nil))
        (pe_callB (call_reprD (gq _) hr.units) (by rfl) repr (by decide +kernel) (pa_cons (pe_lstS (pa_cons (pv 7) (pa_cons (pe_tup (pa_cons (pe_op op_fdiv (pv 3) (pv 8)) (pa_cons (pe_op op_fdiv (pv 4) (pv 8)) pa_nil))) pa_nil))) pa_nil)) (nomark _))))))))))), ?_⟩
    have dA := hA.drawn
    obtain ⟨hA1, g4, bg, bt⟩ := hA
    obtain ⟨a1, a2, ha1, ha2, ha3, t0, t1, g0, g1, pt, sm⟩ := id hA1
    have S0 : 0 ≤ g.sum := by
      rw [sum_all]
      have := acc_up (d := dif g) (fun k => (sm _ (Nat.mod_lt _ g0)).1) 0 g.length
      rwa [Nat.zero_add] at this
    have tl7 := dA.tail.mono (show (1000000 : Int) ≤ 10000000 by decide)
    have q1 : ∀ {σ' : L2.St} {J' : Hp}, Ex H J' → σ'[1]? = some (some (.ref a)) → Ev (tOp (rIx K) (tVar 1) (tC (.int 1))) σ' J' (.ref a2) := fun e h0 => ev_op (ev_var h0) ev_c (rv_ix (.inr (ex_t e ha1)) rfl)
    -- the growth, the sum of its gains and their number
    refine q_par3 (cons_i ((er_plain rfl hA1) H (Ex.refl H) _ fun o H1 ho e1 go => cons_i ((ev_sum (q1 e1 rfl) (ex_l e1 ha3)) H1 (Ex.refl H1) _ fun H2 e2 => cons_i ((ev_lenL (q1 (e1.trans e2) rfl) (ex_l (e1.trans e2) ha3)) H2 (Ex.refl H2) _ fun H3 e3 => ⟨_, _, _, rfl, ?_⟩))))
    have E3 := (e1.trans e2).trans e3
    have P3 := hP.mono E3 (Nat.le_refl m)
    have go3 := (go.mono e2).mono e3
    have pw : ∀ {a b : Int} {σ : L2.St} {H1 : Hp}, CPow a b → Ev (tOp (rI CPow fun i j => .int (i ^ j.toNat)) (tC (.int a)) (tC (.int b))) σ H1 (.int (a ^ b.toNat)) := fun h => ev_op ev_c ev_c (rv_I h)
    show tSeq _ _ _ [some (.ref p), some (.ref a), some (.ref o), some (.int g.sum), some (.int (g.length : Int)), none, none, none, none, none, none] H3
    -- the number
    refine q_asgR (w_pickD (p := p) (l := l) (cells := cells) (R := fun ns => ∃ d : Nat, ns = [0, (d : Int), (10 : Int) ^ (30 : Int).toNat, (10 : Int) ^ (40 : Int).toNat] ∧ (d : Int) < 60) (σ := [some (.ref p), some (.ref a), some (.ref o), some (.int g.sum), some (.int (g.length : Int)), none, none, none, none, none, none]) (H := H3) (i := 0) rfl
      (fun m' J1 k1 hP1 hm' Q q => cons_i (c_i (cons_i (w_draw (p := p) (l := l) (cells := cells) (σ := [some (.ref p), some (.ref a), some (.ref o), some (.int g.sum), some (.int (g.length : Int)), none, none, none, none, none, none]) (H := J1) (i := 0) (many := 60) rfl (fun H1 _ => ev_c) (by decide) (by decide) h63 m' J1 (Keep.of_ex (Ex.refl J1)) hP1 hm' _ fun v J2 hv hP2 k2 => by
        obtain ⟨d, rfl, hd⟩ := hv
        exact cons_i (pw ⟨by decide, by decide, by decide⟩ J2 (Ex.refl J2) _ fun J3 f3 => cons_i (pw ⟨by decide, by decide, by decide⟩ J3 (Ex.refl J3) _ fun J4 f4 => q [0, (d : Int), (10 : Int) ^ (30 : Int).toNat, (10 : Int) ^ (40 : Int).toNat] J4 ⟨d, rfl, hd⟩ (hP2.mono (f3.trans f4) (Nat.le_refl _)) (k2.trans (Keep.of_ex (f3.trans f4)))))))))
      (fun ns ⟨d, e, _⟩ => by rw [e]; exact ⟨by show 0 < 4; decide, by show 4 ≤ 1000; decide⟩) h63 m H3 (Keep.of_ex (Ex.refl H3)) P3 (by omega) _ fun v H4 hv P4 k4 => ?_)
    obtain ⟨xi, ns, rfl, ⟨d, rfl, hd⟩, hx⟩ := hv
    have e11 : (10 : Int) ^ (30 : Int).toNat = 1000000000000000000000000000000 := by decide
    have e12 : (10 : Int) ^ (40 : Int).toNat = 10000000000000000000000000000000000000000 := by decide
    have e13 : (10 : Int) ^ 40 = 10000000000000000000000000000000000000000 := by decide
    rw [e11, e12] at hx
    have hx2 : 0 ≤ xi ∧ xi ≤ 10 ^ 40 := by
      rw [e13]
      rcases List.mem_cons.mp hx with rfl | hx
      · exact ⟨by decide, by decide⟩
      rcases List.mem_cons.mp hx with rfl | hx
      · exact ⟨by omega, by omega⟩
      rcases List.mem_cons.mp hx with rfl | hx
      · exact ⟨by decide, by decide⟩
      rcases List.mem_cons.mp hx with rfl | hx
      · exact ⟨by decide, by decide⟩
      cases hx
    clear hx e11 e12
    obtain ⟨x, rfl⟩ := Int.eq_ofNat_of_zero_le hx2.1
    have x40 := hx2.2
    have K4 := (Keep.of_ex E3).trans k4
    have A4 := Pl.keep P3 k4 (hA1.mono E3)
    have go4 := GrF.keep P3 k4 go3
    obtain ⟨tn, gn, hG, _, vn⟩ := id go4
    obtain ⟨dx, p1, p2, p3, hi, _⟩ := id hG
    show tSeq _ _ _ [some (.ref p), some (.ref a), some (.ref o), some (.int g.sum), some (.int (g.length : Int)), some (.int (x : Int)), none, none, none, none, none] H4
    refine q_asgR ⟨_, rfl, o, dx, _, rfl, hi, rfl, _, rfl, o, x, val t g, rfl, go4, x40, dA.per, tl7, fun r hF H5 e5 => ?_⟩
    have go5 := go4.mono e5
    have A5 := A4.mono e5
    obtain ⟨b1, b2, hb1, hb2, hb3, _⟩ := id A5
    have q1' : ∀ {σ' : L2.St} {J' : Hp}, Ex H5 J' → σ'[1]? = some (some (.ref a)) → Ev (tOp (rIx K) (tVar 1) (tC (.int 1))) σ' J' (.ref b2) := fun e h0 => ev_op (ev_var h0) ev_c (rv_ix (.inr (ex_t e hb1)) rfl)
    have q0' : ∀ {σ' : L2.St} {J' : Hp}, Ex H5 J' → σ'[1]? = some (some (.ref a)) → Ev (tOp (rIx K) (tVar 1) (tC (.int 0))) σ' J' (.ref b1) := fun e h0 => ev_op (ev_var h0) ev_c (rv_ix (.inr (ex_t e hb1)) rfl)
    have sc : scal (vO r) (vO r) = true := by cases r <;> rfl
    have lv : ∀ {σ' : L2.St} {J' : Hp} {j n : Nat}, Ex H5 J' → σ'[1]? = some (some (.ref a)) → σ'[j]? = some (some (.int (n : Int))) → Ev (tCall (spLV K) [] E0 (tCons (tVar 1) (tCons (tVar j) tNil))) σ' J' (.int (val t g n)) := fun e h0 hj => ev_call (ea_cons (ev_var h0) (ea_cons (ev_var hj) ea_nil)) (spv_LV (A5.mono e))
    show tSeq _ _ _ [some (.ref p), some (.ref a), some (.ref o), some (.int g.sum), some (.int (g.length : Int)), some (.int (x : Int)), some (vO r), none, none, none, none] H5
    refine q_when (b := false) ?_ (fun hb => absurd hb (by decide)) (fun _ H6 e6 => ?_)
    · cases r with
      | some n =>
        exact et_is (et_or (et_test (ev_op (ev_overK (er_var rfl go5) (ea_cons (ev_var rfl) ea_nil) x40 dA.per tl7 hF) (ev_var rfl) (rv_ne sc))) fun _ => et_and (b := false) (et_B (ev_isN (ev_var rfl))) fun h => by rw [isN_vO] at h; cases h) (by rw [isN_vO, decide_eq_true rfl]; rfl)
      | none =>
        have tot := over_total (g := g) t0 g0 pt (by omega) hF
        refine et_is (et_or (et_test (ev_op (ev_overK (er_var rfl go5) (ea_cons (ev_var rfl) ea_nil) x40 dA.per tl7 hF) (ev_var rfl) (rv_ne sc))) fun _ => et_and (et_B (ev_isN (ev_var rfl))) fun _ => et_or (et_test (ev_op (ev_var rfl) ev_c rv_I0)) fun _ =>
          et_maxGt (xs := t) (el_intsP (q0' (Ex.refl H5) rfl) hb2 (by omega) (fun _ => rfl) (fun _ => rfl)) t0 (ev_var rfl) fun y hy => ?_) (by rw [isN_vO, decide_eq_true rfl, decide_eq_false (by omega)]; rfl)
        obtain ⟨i, hi', rfl⟩ := List.getElem_of_mem hy
        have z := hF i
        rw [val_lt hi'] at z
        have e : at' t i = t[i] := by unfold at'; rw [List.getD_eq_getElem?_getD, List.getElem?_eq_getElem hi']; rfl
        rw [← e]
        exact z
    have fine : ∀ n, r = some n → (x : Int) < val t g n ∧ ∀ k, k < n → val t g k ≤ (x : Int) := fun n e => by rw [e] at hF; exact hF
    refine q_when (b := false) ?_ (fun hb => absurd hb (by decide)) (fun _ H7 e7 => ?_)
    · cases r with
      | none => exact et_is (et_and (a := !decide (vO none = V.non)) (b := false) (et_B (fun H1 e Q q => ⟨_, rfl, q H1 (Ex.refl H1)⟩)) fun h => by rw [isN_vO] at h; cases h) (by rw [isN_vO]; rfl)
      | some n =>
        obtain ⟨f1, f2⟩ := fine n rfl
        refine et_is (et_and (a := !decide (vO (some n) = V.non)) (et_B (fun H1 e Q q => ⟨_, rfl, q H1 (Ex.refl H1)⟩)) fun _ => et_or (et_test (ev_op (lv e6 rfl rfl) (ev_var rfl) rv_I0)) fun _ => et_test (ev_neL (xs := []) (ys := [])
          (el_noneW (σ := [some (.ref p), some (.ref a), some (.ref o), some (.int g.sum), some (.int (g.length : Int)), some (.int (x : Int)), some (.int (n : Int)), none, none, none, none]) (H := H6) (j := 10) (lo := ((n - 60 : Nat) : Int)) (n := (n : Int))
            (ea_cons (ev_is (ev_max2 ev_c (ev_op (ev_var rfl) ev_c rv_I0)) (by congr 1; split <;> omega)) (ea_cons (ev_var rfl) ea_nil)) (by omega) (fun _ => rfl) fun i H8 e8 hi => et_is (et_test (ev_op (lv (n := n - 60 + i) (e6.trans e8) rfl rfl) (ev_var rfl) rv_I0)) (decide_eq_false (by have := f2 (n - 60 + i) (by omega); omega))) el_nil))
          (by rw [isN_vO, decide_eq_false (by omega)]; rfl)
    refine q_when (b := false) ?_ (fun hb => absurd hb (by decide)) (fun _ H8 e8 => ?_)
    · cases r with
      | none => exact et_is (et_and (a := !decide (vO none = V.non)) (b := false) (et_B (fun H1 e Q q => ⟨_, rfl, q H1 (Ex.refl H1)⟩)) fun h => by rw [isN_vO] at h; cases h) (by rw [isN_vO]; rfl)
      | some n =>
        obtain ⟨f1, f2⟩ := fine n rfl
        refine et_is (et_and (a := !decide (vO (some n) = V.non)) (et_B (fun H1 e Q q => ⟨_, rfl, q H1 (Ex.refl H1)⟩)) fun _ => et_test (ev_neL (xs := (which (min 60 n) fun _ => false).map Int.ofNat) (ys := [])
          (el_which (σ := [some (.ref p), some (.ref a), some (.ref o), some (.int g.sum), some (.int (g.length : Int)), some (.int (x : Int)), some (.int (n : Int)), none, none, none, none]) (H := H7) (j := 10) (n := min 60 n) (p := fun _ => false)
            (ea_cons (ev_is (ev_min2 ev_c (ev_cb (ea_cons (ev_var rfl) ea_nil) rc_int)) (by congr 1; split <;> omega)) ea_nil) (by omega) (fun _ => rfl) (fun _ => rfl) fun i H8 e8 hi => et_is (et_test (ev_op (lv (n := i) ((e6.trans e7).trans e8) rfl rfl) (ev_var rfl) rv_I0)) (decide_eq_false (by have := f2 i (by omega); omega))) el_nil))
          (by rw [isN_vO, which_nil.mpr fun _ _ => rfl]; rfl)
    have E8 := (e6.trans e7).trans e8
    have A8 := A5.mono E8
    have go8 := go5.mono E8
    have hG8 := (hG.mono e5).mono E8
    obtain ⟨dx8, p81, p82, p83, hi8, _, _, _, nfn, _, _, smn⟩ := id hG8
    show tSeq _ _ _ [some (.ref p), some (.ref a), some (.ref o), some (.int g.sum), some (.int (g.length : Int)), some (.int (x : Int)), some (vO r), none, none, none, none] H8
    -- whether it rises
    have len := ev_lenL (K := K) (σ := [some (.ref p), some (.ref a), some (.ref o), some (.int g.sum), some (.int (g.length : Int)), some (.int (x : Int)), some (vO r), none, none, none, none]) (H := H8) (ta := tOp (rIx K) (tVar 1) (tC (.int 0))) (q0' E8 rfl) (ex_l E8 hb2)
    have c1 := el_lcR2 (σ := [some (.ref p), some (.ref a), some (.ref o), some (.int g.sum), some (.int (g.length : Int)), some (.int (x : Int)), some (vO r), none, none, none, none]) (H := H8) (j := 10) (vs := [10]) (lo := 1) (n := (t.length : Int)) (te := tVar 10)
      (t := tTest (tOp (rI0 fun i j => .bl (decide (i < j))) (tOp (rIx K) (tOp (rIx K) (tVar 1) (tC (.int 0))) (tVar 10)) (tOp (rIx K) (tOp (rIx K) (tVar 1) (tC (.int 0))) (tOp (rI0 fun i j => .int (i - j)) (tVar 10) (tC (.int 1))))))
      (fun i => decide (at' t (i + 1) < at' t i)) (fun i => V.int (1 + (i : Int)))
      (ta := tCons (tC (.int 1)) (tCons (tCB (fun xs H Q => ∃ p ys, xs = [V.ref p] ∧ (SqL K H p ys ∨ SqT K H p ys) ∧ Q (.int ys.length) H) (tCons (tOp (rIx K) (tVar 1) (tC (.int 0))) tNil)) tNil))
      (ea_cons ev_c (ea_cons len ea_nil)) (by omega) (fun _ => rfl) (fun i H9 e9 hi => et_test (ev_op
        (ev_op (y := .int ((i + 1 : Nat) : Int)) (q0' (E8.trans e9) rfl) (ev_is (ev_var rfl) (by congr 1; omega)) (rv_ix (.inl (ex_l (E8.trans e9) hb2)) (atI_vI (by omega))))
        (ev_op (y := .int (i : Int)) (q0' (E8.trans e9) rfl) (ev_is (ev_op (ev_var rfl) ev_c rv_I0) (by congr 1; omega)) (rv_ix (.inl (ex_l (E8.trans e9) hb2)) (atI_vI (by omega)))) rv_I0)) (fun i H9 e9 hi _ => ev_var rfl)
    have c2 : given ((t.length : Int) - 1).toNat (fun i => decide (at' t (i + 1) < at' t i)) (fun i => V.int (1 + (i : Int))) = vI ((which (t.length - 1) fun i => decide (at' t (i + 1) < at' t i)).map fun i : Nat => (1 : Int) + (i : Int)) := by
      unfold given which vI
      rw [List.map_map, show ((t.length : Int) - 1).toNat = t.length - 1 by omega]
      rfl
    rw [c2] at c1
    refine q_asg (v := .bl (isR t)) (ev_is (ev_eqL c1 el_nil) ?_) fun H9 e9 => ?_
    · rw [← which_isR]
      congr 1
      rw [Bool.eq_iff_iff, decide_eq_true_iff, decide_eq_true_iff, List.map_eq_nil_iff]
    -- the common divisor
    obtain ⟨sN, hs⟩ := Int.eq_ofNat_of_zero_le S0
    obtain ⟨cm, hcm⟩ : ∃ cm : Nat, cm = Nat.gcd g.sum.natAbs g.length := ⟨_, rfl⟩
    have cm0 : 0 < cm := hcm ▸ Nat.gcd_pos_of_pos_right _ g0
    have cm1 : cm ≤ g.length := hcm ▸ Nat.le_of_dvd g0 (Nat.gcd_dvd_right _ _)
    refine q_asg (v := .int (cm : Int)) (ev_call (ea_cons (ev_var rfl) (ea_cons (ev_var rfl) ea_nil)) fun H10 e10 Q q E => ⟨sN, g.length, by rw [hs]; rfl, by rw [hcm, hs, Int.natAbs_natCast] at q; exact q⟩) fun H10 e10 => ?_
    have E10 := e9.trans e10
    have hG10 := hG8.mono E10
    have hi10 := E10 _ _ hi8
    show tRet _ _ [some (.ref p), some (.ref a), some (.ref o), some (.int g.sum), some (.int (g.length : Int)), some (.int (x : Int)), some (vO r), some (.bl (isR t)), some (.int (cm : Int)), none, none] H10
    have Sb := sum_bound g0 g4 sm bg
    have rr : red (acc (dif gn) gn.length) gn.length = red g.sum g.length := by
      have z := sum_one nfn.told nfn.gains t0 g0 fun n => (vn n : val tn gn n = val t g n)
      have y : 0 ≤ acc (dif gn) gn.length := by
        have := acc_up (d := dif gn) (fun k => (smn _ (Nat.mod_lt _ nfn.gains)).1) 0 gn.length
        rwa [Nat.zero_add] at this
      rw [← sum_all] at z ⊢
      rw [← sum_all] at y
      rw [← sum_all] at z
      exact red_one y S0 nfn.gains g0 z
    have ri : isR tn = isR t := isR_one nfn.told nfn.gains (fun i hi => (smn i hi).1) t0 g0 (fun i hi => (sm i hi).1) fun n => vn n
    have r1 : (red g.sum g.length).1 = g.sum / (cm : Int) := by rw [hcm]; rfl
    have r2 : (red g.sum g.length).2 = (g.length : Int) / (cm : Int) := by rw [hcm]; rfl
    have d0 : 0 ≤ g.sum / (cm : Int) := Int.ediv_nonneg S0 (by omega)
    have d1 : g.sum / (cm : Int) ≤ g.sum := Int.ediv_le_self _ S0
    have d2 : 0 ≤ (g.length : Int) / (cm : Int) := Int.ediv_nonneg (by omega) (by omega)
    have d3 : (g.length : Int) / (cm : Int) ≤ (g.length : Int) := Int.ediv_le_self _ (by omega)
    refine s_ret (ev_is (ev_op (ev_reprP (b := isR t) (p := g.sum / (cm : Int)) (q := (g.length : Int) / (cm : Int)) (fun J1 f Q q => ⟨_, rfl, o, _, _, rfl, f _ _ hi10, o, tn, gn, rfl, hG10.mono f, fun J2 f2 => by rw [ri]; exact q J2 f2⟩)
        (fun J1 f Q q => ⟨_, rfl, o, _, _, rfl, f _ _ hi10, o, tn, gn, rfl, hG10.mono f, fun r J2 f2 h2 => q r J2 f2 (by rw [rr, r1, r2] at h2; exact h2)⟩) (by omega) (by omega))
      (ev_reprP (ev_var rfl) (etu_tup (ev_op (ev_var rfl) (ev_var rfl) (rv_I ⟨by omega, by omega⟩)) (ev_op (ev_var rfl) (ev_var rfl) (rv_I ⟨by omega, by omega⟩))) (by omega) (by omega)) (rv_eq rfl)) (by rw [decide_eq_true rfl])) fun H11 e11 => ?_
    exact k H11 (K4.trans (Keep.of_ex (e5.trans (E8.trans (E10.trans e11))))) (P4.mono (e5.trans (E8.trans (E10.trans e11))) (Nat.le_refl _))
end
end K06
namespace Gr
theorem dif_dbl {g : List Int} (g0 : 0 < g.length) : dif (g ++ g) = dif g := funext fun k => by
  show at' (g ++ g) (k % (g ++ g).length) = at' g (k % g.length)
  rw [List.length_append, at_app]
  have d : k % (g.length + g.length) % g.length = k % g.length := Nat.mod_mod_of_dvd k ⟨2, by omega⟩
  have lt := Nat.mod_lt k (show 0 < g.length + g.length by omega)
  rw [← d]
  generalize k % (g.length + g.length) = m at lt
  by_cases c : m < g.length
  · rw [if_pos c, Nat.mod_eq_of_lt c]
  · rw [if_neg c, Nat.mod_eq_sub_mod (a := m) (b := g.length) (by omega), Nat.mod_eq_of_lt (show m - g.length < g.length by omega)]
theorem val_dbl {t g : List Int} (g0 : 0 < g.length) : val t (g ++ g) = val t g := funext fun n => by
  unfold val
  rw [dif_dbl g0]
theorem Drawn8.dbl {t g : List Int} (h : Drawn8 t g) (g4 : g.length ≤ 4) : Drawn8 t (g ++ g) := ⟨h.t0, h.t1, by rw [List.length_append]; have := h.g0; omega, by rw [List.length_append]; omega, by rw [val_dbl h.g0]; exact h.per, by rw [val_dbl h.g0]; exact h.tail, fun n => by rw [val_dbl h.g0]; exact h.pos n, fun n => by rw [val_dbl h.g0]; exact h.le n⟩
theorem val0 {x : Int} {g : List Int} (n : Nat) : val [x] g n = x + acc (dif g) n := by
  have a := val_ge (t := [x]) (g := g) Nat.one_pos n
  rw [show [x].length - 1 + n = n from Nat.zero_add n] at a
  exact a
end Gr
namespace K06
open PySem L2 Evl Gr ClX OpX StX OwX EnT RgX StM
theorem stp4 : stp 4 = [1, 0, 0, 0] := rfl
abbrev fThree (b : Nat) : Nat → Int := fun n => (b : Int) + (n : Int) * ((3 : Nat) : Int)
abbrev fSeven : Nat → Int := fun _ => ((7 : Nat) : Int)
abbrev fTwo (d : Nat) : Nat → Int := fun n => (d : Int) + (n : Int) * ((2 : Nat) : Int)
abbrev fCells : Nat → Int := val [0] (stp 4)
theorem per_three {b : Nat} : PerT (fThree b) 12 := ⟨0, fun n _ => by
  show (b : Int) + ((n + 12 + 1 : Nat) : Int) * 3 - ((b : Int) + ((n + 12 : Nat) : Int) * 3) = (b : Int) + ((n + 1 : Nat) : Int) * 3 - ((b : Int) + (n : Int) * 3)
  omega⟩
theorem per_two {d : Nat} : PerT (fTwo d) 12 := ⟨0, fun n _ => by
  show (d : Int) + ((n + 12 + 1 : Nat) : Int) * 2 - ((d : Int) + ((n + 12 : Nat) : Int) * 2) = (d : Int) + ((n + 1 : Nat) : Int) * 2 - ((d : Int) + (n : Int) * 2)
  omega⟩
theorem per_seven : PerT fSeven 12 := ⟨0, fun n _ => rfl⟩
theorem tail_three {b : Nat} : Tail (fThree b) 10000000 := ⟨0, fun n _ => by
  show 0 ≤ (b : Int) + ((n + 1 : Nat) : Int) * 3 - ((b : Int) + (n : Int) * 3) ∧ (b : Int) + ((n + 1 : Nat) : Int) * 3 - ((b : Int) + (n : Int) * 3) ≤ 10000000
  omega⟩
theorem tail_two {d : Nat} : Tail (fTwo d) 10000000 := ⟨0, fun n _ => by
  show 0 ≤ (d : Int) + ((n + 1 : Nat) : Int) * 2 - ((d : Int) + (n : Int) * 2) ∧ (d : Int) + ((n + 1 : Nat) : Int) * 2 - ((d : Int) + (n : Int) * 2) ≤ 10000000
  omega⟩
theorem tail_seven : Tail fSeven 10000000 := ⟨0, fun n _ => by
  show 0 ≤ (7 : Int) - 7 ∧ (7 : Int) - 7 ≤ 10000000
  decide⟩
theorem stp_at {i : Nat} (hi : i < (stp 4).length) : 0 ≤ at' (stp 4) i ∧ at' (stp 4) i ≤ 1 := by
  rw [stp4] at hi ⊢
  have h : i < 4 := hi
  have : i = 0 ∨ i = 1 ∨ i = 2 ∨ i = 3 := by omega
  rcases this with rfl | rfl | rfl | rfl <;> decide
theorem per_cells : PerT fCells 12 := perT_val (t := [0]) Nat.one_pos (by rw [stp4]; decide)
theorem tail_cells : Tail fCells 10000000 := (tail_val (t := [0]) (B := 1) Nat.one_pos (by rw [stp4]; decide) fun i hi => stp_at hi).mono (by decide)
theorem first_a : First (fThree 0) fSeven (some 3) := ⟨by show (7 : Int) < ((0 : Nat) : Int) + ((3 : Nat) : Int) * 3; omega, fun k hk => by
  show ((0 : Nat) : Int) + (k : Int) * 3 ≤ 7
  omega⟩
theorem first_b : First fCells (fThree 0) none := fun n => by
  have := val_le (t := [0]) (g := stp 4) (A := 0) (B := 1) Nat.one_pos (by rw [stp4]; decide) (by decide) (fun i hi => by
    have : i = 0 := by have : i < 1 := hi; omega
    subst this
    decide) (fun i hi => (stp_at hi).2) n
  show fCells n ≤ ((0 : Nat) : Int) + (n : Int) * 3
  show val [0] (stp 4) n ≤ _
  omega
theorem first_c : First (fThree 0) (fun _ => ((6 : Nat) : Int)) (some 3) := ⟨by show (6 : Int) < ((0 : Nat) : Int) + ((3 : Nat) : Int) * 3; omega, fun k hk => by
  show ((0 : Nat) : Int) + (k : Int) * 3 ≤ 6
  omega⟩
theorem first_d {d : Nat} : First (fThree 1) (fTwo d) (some d) := ⟨by show (d : Int) + (d : Int) * 2 < ((1 : Nat) : Int) + (d : Int) * 3; omega, fun k hk => by
  show ((1 : Nat) : Int) + (k : Int) * 3 ≤ (d : Int) + (k : Int) * 2
  omega⟩
theorem first_e {d : Nat} (hd : 0 < d) : First (fTwo d) (fThree 0) (some 0) := ⟨by show ((0 : Nat) : Int) + ((0 : Nat) : Int) * 3 < (d : Int) + ((0 : Nat) : Int) * 2; omega, fun k hk => absurd hk (Nat.not_lt_zero k)⟩
abbrev sLaw : Stmt := top 48
section
variable {K : PySem.W.Frag} {σ : L2.St} {H : Hp} {ta tb tc td : TE}
theorem PlB.d8 {a : Addr} {t g : List Int} (h : PlB K H a t g) : Drawn8 t g := by
  have d := h.drawn
  obtain ⟨⟨_, _, _, _, _, t0, t1, g0, g1, _, _⟩, _⟩ := h
  exact ⟨t0, t1, g0, g1, d.per, d.tail, d.pos, d.le⟩
theorem ev_rate {C o : Addr} {f : Nat → Int} {t g : List Int} {i : Nat} (h0 : σ[i]? = some (some (.ref o))) (h : GrF K C H o f) (t0 : 0 < t.length) (g0 : 0 < g.length) (hg : ∀ i, i < g.length → 0 ≤ at' g i) (v : ∀ n, val t g n = f n) :
    EvTu K (tProp C (spGRate K C) [] E0 (tVar i)) σ H [.int (red (acc (dif g) g.length) g.length).1, .int (red (acc (dif g) g.length) g.length).2] := fun H1 e Q q => by
  obtain ⟨tn, gn, hG, _, vn⟩ := h.mono e
  obtain ⟨dx, p1, p2, p3, hi, _, _, _, nfn, _, _, smn⟩ := id hG
  have up : ∀ {g : List Int}, 0 < g.length → (∀ i, i < g.length → 0 ≤ at' g i) → 0 ≤ acc (dif g) g.length := fun {g} g0 hg => by
    have := acc_up (d := dif g) (fun k => hg _ (Nat.mod_lt _ g0)) 0 g.length
    rwa [Nat.zero_add] at this
  have rr : red (acc (dif gn) gn.length) gn.length = red (acc (dif g) g.length) g.length := red_one (up nfn.gains fun i hi => (smn i hi).1) (up g0 hg) nfn.gains g0 (sum_one nfn.told nfn.gains t0 g0 fun n => by rw [vn, v])
  exact ⟨_, h0, o, _, _, rfl, hi, o, tn, gn, rfl, hG, fun r H2 e2 h2 => q r H2 e2 (by rw [rr] at h2; exact h2)⟩
theorem PlN.keep {H H' : Hp} {p l a : Addr} {cells : List Int} {m : Nat} {t g : List Int} (h : PlN H a t g) (hP : PenAt H p l cells m) (kp : Keep p H H') : PlN H' a t g := by
  obtain ⟨x, y, h1, h2, h3, h4⟩ := h
  obtain ⟨_, _, hp, _⟩ := hP
  have no : ∀ {k r : Int} {xs : List Int}, ¬ [V.ref l, V.int k, V.int r] = vI xs := fun {k r xs} e => by
    cases xs with
    | nil => cases e
    | cons x xs => cases e
  exact ⟨x, y, kp _ _ h1 fun z => (by rw [z, hp] at h1; cases h1), kp _ _ h2 fun z => (by rw [z, hp] at h2; exact no (HO.lst.inj (Option.some.inj h2))), kp _ _ h3 fun z => (by rw [z, hp] at h3; exact no (HO.lst.inj (Option.some.inj h3))), h4⟩
theorem for_i {tl : TE} {g : TG} {tu tz : TS} {D : Ends} (h : tl σ H fun x H1 => ∃ a, x = .ref a ∧ (∃ xs, SqL K H1 a xs) ∧ tFor (fun _ _ R => R (Itl K a) H1) g tu { D with nx := tz D } σ H1) : tSeq (tFor (iList K tl) g tu) tz D σ H := h
theorem etu_pair {a b : Addr} (ha : Ev ta σ H (.ref a)) (hb : Ev tb σ H (.ref b)) : EvTu K (tTup (tCons ta (tCons tb tNil))) σ H [.ref a, .ref b] := fun H1 e Q k =>
  eu_tup (ea_cons ha (ea_cons hb ea_nil)) (by show 2 ≤ 100000; decide) H1 e _ fun r H2 _ e2 h2 => k r H2 e2 (st_of h2)
theorem tup_i {t : TA} {Q : VK} (h : t σ H fun xs H1 => xs.length ≤ sizeLine ∧ ∀ l, H1 l = none → Q (.ref l) (upd H1 l (.tup xs))) : tTup t σ H Q := h
theorem el_cat {p q : Addr} {xs ys : List V} (ha : Ev ta σ H (.ref p)) (hb : Ev tb σ H (.ref q)) (hp : H p = some (.lst xs)) (hq : H q = some (.lst ys)) (hz : xs.length + ys.length ≤ 100000) : EvL (tOp rCat ta tb) σ H (xs ++ ys) := fun H1 e Q k =>
  ha H1 e _ fun H2 e2 => hb H2 (e.trans e2) _ fun H3 e3 => ⟨p, q, xs, ys, rfl, rfl, (e.trans (e2.trans e3)) _ _ hp, (e.trans (e2.trans e3)) _ _ hq, sz_of hz, fun a ha => k a _ (fresh_back (e2.trans e3) ha) ((e2.trans e3).trans (Ex.new ha)) upd_same⟩
/-- (one, (told, gains + gains)) -/
theorem pair_dbl {a b1 b2 : Addr} {g : List Int} {Q : VK} (ha : Ev ta σ H (.ref a)) (hb : Ev tb σ H (.ref b1)) (hc : Ev tc σ H (.ref b2)) (hg : H b2 = some (.lst (vI g))) (g1 : g.length ≤ 2000)
    (k : ∀ x y dl H', Ex H H' → SqT K H' x [.ref a, .ref y] → SqT K H' y [.ref b1, .ref dl] → SqL K H' dl (vI (g ++ g)) → Q (.ref x) H') :
    tTup (tCons ta (tCons (tTup (tCons tb (tCons (tOp rCat tc tc) tNil))) tNil)) σ H Q := by
  refine tup_i (cons_i (ha H (Ex.refl H) _ fun H1 e1 => cons_i (tup_i (cons_i (hb H1 e1 _ fun H2 e2 => cons_i (el_cat hc hc hg hg (by rw [vI_len]; omega) H2 (e1.trans e2) _ fun dl H3 hdl e3 h3 => ⟨by show 2 ≤ sizeLine; decide, fun y hy => ⟨by show 2 ≤ sizeLine; decide, fun x hx => ?_⟩⟩)))))) 
  have e4 := Ex.new (H := H3) (o := .tup [.ref b1, .ref dl]) hy
  have h4 : (upd H3 y (.tup [.ref b1, .ref dl])) y = some (.tup [.ref b1, .ref dl]) := upd_same
  generalize upd H3 y (.tup [.ref b1, .ref dl]) = H4 at e4 h4 hx ⊢
  have e5 := Ex.new (H := H4) (o := .tup [.ref a, .ref y]) hx
  have dbl : vI g ++ vI g = vI (g ++ g) := by unfold vI; rw [List.map_append]
  rw [dbl] at h3
  exact k x y dl _ (((e1.trans e2).trans e3).trans (e4.trans e5)) (st_of upd_same) (st_of (e5 _ _ h4)) (sq_of ((e4.trans e5) _ _ h3))
/-- [3, True, 3, (1, 4)] beside the like -/
theorem ev_ne4 (ha : Ev ta σ H (.int 3)) (hb : Ev tb σ H (.bl true)) (hc : Ev tc σ H (.int 3)) (hd : EvTu K td σ H [.int 1, .int 4]) :
    Ev (tOp (rNeD K) (tLst (tCons ta (tCons tb (tCons tc (tCons td tNil))))) (tLst (tCons (tC (.int 3)) (tCons (tC (.bl true)) (tCons (tC (.int 3)) (tCons (tTup (tCons (tC (.int 1)) (tCons (tC (.int 4)) tNil))) tNil)))))) σ H (.bl false) := fun H1 e Q k => by
  refine op_i (lst_i (cons_i (ha H1 e _ fun H2 e2 => cons_i (hb H2 (e.trans e2) _ fun H3 e3 => cons_i (hc H3 (e.trans (e2.trans e3)) _ fun H4 e4 => cons_i (hd H4 (e.trans (e2.trans (e3.trans e4))) _ fun r H5 e5 hr => ⟨by show 4 ≤ sizeLine; decide, fun l hl => ?_⟩))))))
  have e6 := Ex.new (H := H5) (o := .lst [.int 3, .bl true, .int 3, .ref r]) hl
  have h6 : (upd H5 l (.lst [.int 3, .bl true, .int 3, .ref r])) l = some (.lst [.int 3, .bl true, .int 3, .ref r]) := upd_same
  generalize upd H5 l (.lst [.int 3, .bl true, .int 3, .ref r]) = H6 at e6 h6 ⊢
  refine lst_i (cons_i (c_i (cons_i (c_i (cons_i (c_i (cons_i (etu_tup (K := K) (p := 1) (q := 4) ev_c ev_c H6 (Ex.refl H6) _ fun s H7 e7 hs => ⟨by show 4 ≤ sizeLine; decide, fun l2 hl2 => ?_⟩)))))))) 
  have e8 := Ex.new (H := H7) (o := .lst [.int 3, .bl true, .int 3, .ref s]) hl2
  have one : ∀ {H' : Hp} {z : Addr}, SqT K H' z [.int 1, .int 4] → DpAll K H' [.int 3, .bl true, .int 3, .ref z] [.int 3, .bool true, .int 3, .tuple [.int 1, .int 4]] := fun h => .cons (.int 3) (.cons (.bl true) (.cons (.int 3) (.cons (.tup h (.cons (.int 1) (.cons (.int 4) .nil))) .nil)))
  have z := k _ (e2.trans (e3.trans (e4.trans (e5.trans (e6.trans (e7.trans e8))))))
  exact ⟨.list [.int 3, .bool true, .int 3, .tuple [.int 1, .int 4]], .list [.int 3, .bool true, .int 3, .tuple [.int 1, .int 4]], .lst (sq_of ((e7.trans e8) _ _ h6)) (one (ex_t (e6.trans (e7.trans e8)) hr)), .lst (sq_of upd_same) (one (ex_t e8 hs)), by decide +kernel, by decide +kernel, by
    rw [show PyData.eqv (.list [.int 3, .bool true, .int 3, .tuple [.int 1, .int 4]]) (.list [.int 3, .bool true, .int 3, .tuple [.int 1, .int 4]]) = true by decide +kernel]
    exact z⟩
end
abbrev nLaw : List Str := ["_law_script", "_law_pen_here", "_law_turn_so", "_law_one", "_law_other", "_law_pair", "_law_three", "_law_cells", "_law_far"]
section
variable {P : Program} {w : World} {K : PySem.W.Frag} {mg : Str → Option Value} {base : Heap}
/-! ### law -/
def spLaw (K : PySem.W.Frag) : Sp := fun vs H Q _ => ∃ (a : Addr) (ns : List Int), vs = [.ref a] ∧ SqL K H a (ns.map V.int) ∧ ns.length ≤ 63 ∧ ∀ H', Q (.bl true) H'
theorem scLaw : FnScope nLaw ["_law_script"] (defScope sLaw) := ⟨rfl, rfl, rfl, by decide +kernel, rfl, by decide +kernel, by decide +kernel⟩
theorem ok_Law {C f fF fM fO fRt fCo fRa fSt pRt pCo pRa pSt fAR : Addr} {mc u0 : Value} {fd fdF fdM fdO fdRt fdCo fdRa fdSt fdAR : FuncData} (F : Fun K "law" "law" sLaw f fd) (T : GlbS mg) (N : GName K mg C mc) (G : GCls K C)
    (MF : Meth K C "first_above" fF) (MM : Meth K C "at_most" fM) (MO : Meth K C "first_over" fO) (PRt : PropOf K C "rate" pRt fRt)
    (SCo : SMet K C mc "constant" pCo fCo) (SRa : SMet K C mc "ramp" pRa fRa) (SSt : SMet K C mc "steps" pSt fSt)
    (GF : FnOk P w K mg base CX0 4 fF fdF ["self", "other"] (spGFA K C)) (bF : Binds K fdF ["self", "other"] []) (GM : FnOk P w K mg base CX0 5 fM fdM ["self", "other"] (spGAM K C)) (bM : Binds K fdM ["self", "other"] [])
    (GO : FnOk P w K mg base CX0 3 fO fdO ["self", "value"] (spGFO K C)) (bO : Binds K fdO ["self", "value"] []) (GRt : FnOk P w K mg base CX0 1 fRt fdRt ["self"] (spGRate K C)) (bRt : Binds K fdRt ["self"] [])
    (GCo : FnOk P w K mg base CX0 6 fCo fdCo ["value"] (spConst K C)) (bCo : Binds K fdCo ["value"] []) (GSt : FnOk P w K mg base CX0 6 fSt fdSt ["many"] (spSteps K C)) (bSt : Binds K fdSt ["many"] [])
    (GRa : FnOk P w K mg base CX0 6 fRa fdRa ["gain", "begin"] (spRamp K C)) (bRa : Binds K fdRa ["gain", "begin"] [u0]) (bRa2 : Binds K fdRa ["gain", "begin"] []) (hu : Vals [.int 0] [u0])
    (GAR : FnG P w K mg base 7 fAR fdAR ["_law_pen_here", "_law_plain_here"] (spAR K)) (kAR : PySem.W.keepIn K (.ref fAR) = true) (bAR : Binds K fdAR ["_law_pen_here", "_law_plain_here"] []) (gAR : mg "_law_alone_right" = some (.ref fAR))
    (LPe : Gfn P w K mg base 1 "_law_pen" ["_law_script"] (spPen K)) (LD : Gfn P w K mg base 1 "_law_draw" ["_law_pen_here", "_law_many"] spDraw) (LPl : Gfn P w K mg base 3 "_law_plain" ["_law_pen_here", "_law_is_rising"] (spPlain K)) (LR : Gfn P w K mg base 8 "_law_pair_right" ["_law_plain_here", "_law_other"] (spPR K)) :
    FnG P w K mg base 10 f fd ["_law_script"] (spLaw K) := by
  obtain ⟨fP, fdP, GP, kP, bP, gP⟩ := LPe
  obtain ⟨fD, fdD, GD, kD, bD, gD⟩ := LD
  obtain ⟨fL, fdL, GL, kL, bL, gL⟩ := LPl
  obtain ⟨fR, fdR, GR, kR, bR, gR⟩ := LR
  refine fnG_of F scLaw (fun vs H Q E h => ?_) (fun cdv A outer s H vs Q E gd hr h => ?_)
  · obtain ⟨a, ns, rfl, _⟩ := h
    rfl
  · obtain ⟨a, ns, rfl, hS, h63, k⟩ := h
    have gq : ∀ env, Qt (A.deeper env) := fun env => gd.deeper env
    have r8 := hr.mono (show 8 ≤ 9 by decide)
    have r7 := hr.mono (show 7 ≤ 9 by decide)
    have r6 := hr.mono (show 6 ≤ 9 by decide)
    have r5 := hr.mono (show 5 ≤ 9 by decide)
    have r4 := hr.mono (show 4 ≤ 9 by decide)
    have r3 := hr.mono (show 3 ≤ 9 by decide)
    have r2 := hr.mono (show 2 ≤ 9 by decide)
    have r1 := hr.mono (show 1 ≤ 9 by decide)
    refine ⟨_, pss_cons (ps_set (i := 1) scLaw.nd rfl (.inl rfl) (pe_call GP r1 (by rfl) gP kP bP .nil pass0 (pa_cons (pv 0) pa_nil)))
      (pss_cons (ps_for PassesOwn.never rfl (pi_range1 (by rfl) T.range (pa_cons pe_int pa_nil)) (pg_name (i := 2) scLaw.nd rfl (.inl rfl))
        (pss_cons (ps_par (i := 3) (j := 4) rfl scLaw.nd rfl rfl (by decide) (by rfl) (by rfl)
          (pa_cons (pe_call GL r3 (by rfl) gL kL bL .nil pass0 (pa_cons (pv 1) (pa_cons pe_bl pa_nil))) (pa_cons (pe_call GL r3 (by rfl) gL kL bL .nil pass0 (pa_cons (pv 1) (pa_cons (pe_cmpR op_eq (pe_call GD r1 (by rfl) gD kD bD .nil pass0 (pa_cons (pv 1) (pa_cons pe_int pa_nil))) pe_int (nomark _)) pa_nil))) pa_nil)) (by rfl))
        (pss_cons (ps_for PassesOwn.never rfl (pi_list (pe_lst (pa_cons (pe_tup (pa_cons (pv 3) (pa_cons (pv 4) pa_nil))) (pa_cons (pe_tup (pa_cons (pv 4) (pa_cons (pv 3) pa_nil))) (pa_cons (pe_tup (pa_cons (pv 3) (pa_cons (pv 3) pa_nil)))
            (pa_cons (pe_tup (pa_cons (pv 3) (pa_cons (pe_tup (pa_cons (pe_ix ix_seq (pv 3) pe_int (fun _ _ => rfl)) (pa_cons (pe_op op_cat (pe_ix ix_seq (pv 3) pe_int (fun _ _ => rfl)) (pe_ix ix_seq (pv 3) pe_int (fun _ _ => rfl))) pa_nil))) pa_nil))) pa_nil)))))) (pg_name (i := 5) scLaw.nd rfl (.inl rfl))
          (pss_one (ps_if (pt_not (pt_val (pe_call GR r8 (by rfl) gR kR bR .nil pass0 (pa_cons (pe_ix ix_seq (pv 5) pe_int (fun _ _ => rfl)) (pa_cons (pe_ix ix_seq (pv 5) pe_int (fun _ _ => rfl)) pa_nil))))) (pss_one ps_no) pss_nil)))
        (pss_one (ps_if (PW.pt (pw_or (pt_not (pt_val (pe_callG GAR (gq _) r7 (by rfl) gAR kAR bAR (pa_cons (pv 1) (pa_cons (pv 3) pa_nil))))) (pw_or1 (pt_not (pt_val (pe_callG GAR (gq _) r7 (by rfl) gAR kAR bAR (pa_cons (pv 1) (pa_cons (pv 4) pa_nil)))))))) (pss_one ps_no) pss_nil)))))
      (pss_cons (ps_par3 (i := 6) (j := 7) (l := 8) rfl scLaw.nd rfl rfl rfl (by decide) (by decide) (by decide) (by rfl) (by rfl) (by rfl)
        (pa_cons (pe_smeth (pe_glob (v := .ref C) rfl N.g rfl) N.rd SRa (GRa.raw bRa hu) r6 pass0 (pa_cons pe_int pa_nil)) (pa_cons (pe_smeth (pe_glob (v := .ref C) rfl N.g rfl) N.rd SSt (fnR0 GSt bSt) r6 pass0 (pa_cons pe_int pa_nil))
          (pa_cons (pe_op op_add (pe_op op_pow pe_int pe_int) (pe_call GD r1 (by rfl) gD kD bD .nil pass0 (pa_cons (pv 1) (pa_cons (pe_op op_pow pe_int pe_int) pa_nil)))) pa_nil))) (by rfl))
      (pss_cons (ps_if (pt_cmpR (op_neD hr.units) (pe_lst (pa_cons (pe_meth (pv 6) G.cls MF GF r4 bF .nil pass0 (pa_cons (pe_smeth (pe_glob (v := .ref C) rfl N.g rfl) N.rd SCo (fnR0 GCo bCo) r6 pass0 (pa_cons pe_int pa_nil)) pa_nil))
          (pa_cons (pe_meth (pv 7) G.cls MM GM r5 bM .nil pass0 (pa_cons (pv 6) pa_nil)) (pa_cons (pe_meth (pv 6) G.cls MO GO r3 bO .nil pass0 (pa_cons pe_int pa_nil)) (pa_cons (pe_prop (pv 7) G.cls PRt GRt r2 bRt .nil pass0 rfl) pa_nil)))))
          (pe_lst (pa_cons pe_int (pa_cons pe_bl (pa_cons pe_int (pa_cons (pe_tup (pa_cons pe_int (pa_cons pe_int pa_nil))) pa_nil))))) (nomark _)) (pss_one ps_no) pss_nil)
      (pss_one (ps_ret (pe_and (pe_cmpR op_eq (pe_meth (pe_smeth (pe_glob (v := .ref C) rfl N.g rfl) N.rd SRa (fnR0 GRa bRa2) r6 pass0 (pa_cons pe_int (pa_cons pe_int pa_nil))) G.cls MF GF r4 bF .nil pass0 (pa_cons (pe_smeth (pe_glob (v := .ref C) rfl N.g rfl) N.rd SRa (fnR0 GRa bRa2) r6 pass0 (pa_cons pe_int (pa_cons (pv 8) pa_nil))) pa_nil)) (pv 8) (nomark _))
        (pe_one (pe_cmpR op_eq (pe_meth (pe_smeth (pe_glob (v := .ref C) rfl N.g rfl) N.rd SRa (fnR0 GRa bRa2) r6 pass0 (pa_cons pe_int (pa_cons (pv 8) pa_nil))) G.cls MF GF r4 bF .nil pass0 (pa_cons (pv 6) pa_nil)) pe_int (nomark _))))))))), ?_⟩
    refine ⟨_, rfl, a, ns, rfl, hS, h63, fun p l H1 _ _ e1 hP => ?_⟩
    refine ⟨5, rfl, by decide, by decide, for_range (lo := 0) (n := 5) (fun i σ' H' => (∃ x2 x3 x4 x5 : Option V, σ' = [some (.ref a), some (.ref p), x2, x3, x4, x5, none, none, none]) ∧ PenAt H' p l ns (31 * i)) ⟨⟨none, none, none, none, rfl⟩, hP⟩ ?_ ?_⟩
    · rintro i σ' H2 hi ⟨⟨x2, x3, x4, x5, rfl⟩, hP2⟩
      show tSeq _ _ _ [some (.ref a), some (.ref p), some (.int (0 + (i : Int))), x3, x4, x5, none, none, none] H2
      refine q_par ?_
      refine cons_i ⟨_, rfl, p, l, ns, 31 * i, true, rfl, hP2, by omega, h63, fun t g a1 H3 k3 P3 N3 A3 a4 ab1 at1 => cons_i ⟨_, rfl, cons_i (op_i (w_draw (p := p) (l := l) (cells := ns) (σ := [some (.ref a), some (.ref p), some (.int (0 + (i : Int))), x3, x4, x5, none, none, none]) (H := H3) (i := 1) (many := 2) rfl (fun H1 _ => ev_c) (by decide) (by decide) h63 (31 * i + 13) H3 (Keep.of_ex (Ex.refl H3)) P3 (by omega) _ fun v H4 hv P4 k4 => ?_))⟩⟩
      obtain ⟨d, rfl, hd⟩ := hv
      refine ⟨rfl, p, l, ns, 31 * i + 13 + 1, _, rfl, P4, by omega, h63, fun t' g' a2 H5 k5 P5 N5 C5 c4 cb ct => ⟨_, _, rfl, ?_⟩⟩
      have N1 := (N3.keep P3 k4).keep P4 k5
      have B1 : PlB K H5 a1 t g := ⟨Pl.keep P4 k5 (Pl.keep P3 k4 A3), a4, ab1, at1⟩
      have B2 : PlB K H5 a2 t' g' := ⟨C5, c4, cb, ct⟩
      have D1 := B1.d8
      have D2 := B2.d8
      obtain ⟨b1, b2, hn1, hn2, hn3, _⟩ := id N1
      obtain ⟨_, _, _, _, _, t0, t1, g0, g1, pt, sm⟩ := id B1.1
      show tSeq _ _ _ [some (.ref a), some (.ref p), some (.int (0 + (i : Int))), some (.ref a1), some (.ref a2), x5, none, none, none] H5
      refine for_i (lst_i (cons_i (etu_pair (K := K) (a := a1) (b := a2) (ev_var rfl) (ev_var rfl) H5 (Ex.refl H5) _ fun z1 H6 e6 h6 => cons_i (etu_pair (K := K) (a := a2) (b := a1) (ev_var rfl) (ev_var rfl) H6 (Ex.refl H6) _ fun z2 H7 e7 h7 => cons_i (etu_pair (K := K) (a := a1) (b := a1) (ev_var rfl) (ev_var rfl) H7 (Ex.refl H7) _ fun z3 H8 e8 h8 => cons_i
        (pair_dbl (K := K) (σ := [some (.ref a), some (.ref p), some (.int (0 + (i : Int))), some (.ref a1), some (.ref a2), x5, none, none, none]) (H := H8) (a := a1) (b1 := b1) (b2 := b2) (g := g) (ev_var rfl)
          (ev_op (ev_var rfl) ev_c (rv_ix (.inr (st_of ((e6.trans (e7.trans e8)) _ _ hn1))) rfl)) (ev_op (ev_var rfl) ev_c (rv_ix (.inr (st_of ((e6.trans (e7.trans e8)) _ _ hn1))) rfl)) ((e6.trans (e7.trans e8)) _ _ hn3) g1
          fun z4 y dl H9 e9 h9 hy hdl => ⟨by show 4 ≤ sizeLine; decide, fun Lz hL => ?_⟩))))))
      have e10 := Ex.new (H := H9) (o := .lst [.ref z1, .ref z2, .ref z3, .ref z4]) hL
      have h10 : (upd H9 Lz (.lst [.ref z1, .ref z2, .ref z3, .ref z4])) Lz = some (.lst [.ref z1, .ref z2, .ref z3, .ref z4]) := upd_same
      generalize upd H9 Lz (.lst [.ref z1, .ref z2, .ref z3, .ref z4]) = H10 at e10 h10 ⊢
      have E10 : Ex H5 H10 := e6.trans (e7.trans (e8.trans (e9.trans e10)))
      have P1 := B1.1.mono E10
      have P2 := B2.1.mono E10
      have P4' : Pl K H10 y t (g ++ g) := ⟨b1, dl, ex_t e10 hy, sq_of (E10 _ _ hn2), ex_l e10 hdl, t0, t1, by rw [List.length_append]; omega, by rw [List.length_append]; omega, pt, fun i hi => by
        rw [List.length_append] at hi
        rw [at_app]
        by_cases c : i < g.length
        · rw [if_pos c]; exact sm i c
        · rw [if_neg c]; exact sm _ (by omega)⟩
      have z1' := ex_t (e7.trans (e8.trans (e9.trans e10))) h6
      have z2' := ex_t (e8.trans (e9.trans e10)) h7
      have z3' := ex_t (e9.trans e10) h8
      have z4' := ex_t e10 h9
      refine ⟨Lz, rfl, ⟨_, sq_of h10⟩, for_list (xs := [.ref z1, .ref z2, .ref z3, .ref z4]) (fun _ σ' H' => ∃ x : Option V, σ' = [some (.ref a), some (.ref p), some (.int (0 + (i : Int))), some (.ref a1), some (.ref a2), x, none, none, none] ∧ Ex H10 H') ⟨_, rfl, Ex.refl _⟩ (fun _ _ H' _ ⟨_, _, e⟩ => sq_of (e _ _ h10)) ?_ ?_⟩
      · rintro j x σ' H11 hx ⟨x0, rfl, e11⟩
        obtain ⟨z, a', c', t1', g1', t2', g2', rfl, hz, pa, pc, da, dc⟩ : ∃ (z a' c' : Addr) (t1' g1' t2' g2' : List Int), x = .ref z ∧ SqT K H10 z [.ref a', .ref c'] ∧ Pl K H10 a' t1' g1' ∧ Pl K H10 c' t2' g2' ∧ Drawn8 t1' g1' ∧ Drawn8 t2' g2' := by
          have hj : j < 4 := (List.getElem?_eq_some_iff.mp hx).1
          have : j = 0 ∨ j = 1 ∨ j = 2 ∨ j = 3 := by omega
          rcases this with rfl | rfl | rfl | rfl
          · obtain rfl := Option.some.inj hx
            exact ⟨z1, a1, a2, _, _, _, _, rfl, z1', P1, P2, D1, D2⟩
          · obtain rfl := Option.some.inj hx
            exact ⟨z2, a2, a1, _, _, _, _, rfl, z2', P2, P1, D2, D1⟩
          · obtain rfl := Option.some.inj hx
            exact ⟨z3, a1, a1, _, _, _, _, rfl, z3', P1, P1, D1, D1⟩
          · obtain rfl := Option.some.inj hx
            exact ⟨z4, a1, y, _, _, _, _, rfl, z4', P1, P4', D1, D1.dbl a4⟩
        show tIfS _ _ _ _ [some (.ref a), some (.ref p), some (.int (0 + (i : Int))), some (.ref a1), some (.ref a2), some (.ref z), none, none, none] H11
        have i0 : Ev (tOp (rIx K) (tVar 5) (tC (.int 0))) [some (.ref a), some (.ref p), some (.int (0 + (i : Int))), some (.ref a1), some (.ref a2), some (.ref z), none, none, none] H11 (.ref a') := ev_op (ev_var rfl) ev_c (rv_ix (.inr (ex_t e11 hz)) rfl)
        have i1 : Ev (tOp (rIx K) (tVar 5) (tC (.int 1))) [some (.ref a), some (.ref p), some (.int (0 + (i : Int))), some (.ref a1), some (.ref a2), some (.ref z), none, none, none] H11 (.ref c') := ev_op (ev_var rfl) ev_c (rv_ix (.inr (ex_t e11 hz)) rfl)
        exact s_if (b := false) (et_is (et_not (et_B (ev_call (z := .bl true) (ea_cons i0 (ea_cons i1 ea_nil)) fun H12 e12 Q q E => ⟨a', c', t1', g1', t2', g2', rfl, pa.mono (e11.trans e12), pc.mono (e11.trans e12), da, dc, q⟩))) rfl) (fun hb => absurd hb (by decide)) (fun _ H12 e12 => ⟨_, rfl, e11.trans e12⟩)
      · rintro σ' H11 ⟨x0, rfl, e11⟩
        have E11 := E10.trans e11
        have P11 := P5.mono E11 (Nat.le_refl _)
        have B1' : PlB K H11 a1 t g := ⟨B1.1.mono E11, B1.2⟩
        have B2' : PlB K H11 a2 t' g' := ⟨B2.1.mono E11, B2.2⟩
        refine ⟨_, rfl, _, rfl, p, l, ns, 31 * i + 13 + 1 + 13, a1, t, g, rfl, P11, by omega, h63, B1', fun H12 k12 P12 => ⟨true, rfl, iteF ?_⟩⟩
        have B2'' := B2'.keep P11 k12
        refine ⟨_, rfl, _, rfl, p, l, ns, 31 * i + 13 + 1 + 13 + 2, a2, t', g', rfl, P12, by omega, h63, B2'', fun H13 k13 P13 => ⟨true, rfl, iteF ?_⟩⟩
        refine ⟨⟨_, _, _, _, rfl⟩, ?_⟩
        have : 31 * (i + 1) = 31 * i + 13 + 1 + 13 + 2 + 2 := by omega
        rw [this]
        exact P13
    · rintro σ' H3 ⟨⟨x2, x3, x4, x5, rfl⟩, P3⟩
      have pw : ∀ {a b : Int} {σ : L2.St} {H1 : Hp}, CPow a b → Ev (tOp (rI CPow fun i j => .int (i ^ j.toNat)) (tC (.int a)) (tC (.int b))) σ H1 (.int (a ^ b.toNat)) := fun h => ev_op ev_c ev_c (rv_I h)
      dsimp only
      refine q_par3 (σ := [some (.ref a), some (.ref p), x2, x3, x4, x5, none, none, none]) (H := H3) ?_
      refine cons_i ⟨rfl, 0, 3, rfl, by decide, fun ot H4 _ e4 gt => cons_i ⟨rfl, 4, rfl, by decide, by decide, fun oc H5 _ e5 gc => cons_i (op_i (pw ⟨by decide, by decide, by decide⟩ H5 (Ex.refl H5) _ fun H6 e6 => w_draw (p := p) (l := l) (cells := ns) (σ := [some (.ref a), some (.ref p), x2, x3, x4, x5, none, none, none]) (H := H6) (i := 1) (many := (10 : Int) ^ (6 : Int).toNat) rfl (fun H1 _ => pw ⟨by decide, by decide, by decide⟩) (by decide) (by decide) h63 (31 * 5) H6 (Keep.of_ex (Ex.refl H6)) (P3.mono (e4.trans (e5.trans e6)) (Nat.le_refl _)) (by decide) _ fun v H7 hv P7 k7 => ?_))⟩⟩
      obtain ⟨d0, rfl, _⟩ := hv
      have P6 := P3.mono (e4.trans (e5.trans e6)) (Nat.le_refl _)
      have gt7 := GrF.keep P6 k7 (gt.mono (e5.trans e6))
      have gc7 := GrF.keep P6 k7 (gc.mono e6)
      refine ⟨_, _, rfl, rfl, _, _, _, rfl, ?_⟩
      obtain ⟨d, hd⟩ : ∃ d : Nat, d = 100000000000000000000 + d0 := ⟨_, rfl⟩
      have ed : (10 : Int) ^ (20 : Int).toNat + (d0 : Int) = (d : Int) := by
        rw [show (10 : Int) ^ (20 : Int).toNat = 100000000000000000000 by decide]
        omega
      have d1 : 0 < d := by omega
      show tSeq _ _ _ [some (.ref a), some (.ref p), x2, x3, x4, x5, some (.ref ot), some (.ref oc), some (.int ((10 : Int) ^ (20 : Int).toNat + (d0 : Int)))] H7
      rw [ed]
      have c37 : Cmp (fThree 0) fSeven := ⟨per_three, per_seven, tail_three, tail_seven⟩
      have cc3 : Cmp fCells (fThree 0) := ⟨per_cells, per_three, tail_cells, tail_three⟩
      have c32 : Cmp (fThree 1) (fTwo d) := ⟨per_three, per_two, tail_three, tail_two⟩
      have c23 : Cmp (fTwo d) (fThree 0) := ⟨per_two, per_three, tail_two, tail_three⟩
      have rt := ev_rate (K := K) (σ := [some (.ref a), some (.ref p), x2, x3, x4, x5, some (.ref ot), some (.ref oc), some (.int (d : Int))]) (H := H7) (t := [0]) (g := stp 4) (i := 7) rfl gc7 Nat.one_pos (by rw [stp4]; decide) (fun i hi => (stp_at hi).1) fun _ => rfl
      rw [show (red (acc (dif (stp 4)) (stp 4).length) (stp 4).length).1 = 1 by decide +kernel, show (red (acc (dif (stp 4)) (stp 4).length) (stp 4).length).2 = 4 by decide +kernel] at rt
      refine q_when (b := false) (et_test (ev_ne4 (K := K) (ev_first (r := some 3) (er_var rfl gt7) (er_const (x := 7)) c37 first_a) (ev_atMost (r := none) (er_var rfl gc7) (er_var rfl gt7) cc3 first_b) (ev_over (x := 6) (r := some 3) (er_var rfl gt7) ev_c (by decide) per_three tail_three first_c) rt)) (fun hb => absurd hb (by decide)) (fun _ H8 e8 => ?_)
      have gt8 := gt7.mono e8
      have r3' : EvR K C (tSMeth C (spRamp K C) E0 (tC (.ref C)) (tCons (tC (.int 3)) (tCons (tC (.int 1)) tNil))) [some (.ref a), some (.ref p), x2, x3, x4, x5, some (.ref ot), some (.ref oc), some (.int (d : Int))] H8 (fThree 1) := fun J e Q q => ⟨rfl, 1, 3, rfl, by decide, fun o J3 _ f3 gr => q o J3 f3 gr⟩
      have r2' : EvR K C (tSMeth C (spRamp K C) E0 (tC (.ref C)) (tCons (tC (.int 2)) (tCons (tVar 8) tNil))) [some (.ref a), some (.ref p), x2, x3, x4, x5, some (.ref ot), some (.ref oc), some (.int (d : Int))] H8 (fTwo d) := fun J e Q q => ⟨rfl, _, rfl, d, 2, rfl, by decide, fun o J3 _ f3 gr => q o J3 f3 gr⟩
      refine s_ret (v := .bl true) (ev_is (ev_andV (ev_op (ev_first (r := some d) r3' r2' c32 first_d) (ev_var rfl) (rv_eq rfl)) fun _ => ev_op (ev_first (r := some 0) r2' (er_var rfl gt8) c23 (first_e d1)) ev_c (rv_eq rfl)) ?_) fun H9 _ => k H9
      rw [show vO (some d) = V.int (d : Int) from rfl, decide_eq_true rfl]
      rfl
end
end K06
namespace L2
open PySem PySem.Spec PyProof.Rows
/-! ### the law's end, for a law that is walked where no repr runs -/
/-- the law's end from a heap in which nothing but the script may be tracked -/
theorem lawG_core {P : Program} {w : World} {K : PySem.W.Frag} {mg mb : Str → Option Value} {k : Nat} {fa a : Addr} {fd : FuncData} {x : Str} {sp : Sp} {s : Shared} {vs : List Value} {ns : List Int} {H : Hp}
    (KX : K.In s.heap) (hns : s.heap.Ns mainGlobals mg) (hb : s.heap.Ns builtinsNs mb) (hbb : ∀ x : Str, x ≠ "__name__" → mb x = bootBuiltins x) (hlim : s.heap.NoLimit) (hg : s.gens = #[])
    (ha : s.heap.get? a = some { cls := .type "list", data := .seq vs.toArray }) (hr : Room k callerA)
    (F : ∀ base : Heap, K.In base → base.Ns mainGlobals mg → FnG P w K mg base k fa fd [x] sp) (hbind : ∀ (s : Shared) (u : Value), BindsTo s fd ⟨[u], []⟩ [(x, u)])
    (hO : Only H) (hok : HOk P w H s.heap) (hA : ∀ b, H b ≠ none → b = a) (hK : H a ≠ none → K.lookup a = none)
    (hsp : sp [.ref a] H (fun v _ => v = .bl true) E0) :
    codeAny (model P w) callerA (.call (.ref fa) ⟨[.ref a], []⟩) (fun r s' => r = .ok (.ret (.bool true)) ∧ OldK s.heap s'.heap ∧ s'.os = s.os ∧ AllBare s'.gens) s := by
  have apart : ∀ {b : Addr} {o : Obj}, s.heap.get? b = some o → (b = a → False) → (hidT s.heap H).get? b = some o := fun {b o} e n => hidT_get e (Classical.byContradiction fun z => n (hA b z))
  have space : ∀ {b : Addr} {m : Str → Option Value}, s.heap.Ns b m → (hidT s.heap H).Ns b m := fun {b m} ⟨o, es, ep, e, d, r⟩ => ⟨o, es, ep, apart e fun z => by
    subst z
    rw [ha] at e
    cases e
    exact Data.noConfusion (show Data.seq vs.toArray _ = Data.dict es ep from d), d, r⟩
  have inb : K.In (hidT s.heap H) := fun b o e => hidT_get (KX b o e) (Classical.byContradiction fun z => by
    obtain rfl := hA b z
    rw [hK z] at e
    cases e)
  have world : Mod K mg (hidT s.heap H) := ⟨inb, space hns, ⟨mb, space hb, hbb⟩, hlim.elim fun mc z => ⟨mc, space z.1, z.2⟩⟩
  have start0 : Env0 P w K mg (hidT s.heap H) callerA [] s H := ⟨rfl, world, fun _ _ z => of_hidT z, Nat.le_of_eq (hidT_size _ _), trivial, fun b hb => absurd hb List.not_mem_nil, hok, .of_eq hg⟩
  refine codeAny_mono ((F _ inb (space hns)).run callerA [] s H ⟨[.ref a], []⟩ [.ref a] [.ref a] _ E0 rfl hr start0 (hbind s (.ref a)) (.cons rfl .nil) hsp) fun r s' h => ?_
  cases r with
  | error e => exact (show False from h).elim
  | ok fl =>
    cases fl with
    | next => exact False.elim h
    | brk => exact False.elim h
    | cont => exact False.elim h
    | ret u =>
      obtain ⟨v, H', os, bare, un, hok', r', q⟩ := h
      obtain rfl : v = .bl true := q
      obtain rfl : u = Value.bool true := r'
      refine ⟨rfl, OldK.of_keep fun b o e => ?_, os, bare⟩
      rcases hO b with z | ⟨ob, xs, z⟩
      · exact un.keep b o e z List.not_mem_nil List.not_mem_nil
      · have e1 := (hok b _ z).1
        have e2 := (hok' b _ (un.frzs b ob _ z)).1
        rw [e] at e1
        cases e1
        exact e2
theorem lawG_call {P : Program} {w : World} {K : PySem.W.Frag} {mg mb : Str → Option Value} {k : Nat} {fa a : Addr} {fd : FuncData} {x : Str} {sp : Sp} {s : Shared} {vs : List Value} {ns : List Int}
    (KX : K.In s.heap) (hns : s.heap.Ns mainGlobals mg) (hb : s.heap.Ns builtinsNs mb) (hbb : ∀ x : Str, x ≠ "__name__" → mb x = bootBuiltins x) (hlim : s.heap.NoLimit) (hg : s.gens = #[])
    (ha : s.heap.get? a = some { cls := .type "list", data := .seq vs.toArray }) (hi : IntsAre vs ns) (hl : ns.length ≤ sizeLine) (hr : Room k callerA)
    (F : ∀ base : Heap, K.In base → base.Ns mainGlobals mg → FnG P w K mg base k fa fd [x] sp) (hbind : ∀ (s : Shared) (u : Value), BindsTo s fd ⟨[u], []⟩ [(x, u)])
    (hsp : ∀ H : Hp, Only H → SqL K H a (ns.map V.int) → sp [.ref a] H (fun v _ => v = .bl true) E0) :
    codeAny (model P w) callerA (.call (.ref fa) ⟨[.ref a], []⟩) (fun r s' => r = .ok (.ret (.bool true)) ∧ OldK s.heap s'.heap ∧ s'.os = s.os ∧ AllBare s'.gens) s := by
  have rv := vals_ints hi
  cases hk : K.lookup a with
  | some o =>
    have e := KX a o hk
    rw [ha] at e
    cases e
    have hS : SqL K (fun _ => none) a (ns.map V.int) := .inr ⟨_, vs.toArray, _, hk, rfl, rfl, rfl, by rw [List.size_toArray, hi.length]; exact hl, by simpa using rv⟩
    exact lawG_core (ns := ns) KX hns hb hbb hlim hg ha hr F hbind (fun _ => .inl rfl) (fun b u z => by cases (show (none : Option HO) = some u from z)) (fun b z => absurd rfl z) (fun z => absurd rfl z) (hsp _ (fun _ => .inl rfl) hS)
  | none =>
    let ob : Obj := { cls := .type "list", data := .seq vs.toArray }
    let H : Hp := upd (fun _ => none) a (.frz ob (.lst (ns.map V.int)))
    have hO : Only H := fun b => by
      by_cases z : b = a
      · exact .inr ⟨_, _, by rw [z]; exact upd_same⟩
      · exact .inl (upd_ne z)
    have only : ∀ b, H b ≠ none → b = a := fun b z => Classical.byContradiction fun n => z (upd_ne n)
    refine lawG_core (ns := ns) (H := H) KX hns hb hbb hlim hg ha hr F hbind hO (fun b u z => ?_) only (fun _ => hk) (hsp H hO (.inl (.inr ⟨ob, upd_same⟩)))
    obtain rfl := only b (by rw [z]; simp)
    cases upd_same.symm.trans z
    exact ⟨ha, by rw [List.length_map]; exact hl, vs, _, rv, ha⟩
theorem walkG_of {l : PySem.W.OpenLaw} {n k : Nat} {q : Program} {loose : List Str} {XP : (Str → Option Value) → Heap → Prop} {YP : World → Heap → Prop} {d : DefRec} {K : Params → PySem.W.Frag} {sp : World → Sp} {x : Str}
    (hn : l.most = some n) (hn2 : n ≤ sizeLine) (hdf : d.params.defaults = []) (hr : Room k callerA)
    (hY : ∀ (w : World) (h : Heap), YP w h → (K w.params).In h)
    (F : ∀ (w : World) (mg : Str → Option Value) (fa : Addr) (h : Heap), (K w.params).In h → h.Ns mainGlobals mg → mg d.name = some (.ref fa) →
      ∃ fd : FuncData, (∀ (s : Shared) (u : Value), BindsTo s fd ⟨[u], []⟩ [(x, u)]) ∧ ∀ base : Heap, (K w.params).In base → base.Ns mainGlobals mg → FnG l.prog w (K w.params) mg base k fa fd [x] (sp w))
    (hsp : ∀ (w : World) (H : Hp) (a : Addr) (ns : List Int), ns.length ≤ n → Only H → SqL (K w.params) H a (ns.map V.int) → sp w [.ref a] H (fun v _ => v = .bl true) E0) :
    PySem.W.WalkO q loose XP YP l.row.toRowW d [] (fun f vs => PySem.call f vs) := by
  refine Att.attach_call hn hdf fun w s₀ s₁ mg mb fa o pm cd doc a vs ns G Y ho hd hcd hmg hobj hints hlen hg => ?_
  obtain ⟨fd, hb, hF⟩ := F w mg fa _ (hY w _ Y) G.T.g hmg
  exact lawG_call (hY w _ Y) G.T.g G.T.b G.T.builtins G.T.nolimit hg hobj hints (Nat.le_trans hlen hn2) hr hF hb fun H hO hS => hsp w H a ns hlen hO hS
end L2
namespace K06
open PySem L2 Evl Gr ClX OpX StX StM OwX
/-- a def of the text named x, its full name y, where it stands -/
structure FQ (K : PySem.W.Frag) (x y : Str) (st : Stmt) (f : Addr) : Prop where
  l : ∃ (oc : Value) (od : Option Addr) (kV doc pm : Value) (an : Option Addr) (cdv ct : Value) (osl : Array (Option Value)),
    K.lookup f = some ⟨oc, od, .func (PySem.W.fnOf x y (defArgs st) (defBody st) (defScope st) .none kV doc pm an cdv ct), osl⟩ ∧ PySem.W.codeIn K cdv y = true
  k : PySem.W.keepIn K (.ref f) = true
theorem FQ.fn {K : PySem.W.Frag} {x y : Str} {st : Stmt} {f : Addr} (h : FQ K x y st f) : ∃ fd, Fun K x y st f fd := by
  obtain ⟨oc, od, kV, doc, pm, an, cdv, ct, osl, h1, h2⟩ := h.l
  exact ⟨_, fun_mk h1 h2 h.k⟩
/-- .. with defaults -/
structure FW (K : PySem.W.Frag) (x y : Str) (st : Stmt) (dvs : List V) (f : Addr) : Prop where
  l : ∃ (oc : Value) (od : Option Addr) (dV kV doc pm : Value) (an : Option Addr) (cdv ct : Value) (osl : Array (Option Value)),
    K.lookup f = some ⟨oc, od, .func (PySem.W.fnOf x y (defArgs st) (defBody st) (defScope st) dV kV doc pm an cdv ct), osl⟩ ∧ PySem.W.codeIn K cdv y = true ∧ DflV K dV dvs
  k : PySem.W.keepIn K (.ref f) = true
theorem FW.fn {K : PySem.W.Frag} {x y : Str} {st : Stmt} {dvs : List V} {f : Addr} (h : FW K x y st dvs f) : ∃ fd, FunD K x y (defArgs st) (defBody st) (defScope st) dvs [] f fd := by
  obtain ⟨oc, od, dV, kV, doc, pm, an, cdv, ct, osl, h1, h2, h3⟩ := h.l
  exact ⟨_, ⟨⟨oc, od, dV, kV, doc, pm, an, cdv, ct, osl, rfl, h1, h2, h3, .inl rfl⟩, h.k⟩⟩
theorem kit_self {K : PySem.W.Frag} {C : Addr} : PySem.W.kitOne K (.ref C) (.ref C) = some true := by
  unfold PySem.W.kitOne
  rw [if_pos (by simp)]
theorem kit_sub {K : PySem.W.Frag} {C : Addr} {t : String} {b : Bool} (m : PySem.W.kitMeta t = true) (h : PySem.W.subIn K (.ref C) (.type t) = some b) : PySem.W.kitOne K (.ref C) (.type t) = some b := by
  unfold PySem.W.kitOne PySem.W.kitCls
  rw [if_neg (by simp)]
  show (if PySem.W.kitMeta t = true then PySem.W.subIn K (.ref C) (.type t) else none) = some b
  rw [if_pos m]
  exact h
theorem all_mk {l : PySem.W.OpenLaw} {w : World} {K : PySem.W.Frag} {h : Heap} {mg : Str → Option Value} {fa fInt fWi fZ fLp fSp fNf fRi fFi fPa fCo fBe fSu fGa fLe fFb fFo fAp fPe fDr fPi fPl fLV fLS fLT fLP fLA fLa mAd mFa mAm mFv mRs mRt mCn mSt mIn mRa C T0 pCn pRa pSt pRs pRt : Addr} {mc : Value} (X : K.In h) (G : h.Ns mainGlobals mg) (hfa : mg "law" = some (.ref fa))
    (aInt : PySem.W.nsIn K mainGlobals "is_integer" = some (some (.ref fInt))) (hInt : FQ K "is_integer" "is_integer" (top 3) fInt)
    (aWi : PySem.W.nsIn K mainGlobals "is_within" = some (some (.ref fWi))) (hWi : FQ K "is_within" "is_within" (top 4) fWi)
    (aZ : PySem.W.nsIn K mainGlobals "is_from_zero" = some (some (.ref fZ))) (hZ : FQ K "is_from_zero" "is_from_zero" (top 5) fZ)
    (aLp : PySem.W.nsIn K mainGlobals "least_period" = some (some (.ref fLp))) (hLp : FQ K "least_period" "least_period" (top 14) fLp)
    (aSp : PySem.W.nsIn K mainGlobals "spare_told" = some (some (.ref fSp))) (hSp : FQ K "spare_told" "spare_told" (top 15) fSp)
    (aNf : PySem.W.nsIn K mainGlobals "normal_form" = some (some (.ref fNf))) (hNf : FQ K "normal_form" "normal_form" (top 16) fNf)
    (aRi : PySem.W.nsIn K mainGlobals "rises_of" = some (some (.ref fRi))) (hRi : FQ K "rises_of" "rises_of" (top 17) fRi)
    (aFi : PySem.W.nsIn K mainGlobals "first_values" = some (some (.ref fFi))) (hFi : FQ K "first_values" "first_values" (top 19) fFi)
    (aPa : PySem.W.nsIn K mainGlobals "parted" = some (some (.ref fPa))) (hPa : FQ K "parted" "parted" (top 20) fPa)
    (aCo : PySem.W.nsIn K mainGlobals "common_length" = some (some (.ref fCo))) (hCo : FQ K "common_length" "common_length" (top 21) fCo)
    (aBe : PySem.W.nsIn K mainGlobals "begin_of_both" = some (some (.ref fBe))) (hBe : FQ K "begin_of_both" "begin_of_both" (top 22) fBe)
    (aSu : PySem.W.nsIn K mainGlobals "summed_parts" = some (some (.ref fSu))) (hSu : FQ K "summed_parts" "summed_parts" (top 23) fSu)
    (aGa : PySem.W.nsIn K mainGlobals "gaps_of" = some (some (.ref fGa))) (hGa : FQ K "gaps_of" "gaps_of" (top 24) fGa)
    (aLe : PySem.W.nsIn K mainGlobals "lead_of" = some (some (.ref fLe))) (hLe : FQ K "lead_of" "lead_of" (top 25) fLe)
    (aFb : PySem.W.nsIn K mainGlobals "first_number_above" = some (some (.ref fFb))) (hFb : FQ K "first_number_above" "first_number_above" (top 26) fFb)
    (aFo : PySem.W.nsIn K mainGlobals "first_number_over" = some (some (.ref fFo))) (hFo : FQ K "first_number_over" "first_number_over" (top 28) fFo)
    (aAp : PySem.W.nsIn K mainGlobals "are_parts" = some (some (.ref fAp))) (hAp : FQ K "are_parts" "are_parts" (top 34) fAp)
    (aPe : PySem.W.nsIn K mainGlobals "_law_pen" = some (some (.ref fPe))) (hPe : FQ K "_law_pen" "_law_pen" (top 38) fPe)
    (aDr : PySem.W.nsIn K mainGlobals "_law_draw" = some (some (.ref fDr))) (hDr : FQ K "_law_draw" "_law_draw" (top 39) fDr)
    (aPi : PySem.W.nsIn K mainGlobals "_law_pick" = some (some (.ref fPi))) (hPi : FQ K "_law_pick" "_law_pick" (top 40) fPi)
    (aPl : PySem.W.nsIn K mainGlobals "_law_plain" = some (some (.ref fPl))) (hPl : FQ K "_law_plain" "_law_plain" (top 41) fPl)
    (aLV : PySem.W.nsIn K mainGlobals "_law_value" = some (some (.ref fLV))) (hLV : FQ K "_law_value" "_law_value" (top 42) fLV)
    (aLS : PySem.W.nsIn K mainGlobals "_law_shared" = some (some (.ref fLS))) (hLS : FQ K "_law_shared" "_law_shared" (top 44) fLS)
    (aLT : PySem.W.nsIn K mainGlobals "_law_told_right" = some (some (.ref fLT))) (hLT : FQ K "_law_told_right" "_law_told_right" (top 45) fLT)
    (aLP : PySem.W.nsIn K mainGlobals "_law_pair_right" = some (some (.ref fLP))) (hLP : FQ K "_law_pair_right" "_law_pair_right" (top 46) fLP)
    (aLA : PySem.W.nsIn K mainGlobals "_law_alone_right" = some (some (.ref fLA))) (hLA : FQ K "_law_alone_right" "_law_alone_right" (top 47) fLA)
    (aLa : PySem.W.nsIn K mainGlobals "law" = some (some (.ref fLa))) (hLa : FQ K "law" "law" (top 48) fLa)
    (aC : PySem.W.nsIn K mainGlobals "Growth" = some (some (.ref C))) (rd : PySem.W.readsIn K C mc = true) (ga : PySem.W.specialIn K (.ref C) "__getattribute__" = some (some (.builtin "type.__getattribute__"))) (most : ∃ t, PySem.W.findCls K (.ref C) mc "MOST" = some (.val (.int 2000 t)))
    (cls : Cls K C) (nt : NoAttr K C "told") (ng : NoAttr K C "gains") (nr : NoAttr K C "rises") (makes : PySem.W.makesIn K C = true) (kC : PySem.W.keepIn K (.ref C) = true) (aIn : PySem.W.findIn K (.ref C) "__init__" = some (some (.ref mIn))) (tIn : PySem.W.isFn K (.ref mIn) = true) (hIn : FW K "__init__" "Growth.__init__" (sGr 1) [.ref T0] mIn)
    (hT0 : ∃ (o : Obj) (its : Array Value) (n : Nat), K.lookup T0 = some o ∧ o.cls = .type "tuple" ∧ o.data = .seq its n ∧ its.size ≤ sizeLine ∧ Vals [.int 0] its.toList)
    (aAd : PySem.W.findIn K (.ref C) "__add__" = some (some (.ref mAd))) (tAd : PySem.W.isFn K (.ref mAd) = true) (hAd : FQ K "__add__" "Growth.__add__" (sGr 5) mAd)
    (aFa : PySem.W.findIn K (.ref C) "first_above" = some (some (.ref mFa))) (tFa : PySem.W.isFn K (.ref mFa) = true) (hFa : FQ K "first_above" "Growth.first_above" (sGr 12) mFa)
    (aAm : PySem.W.findIn K (.ref C) "at_most" = some (some (.ref mAm))) (tAm : PySem.W.isFn K (.ref mAm) = true) (hAm : FQ K "at_most" "Growth.at_most" (sGr 13) mAm)
    (aFv : PySem.W.findIn K (.ref C) "first_over" = some (some (.ref mFv))) (tFv : PySem.W.isFn K (.ref mFv) = true) (hFv : FQ K "first_over" "Growth.first_over" (sGr 14) mFv)
    (PRs : PropOf K C "is_rising" pRs mRs) (hRs : FQ K "is_rising" "Growth.is_rising" (sGr 15) mRs)
    (PRt : PropOf K C "rate" pRt mRt) (hRt : FQ K "rate" "Growth.rate" (sGr 16) mRt)
    (sCn : SMet K C mc "constant" pCn mCn) (hCn : FQ K "constant" "Growth.constant" (sGr 17) mCn)
    (sSt : SMet K C mc "steps" pSt mSt) (hSt : FQ K "steps" "Growth.steps" (sGr 19) mSt)
    (sRa : SMet K C mc "ramp" pRa mRa) (hRa : FW K "ramp" "Growth.ramp" (sGr 18) [.int 0] mRa)
    (first : PySem.W.selfFirst K C = true) (noInt : PySem.W.subIn K (.ref C) (.type "int") = some false) (noBool : PySem.W.subIn K (.ref C) (.type "bool") = some false)
    (ob : PySem.W.mroIn K C (.type "object") = some true)
    (cc : PySem.W.findIn K (.ref C) "__class__" = some (some (.builtin "object.__class__"))) (cs : PySem.W.specialIn K (.builtin "object.__class__") "__get__" = some (some (.builtin "getset_descriptor.__get__"))) (ct : PySem.W.takesIn K (.builtin "object.__class__") = some true)
    (zl : PySem.W.nsIn K mainGlobals "lcm" = some (some (.builtin "math.lcm"))) (zg : PySem.W.nsIn K mainGlobals "gcd" = some (some (.builtin "math.gcd"))) (zm : ∃ t, PySem.W.nsIn K mainGlobals "MOST_PARTS" = some (some (.int 2000 t)))
    (z_isinstance : PySem.W.nsIn K mainGlobals "isinstance" = some none)
    (z_int : PySem.W.nsIn K mainGlobals "int" = some none)
    (z_bool : PySem.W.nsIn K mainGlobals "bool" = some none)
    (z_str : PySem.W.nsIn K mainGlobals "str" = some none)
    (z_len : PySem.W.nsIn K mainGlobals "len" = some none)
    (z_abs : PySem.W.nsIn K mainGlobals "abs" = some none)
    (z_list : PySem.W.nsIn K mainGlobals "list" = some none)
    (z_range : PySem.W.nsIn K mainGlobals "range" = some none)
    (z_tuple : PySem.W.nsIn K mainGlobals "tuple" = some none)
    (z_divmod : PySem.W.nsIn K mainGlobals "divmod" = some none)
    (z_max : PySem.W.nsIn K mainGlobals "max" = some none)
    (z_min : PySem.W.nsIn K mainGlobals "min" = some none)
    (z_zip : PySem.W.nsIn K mainGlobals "zip" = some none)
    (z_all : PySem.W.nsIn K mainGlobals "all" = some none)
    (z_sum : PySem.W.nsIn K mainGlobals "sum" = some none)
    (z_enumerate : PySem.W.nsIn K mainGlobals "enumerate" = some none)
    (z_repr : PySem.W.nsIn K mainGlobals "repr" = some none)
    : ∃ fd : FuncData, (∀ (s : Shared) (v : Value), BindsTo s fd ⟨[v], []⟩ [("_law_script", v)]) ∧ ∀ base : Heap, K.In base → base.Ns mainGlobals mg → FnG l.prog w K mg base 10 fa fd ["_law_script"] (spLaw K) := by
  have eLa := hfa.symm.trans (PySem.W.mg_of X G aLa)
  cases eLa
  have gInt := PySem.W.mg_of X G aInt
  obtain ⟨dInt, FInt⟩ := hInt.fn
  have bInt : Binds K dInt ["value"] [] := FInt.binds fun _ _ _ _ _ _ us hl => match us, hl with | [_], _ => rfl
  have gWi := PySem.W.mg_of X G aWi
  obtain ⟨dWi, FWi⟩ := hWi.fn
  have bWi : Binds K dWi ["value", "least", "most"] [] := FWi.binds fun _ _ _ _ _ _ us hl => match us, hl with | [_, _, _], _ => rfl
  have gZ := PySem.W.mg_of X G aZ
  obtain ⟨dZ, FZ⟩ := hZ.fn
  have bZ : Binds K dZ ["value"] [] := FZ.binds fun _ _ _ _ _ _ us hl => match us, hl with | [_], _ => rfl
  have gLp := PySem.W.mg_of X G aLp
  obtain ⟨dLp, FLp⟩ := hLp.fn
  have bLp : Binds K dLp ["gains"] [] := FLp.binds fun _ _ _ _ _ _ us hl => match us, hl with | [_], _ => rfl
  have gSp := PySem.W.mg_of X G aSp
  obtain ⟨dSp, FSp⟩ := hSp.fn
  have bSp : Binds K dSp ["told", "gains"] [] := FSp.binds fun _ _ _ _ _ _ us hl => match us, hl with | [_, _], _ => rfl
  have gNf := PySem.W.mg_of X G aNf
  obtain ⟨dNf, FNf⟩ := hNf.fn
  have bNf : Binds K dNf ["told", "gains"] [] := FNf.binds fun _ _ _ _ _ _ us hl => match us, hl with | [_, _], _ => rfl
  have gRi := PySem.W.mg_of X G aRi
  obtain ⟨dRi, FRi⟩ := hRi.fn
  have bRi : Binds K dRi ["gains"] [] := FRi.binds fun _ _ _ _ _ _ us hl => match us, hl with | [_], _ => rfl
  have gFi := PySem.W.mg_of X G aFi
  obtain ⟨dFi, FFi⟩ := hFi.fn
  have bFi : Binds K dFi ["one", "many"] [] := FFi.binds fun _ _ _ _ _ _ us hl => match us, hl with | [_, _], _ => rfl
  have gPa := PySem.W.mg_of X G aPa
  obtain ⟨dPa, FPa⟩ := hPa.fn
  have bPa : Binds K dPa ["values", "many"] [] := FPa.binds fun _ _ _ _ _ _ us hl => match us, hl with | [_, _], _ => rfl
  have gCo := PySem.W.mg_of X G aCo
  obtain ⟨dCo, FCo⟩ := hCo.fn
  have bCo : Binds K dCo ["one", "other"] [] := FCo.binds fun _ _ _ _ _ _ us hl => match us, hl with | [_, _], _ => rfl
  have gBe := PySem.W.mg_of X G aBe
  obtain ⟨dBe, FBe⟩ := hBe.fn
  have bBe : Binds K dBe ["one", "other"] [] := FBe.binds fun _ _ _ _ _ _ us hl => match us, hl with | [_, _], _ => rfl
  have gSu := PySem.W.mg_of X G aSu
  obtain ⟨dSu, FSu⟩ := hSu.fn
  have bSu : Binds K dSu ["one", "other"] [] := FSu.binds fun _ _ _ _ _ _ us hl => match us, hl with | [_, _], _ => rfl
  have gGa := PySem.W.mg_of X G aGa
  obtain ⟨dGa, FGa⟩ := hGa.fn
  have bGa : Binds K dGa ["one", "other"] [] := FGa.binds fun _ _ _ _ _ _ us hl => match us, hl with | [_, _], _ => rfl
  have gLe := PySem.W.mg_of X G aLe
  obtain ⟨dLe, FLe⟩ := hLe.fn
  have bLe : Binds K dLe ["one", "other"] [] := FLe.binds fun _ _ _ _ _ _ us hl => match us, hl with | [_, _], _ => rfl
  have gFb := PySem.W.mg_of X G aFb
  obtain ⟨dFb, FFb⟩ := hFb.fn
  have bFb : Binds K dFb ["one", "other"] [] := FFb.binds fun _ _ _ _ _ _ us hl => match us, hl with | [_, _], _ => rfl
  have gFo := PySem.W.mg_of X G aFo
  obtain ⟨dFo, FFo⟩ := hFo.fn
  have bFo : Binds K dFo ["one", "value"] [] := FFo.binds fun _ _ _ _ _ _ us hl => match us, hl with | [_, _], _ => rfl
  have gAp := PySem.W.mg_of X G aAp
  obtain ⟨dAp, FAp⟩ := hAp.fn
  have bAp : Binds K dAp ["values", "most"] [] := FAp.binds fun _ _ _ _ _ _ us hl => match us, hl with | [_, _], _ => rfl
  have gPe := PySem.W.mg_of X G aPe
  obtain ⟨dPe, FPe⟩ := hPe.fn
  have bPe : Binds K dPe ["_law_script"] [] := FPe.binds fun _ _ _ _ _ _ us hl => match us, hl with | [_], _ => rfl
  have gDr := PySem.W.mg_of X G aDr
  obtain ⟨dDr, FDr⟩ := hDr.fn
  have bDr : Binds K dDr ["_law_pen_here", "_law_many"] [] := FDr.binds fun _ _ _ _ _ _ us hl => match us, hl with | [_, _], _ => rfl
  have gPi := PySem.W.mg_of X G aPi
  obtain ⟨dPi, FPi⟩ := hPi.fn
  have bPi : Binds K dPi ["_law_pen_here", "_law_some"] [] := FPi.binds fun _ _ _ _ _ _ us hl => match us, hl with | [_, _], _ => rfl
  have gPl := PySem.W.mg_of X G aPl
  obtain ⟨dPl, FPl⟩ := hPl.fn
  have bPl : Binds K dPl ["_law_pen_here", "_law_is_rising"] [] := FPl.binds fun _ _ _ _ _ _ us hl => match us, hl with | [_, _], _ => rfl
  have gLV := PySem.W.mg_of X G aLV
  obtain ⟨dLV, FLV⟩ := hLV.fn
  have bLV : Binds K dLV ["_law_plain_here", "_law_n"] [] := FLV.binds fun _ _ _ _ _ _ us hl => match us, hl with | [_, _], _ => rfl
  have gLS := PySem.W.mg_of X G aLS
  obtain ⟨dLS, FLS⟩ := hLS.fn
  have bLS : Binds K dLS ["_law_one", "_law_other"] [] := FLS.binds fun _ _ _ _ _ _ us hl => match us, hl with | [_, _], _ => rfl
  have gLT := PySem.W.mg_of X G aLT
  obtain ⟨dLT, FLT⟩ := hLT.fn
  have bLT : Binds K dLT ["_law_plain_here", "_law_other", "_law_n"] [] := FLT.binds fun _ _ _ _ _ _ us hl => match us, hl with | [_, _, _], _ => rfl
  have gLP := PySem.W.mg_of X G aLP
  obtain ⟨dLP, FLP⟩ := hLP.fn
  have bLP : Binds K dLP ["_law_plain_here", "_law_other"] [] := FLP.binds fun _ _ _ _ _ _ us hl => match us, hl with | [_, _], _ => rfl
  have gLA := PySem.W.mg_of X G aLA
  obtain ⟨dLA, FLA⟩ := hLA.fn
  have bLA : Binds K dLA ["_law_pen_here", "_law_plain_here"] [] := FLA.binds fun _ _ _ _ _ _ us hl => match us, hl with | [_, _], _ => rfl
  have gLa := PySem.W.mg_of X G aLa
  obtain ⟨eAd, MAd⟩ := hAd.fn
  have cAd : Binds K eAd ["self", "other"] [] := MAd.binds fun _ _ _ _ _ _ us hl => match us, hl with | [_, _], _ => rfl
  obtain ⟨eFa, MFa⟩ := hFa.fn
  have cFa : Binds K eFa ["self", "other"] [] := MFa.binds fun _ _ _ _ _ _ us hl => match us, hl with | [_, _], _ => rfl
  obtain ⟨eAm, MAm⟩ := hAm.fn
  have cAm : Binds K eAm ["self", "other"] [] := MAm.binds fun _ _ _ _ _ _ us hl => match us, hl with | [_, _], _ => rfl
  obtain ⟨eFv, MFv⟩ := hFv.fn
  have cFv : Binds K eFv ["self", "value"] [] := MFv.binds fun _ _ _ _ _ _ us hl => match us, hl with | [_, _], _ => rfl
  obtain ⟨eRs, MRs⟩ := hRs.fn
  have cRs : Binds K eRs ["self"] [] := MRs.binds fun _ _ _ _ _ _ us hl => match us, hl with | [_], _ => rfl
  obtain ⟨eRt, MRt⟩ := hRt.fn
  have cRt : Binds K eRt ["self"] [] := MRt.binds fun _ _ _ _ _ _ us hl => match us, hl with | [_], _ => rfl
  obtain ⟨eCn, MCn⟩ := hCn.fn
  have cCn : Binds K eCn ["value"] [] := MCn.binds fun _ _ _ _ _ _ us hl => match us, hl with | [_], _ => rfl
  obtain ⟨eSt, MSt⟩ := hSt.fn
  have cSt : Binds K eSt ["many"] [] := MSt.binds fun _ _ _ _ _ _ us hl => match us, hl with | [_], _ => rfl
  have kFa : KBn K eFa ["self", "other"] 1 ["other"] (fun us ws => us ++ ws) (fun vs zs => vs ++ zs) := MFa.kb 1 (fun us ws => us ++ ws) (fun r s => r.append s) fun _ _ _ _ _ _ us ws l1 l2 => match us, l1, ws, l2 with | [_], _, [_], _ => rfl
  have kFv : KBn K eFv ["self", "value"] 1 ["value"] (fun us ws => us ++ ws) (fun vs zs => vs ++ zs) := MFv.kb 1 (fun us ws => us ++ ws) (fun r s => r.append s) fun _ _ _ _ _ _ us ws l1 l2 => match us, l1, ws, l2 with | [_], _, [_], _ => rfl
  obtain ⟨eIn, MIn⟩ := hIn.fn
  obtain ⟨eRa, MRa⟩ := hRa.fn
  obtain ⟨oc, od, kV, doc, pm, an, cdv, ct', osl, lkL, cdL⟩ := hLa.l
  have FLa := fun_mk (st := top 48) lkL cdL hLa.k
  have cIn : Binds K eIn ["self", "told", "gains"] [] := by
    obtain ⟨ds, v0, b0⟩ := MIn.binds1 (ps := ["self", "told", "gains"]) 3 1 (List.cons_ne_nil _ _) rfl fun _ _ _ _ _ _ _ us its l1 l2 => match us, l1, its, l2 with | [_, _, _], _, [_], _ => ⟨_, rfl, rfl⟩
    cases v0
    exact b0
  obtain ⟨dsI, vIn, cIn1⟩ := MIn.binds1 (ps := ["self", "told", "gains"]) 2 0 (List.cons_ne_nil _ _) rfl fun _ _ _ _ _ _ _ us its l1 l2 => match us, l1, its, l2 with | [_, _], _, [_], _ => ⟨_, rfl, rfl⟩
  have cRa2 : Binds K eRa ["gain", "begin"] [] := by
    obtain ⟨ds, v0, b0⟩ := MRa.binds1 (ps := ["gain", "begin"]) 2 1 (List.cons_ne_nil _ _) rfl fun _ _ _ _ _ _ _ us its l1 l2 => match us, l1, its, l2 with | [_, _], _, [_], _ => ⟨_, rfl, rfl⟩
    cases v0
    exact b0
  obtain ⟨dsR, vRa, cRa⟩ := MRa.binds1 (ps := ["gain", "begin"]) 1 0 (List.cons_ne_nil _ _) rfl fun _ _ _ _ _ _ _ us its l1 l2 => match us, l1, its, l2 with | [_], _, [_], _ => ⟨_, rfl, rfl⟩
  have m_isinstance := PySem.W.mg_none_of X G z_isinstance
  have m_int := PySem.W.mg_none_of X G z_int
  have m_bool := PySem.W.mg_none_of X G z_bool
  have m_str := PySem.W.mg_none_of X G z_str
  have m_len := PySem.W.mg_none_of X G z_len
  have m_abs := PySem.W.mg_none_of X G z_abs
  have m_list := PySem.W.mg_none_of X G z_list
  have m_range := PySem.W.mg_none_of X G z_range
  have m_tuple := PySem.W.mg_none_of X G z_tuple
  have m_divmod := PySem.W.mg_none_of X G z_divmod
  have m_max := PySem.W.mg_none_of X G z_max
  have m_min := PySem.W.mg_none_of X G z_min
  have m_zip := PySem.W.mg_none_of X G z_zip
  have m_all := PySem.W.mg_none_of X G z_all
  have m_sum := PySem.W.mg_none_of X G z_sum
  have m_enumerate := PySem.W.mg_none_of X G z_enumerate
  have m_repr := PySem.W.mg_none_of X G z_repr
  have TT : GlbT mg := ⟨m_isinstance, m_int, m_bool, m_str, m_len⟩
  have TS : GlbS mg := ⟨m_len, m_range, m_tuple, m_list⟩
  have TV : GlbV mg := ⟨m_divmod, m_max, m_zip⟩
  have TG : Glb mg := ⟨m_int, m_abs, m_len, m_list⟩
  have TL : GlbL mg := ⟨PySem.W.mg_of X G zl, zm.imp fun _ e => PySem.W.mg_of X G e⟩
  have N : GName K mg C mc := ⟨PySem.W.mg_of X G aC, ⟨rd, ga⟩, most.imp' (fun t => .int 2000 t) fun t e => ⟨e, ⟨t, rfl⟩⟩⟩
  have GC : GCls K C := ⟨cls, nt, ng, nr⟩
  have GI : GIsi K C := ⟨cc, cs, ct, ob, kit_self, kit_sub (by decide +kernel) noInt, kit_sub (by decide +kernel) noBool⟩
  have M : Mk K C mIn := ⟨makes, aIn, tIn, kC⟩
  have OA : Has K C mAd (PySem.dunder "add") := ⟨aAd, tAd⟩
  have hT : ∀ H, Sq K H T0 (vI [0]) := fun H => .inr (.inr hT0)
  refine ⟨PySem.W.fnOf "law" "law" (defArgs sLaw) (defBody sLaw) (defScope sLaw) .none kV doc pm an cdv ct', fun s v => .of_eq rfl, fun base _ _ => ?_⟩
  have oInt : FnOk l.prog w K mg base CX0 1 fInt dInt ["value"] (spIsInt K) := ok_isInt FInt TT
  have oWi : FnOk l.prog w K mg base CX0 2 fWi dWi ["value", "least", "most"] (spWithin K) := ok_within FWi TT FInt bInt gInt
  have oZ : FnOk l.prog w K mg base CX0 2 fZ dZ ["value"] (spFrom0 K) := ok_from0 FZ TT FInt bInt gInt
  have oNf : FnOk l.prog w K mg base CX0 2 fNf dNf ["told", "gains"] (spNF K) := ok_NF FNf TS FLp bLp gLp FSp bSp gSp
  have oRi : FnOk l.prog w K mg base CX0 1 fRi dRi ["gains"] (spRis K) := ok_Ris FRi TS
  have oFi : FnOk l.prog w K mg base CX0 1 fFi dFi ["one", "many"] (spFirst K C) := ok_First FFi TS GC
  have oSu : FnOk l.prog w K mg base CX0 2 fSu dSu ["one", "other"] (spSum K C) := ok_Sum FSu TS TV TL GC FBe bBe gBe FCo bCo gCo FFi bFi gFi FPa bPa gPa
  have oAp : FnOk l.prog w K mg base CX0 3 fAp dAp ["values", "most"] (spParts K) := ok_Parts (fI := fInt) (fdI := dInt) FAp TS TT m_all oZ hZ.k bZ gZ
  have oIn : FnOk l.prog w K mg base CX0 4 mIn eIn ["self", "told", "gains"] (spInit K C) := ok_Init MIn N GC oAp hAp.k bAp gAp oNf hNf.k bNf gNf oRi hRi.k bRi gRi
  have oAd : FnOk l.prog w K mg base CX0 6 mAd eAd ["self", "other"] (spAdd K C) := ok_Add (dvs := []) MAd N GC GI TT M oIn cIn oSu hSu.k bSu gSu
  have oBe : FnOk l.prog w K mg base CX0 1 fBe dBe ["one", "other"] (spBegin K C) := ok_Begin FBe TS TV GC
  have oCo : FnOk l.prog w K mg base CX0 1 fCo dCo ["one", "other"] (spCommon K C) := ok_Common FCo TS TL GC
  have oPa : FnOk l.prog w K mg base CX0 1 fPa dPa ["values", "many"] (spPart K) := ok_Part FPa TS
  have oGa : FnOk l.prog w K mg base CX0 2 fGa dGa ["one", "other"] (spGaps K C) := ok_Gaps FGa TV ⟨_, _, oBe, hBe.k, bBe, gBe⟩ ⟨_, _, oCo, hCo.k, bCo, gCo⟩ ⟨_, _, oFi, hFi.k, bFi, gFi⟩
  have oLe : FnOk l.prog w K mg base CX0 2 fLe dLe ["one", "other"] (spLead K C) := ok_Lead FLe TS GC ⟨_, _, oCo, hCo.k, bCo, gCo⟩
  have oFb : FnOk l.prog w K mg base CX0 3 fFb dFb ["one", "other"] (spFAb K C) := ok_FAb FFb TS m_enumerate m_min ⟨_, _, oGa, hGa.k, bGa, gGa⟩ ⟨_, _, oLe, hLe.k, bLe, gLe⟩ ⟨_, _, oCo, hCo.k, bCo, gCo⟩
  have oFa : FnOk l.prog w K mg base CX0 4 mFa eFa ["self", "other"] (spGFA K C) := ok_GFA MFa N GC GI TT ⟨_, _, oFb, hFb.k, bFb, gFb⟩
  have oAm : FnOk l.prog w K mg base CX0 5 mAm eAm ["self", "other"] (spGAM K C) := ok_GAM MAm GC ⟨aFa, tFa, hFa.k⟩ oFa cFa
  have oRa : FnOk l.prog w K mg base CX0 6 mRa eRa ["gain", "begin"] (spRamp K C) := ok_Ramp MRa N M oIn cIn oZ hZ.k bZ gZ
  have oCn : FnOk l.prog w K mg base CX0 6 mCn eCn ["value"] (spConst K C) := by
    rcases vIn with _ | ⟨r, r0⟩
    cases r0
    cases r
    exact ok_Const (d0 := .none) MCn N M oIn cIn1 hT oZ hZ.k bZ gZ
  have oFo : FnOk l.prog w K mg base CX0 1 fFo dFo ["one", "value"] (spFOv K C) := ok_FOv FFo TS TV m_enumerate GC
  have oFv : FnOk l.prog w K mg base CX0 3 mFv eFv ["self", "value"] (spGFO K C) := ok_GFO MFv oWi hWi.k bWi gWi oFo hFo.k bFo gFo
  have oRs : FnOk l.prog w K mg base CX0 1 mRs eRs ["self"] (spGRis K C) := ok_GRis MRs TS m_all GC
  have oRt : FnOk l.prog w K mg base CX0 1 mRt eRt ["self"] (spGRate K C) := ok_GRate MRt TS (PySem.W.mg_of X G zg) GC
  have oSt : FnOk l.prog w K mg base CX0 6 mSt eSt ["many"] (spSteps K C) := ok_Steps MSt m_range N M oIn cIn oInt hInt.k bInt gInt
  have oDr : FnOk l.prog w K mg base CX0 1 fDr dDr ["_law_pen_here", "_law_many"] spDraw := ok_draw FDr TG
  have oPi : FnOk l.prog w K mg base CX0 2 fPi dPi ["_law_pen_here", "_law_some"] spPick := ok_pick FPi TG FDr bDr gDr
  have oLV : FnOk l.prog w K mg base CX0 1 fLV dLV ["_law_plain_here", "_law_n"] (spLV K) := ok_LV FLV TG m_sum
  have oPl : FnOk l.prog w K mg base CX0 3 fPl dPl ["_law_pen_here", "_law_is_rising"] (spPlain K) := ok_Plain FPl m_range oDr hDr.k bDr gDr oPi hPi.k bPi gPi
  have oLS : FnOk l.prog w K mg base CX0 1 fLS dLS ["_law_one", "_law_other"] spShared := ok_Shared FLS TG
  have oLT : FnOk l.prog w K mg base CX0 2 fLT dLT ["_law_plain_here", "_law_other", "_law_n"] (spTR K) := ok_TR FLT m_range ⟨_, _, oLV, hLV.k, bLV, gLV⟩
  have oLP : FnOk l.prog w K mg base CX0 8 fLP dLP ["_law_plain_here", "_law_other"] (spPR K) := ok_PR FLP TG m_sum m_repr N GC M first OA ⟨aFa, tFa, hFa.k⟩ ⟨aAm, tAm, hAm.k⟩ oIn cIn oAd cAd oFa cFa kFa oAm cAm ⟨_, _, oLT, hLT.k, bLT, gLT⟩
  have oLA : FnG l.prog w K mg base 7 fLA dLA ["_law_pen_here", "_law_plain_here"] (spAR K) := ok_AR FLA TG TV m_range m_sum m_min m_repr N GC M ⟨aFv, tFv, hFv.k⟩ PRs PRt oIn cIn oFv cFv kFv oRs cRs oRt cRt ⟨_, _, oDr, hDr.k, bDr, gDr⟩ ⟨_, _, oPi, hPi.k, bPi, gPi⟩ ⟨_, _, oLV, hLV.k, bLV, gLV⟩ ⟨_, _, oLS, hLS.k, bLS, gLS⟩
  have oPe : FnOk l.prog w K mg base CX0 1 fPe dPe ["_law_script"] (spPen K) := ok_pen FPe TG
  rcases vRa with _ | ⟨rR, r0⟩
  cases r0
  exact ok_Law FLa TS N GC ⟨aFa, tFa, hFa.k⟩ ⟨aAm, tAm, hAm.k⟩ ⟨aFv, tFv, hFv.k⟩ PRt sCn sRa sSt oFa cFa oAm cAm oFv cFv oRt cRt oCn cCn oSt cSt oRa cRa cRa2 (.cons rR .nil) oLA hLA.k bLA gLA
    ⟨_, _, oPe, hPe.k, bPe, gPe⟩ ⟨_, _, oDr, hDr.k, bDr, gDr⟩ ⟨_, _, oPl, hPl.k, bPl, gPl⟩ ⟨_, _, oLP, hLP.k, bLP, gLP⟩
end K06
namespace K06
open PySem L2 Evl
theorem walk {l : PySem.W.OpenLaw} {q : Program} {loose : List Str} {XP : (Str → Option Value) → Heap → Prop} {YP : World → Heap → Prop} {d : DefRec} {K : Params → PySem.W.Frag} (hn : l.most = some 63) (hdf : d.params.defaults = [])
    (hY : ∀ (w : World) (h : Heap), YP w h → (K w.params).In h)
    (F : ∀ (w : World) (mg : Str → Option Value) (fa : Addr) (h : Heap), (K w.params).In h → h.Ns mainGlobals mg → mg d.name = some (.ref fa) →
      ∃ fd : FuncData, (∀ (s : Shared) (u : Value), BindsTo s fd ⟨[u], []⟩ [("_law_script", u)]) ∧ ∀ base : Heap, (K w.params).In base → base.Ns mainGlobals mg → FnG l.prog w (K w.params) mg base 10 fa fd ["_law_script"] (spLaw (K w.params))) :
    PySem.W.WalkO q loose XP YP l.row.toRowW d [] (fun f vs => PySem.call f vs) :=
  walkG_of (n := 63) (k := 10) (x := "_law_script") (sp := fun w => spLaw (K w.params)) hn (by decide) hdf ⟨rfl, by decide, by decide⟩ hY F (fun w H a ns hl _ hS => ⟨a, ns, rfl, hS, hl, fun _ => rfl⟩)
end K06
open PySem PySem.W PyProof.Rows
set_option maxRecDepth 100000 in
set_option maxHeartbeats 0 in
theorem PySem.Challenge.cw_layerpost_k06_growths_compared_holds : PySem.Challenge.rw_layerpost_k06_growths_compared.Holds := by
  w_on; o_law; k_head; (case hw => w_witness2)
  k_fill
  refine K06.walk (l := PySem.Challenge.rw_layerpost_k06_growths_compared) rfl rfl (fun w h Y => PySem.W.kIn_of Y) ?F
  case F =>
    intro w mg fa h KX G hmg
    refine' K06.all_mk KX G hmg ?qaInt ?qhInt ?qaWi ?qhWi ?qaZ ?qhZ ?qaLp ?qhLp ?qaSp ?qhSp ?qaNf ?qhNf ?qaRi ?qhRi ?qaFi ?qhFi ?qaPa ?qhPa ?qaCo ?qhCo ?qaBe ?qhBe ?qaSu ?qhSu ?qaGa ?qhGa ?qaLe ?qhLe ?qaFb ?qhFb ?qaFo ?qhFo ?qaAp ?qhAp ?qaPe ?qhPe ?qaDr ?qhDr ?qaPi ?qhPi ?qaPl ?qhPl ?qaLV ?qhLV ?qaLS ?qhLS ?qaLT ?qhLT ?qaLP ?qhLP ?qaLA ?qhLA ?qaLa ?qhLa ?qaC ?qrd ?qga ?qmost ?qcls ?qnt ?qng ?qnr ?qmakes ?qkC ?qaIn ?qtIn ?qhIn ?qhT0 ?qaAd ?qtAd ?qhAd ?qaFa ?qtFa ?qhFa ?qaAm ?qtAm ?qhAm ?qaFv ?qtFv ?qhFv ?qPRs ?qhRs ?qPRt ?qhRt ?qsCn ?qhCn ?qsSt ?qhSt ?qsRa ?qhRa ?qfirst ?qnoInt ?qnoBool ?qob ?qcc ?qcs ?qct ?qzl ?qzg ?qzm ?qzisinstance ?qzint ?qzbool ?qzstr ?qzlen ?qzabs ?qzlist ?qzrange ?qztuple ?qzdivmod ?qzmax ?qzmin ?qzzip ?qzall ?qzsum ?qzenumerate ?qzrepr
    (case qaInt => k_is)
    (case qhInt => exact ⟨⟨_, _, _, _, _, _, _, _, _, by k_is, by k_is⟩, by k_is⟩)
    (case qaWi => k_is)
    (case qhWi => exact ⟨⟨_, _, _, _, _, _, _, _, _, by k_is, by k_is⟩, by k_is⟩)
    (case qaZ => k_is)
    (case qhZ => exact ⟨⟨_, _, _, _, _, _, _, _, _, by k_is, by k_is⟩, by k_is⟩)
    (case qaLp => k_is)
    (case qhLp => exact ⟨⟨_, _, _, _, _, _, _, _, _, by k_is, by k_is⟩, by k_is⟩)
    (case qaSp => k_is)
    (case qhSp => exact ⟨⟨_, _, _, _, _, _, _, _, _, by k_is, by k_is⟩, by k_is⟩)
    (case qaNf => k_is)
    (case qhNf => exact ⟨⟨_, _, _, _, _, _, _, _, _, by k_is, by k_is⟩, by k_is⟩)
    (case qaRi => k_is)
    (case qhRi => exact ⟨⟨_, _, _, _, _, _, _, _, _, by k_is, by k_is⟩, by k_is⟩)
    (case qaFi => k_is)
    (case qhFi => exact ⟨⟨_, _, _, _, _, _, _, _, _, by k_is, by k_is⟩, by k_is⟩)
    (case qaPa => k_is)
    (case qhPa => exact ⟨⟨_, _, _, _, _, _, _, _, _, by k_is, by k_is⟩, by k_is⟩)
    (case qaCo => k_is)
    (case qhCo => exact ⟨⟨_, _, _, _, _, _, _, _, _, by k_is, by k_is⟩, by k_is⟩)
    (case qaBe => k_is)
    (case qhBe => exact ⟨⟨_, _, _, _, _, _, _, _, _, by k_is, by k_is⟩, by k_is⟩)
    (case qaSu => k_is)
    (case qhSu => exact ⟨⟨_, _, _, _, _, _, _, _, _, by k_is, by k_is⟩, by k_is⟩)
    (case qaGa => k_is)
    (case qhGa => exact ⟨⟨_, _, _, _, _, _, _, _, _, by k_is, by k_is⟩, by k_is⟩)
    (case qaLe => k_is)
    (case qhLe => exact ⟨⟨_, _, _, _, _, _, _, _, _, by k_is, by k_is⟩, by k_is⟩)
    (case qaFb => k_is)
    (case qhFb => exact ⟨⟨_, _, _, _, _, _, _, _, _, by k_is, by k_is⟩, by k_is⟩)
    (case qaFo => k_is)
    (case qhFo => exact ⟨⟨_, _, _, _, _, _, _, _, _, by k_is, by k_is⟩, by k_is⟩)
    (case qaAp => k_is)
    (case qhAp => exact ⟨⟨_, _, _, _, _, _, _, _, _, by k_is, by k_is⟩, by k_is⟩)
    (case qaPe => k_is)
    (case qhPe => exact ⟨⟨_, _, _, _, _, _, _, _, _, by k_is, by k_is⟩, by k_is⟩)
    (case qaDr => k_is)
    (case qhDr => exact ⟨⟨_, _, _, _, _, _, _, _, _, by k_is, by k_is⟩, by k_is⟩)
    (case qaPi => k_is)
    (case qhPi => exact ⟨⟨_, _, _, _, _, _, _, _, _, by k_is, by k_is⟩, by k_is⟩)
    (case qaPl => k_is)
    (case qhPl => exact ⟨⟨_, _, _, _, _, _, _, _, _, by k_is, by k_is⟩, by k_is⟩)
    (case qaLV => k_is)
    (case qhLV => exact ⟨⟨_, _, _, _, _, _, _, _, _, by k_is, by k_is⟩, by k_is⟩)
    (case qaLS => k_is)
    (case qhLS => exact ⟨⟨_, _, _, _, _, _, _, _, _, by k_is, by k_is⟩, by k_is⟩)
    (case qaLT => k_is)
    (case qhLT => exact ⟨⟨_, _, _, _, _, _, _, _, _, by k_is, by k_is⟩, by k_is⟩)
    (case qaLP => k_is)
    (case qhLP => exact ⟨⟨_, _, _, _, _, _, _, _, _, by k_is, by k_is⟩, by k_is⟩)
    (case qaLA => k_is)
    (case qhLA => exact ⟨⟨_, _, _, _, _, _, _, _, _, by k_is, by k_is⟩, by k_is⟩)
    (case qaLa => k_is)
    (case qhLa => exact ⟨⟨_, _, _, _, _, _, _, _, _, by k_is, by k_is⟩, by k_is⟩)
    (case qaC => k_is)
    (case qrd => exact (show PySem.W.readsIn _ _ (.type "type") = true by k_is))
    (case qga => k_is)
    (case qmost => exact ⟨_, by k_is⟩)
    (case qcls => exact ⟨by k_is, by k_is, by k_is, by k_is⟩)
    (case qnt => exact (by unfold L2.NoAttr; k_is))
    (case qng => exact (by unfold L2.NoAttr; k_is))
    (case qnr => exact (by unfold L2.NoAttr; k_is))
    (case qmakes => k_is)
    (case qkC => k_is)
    (case qaIn => k_is)
    (case qtIn => k_is)
    (case qhIn => exact ⟨⟨_, _, _, _, _, _, _, _, _, _, by k_is, by k_is, .inr ⟨by simp, _, _, _, _, rfl, by k_is, rfl, .cons rfl .nil⟩⟩, by k_is⟩)
    (case qhT0 => exact ⟨_, _, _, by k_is, rfl, rfl, by decide, .cons ⟨_, rfl⟩ .nil⟩)
    (case qaAd => k_is)
    (case qtAd => k_is)
    (case qhAd => exact ⟨⟨_, _, _, _, _, _, _, _, _, by k_is, by k_is⟩, by k_is⟩)
    (case qaFa => k_is)
    (case qtFa => k_is)
    (case qhFa => exact ⟨⟨_, _, _, _, _, _, _, _, _, by k_is, by k_is⟩, by k_is⟩)
    (case qaAm => k_is)
    (case qtAm => k_is)
    (case qhAm => exact ⟨⟨_, _, _, _, _, _, _, _, _, by k_is, by k_is⟩, by k_is⟩)
    (case qaFv => k_is)
    (case qtFv => k_is)
    (case qhFv => exact ⟨⟨_, _, _, _, _, _, _, _, _, by k_is, by k_is⟩, by k_is⟩)
    (case qPRs => exact ⟨by k_is, by k_is, by k_is, ⟨_, by k_is⟩⟩)
    (case qhRs => exact ⟨⟨_, _, _, _, _, _, _, _, _, by k_is, by k_is⟩, by k_is⟩)
    (case qPRt => exact ⟨by k_is, by k_is, by k_is, ⟨_, by k_is⟩⟩)
    (case qhRt => exact ⟨⟨_, _, _, _, _, _, _, _, _, by k_is, by k_is⟩, by k_is⟩)
    (case qsCn => exact ⟨by k_is, ⟨_, by k_is⟩, by k_is⟩)
    (case qhCn => exact ⟨⟨_, _, _, _, _, _, _, _, _, by k_is, by k_is⟩, by k_is⟩)
    (case qsSt => exact ⟨by k_is, ⟨_, by k_is⟩, by k_is⟩)
    (case qhSt => exact ⟨⟨_, _, _, _, _, _, _, _, _, by k_is, by k_is⟩, by k_is⟩)
    (case qsRa => exact ⟨by k_is, ⟨_, by k_is⟩, by k_is⟩)
    (case qhRa => exact ⟨⟨_, _, _, _, _, _, _, _, _, _, by k_is, by k_is, .inr ⟨by simp, _, _, _, _, rfl, by k_is, rfl, .cons ⟨_, rfl⟩ .nil⟩⟩, by k_is⟩)
    (case qfirst => k_is)
    (case qnoInt => k_is)
    (case qnoBool => k_is)
    (case qob => k_is)
    (case qcc => k_is)
    (case qcs => k_is)
    (case qct => k_is)
    (case qzl => k_is)
    (case qzg => k_is)
    (case qzm => exact ⟨_, by k_is⟩)
    (case qzisinstance => k_is)
    (case qzint => k_is)
    (case qzbool => k_is)
    (case qzstr => k_is)
    (case qzlen => k_is)
    (case qzabs => k_is)
    (case qzlist => k_is)
    (case qzrange => k_is)
    (case qztuple => k_is)
    (case qzdivmod => k_is)
    (case qzmax => k_is)
    (case qzmin => k_is)
    (case qzzip => k_is)
    (case qzall => k_is)
    (case qzsum => k_is)
    (case qzenumerate => k_is)
    (case qzrepr => k_is)
#print axioms PySem.Challenge.cw_layerpost_k06_growths_compared_holds
