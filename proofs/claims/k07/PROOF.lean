import PyProof.Rows.All
import Wide.All
import OpenK.AllK
import Wide.FinOn
import HandS.ForMost
import HandS.Star
import HandS.SlotsOwn
import HandS.OwnEq
import HandS.Defaults
import HandS.RaiseMore
import HandS.ClsMeth
import HandS.Codes
import KE.KCallOwn
import KE.KOpsOwn
import HandS.Evl
import HandS.Wide
import HandS.IsInst
import HandS.StrMore
import HandS.TupAny
import HandS.Conv
import HandS.Walk
import HandS.Gcd
import KE.KMathGC
import PyProof.AssignAttr
import HandS.Style
import HandS.Text
import HandS.ForExc
import HandS.ExcInit
import HandS.ExcValue
import HandS.ExcField
import KE.KExcIs
import HandS.CallLocal
import HandS.ExcIs
import HandS.Steps
import HandS.Lambda
import PyProof.StrBlock2
import HandS.Dict
import HandS.EndTab
import HandS.MakeKw
import KE.KNest
import PySem.Challenge.RW_layerpost_k07_texts_of_growths
set_option Elab.async false
set_option linter.all false
set_option maxRecDepth 100000
set_option maxHeartbeats 8000000
/-! str of an own instance; str of an int or a text; C.m() of a static method; o.m(k = v) -/
namespace OwX
open PySem PySem.Spec PyProof.Rows L2 ClX StX
/-- a class's own __str__ -/
structure StrIn (K : PySem.W.Frag) (C g : Addr) : Prop where
  there : PySem.W.findIn K (.ref C) "__str__" = some (some (.ref g))
  isDef : PySem.W.isFn K (.ref g) = true
section
variable {X : Cx} {CX : CXT} {n : Nat} {C g : Addr} {sp : Sp} {E : XK}
theorem call_strI (c : StrIn X.K C g) (F : FnR X.prog X.w X.K X.mg X.base CX n g sp) (hr : Room (n + 2) X.A) (hx : Passes CX X E) :
    CallR X (.type "str") (fun xs H Q => ∃ a, xs = [.ref a] ∧ InsC X H a C ∧ sp [.ref a] H (fun v H' => ∃ y, v = .str y ∧ Q v H') E) := by
  intro pins s σ H xs us Q I r h
  obtain ⟨a, rfl, ha, q⟩ := h
  obtain ⟨u, rfl, ru⟩ := vals1 r
  cases (show u = Value.ref a from ru)
  obtain ⟨ox, od, J, _⟩ := insC_at I ha
  refine PySem.W.kso_call hr.in1.in1.units0 I.kIn J c.there c.isDef ?_
  refine wpAny_mono (wpAny_call (SlX.run_at (us := [.ref a]) (ws := [.ref a]) F hr.in1.in1 I.env0.in1.in1 hx I (.cons rfl .nil) q)) (fun v s' back => ?_) fun _ _ z => z
  obtain ⟨v', H', I', rv, y, ey, qy⟩ := back
  subst ey
  obtain ⟨t, et⟩ := (show ∃ t, v = Value.str y t from rv)
  subst et
  exact ⟨.str y, H', I', ⟨t, rfl⟩, qy⟩
/-- of an int that is not too long, and of a text -/
theorem call_strV : CallR X (.type "str") (fun xs H Q => (∃ i, xs = [.int i] ∧ i.natAbs.log2 < 1920 ∧ Q (.str (toString i)) H) ∨ ∃ a, xs = [.str a] ∧ Q (.str a) H) := fun pins s σ H xs us Q I r h =>
  h.elim (fun hi => call_str_int pins s σ H xs us Q I r hi) fun ha => SkE.call_str_str pins s σ H xs us Q I r ha
end
section
variable {X : Cx} {k : Nat} {C p f : Addr} {mc : Value} {fd : FuncData} {ps ks : List Str} {sp : Sp} {o : Expr} {m : Str} {pos apos : Pos} {ta : TE} {tk : TA} {pl : Sem Bool} {kws : List Keyword} {g : List Value → List Value → List Value} {gV : List V → List V → List V}
/-- o.m(k = v, ..), keywords alone -/
theorem pe_methKw (he : PE X o ta) (c : Cls X.K C) (hm : Meth X.K C m f) (F : FnOk X.prog X.w X.K X.mg X.base CX0 k f fd ps sp) (hr : Room k X.A) (hb : KBn X.K fd ps 1 ks g gV) (hkw : PK X kws tk)
    (some_ : (backToKw pos (keywordEach kws X.env)).all (·.1.isSome) = true := by rfl) (names : (backToKw pos (keywordEach kws X.env)).filterMap (·.1) = ks := by rfl)
    (none_ : ((backTo pos (starEach [] X.env)).any (·.1) || (backToKw pos (keywordEach kws X.env)).any (·.1.isNone)) = false := by rfl)
    (form : eval (.Call (.Attribute o m apos) [] kws pos) X.env = (do let ov ← eval o X.env; standAt apos.atName; let (f, first) ← holding [ov] (getMethod ov m pl); callWith pos f first (backTo pos (starEach [] X.env)) (backToKw pos (keywordEach kws X.env))) := by rfl) :
    PE X (.Call (.Attribute o m apos) [] kws pos) (fun σ H Q => ta σ H fun x H1 => ∃ a dx fs, x = .ref a ∧ H1 a = some (.ins C dx fs) ∧ fs.lookup m = none ∧ tk σ H1 fun zs H2 => zs.length = ks.length ∧ sp (gV [.ref a] zs) H2 Q E0) := by
  refine ⟨fun pins s σ H Q I h => PySem.W.methodCall_KW (pl := pl) (thn (he.run pins s σ H _ I h) fun u s1 ⟨x, H1, J, rx, a, dx, fs, ex, ea, l, q⟩ => ?_) form⟩
  subst ex
  cases (show u = Value.ref a from rx)
  refine getmeth_ok J ea c hm l (PySem.W.callWith_KW0 (first := [.ref a]) (h₀ := X.base) J.ok.mod.kin hm.kp some_ ?_ none_)
  refine thn (hkw.run pos pins s1 σ H1 _ J q) fun ws s2 ⟨zs, H2, J2, rz, l2, q2⟩ => ⟨J2.kIn, ?_⟩
  rw [names]
  exact run_fnN (us := [.ref a]) (vs := [.ref a]) F hr hb pass0 J2 (.cons rfl .nil) rz rfl l2 q2
end
end OwX
/-! operators of own classes, for instances with a dict or with slots -/
namespace OpX
open PySem PySem.Spec PyProof.Rows L2 StX
section
variable {prog : Program} {w : World} {A : Around} {E : Value → Shared → Prop} {s : Shared} {K : PySem.W.Frag} {x y C f L : Addr} {h₀ : Heap} {m : Str → Option Value} {ox oy : Obj} {od od' : Option Obj}
/-- some answer came -/
def Told (Q : Value → Shared → Prop) (r : Option Value) (s' : Shared) : Prop := ∃ v, r = some v ∧ Q v s'
/-- what an operator's first try told is the operator's word -/
theorem told_pure {M : Model} {B : Around} {F : Value → Shared → Prop} {Q : Value → Shared → Prop} {t : Sem (Option Value)} {k : Option Value → Sem Value} {s' : Shared} (h : wpAny M B t (Told Q) F s') (hk : ∀ v, k (some v) = pure v) : wpAny M B (t >>= k) Q F s' :=
  wpAny_bind (wpAny_mono h (fun r s'' ⟨v, e, q⟩ => by rw [e, hk]; exact wpAny_pure q) fun _ _ z => z)
open Builtin in
/-- object's own != asks the class's == and turns its bool about -/
theorem turned {Q : Value → Shared → Prop} {b : Value} (hu : A.in1.units < cLine) (X : K.In s.heap) (I : PySem.W.InstAt s.heap x ox C od) (hm : PySem.W.mroIn K C (.type "object") = some true)
    (hs : PySem.W.findIn K (.ref C) "__eq__" = some (some (.ref f))) (hf : PySem.W.isFn K (.ref f) = true)
    (h : wpAny (model prog w) A.in1 (call (.ref f) [.ref x, b]) (fun r s' => ∃ c, r = .bool c ∧ Q (.bool (!c)) s') E s) : wpAny (model prog w) A (call (.builtin "object.__ne__") [.ref x, b]) Q E s := by
  refine wpAny_call (codeAny_call_builtin PySem.F.slot_object_ne.plain PySem.F.entry_object_ne (PySem.W.check_slot (i := "object.__ne__") (owner := "object") (n := "__ne__") (by decide +kernel) (by decide +kernel) (I.type.andThen (PySem.W.looks_mroIn X hm)) (PySem.F.args_object_ne_2 _ _) ?_))
  show wpAny _ _ (Builtin.«object.__ne__» _) _ _ _
  unfold Builtin.«object.__ne__»
  exact wpAny_bind (m := slotArgs "__ne__" 1 _) (wpAny_pure (wpAny_bind (m := cRoomFor _ _) (wpAny_cRoomFor hu (wpAny_bind (m := callSpecialIfBound? (.ref x) (Str.ofString "__eq__") _)
    (PySem.W.ifBound_K X I hs hf (wpAny_mono h (fun r s' ⟨c, e, q⟩ => by
      subst e
      exact wpAny_bind (m := truthy (.bool c)) (wpAny_truthy_bool (wpAny_pure q))) fun _ _ z => z))))))
/-- x != y, both of one class that has an own == and object's != -/
theorem ne_same {Q : Value → Shared → Prop} (hu : A.units < cLine) (hu1 : A.in1.units < cLine) (X : K.In s.heap) (I : PySem.W.InstAt s.heap x ox C od) (J : PySem.W.InstAt s.heap y oy C od')
    (hne : PySem.W.findIn K (.ref C) "__ne__" = some (some (.builtin "object.__ne__"))) (hm : PySem.W.mroIn K C (.type "object") = some true) (hs : PySem.W.findIn K (.ref C) "__eq__" = some (some (.ref f))) (hf : PySem.W.isFn K (.ref f) = true)
    (h : wpAny (model prog w) A.in1 (call (.ref f) [.ref x, .ref y]) (fun r s' => ∃ c, r = .bool c ∧ Q (.bool (!c)) s') E s) : wpAny (model prog w) A (richCompare .NotEq (.ref x) (.ref y)) Q E s := by
  have word := turned (Q := fun v s' => Q v s' ∧ ∃ c, v = .bool c) hu1 X I hm hs hf (wpAny_mono h (fun r s' ⟨c, e, q⟩ => ⟨c, e, q, _, rfl⟩) fun _ _ z => z)
  have bnd : PySem.W.Looks (model prog w) s.heap (bindSpecial (.builtin "object.__ne__") (.ref x)) (.builtin "object.__ne__", [.ref x]) := PySem.W.Looks.of_pure (PySem.F.slot_object_ne.bind _)
  have asked : wpAny (model prog w) A (call (.builtin "object.__ne__") ([.ref x] ++ [.ref y]) >>= fun v => pure (some v)) (Told fun v s' => Q v s' ∧ ∃ c, v = .bool c) E s := wpAny_bind (wpAny_mono word (fun v s' q => wpAny_pure ⟨v, rfl, q⟩) fun _ _ z => z)
  have tried : wpAny (model prog w) A (tryCompare (.ref x) (cmpInfo .NotEq).2.1 (.ref y)) (Told Q) E s := by
    unfold tryCompare callSpecialIfBound? bindSpecialIfBound?
    refine wpAny_bind (wpAny_holding (wpAny_bind (wpAny_bind (wpAny_bind (I.type.here ((PySem.W.looks_findIn X hne).here (wpAny_bind (wpAny_askSetting (wpAny_ite ?_)))))))))
    split
    · refine wpAny_bind (bnd.here (wpAny_pure ?_))
      exact wpAny_mono asked (fun r s' ⟨v, e, q, c, ec⟩ => by
        subst e ec
        exact wpAny_pure ⟨_, rfl, q⟩) fun _ _ z => z
    · refine wpAny_tryCatch (wpAny_bind (bnd.here (wpAny_pure ?_)))
      exact wpAny_mono asked (fun r s' ⟨v, e, q, c, ec⟩ => by
        subst e ec
        exact wpAny_pure ⟨_, rfl, q⟩) fun _ _ z => z
  have same : (Value.ref C != Value.ref C) = false := by simp
  unfold richCompare
  rw [oneThing_ref]
  refine wpAny_holding (wpAny_bind (wpAny_cRoomFor hu (wpAny_bind (I.type.here (wpAny_bind (J.type.here ?_))))))
  rw [same, if_neg Bool.false_ne_true]
  exact wpAny_bind (wpAny_pure (told_pure tried fun _ => rfl))
end
section
variable {X : Cx} {CX : CXT} {n : Nat} {C g : Addr} {sp : Sp} {E : XK}
/-- x op y: both of the class at C -/
def rS (X : Cx) (C : Addr) (sp : Sp) (E : XK) : R2 := fun x y H Q => ∃ a b, x = .ref a ∧ y = .ref b ∧ InsC X H a C ∧ InsC X H b C ∧ sp [.ref a, .ref b] H Q E
/-- x op i: x of the class at C, i an int -/
def rI (X : Cx) (C : Addr) (sp : Sp) (E : XK) : R2 := fun x y H Q => ∃ a i, x = .ref a ∧ y = .int i ∧ InsC X H a C ∧ sp [.ref a, .int i] H Q E
/-- i op x: the reflected one -/
def rR (X : Cx) (C : Addr) (sp : Sp) (E : XK) : R2 := fun x y H Q => ∃ a i, x = .int i ∧ y = .ref a ∧ InsC X H a C ∧ sp [.ref a, .int i] H Q E
/-- the def of an operator -/
structure Has (K : PySem.W.Frag) (C g : Addr) (name : Str) : Prop where
  at_ : PySem.W.findIn K (.ref C) name = some (some (.ref g))
  fn : PySem.W.isFn K (.ref g) = true
theorem run_own {pins : List (Addr × Obj)} {σ : L2.St} {H : Hp} {s : Shared} {Q : VK} {us : List Value} {vs : List V} (F : FnR X.prog X.w X.K X.mg X.base CX n g sp) (hr : Room n X.A) (hx : Passes CX X E) (I : Inv X pins σ H s) (r : Vals vs us)
    (q : sp vs H Q E) : wpAny (model X.prog X.w) X.A (call (.ref g) us) (PySem.W.CmpBack (EP X pins σ Q)) X.xe s := by
  refine wpAny_mono (wpAny_call (run_fnR F hr hx I r q)) (fun w s' z => ?_) fun _ _ x => x
  obtain ⟨z', H', I', rz, qz⟩ := z
  exact SlX.cmpback rz ⟨z', H', I', rz, qz⟩
theorem op_binS {op : Operator} (hc : PySem.W.selfFirst X.K C = true) (h : Has X.K C g (PySem.dunder op.info.2)) (F : FnR X.prog X.w X.K X.mg X.base CX n g sp) (hr : Room n X.A) (hx : Passes CX X E) :
    OpR X (binaryOp op) (rS X C sp E) := by
  intro pins s σ H x y v u Q I rx ry hq
  obtain ⟨a, b, rfl, rfl, ha, hb, q⟩ := hq
  cases (show v = Value.ref a from rx)
  cases (show u = Value.ref b from ry)
  obtain ⟨ox, od, J, _⟩ := insC_at I ha
  obtain ⟨ox', od', J', _⟩ := insC_at I hb
  obtain ⟨m, hF⟩ := I.fr
  exact PySem.W.binop_K hF I.ok.mod.kin J J'.type hc h.at_ h.fn (run_own (us := [.ref a, .ref b]) (vs := [.ref a, .ref b]) F hr hx I (.cons rfl (.cons rfl .nil)) q)
theorem op_binI {op : Operator} {fo ro rc : Option Value} (hc : PySem.W.selfFirst X.K C = true) (h : Has X.K C g (PySem.dunder op.info.2)) (hrf : PySem.W.findIn X.K (.ref C) (dunderR op.info.2) = some rc) (hp : rc = none ∨ ∃ g : Addr, rc = some (.ref g))
    (h1 : PySem.W.findIn X.K (.type "int") (PySem.dunder op.info.2) = some fo) (h2 : PySem.W.findIn X.K (.type "int") (dunderR op.info.2) = some ro) (hsub : PySem.W.subIn X.K (.type "int") (.ref C) = some false)
    (F : FnR X.prog X.w X.K X.mg X.base CX n g sp) (hr : Room n X.A) (hx : Passes CX X E) : OpR X (binaryOp op) (rI X C sp E) := by
  intro pins s σ H x y v u Q I rx ry hq
  obtain ⟨a, i, rfl, rfl, ha, q⟩ := hq
  cases (show v = Value.ref a from rx)
  obtain ⟨t, e⟩ := (show ∃ t, u = Value.int i t from ry)
  subst e
  obtain ⟨ox, od, J, _⟩ := insC_at I ha
  obtain ⟨m, hF⟩ := I.fr
  exact PySem.W.ksp_binT (T := "int") hF I.ok.mod.kin J rfl hc h.at_ h.fn hrf hp h1 h2 hsub (run_own (us := [.ref a, .int i t]) (vs := [.ref a, .int i]) F hr hx I (.cons rfl (.cons ⟨t, rfl⟩ .nil)) q)
/-- x == y: x of the class at C; y an instance of a class that is not below C -/
def rEqO (X : Cx) (C : Addr) (sp : Sp) (E : XK) : R2 := fun x y H Q => ∃ a b C', x = .ref a ∧ y = .ref b ∧ InsC X H a C ∧ InsC X H b C' ∧ PySem.W.notFirst X.K C (.ref C') = true ∧ sp [.ref a, .ref b] H Q E
theorem op_eqO {op : CmpOp} (hop : ∀ a b, compareOp op a b = richCompare op a b) (h : Has X.K C g (cmpInfo op).2.1) (F : FnR X.prog X.w X.K X.mg X.base CX n g sp)
    (hr : Room n X.A) (hx : Passes CX X E) : OpR X (compareOp op) (rEqO X C sp E) := by
  intro pins s σ H x y v u Q I rx ry hq
  obtain ⟨a, b, C', rfl, rfl, ha, hb, hn, q⟩ := hq
  cases (show v = Value.ref a from rx)
  cases (show u = Value.ref b from ry)
  obtain ⟨ox, od, J, _⟩ := insC_at I ha
  obtain ⟨ox', od', J', _⟩ := insC_at I hb
  obtain ⟨m, hF⟩ := I.fr
  rw [hop]
  exact PySem.W.cmp_K (op := op) (tb := .ref C') hr.units0 hF I.ok.mod.kin J J'.type hn h.at_ h.fn (run_own (us := [.ref a, .ref b]) (vs := [.ref a, .ref b]) F hr hx I (.cons rfl (.cons rfl .nil)) q)
/-- x != y, both of the class at C, which has an own == -/
def rNeO (X : Cx) (C : Addr) (sp : Sp) (E : XK) : R2 := fun x y H Q => ∃ a b, x = .ref a ∧ y = .ref b ∧ InsC X H a C ∧ InsC X H b C ∧ sp [.ref a, .ref b] H (fun v H' => ∃ c, v = .bl c ∧ Q (.bl (!c)) H') E
theorem op_neO (h : Has X.K C g "__eq__") (hne : PySem.W.findIn X.K (.ref C) "__ne__" = some (some (.builtin "object.__ne__"))) (hm : PySem.W.mroIn X.K C (.type "object") = some true) (F : FnR X.prog X.w X.K X.mg X.base CX n g sp)
    (hr : Room (n + 1) X.A) (hx : Passes CX X E) : OpR X (compareOp .NotEq) (rNeO X C sp E) := fun pins s σ H x y v u Q I rx ry ⟨a, b, ex, ey, ha, hb, q⟩ => by
  subst ex ey
  cases (show v = Value.ref a from rx)
  cases (show u = Value.ref b from ry)
  obtain ⟨ox, od, J, _⟩ := insC_at I ha
  obtain ⟨ox', od', J', _⟩ := insC_at I hb
  refine ne_same hr.units0 hr.in1.units0 I.kIn J J' hne hm h.at_ h.fn (wpAny_mono (wpAny_call (SlX.run_at (us := [.ref a, .ref b]) (ws := [.ref a, .ref b]) F hr.in1 I.env0.in1 hx I (.cons rfl (.cons rfl .nil)) q)) (fun r s' back => ?_) fun _ _ z => z)
  obtain ⟨_, H', I', rr, c, ec, qc⟩ := back
  subst ec
  cases (show r = Value.bool c from rr)
  exact ⟨c, rfl, .bl (!c), H', I', rfl, qc⟩
end
end OpX
namespace K07
open PySem L2 Evl
def top (i : Nat) : Stmt := PySem.Challenge.pw_layerpost_k07_texts_of_growths.main.body.getD i (.Pass ⟨0, 0, 0, 0⟩)
abbrev sPen : Stmt := top 36
abbrev sDraw : Stmt := top 37
abbrev sPick : Stmt := top 38
/-! ### the pen: a list of the cells, the place, the rest -/
def PenAt (H : Hp) (p l : Addr) (cells : List Int) (m : Nat) : Prop :=
  ∃ (k : Nat) (r : Int), H p = some (.lst [.ref l, .int (k : Int), .int r]) ∧ H l = some (.lst (cells.map V.int)) ∧ k ≤ m
/-- all but p is as it was -/
def Keep (p : Addr) (H H' : Hp) : Prop := ∀ b o, H b = some o → b ≠ p → H' b = some o
theorem Keep.of_ex {p : Addr} {H H' : Hp} (e : Ex H H') : Keep p H H' := fun b o h _ => e b o h
theorem Keep.trans {p : Addr} {H H1 H2 : Hp} (a : Keep p H H1) (b : Keep p H1 H2) : Keep p H H2 := fun c o h n => b c o (a c o h n) n
theorem Keep.upd {p : Addr} {H : Hp} {o : HO} : Keep p H (upd H p o) := fun b u h n => by rw [upd_ne n]; exact h
theorem PenAt.mono {H H' : Hp} {p l : Addr} {cells : List Int} {m n : Nat} (h : PenAt H p l cells m) (e : Ex H H') (hm : m ≤ n) : PenAt H' p l cells n := by
  obtain ⟨k, r, h1, h2, h3⟩ := h
  exact ⟨k, r, e _ _ h1, e _ _ h2, by omega⟩
theorem PenAt.ne {H : Hp} {p l : Addr} {cells : List Int} {m : Nat} (h : PenAt H p l cells m) : l ≠ p := by
  obtain ⟨k, r, h1, h2, _⟩ := h
  refine ne_of h2 h1 ?_
  intro z
  have z2 := HO.lst.inj z
  cases cells with
  | nil => exact absurd z2 (by simp)
  | cons c cs => exact absurd (List.cons.inj z2).1 (by intro q; cases q)
structure Glb (mg : Str → Option Value) : Prop where
  int : mg "int" = none
  abs : mg "abs" = none
  len : mg "len" = none
  list : mg "list" = none
def spDraw : Sp := fun vs H Q _ => ∃ (p l : Addr) (cells : List Int) (m : Nat) (many : Int), vs = [.ref p, .int many] ∧ PenAt H p l cells m ∧ m ≤ 50000 ∧ cells.length ≤ 63 ∧ 0 < many ∧ many ≤ 1000000000 ∧
  ∀ d H', 0 ≤ d → d < many → PenAt H' p l cells (m + 1) → Keep p H H' → Q (.int d) H'
theorem scDraw : FnScope ["_law_pen_here", "_law_many", "_law_digit", "_law_lap", "_law_cell", "_law_great", "_law_mixed"] ["_law_pen_here", "_law_many"] (defScope sDraw) := ⟨rfl, rfl, rfl, by decide +kernel, rfl, by decide +kernel, by decide +kernel⟩
theorem rc_int {i : Int} {H : Hp} : RC (fun xs H Q => (∃ i, xs = [V.int i] ∧ Q (.int i) H) ∨ ∃ k, xs = [V.bl k] ∧ Q (.int (if k then 1 else 0)) H) [.int i] H (.int i) := fun H1 _ _ q => .inl ⟨i, rfl, q H1 (Ex.refl H1)⟩
theorem rc_intB {b : Bool} {H : Hp} : RC (fun xs H Q => (∃ i, xs = [V.int i] ∧ Q (.int i) H) ∨ ∃ k, xs = [V.bl k] ∧ Q (.int (if k then 1 else 0)) H) [.bl b] H (.int (if b then 1 else 0)) := fun H1 _ _ q => .inr ⟨b, rfl, q H1 (Ex.refl H1)⟩
theorem rc_abs {i : Int} {H : Hp} : RC (fun xs H Q => ∃ i, xs = [V.int i] ∧ Q (.int (if i < 0 then -i else i)) H) [.int i] H (.int (if i < 0 then -i else i)) := fun H1 _ _ q => ⟨i, rfl, q H1 (Ex.refl H1)⟩
theorem rc_len {K : PySem.W.Frag} {p : Addr} {xs : List V} {H : Hp} (h : SqL K H p xs) : RC (fun xs H Q => ∃ p ys, xs = [V.ref p] ∧ (SqL K H p ys ∨ SqT K H p ys) ∧ Q (.int ys.length) H) [.ref p] H (.int (xs.length : Int)) := fun H1 e _ q => ⟨p, xs, rfl, .inl (ex_l e h), q H1 (Ex.refl H1)⟩
theorem dpAll_ints {K : PySem.W.Frag} {H : Hp} : ∀ (ns : List Int), DpAll K H (ns.map V.int) (ns.map PyData.int)
  | [] => .nil
  | n :: ns => .cons (.int n) (dpAll_ints ns)
section
variable {P : Program} {w : World} {K : PySem.W.Frag} {mg : Str → Option Value} {base : Heap}
theorem shaped_nil : SeqAt.shaped (.list []) = true := by decide +kernel
theorem canLay_ints : ∀ (ns : List Int), PyData.canLayAll0 (ns.map PyData.int) = true
  | [] => by simp [PyData.canLayAll0]
  | n :: ns => by simp [PyData.canLayAll0, PyData.canLay0, canLay_ints ns]
theorem depth_ints : ∀ (ns : List Int), PyData.depthAll (ns.map PyData.int) = 0
  | [] => rfl
  | n :: ns => by simp [PyData.depthAll, PyData.depth, depth_ints ns]
theorem shaped_ints (ns : List Int) : SeqAt.shaped (.list (ns.map PyData.int)) = true := by
  unfold SeqAt.shaped
  simp [PyData.canLay0, canLay_ints, PyData.depth, depth_ints]
/-- xs != [], xs a list of ints -/
theorem ev_neNil {σ : L2.St} {H : Hp} {ta : TE} {l : Addr} {cells : List Int} (ha : Ev ta σ H (.ref l)) (h : SqL K H l (cells.map V.int)) :
    ∃ b : Bool, Ev (tOp (rNeD K) ta (tLst tNil)) σ H (.bl b) ∧ (b = true → cells ≠ []) := by
  refine ⟨!(PyData.eqv (.list (cells.map PyData.int)) (.list [])), ev_opL (xs := []) ha (el_lst ea_nil (by decide)) (fun p H1 h1 e => ?_), ?_⟩
  · exact fun H2 e2 Q q => ⟨_, _, .lst (ex_l (e.trans e2) h) (dpAll_ints cells), .lst (sq_of (e2 _ _ h1)) .nil, shaped_ints cells, shaped_nil, q H2 (Ex.refl H2)⟩
  · intro hb hc
    subst hc
    exact absurd hb (by decide +kernel)
end
end K07
namespace K07
open PySem L2 Evl
section
variable {P : Program} {w : World} {K : PySem.W.Frag} {mg : Str → Option Value} {base : Heap}
theorem emod_bd (a b : Int) (h : 0 < b) : 0 ≤ a % b ∧ a % b < b := ⟨Int.emod_nonneg a (by omega), Int.emod_lt_of_pos a h⟩
theorem mul_bd {a b A B : Int} (a0 : 0 ≤ a) (aA : a ≤ A) (b0 : 0 ≤ b) (bB : b ≤ B) : 0 ≤ a * b ∧ a * b ≤ A * B := ⟨Int.mul_nonneg a0 b0, Int.mul_le_mul aA bB b0 (by omega)⟩
/-- the last part of a draw: the mixing -/
theorem ok_draw {f : Addr} {fd : FuncData} (F : Fun K "_law_draw" "_law_draw" sDraw f fd) (T : Glb mg) : FnOk P w K mg base CX0 1 f fd ["_law_pen_here", "_law_many"] spDraw := by
  refine F.ok scDraw (fun vs H Q E h => ?_) (fun cdv A outer s H vs Q E hr h => ?_)
  · obtain ⟨p, l, cells, m, many, rfl, _⟩ := h
    rfl
  · obtain ⟨p, l, cells, m, many, rfl, hp, hm, h63, hm0, hm1, k⟩ := h
    refine ⟨_, pss_cons (ps_if (pt_cmpR op_gt (pe_ix ix_list (pv 0) pe_int (fun _ _ => rfl)) pe_int (nomark _)) (pss_cons (ps_set (i := 2) scDraw.nd rfl (.inl rfl) (pe_op op_mod (pe_callTy call_int1 (by rfl) T.int (by decide +kernel) (pa_cons (pe_ix ix_list (pv 0) pe_int (fun _ _ => rfl)) pa_nil)) (pv 1)))
      (pss_cons (ps_asg (pe_op op_fdiv (pe_callTy call_int1 (by rfl) T.int (by decide +kernel) (pa_cons (pe_ix ix_list (pv 0) pe_int (fun _ _ => rfl)) pa_nil)) (pv 1)) (pg_sub (pv 0) pe_int set_list))
      (pss_one (ps_ret (pv 2))))) pss_nil)
      (pss_cons (ps_set (i := 3) scDraw.nd rfl (.inl rfl) (pe_ix ix_list (pv 0) pe_int (fun _ _ => rfl)))
      (pss_cons (ps_asg (pe_op op_add (pv 3) pe_int) (pg_sub (pv 0) pe_int set_list))
      (pss_cons (ps_set (i := 4) scDraw.nd rfl (.inl rfl) (pe_op op_add (pe_op op_mul pe_int (pv 3)) pe_int))
      (pss_cut (ps_if (pt_cmpR (op_neD hr.units) (pe_ix ix_list (pv 0) pe_int (fun _ _ => rfl)) (pe_lst pa_nil) (nomark _)) (pss_one (ps_set (i := 4) scDraw.nd rfl (.inl rfl) (pe_ix ix_list (pe_ix ix_list (pv 0) pe_int (fun _ _ => rfl)) (pe_op op_mod (pe_callTy call_int1 (by rfl) T.int (by decide +kernel) (pa_cons (pv 3) pa_nil)) (pe_callB call_len_seq (by rfl) T.len PySem.boot_len (pa_cons (pe_ix ix_list (pv 0) pe_int (fun _ _ => rfl)) pa_nil))) (fun _ _ => rfl)))) pss_nil)
      (pss_cons (ps_if (PW.pt (pw_and (pt_cmpR op_lt (pv 3) (pe_callB call_len_seq (by rfl) T.len PySem.boot_len (pa_cons (pe_ix ix_list (pv 0) pe_int (fun _ _ => rfl)) pa_nil)) (nomark _)) (pw_and1 (pt_cmpR op_ge (pe_callB call_abs (by rfl) T.abs (by decide +kernel) (pa_cons (pv 4) pa_nil)) (pe_op op_pow pe_int pe_int) (nomark _))))) (pss_cons (ps_set (i := 5) scDraw.nd rfl (.inl rfl) (pe_op op_add (pe_op op_mul pe_int (pe_op op_sub (pe_callB call_abs (by rfl) T.abs (by decide +kernel) (pa_cons (pv 4) pa_nil)) (pe_op op_pow pe_int pe_int))) (pe_callTy call_int1 (by rfl) T.int (by decide +kernel) (pa_cons (pe_cmpR op_lt (pv 4) pe_int (nomark _)) pa_nil))))
      (pss_cons (ps_asg (pe_op op_fdiv (pe_callTy call_int1 (by rfl) T.int (by decide +kernel) (pa_cons (pv 5) pa_nil)) (pv 1)) (pg_sub (pv 0) pe_int set_list))
      (pss_one (ps_ret (pe_op op_mod (pe_callTy call_int1 (by rfl) T.int (by decide +kernel) (pa_cons (pv 5) pa_nil)) (pv 1)))))) pss_nil)
      (pss_cons (ps_set (i := 6) scDraw.nd rfl (.inl rfl) (pe_op op_mod (pe_callTy call_int1 (by rfl) T.int (by decide +kernel) (pa_cons (pe_op op_pow (pe_op op_add (pe_op op_add (pe_op op_mod (pe_callTy call_int1 (by rfl) T.int (by decide +kernel) (pa_cons (pv 4) pa_nil)) pe_int) (pe_op op_mul pe_int (pv 3))) pe_int) pe_int) pa_nil)) pe_int))
      (pss_cons (ps_set (i := 6) scDraw.nd rfl (.inl rfl) (pe_op op_mod (pe_callTy call_int1 (by rfl) T.int (by decide +kernel) (pa_cons (pe_op op_pow (pe_op op_add (pe_op op_add (pe_op op_mul (pv 6) (pe_op op_add (pe_op op_mul pe_int (pv 3)) pe_int)) (pe_op op_mul (pe_op op_mul pe_int (pv 3)) (pv 3))) pe_int) pe_int) pa_nil)) pe_int))
      (pss_one (ps_ret (pe_op op_mod (pe_callTy call_int1 (by rfl) T.int (by decide +kernel) (pa_cons (pe_op op_fdiv (pv 6) pe_int) pa_nil)) (pv 1))))))))))), ?_⟩
    have hpl := hp.ne
    obtain ⟨n, r, h1, h2, hn⟩ := hp
    have many1 : many < 1073741824 := by omega
    refine q_when (et_test (ev_op (ev_op (ev_var rfl) ev_c (rv_ixL (sq_of h1) (atI_nat (j := 2) rfl))) ev_c rv_I0)) (fun hb H1 e1 => ?_) (fun hb H1 e1 => ?_)
    · -- the rest gives a digit
      have r0 : 0 < r := of_decide_eq_true hb
      have g1 := e1 _ _ h1
      refine q_asg (ev_op (ev_cb (ea_cons (ev_op (ev_var rfl) ev_c (rv_ixL (sq_of g1) (atI_nat (j := 2) rfl))) ea_nil) rc_int) (ev_var rfl) (rv_I hm0)) fun H2 e2 => ?_
      have g2 := e2 _ _ g1
      refine q_setL (j := 2) g2 (ev_op (ev_cb (ea_cons (ev_op (ev_var rfl) ev_c (rv_ixL (sq_of g2) (atI_nat (j := 2) rfl))) ea_nil) rc_int) (ev_var rfl) (rv_I ⟨hm0, many1⟩)) (ev_var rfl) ev_c (by show 2 < 3; decide) fun H3 e3 => ?_
      refine s_ret (ev_var rfl) fun H4 e4 => ?_
      have key : ∀ b o, H b = some o → b ≠ p → H4 b = some o := fun b o hb hbp => e4 b o (by rw [upd_ne hbp]; exact e3 _ _ (e2 _ _ (e1 _ _ hb)))
      exact k _ H4 (emod_bd _ _ hm0).1 (emod_bd _ _ hm0).2 ⟨n, _, e4 _ _ upd_same, key _ _ h2 hpl, by omega⟩ key
    · -- at = pen[1]; pen[1] = at + 1
      have g1 := e1 _ _ h1
      refine q_asg (ev_op (ev_var rfl) ev_c (rv_ixL (sq_of g1) (atI_nat (j := 1) rfl))) fun H2 e2 => ?_
      have g2 := e2 _ _ g1
      refine q_setL (j := 1) g2 (ev_op (ev_var rfl) ev_c rv_I0) (ev_var rfl) ev_c (by show 1 < 3; decide) fun H3 e3 => ?_
      have g3 := e3 _ _ g2
      have hl3 : H3 l = some (.lst (cells.map V.int)) := e3 _ _ (e2 _ _ (e1 _ _ h2))
      have kp3 : ∀ b o, H b = some o → b ≠ p → (upd H3 p (.lst ([V.ref l, V.int (n : Int), V.int r].set 1 (V.int ((n : Int) + 1))))) b = some o := fun b o hb hbp => by
        rw [upd_ne hbp]; exact e3 _ _ (e2 _ _ (e1 _ _ hb))
      generalize hH : upd H3 p (.lst ([V.ref l, V.int (n : Int), V.int r].set 1 (V.int ((n : Int) + 1)))) = J at kp3
      have j1 : J p = some (.lst [V.ref l, V.int ((n + 1 : Nat) : Int), V.int r]) := by
        rw [← hH, upd_same]
        rfl
      have j2 : J l = some (.lst (cells.map V.int)) := kp3 _ _ h2 hpl
      have hn0 : (0 : Int) ≤ (n : Int) ∧ (n : Int) ≤ 50000 := ⟨by omega, by omega⟩
      -- cell = 67397 * at + 2773
      refine q_asg (ev_op (ev_op ev_c (ev_var rfl) (rv_I (.inl ⟨by decide, by decide⟩))) ev_c rv_I0) fun H4 e4 => ?_
      have j41 := e4 _ _ j1
      have j42 := e4 _ _ j2
      -- if pen[0] != []: cell = ..
      obtain ⟨bn, evn, hne⟩ := ev_neNil (K := K) (σ := [some (V.ref p), some (V.int many), none, some (V.int (n : Int)), some (V.int (67397 * (n : Int) + 2773)), none, none]) (H := H4) (cells := cells) (l := l)
        (ta := tOp (rIxL K) (tVar 0) (tC (V.int 0))) (ev_op (ev_var rfl) ev_c (rv_ixL (sq_of j41) (atI_nat (j := 0) rfl))) (sq_of j42)
      refine q_cut (M := fun σ' H' => ∃ c : Int, σ' = [some (V.ref p), some (V.int many), none, some (V.int (n : Int)), some (V.int c), none, none] ∧ Ex H4 H') (s_when (et_test evn) (fun hb H5 e5 => ?_) (fun hb H5 e5 => ⟨_, rfl, e5⟩)) ?_
      · have hlen : 0 < cells.length := List.length_pos_iff.mpr (hne hb)
        have hi : 0 ≤ (n : Int) % (cells.length : Int) ∧ (n : Int) % (cells.length : Int) < (cells.length : Int) := emod_bd _ _ (by omega)
        obtain ⟨i, ei⟩ := Int.eq_ofNat_of_zero_le hi.1
        have il : i < cells.length := by have := hi.2; omega
        have lm : ((cells.map V.int).length : Int) = (cells.length : Int) := by rw [List.length_map]
        refine s_asg (v := V.int (cells[i])) (ev_op (y := V.int (i : Int)) (ev_op (ev_var rfl) ev_c (rv_ixL (sq_of (e5 _ _ j41)) (atI_nat (j := 0) rfl)))
          (ev_is (ev_op (ev_cb (ea_cons (ev_var rfl) ea_nil) rc_int) (ev_cb (ea_cons (ev_op (ev_var rfl) ev_c (rv_ixL (sq_of (e5 _ _ j41)) (atI_nat (j := 0) rfl))) ea_nil) (rc_len (sq_of (e5 _ _ j42)))) (rv_I (by rw [lm]; omega))) (by show V.int ((n : Int) % ((cells.map V.int).length : Int)) = _; rw [lm, ei]))
          (rv_ixL (sq_of (e5 _ _ j42)) (atI_nat (by rw [List.getElem?_map, List.getElem?_eq_getElem il]; rfl)))) fun H6 e6 => ⟨_, rfl, e5.trans e6⟩
      rintro σ' H5 ⟨c, rfl, e5⟩
      have k1 := e5 _ _ j41
      have k2 := e5 _ _ j42
      have kp5 : ∀ b o, H b = some o → b ≠ p → H5 b = some o := fun b o hb hbp => e5 _ _ (e4 _ _ (kp3 _ _ hb hbp))
      have lm : ((cells.map V.int).length : Int) = (cells.length : Int) := by rw [List.length_map]
      refine q_when (et_and (et_test (ev_op (ev_var rfl) (ev_cb (ea_cons (ev_op (ev_var rfl) ev_c (rv_ixL (sq_of k1) (atI_nat (j := 0) rfl))) ea_nil) (rc_len (sq_of k2))) rv_I0))
        (fun _ => et_test (ev_op (ev_cb (ea_cons (ev_var rfl) ea_nil) rc_abs) (ev_op ev_c ev_c (rv_I ⟨by decide, by decide, by decide⟩)) rv_I0))) (fun hb H6 e6 => ?_) (fun hb H6 e6 => ?_)
      · -- a great cell
        refine q_asg (ev_op (ev_op ev_c (ev_op (ev_cb (ea_cons (ev_var rfl) ea_nil) rc_abs) (ev_op ev_c ev_c (rv_I ⟨by decide, by decide, by decide⟩)) rv_I0) (rv_I (.inl ⟨by decide, by decide⟩))) (ev_cb (ea_cons (ev_op (ev_var rfl) ev_c rv_I0) ea_nil) rc_intB) rv_I0) fun H7 e7 => ?_
        have k7 := e7 _ _ (e6 _ _ k1)
        refine q_setL (j := 2) k7 (ev_op (ev_cb (ea_cons (ev_var rfl) ea_nil) rc_int) (ev_var rfl) (rv_I ⟨hm0, many1⟩)) (ev_var rfl) ev_c (by show 2 < 3; decide) fun H8 e8 => ?_
        refine s_ret (ev_op (ev_cb (ea_cons (ev_var rfl) ea_nil) rc_int) (ev_var rfl) (rv_I hm0)) fun H9 e9 => ?_
        have key : ∀ b o, H b = some o → b ≠ p → H9 b = some o := fun b o hb hbp => e9 _ _ (by rw [upd_ne hbp]; exact e8 _ _ (e7 _ _ (e6 _ _ (kp5 _ _ hb hbp))))
        exact k _ H9 (emod_bd _ _ hm0).1 (emod_bd _ _ hm0).2 ⟨n + 1, _, e9 _ _ upd_same, key _ _ h2 hpl, by omega⟩ key
      · -- mixed
        have b1 := emod_bd c 2147483477 (by decide)
        refine q_asg (ev_op (ev_cb (ea_cons (ev_op (ev_op (ev_op (ev_op (ev_cb (ea_cons (ev_var rfl) ea_nil) rc_int) ev_c (rv_I (by decide))) (ev_op ev_c (ev_var rfl) (rv_I (.inl ⟨by decide, by decide⟩))) rv_I0) ev_c rv_I0) ev_c
          (rv_I ⟨by decide, by decide, by omega⟩)) ea_nil) rc_int) ev_c (rv_I (by decide))) fun H7 e7 => ?_
        generalize hx : (c % 2147483477 + 51679 * (n : Int) + 733) ^ (5 : Int).toNat % 2147483587 = x
        have b2 : 0 ≤ x ∧ x < 2147483587 := by rw [← hx]; exact emod_bd _ _ (by decide)
        have b3 := mul_bd b2.1 (by omega : x ≤ 2147483587) (by omega : 0 ≤ 2 * (n : Int) + 935) (by omega : 2 * (n : Int) + 935 ≤ 100935)
        have b4 := mul_bd (by omega : 0 ≤ 48805 * (n : Int)) (by omega : 48805 * (n : Int) ≤ 2440250000) hn0.1 hn0.2
        refine q_asg (ev_op (ev_cb (ea_cons (ev_op (ev_op (ev_op (ev_op (ev_var rfl) (ev_op (ev_op ev_c (ev_var rfl) (rv_I (.inl ⟨by decide, by decide⟩))) ev_c rv_I0) (rv_I (.inl ⟨by omega, by omega⟩)))
            (ev_op (ev_op ev_c (ev_var rfl) (rv_I (.inl ⟨by decide, by decide⟩))) (ev_var rfl) (rv_I (.inl ⟨by omega, by omega⟩))) rv_I0) ev_c rv_I0) ev_c (rv_I ⟨by decide, by decide, by omega⟩)) ea_nil) rc_int) ev_c (rv_I (by decide))) fun H8 e8 => ?_
        refine s_ret (ev_op (ev_cb (ea_cons (ev_op (ev_var rfl) ev_c (rv_I ⟨by decide, by decide⟩)) ea_nil) rc_int) (ev_var rfl) (rv_I hm0)) fun H9 e9 => ?_
        have k9 := e9 _ _ (e8 _ _ (e7 _ _ (e6 _ _ k1)))
        have key : ∀ b o, H b = some o → b ≠ p → H9 b = some o := fun b o hb hbp => e9 _ _ (e8 _ _ (e7 _ _ (e6 _ _ (kp5 _ _ hb hbp))))
        exact k _ H9 (emod_bd _ _ hm0).1 (emod_bd _ _ hm0).2 ⟨n + 1, _, k9, key _ _ h2 hpl, by omega⟩ key
end
end K07
namespace K07
open PySem L2 Evl
section
variable {P : Program} {w : World} {K : PySem.W.Frag} {mg : Str → Option Value} {base : Heap}
/-! ### _law_pen -/
def spPen (K : PySem.W.Frag) : Sp := fun vs H Q _ => ∃ (a : Addr) (ns : List Int), vs = [.ref a] ∧ SqL K H a (ns.map V.int) ∧ ns.length ≤ 63 ∧
  ∀ p l H', H p = none → H l = none → Ex H H' → PenAt H' p l ns 0 → Q (.ref p) H'
theorem scPen : FnScope ["_law_script"] ["_law_script"] (defScope sPen) := ⟨rfl, rfl, rfl, by decide +kernel, rfl, by decide +kernel, by decide +kernel⟩
theorem cut63 (xs : List V) (h : xs.length ≤ 63) : cutV xs none (some 63) = xs := by
  have e1 : HT.sIx xs.length 0 none = 0 := rfl
  have e2 : HT.sIx xs.length xs.length (some 63) = min 63 xs.length := rfl
  unfold cutV
  rw [e1, e2, List.drop_zero, Nat.sub_zero, Nat.min_eq_right h, List.take_length]
theorem ok_pen {f : Addr} {fd : FuncData} (F : Fun K "_law_pen" "_law_pen" sPen f fd) (T : Glb mg) : FnOk P w K mg base CX0 1 f fd ["_law_script"] (spPen K) := by
  refine F.ok scPen (fun vs H Q E h => ?_) (fun cdv A outer s H vs Q E hr h => ?_)
  · obtain ⟨a, ns, rfl, _⟩ := h
    rfl
  · obtain ⟨a, ns, rfl, hS, hl, k⟩ := h
    refine ⟨_, pss_one (ps_ret (pe_lst (pa_cons (pe_callTy call_list_of (by rfl) T.list (by decide +kernel) (pa_cons (pe_slice sl_list (pv 0) po_none (po_some pe_int)) pa_nil)) (pa_cons pe_int (pa_cons pe_int pa_nil))))), ?_⟩
    have ev := el_sl (K := K) (σ := [some (V.ref a)]) (H := H) (tl := tNoPart) (th := tPart (tC (.int 63))) (ev_var (i := 0) rfl) eo_none (eo_some ev_c) hS
    rw [cut63 _ (by rw [List.length_map]; exact hl)] at ev
    refine ev H (Ex.refl H) _ fun q H1 hq e1 h1 => ?_
    refine ⟨q, _, rfl, .inl (sq_of h1), fun l hl1 => ?_⟩
    refine ⟨by show 3 ≤ sizeLine; decide, fun p hp => ?_⟩
    have hp1 : p ≠ l := fun z => by
      rw [z, upd_same] at hp
      cases hp
    have hpn : H1 p = none := by rw [upd_ne hp1] at hp; exact hp
    exact k p l _ (fresh_back e1 hpn) (fresh_back e1 hl1) ((e1.trans (Ex.new hl1)).trans (Ex.new hp)) ⟨0, 0, upd_same, by rw [upd_ne hp1.symm, upd_same], Nat.le_refl _⟩
/-! ### _law_pick -/
def spPick : Sp := fun vs H Q _ => ∃ (p l a : Addr) (cells : List Int) (m : Nat) (xs : List V), vs = [.ref p, .ref a] ∧ PenAt H p l cells m ∧ m ≤ 50000 ∧ cells.length ≤ 63 ∧ H a = some (.lst xs) ∧ a ≠ p ∧ 0 < xs.length ∧ xs.length ≤ 1000000 ∧
  ∀ (i : Nat) x H', xs[i]? = some x → PenAt H' p l cells (m + 1) → Keep p H H' → Q x H'
theorem scPick : FnScope ["_law_pen_here", "_law_some"] ["_law_pen_here", "_law_some"] (defScope sPick) := ⟨rfl, rfl, rfl, by decide +kernel, rfl, by decide +kernel, by decide +kernel⟩
theorem ok_pick {f fD : Addr} {fd fdD : FuncData} (F : Fun K "_law_pick" "_law_pick" sPick f fd) (T : Glb mg) (FD : Fun K "_law_draw" "_law_draw" sDraw fD fdD) (bD : Binds K fdD ["_law_pen_here", "_law_many"] []) (gD : mg "_law_draw" = some (.ref fD)) :
    FnOk P w K mg base CX0 2 f fd ["_law_pen_here", "_law_some"] spPick := by
  have GD : FnOk P w K mg base CX0 1 fD fdD ["_law_pen_here", "_law_many"] spDraw := ok_draw FD T
  refine F.ok scPick (fun vs H Q E h => ?_) (fun cdv A outer s H vs Q E hr h => ?_)
  · obtain ⟨p, l, a, cells, m, xs, rfl, _⟩ := h
    rfl
  · obtain ⟨p, l, a, cells, m, xs, rfl, hp, hm, h63, ha, hap, hx0, hx1, k⟩ := h
    refine ⟨_, pss_one (ps_ret (pe_ix ix_list (pv 1) (pe_call GD hr (by rfl) gD FD.kp bD .nil pass0 (pa_cons (pv 0) (pa_cons (pe_callB call_len_seq (by rfl) T.len PySem.boot_len (pa_cons (pv 1) pa_nil)) pa_nil))) (fun _ _ => rfl))), ?_⟩
    refine ⟨_, rfl, _, rfl, _, rfl, a, xs, rfl, .inl (sq_of ha), p, l, cells, m, (xs.length : Int), rfl, hp, hm, h63, by omega, by omega, fun d H' d0 d1 hp' kp => ?_⟩
    obtain ⟨i, rfl⟩ := Int.eq_ofNat_of_zero_le d0
    have hi : i < xs.length := by omega
    have ei : xs[i]? = some xs[i] := List.getElem?_eq_getElem hi
    exact ⟨a, xs, (i : Int), xs[i], rfl, rfl, sq_of (kp _ _ ha hap), atI_nat ei, k i _ H' ei hp' kp⟩
end
end K07
namespace L2
open PySem PySem.Spec PyProof.Rows
section
variable {X : Cx} {k : Nat} {f : Addr} {fd : FuncData} {ps ks : List Str} {sp : Sp} {x : Str} {p pos : Pos} {kws : List Keyword} {tk : TA} {g : List Value → List Value → List Value} {gV : List V → List V → List V}
/-- f(k = v, ..), keywords alone -/
theorem pe_callK0 (F : FnOk X.prog X.w X.K X.mg X.base CX0 k f fd ps sp) (hr : Room k X.A) (hg : Gl X x) (hm : X.mg x = some (.ref f)) (hk : PySem.W.keepIn X.K (.ref f) = true) (hb : KBn X.K fd ps 0 ks g gV) (hkw : PK X kws tk)
    (hall : (backToKw pos (keywordEach kws X.env)).all (·.1.isSome) = true := by rfl) (hks : (backToKw pos (keywordEach kws X.env)).filterMap (·.1) = ks := by rfl) (hdb : (x == ("__debug__" : Str)) = false := by decide)
    (hpl : ((backTo pos (starEach [] X.env)).any (·.1) || (backToKw pos (keywordEach kws X.env)).any (·.1.isNone)) = false := by rfl) :
    PE X (.Call (.Name x p) [] kws pos) (tCallN 0 ks.length sp gV E0 tNil tk) := by
  refine ⟨fun pins s σ H Q I h => ?_⟩
  refine wpAny_Call_Name_kw (ld_glob I hg hm ?_ hdb)
  refine PySem.W.callWith_KW0 (h₀ := X.base) I.ok.mod.kin hk hall ?_ hpl
  refine thn (hkw.run pos pins s σ H _ I h) fun ws s2 ⟨zs, H2, I2, rz, l1, l2, q2⟩ => ⟨I2.kIn, ?_⟩
  rw [hks]
  exact run_fnN (us := []) (vs := []) F hr hb pass0 I2 .nil rz rfl l2 q2
/-- how a def without defaults binds keywords alone -/
theorem Fun.kb {K : PySem.W.Frag} {x qual : Str} {st : Stmt} {f : Addr} {fd : FuncData} {ps ks : List Str} (F : Fun K x qual st f fd) (n : Nat) (g : {α : Type} → List α → List α → List α)
    (hrel : ∀ {vs zs : List V} {us ws : List Value}, Vals vs us → Vals zs ws → Vals (g vs zs) (g us ws))
    (h : ∀ (kV doc pm : Value) (an : Option Addr) (cdv ct : Value) (us ws : List Value), us.length = n → ws.length = ks.length → bindArgs (PySem.W.fnOf x qual (defArgs st) (defBody st) (defScope st) .none kV doc pm an cdv ct) ⟨us, ks.zip ws⟩ = pure (ps.zip (g us ws))) :
    KBn K fd ps n ks (fun us ws => g us ws) (fun vs zs => g vs zs) := by
  obtain ⟨oc, od, kV, doc, pm, an, cdv, ct, osl, rfl, lk, hcd⟩ := F.ex
  exact ⟨fun s us ws _ l1 l2 => .of_eq (h kV doc pm an cdv ct us ws l1 l2), fun r1 r2 => hrel r1 r2⟩
end
end L2
namespace K07
open PySem L2 Evl
abbrev sIsInt : Stmt := top 3
abbrev sWithin : Stmt := top 4
abbrev sFrom0 : Stmt := top 5
structure GlbT (mg : Str → Option Value) : Prop where
  inst : mg "isinstance" = none
  int : mg "int" = none
  bool : mg "bool" = none
  str : mg "str" = none
  len : mg "len" = none
theorem tyx_mono {K : PySem.W.Frag} {H H' : Hp} {x : V} {t : Value} (e : Ex H H') (h : TyX K H x t) : TyX K H' x t := by
  cases h with
  | base b =>
    refine .base ?_
    cases b with
    | non => exact .non
    | bl b => exact .bl b
    | int i => exact .int i
    | str x => exact .str x
    | flt x => exact .flt x
    | lst q => exact .lst (e _ _ q)
    | frz q => exact .frz (e _ _ q)
    | tup q => exact .tup (e _ _ q)
    | dK q => exact .dK (e _ _ q)
    | dT q => exact .dT (e _ _ q)
    | ins q a b c d f => exact .ins (e _ _ q) a b c d f
  | byt b => exact .byt b
  | set q => exact .set (e _ _ q)
  | kList q c => exact .kList q c
  | kTuple q c => exact .kTuple q c
  | kDict q c => exact .kDict q c
  | fTuple q => exact .fTuple (e _ _ q)
  | fDict q => exact .fDict (e _ _ q)
theorem rc_isi {K : PySem.W.Frag} {H : Hp} {x : V} {a b : String} {r : Bool} (h : TyX K H x (.type a)) (hk : kitB a b = some r) : RC (rIsi K) [x, .ty b] H (.bl r) := fun H1 e _ q => ⟨x, .ty b, .type a, .type b, r, rfl, .ty b, tyx_mono e h, kit_ty hk, q H1 (Ex.refl H1)⟩
section
variable {P : Program} {w : World} {K : PySem.W.Frag} {mg : Str → Option Value} {base : Heap}
/-! ### is_integer -/
def spIsInt (K : PySem.W.Frag) : Sp := fun vs H Q _ => ∃ (x : V) (T : String) (a b : Bool), vs = [x] ∧ TyX K H x (.type T) ∧ kitB T "int" = some a ∧ kitB T "bool" = some b ∧ RetV (.bl (a && !b)) H Q
theorem scIsInt : FnScope ["value"] ["value"] (defScope sIsInt) := ⟨rfl, rfl, rfl, by decide +kernel, rfl, by decide +kernel, by decide +kernel⟩
theorem ok_isInt {f : Addr} {fd : FuncData} (F : Fun K "is_integer" "is_integer" sIsInt f fd) (T : GlbT mg) : FnOk P w K mg base CX0 1 f fd ["value"] (spIsInt K) := by
  refine F.ok scIsInt (fun vs H Q E h => ?_) (fun cdv A outer s H vs Q E hr h => ?_)
  · obtain ⟨x, t, a, b, rfl, _⟩ := h
    rfl
  · obtain ⟨x, t, a, b, rfl, ht, ha, hb, k⟩ := h
    refine ⟨_, pss_one (ps_ret (pe_and (pe_callB call_isi (by rfl) T.inst (by decide +kernel) (pa_cons (pv 0) (pa_cons (pe_bltn (v := .ty "int") (by rfl) T.int (by decide +kernel) rfl) pa_nil)))
      (pe_one (pe_not (pe_callB call_isi (by rfl) T.inst (by decide +kernel) (pa_cons (pv 0) (pa_cons (pe_bltn (v := .ty "bool") (by rfl) T.bool (by decide +kernel) rfl) pa_nil))))))), ?_⟩
    exact s_ret (ev_andV (ev_cb (ea_cons (ev_var rfl) (ea_cons ev_c ea_nil)) (rc_isi ht ha)) fun _ => ev_notV (ev_cb (ea_cons (ev_var rfl) (ea_cons ev_c ea_nil)) (rc_isi ht hb))) k
/-! ### is_within -/
def spWithin (K : PySem.W.Frag) : Sp := fun vs H Q _ => (∃ i lo hi : Int, vs = [.int i, .int lo, .int hi] ∧ RetV (.bl (decide (lo ≤ i) && decide (i ≤ hi))) H Q) ∨
  ∃ (x y z : V) (T : String) (a b : Bool), vs = [x, y, z] ∧ TyX K H x (.type T) ∧ kitB T "int" = some a ∧ kitB T "bool" = some b ∧ (a && !b) = false ∧ RetV (.bl false) H Q
theorem scWithin : FnScope ["value", "least", "most"] ["value", "least", "most"] (defScope sWithin) := ⟨rfl, rfl, rfl, by decide +kernel, rfl, by decide +kernel, by decide +kernel⟩
theorem spv_isInt {H : Hp} {x : V} {t : String} {a b : Bool} (ht : TyX K H x (.type t)) (ha : kitB t "int" = some a) (hb : kitB t "bool" = some b) : SpV (spIsInt K) [x] H (.bl (a && !b)) := fun H1 e Q q E => ⟨x, t, a, b, rfl, tyx_mono e ht, ha, hb, q⟩
theorem kit_int_int : kitB "int" "int" = some true := by decide +kernel
theorem kit_int_bool : kitB "int" "bool" = some false := by decide +kernel
theorem ev_chain {σ : L2.St} {H : Hp} {ta tb tc : TE} {i j l : Int} {f g : Int → Int → Bool} (ha : Ev ta σ H (.int i)) (hb : Ev tb σ H (.int j)) (hc : Ev tc σ H (.int l)) :
    Ev (tChain (rI0 fun i j => .bl (f i j)) (rI0 fun i j => .bl (g i j)) ta tb tc) σ H (.bl (f i j && g j l)) := fun H1 e Q q =>
  ha H1 e _ fun H2 e2 => hb H2 (e.trans e2) _ fun H3 e3 => ⟨i, j, rfl, rfl, f i j, rfl, by
    cases h : f i j with
    | true =>
      simp only [h, Bool.true_and] at q
      exact hc H3 ((e.trans e2).trans e3) _ fun H4 e4 => ⟨j, l, rfl, rfl, q H4 ((e2.trans e3).trans e4)⟩
    | false =>
      simp only [h, Bool.false_and] at q
      exact q H3 (e2.trans e3)⟩
theorem ok_within {f fI : Addr} {fd fdI : FuncData} (F : Fun K "is_within" "is_within" sWithin f fd) (T : GlbT mg) (FI : Fun K "is_integer" "is_integer" sIsInt fI fdI) (bI : Binds K fdI ["value"] []) (gI : mg "is_integer" = some (.ref fI)) :
    FnOk P w K mg base CX0 2 f fd ["value", "least", "most"] (spWithin K) := by
  have GI : FnOk P w K mg base CX0 1 fI fdI ["value"] (spIsInt K) := ok_isInt FI T
  refine F.ok scWithin (fun vs H Q E h => ?_) (fun cdv A outer s H vs Q E hr h => ?_)
  · rcases h with ⟨i, lo, hi, rfl, _⟩ | ⟨x, y, z, t, a, b, rfl, _⟩ <;> rfl
  · have body : ∀ {x y z : V}, vs = [x, y, z] → ∀ {r : Bool}, Ev (tAndV (tCall (spIsInt K) [] E0 (tCons (tVar 0) tNil)) (tChain (rI0 fun i j => .bl (decide (i ≤ j))) (rI0 fun i j => .bl (decide (i ≤ j))) (tVar 1) (tVar 0) (tVar 2))) [some x, some y, some z] H (.bl r) → RetV (.bl r) H Q →
        ∃ t, PSs (cxOf CX0 P w K mg base ["value", "least", "most"] "is_within" (defScope sWithin) f cdv A outer s H E).nox (defBody sWithin) t ∧ t { nx := fun _ H' => Q .non H', rt := Q } (start ["value", "least", "most"] vs) H := by
      rintro x y z rfl r ev k
      exact ⟨_, pss_one (ps_ret (pe_and (pe_call GI hr (by rfl) gI FI.kp bI .nil pass0 (pa_cons (pv 0) pa_nil)) (pe_one (pe_chain op_le op_le (pv 1) (pv 0) (pv 2))))), s_ret ev k⟩
    rcases h with ⟨i, lo, hi, rfl, k⟩ | ⟨x, y, z, t, a, b, rfl, ht, ha, hb, hn, k⟩
    · refine body rfl (ev_andV (a := true) (ev_call (z := .bl true) (ea_cons (ev_var rfl) ea_nil) (spv_isInt (.base (.int i)) kit_int_int kit_int_bool)) fun _ => ev_chain (ev_var rfl) (ev_var rfl) (ev_var rfl)) k
    · refine body rfl (r := false) (ev_andV (a := false) (b := false) (ev_call (ea_cons (ev_var rfl) ea_nil) (by have q := spv_isInt ht ha hb; rw [hn] at q; exact q)) fun z => absurd z (by decide)) k
/-! ### is_from_zero -/
def spFrom0 (K : PySem.W.Frag) : Sp := fun vs H Q _ => (∃ i : Int, vs = [.int i] ∧ RetV (.bl (decide (0 ≤ i))) H Q) ∨
  ∃ (x : V) (T : String) (a b : Bool), vs = [x] ∧ TyX K H x (.type T) ∧ kitB T "int" = some a ∧ kitB T "bool" = some b ∧ (a && !b) = false ∧ RetV (.bl false) H Q
theorem scFrom0 : FnScope ["value"] ["value"] (defScope sFrom0) := ⟨rfl, rfl, rfl, by decide +kernel, rfl, by decide +kernel, by decide +kernel⟩
theorem ok_from0 {f fI : Addr} {fd fdI : FuncData} (F : Fun K "is_from_zero" "is_from_zero" sFrom0 f fd) (T : GlbT mg) (FI : Fun K "is_integer" "is_integer" sIsInt fI fdI) (bI : Binds K fdI ["value"] []) (gI : mg "is_integer" = some (.ref fI)) :
    FnOk P w K mg base CX0 2 f fd ["value"] (spFrom0 K) := by
  have GI : FnOk P w K mg base CX0 1 fI fdI ["value"] (spIsInt K) := ok_isInt FI T
  refine F.ok scFrom0 (fun vs H Q E h => ?_) (fun cdv A outer s H vs Q E hr h => ?_)
  · rcases h with ⟨i, rfl, _⟩ | ⟨x, t, a, b, rfl, _⟩ <;> rfl
  · rcases h with ⟨i, rfl, k⟩ | ⟨x, t, a, b, rfl, ht, ha, hb, hn, k⟩
    all_goals refine ⟨_, pss_one (ps_ret (pe_and (pe_call GI hr (by rfl) gI FI.kp bI .nil pass0 (pa_cons (pv 0) pa_nil)) (pe_one (pe_cmpR op_ge (pv 0) pe_int (nomark _))))), ?_⟩
    · refine s_ret (ev_is (ev_andV (a := true) (ev_call (z := .bl true) (ea_cons (ev_var rfl) ea_nil) (spv_isInt (.base (.int i)) kit_int_int kit_int_bool)) fun _ => ev_op (ev_var rfl) ev_c rv_I0) (by rfl)) k
    · refine s_ret (ev_andV (a := false) (b := false) (ev_call (ea_cons (ev_var rfl) ea_nil) (by have q := spv_isInt ht ha hb; rw [hn] at q; exact q)) fun z => absurd z (by decide)) k
end
end K07
/-! sequences that come round: periods, borders of a row, the least period, the normal form of a growth -/
namespace Gr
/-! ### periods of a sequence -/
def Pd {α : Type} (d : Nat → α) (q : Nat) : Prop := ∀ k, d (k + q) = d k
section
variable {α : Type} {d : Nat → α} {p q n : Nat}
theorem Pd.zero : Pd d 0 := fun _ => rfl
theorem Pd.mul (h : Pd d q) : ∀ j k, d (k + j * q) = d k
  | 0, k => by rw [Nat.zero_mul, Nat.add_zero]
  | j + 1, k => by rw [Nat.succ_mul, ← Nat.add_assoc, h, Pd.mul h j]
theorem Pd.mod (h : Pd d q) (k : Nat) : d (k % q) = d k := by
  have e := Nat.mod_add_div k q
  rw [Nat.mul_comm] at e
  have := Pd.mul h (k / q) (k % q)
  rw [e] at this
  exact this.symm
theorem Pd.sub (hp : Pd d p) (hq : Pd d q) (h : p ≤ q) : Pd d (q - p) := fun k => by
  have e : k + (q - p) + p = k + q := by omega
  rw [← hp (k + (q - p)), e, hq]
theorem Pd.rem (hp : Pd d p) (hq : Pd d q) : Pd d (q % p) := fun k => by
  have e : k + q % p + q / p * p = k + q := by
    have := Nat.mod_add_div q p
    rw [Nat.mul_comm] at this
    omega
  rw [← Pd.mul hp (q / p) (k + q % p), e, hq]
theorem Pd.gcd : ∀ (p q : Nat), Pd d p → Pd d q → Pd d (Nat.gcd p q) := by
  intro p
  induction p using Nat.strongRecOn with
  | ind p ih =>
    intro q hp hq
    rcases Nat.eq_zero_or_pos p with h | h
    · rw [h, Nat.gcd_zero_left]
      exact hq
    · rw [Nat.gcd_rec]
      exact ih (q % p) (Nat.mod_lt _ h) p (hp.rem hq) hp
/-- the least one -/
structure Least (d : Nat → α) (p : Nat) : Prop where
  pos : 0 < p
  pd : Pd d p
  le : ∀ q, 0 < q → Pd d q → p ≤ q
end
/-! ### rows -/
def at' (g : List Int) (i : Nat) : Int := g.getD i 0
/-- the row, again and again -/
def dif (g : List Int) (k : Nat) : Int := at' g (k % g.length)
/-- within the row what stands p further on is the same -/
def Per (g : List Int) (p : Nat) : Prop := ∀ i, i + p < g.length → at' g (i + p) = at' g i
section
variable {g : List Int} {p q : Nat}
theorem dif_pd : Pd (dif g) g.length := fun k => by unfold dif; rw [Nat.add_mod_right]
theorem dif_lt {k : Nat} (h : k < g.length) : dif g k = at' g k := by unfold dif; rw [Nat.mod_eq_of_lt h]
theorem Pd.per (h : Pd (dif g) p) : Per g p := fun i hi => by
  have := h i
  rwa [dif_lt hi, dif_lt (by omega)] at this
theorem Per.mul (h : Per g p) : ∀ j i, i + j * p < g.length → at' g (i + j * p) = at' g i
  | 0, i, _ => by rw [Nat.zero_mul, Nat.add_zero]
  | j + 1, i, hi => by
    rw [Nat.succ_mul, ← Nat.add_assoc] at hi ⊢
    rw [h _ hi, Per.mul h j i (by omega)]
theorem Per.pd (h : Per g p) (hp : 0 < p) (hd : p ∣ g.length) (hn : 0 < g.length) : Pd (dif g) p := fun k => by
  obtain ⟨c, hc⟩ := hd
  have hr : k % g.length < g.length := Nat.mod_lt _ hn
  unfold dif
  rw [Nat.add_mod]
  generalize k % g.length = r at hr
  have hpn : p ≤ g.length := by
    rcases c with _ | c
    · rw [Nat.mul_zero] at hc; omega
    · rw [hc]; exact Nat.le_mul_of_pos_right p (Nat.succ_pos c)
  rcases Nat.lt_or_ge p g.length with h1 | h1
  · rw [Nat.mod_eq_of_lt h1]
    rcases Nat.lt_or_ge (r + p) g.length with h2 | h2
    · rw [Nat.mod_eq_of_lt h2]
      exact h r h2
    · rw [Nat.mod_eq_sub_mod h2, Nat.mod_eq_of_lt (by omega)]
      rcases c with _ | c
      · rw [Nat.mul_zero] at hc; omega
      have e : r + p - g.length + c * p = r := by
        have : p * (c + 1) = c * p + p := by rw [Nat.mul_comm, Nat.succ_mul]
        omega
      have z := h.mul c (r + p - g.length) (by rw [e]; exact hr)
      rw [e] at z
      exact z.symm
  · have e : p = g.length := Nat.le_antisymm hpn h1
    rw [e, Nat.mod_self, Nat.add_zero, Nat.mod_eq_of_lt hr]
end
/-! ### borders: the longest one of each beginning -/
/-- w signs at the end of the first m are the first w -/
def Bd (g : List Int) (m w : Nat) : Prop := w < m ∧ ∀ i, i < w → at' g (m - w + i) = at' g i
structure Lb (g : List Int) (m w : Nat) : Prop where
  bd : Bd g m w
  top : ∀ v, Bd g m v → v ≤ w
section
variable {g : List Int} {m w v : Nat}
theorem bd_zero (h : 0 < m) : Bd g m 0 := ⟨h, fun i hi => absurd hi (Nat.not_lt_zero i)⟩
theorem lb_one : Lb g 1 0 := ⟨bd_zero Nat.one_pos, fun v h => by have := h.1; omega⟩
theorem bd_succ : Bd g (m + 1) (v + 1) ↔ Bd g m v ∧ at' g m = at' g v := by
  constructor
  · rintro ⟨h, a⟩
    have hv : v < m := by omega
    refine ⟨⟨hv, fun i hi => ?_⟩, ?_⟩
    · have := a i (by omega)
      rwa [show m + 1 - (v + 1) + i = m - v + i by omega] at this
    · have := a v (by omega)
      rwa [show m + 1 - (v + 1) + v = m by omega] at this
  · rintro ⟨⟨h, a⟩, e⟩
    refine ⟨by omega, fun i hi => ?_⟩
    rw [show m + 1 - (v + 1) + i = m - v + i by omega]
    rcases Nat.lt_or_ge i v with h1 | h1
    · exact a i h1
    · have : i = v := by omega
      subst this
      rw [show m - i + i = m by omega]
      exact e
/-- a border of a border, and the other way round -/
theorem bd_trans (h : Bd g m w) (h2 : Bd g w v) : Bd g m v := by
  refine ⟨Nat.lt_trans h2.1 h.1, fun i hi => ?_⟩
  have := h.2 (w - v + i) (by have := h2.1; omega)
  rw [show m - w + (w - v + i) = m - v + i by have := h.1; have := h2.1; omega] at this
  rw [this]
  exact h2.2 i hi
theorem bd_down (h : Bd g m w) (h2 : Bd g m v) (hv : v < w) : Bd g w v := by
  refine ⟨hv, fun i hi => ?_⟩
  have a := h.2 (w - v + i) (by omega)
  rw [show m - w + (w - v + i) = m - v + i by have := h.1; omega] at a
  rw [← a]
  exact h2.2 i hi
/-- what the search for the next border keeps: a border, and none that goes on is longer -/
def Srch (g : List Int) (m w : Nat) : Prop := Bd g m w ∧ ∀ v, Bd g m v → at' g m = at' g v → v ≤ w
theorem srch_start (h : Lb g m w) : Srch g m w := ⟨h.bd, fun v b _ => h.top v b⟩
theorem srch_step (h : Srch g m w) (hw : 0 < w) (hne : at' g m ≠ at' g w) {w' : Nat} (b : Lb g w w') : Srch g m w' ∧ w' < w :=
  ⟨⟨bd_trans h.1 b.bd, fun v hv e => by
    have h1 := h.2 v hv e
    have h2 : v ≠ w := fun z => hne (z ▸ e)
    exact b.top v (bd_down h.1 hv (by omega))⟩, b.bd.1⟩
theorem srch_yes (h : Srch g m w) (e : at' g m = at' g w) : Lb g (m + 1) (w + 1) := by
  refine ⟨bd_succ.mpr ⟨h.1, e⟩, fun v hv => ?_⟩
  rcases v with _ | v
  · exact Nat.zero_le _
  · obtain ⟨a, b⟩ := bd_succ.mp hv
    exact Nat.succ_le_succ (h.2 v a b)
theorem srch_no (h : Srch g m 0) (e : at' g m ≠ at' g 0) : Lb g (m + 1) 0 := by
  refine ⟨bd_zero (Nat.succ_pos m), fun v hv => ?_⟩
  rcases v with _ | v
  · exact Nat.le_refl _
  · obtain ⟨a, b⟩ := bd_succ.mp hv
    have : v = 0 := Nat.le_zero.mp (h.2 v a b)
    subst this
    exact absurd b e
end
/-! ### the least period of a row, by its longest border -/
section
variable {g : List Int} {b : Nat}
theorem Per.bd {p : Nat} (h : Per g p) (hp : 0 < p) (hn : p ≤ g.length) : Bd g g.length (g.length - p) := by
  refine ⟨by omega, fun i hi => ?_⟩
  have := h i (by omega)
  rw [show g.length - (g.length - p) + i = i + p by omega]
  exact this
theorem Bd.per (h : Bd g g.length b) : Per g (g.length - b) := fun i hi => by
  have := h.2 i (by have := h.1; omega)
  rwa [Nat.add_comm] at this
theorem least_of (hn : 0 < g.length) (h : Lb g g.length b) : Least (dif g) (if g.length % (g.length - b) = 0 then g.length - b else g.length) := by
  have hb := h.bd.1
  have hq : 0 < g.length - b := by omega
  have per := h.bd.per
  have top : ∀ p, 0 < p → p ≤ g.length → Per g p → g.length - b ≤ p := fun p hp hpn pp => by
    have := h.top _ (pp.bd hp hpn)
    omega
  -- each period of the endless row has a divisor of the length below it that is one too
  have down : ∀ q, 0 < q → Pd (dif g) q → ∃ c, 0 < c ∧ c ∣ g.length ∧ c ≤ q ∧ c ≤ g.length ∧ Pd (dif g) c := fun q hq0 hqd =>
    ⟨Nat.gcd q g.length, Nat.gcd_pos_of_pos_left _ hq0, Nat.gcd_dvd_right _ _, Nat.gcd_le_left _ hq0, Nat.gcd_le_right _ hn, Pd.gcd q g.length hqd dif_pd⟩
  by_cases e : g.length % (g.length - b) = 0
  · rw [if_pos e]
    refine ⟨hq, per.pd hq (Nat.dvd_of_mod_eq_zero e) hn, fun q hq0 hqd => ?_⟩
    obtain ⟨c, c0, _, cq, cn, cd⟩ := down q hq0 hqd
    exact Nat.le_trans (top c c0 cn cd.per) cq
  · rw [if_neg e]
    refine ⟨hn, dif_pd, fun q hq0 hqd => ?_⟩
    obtain ⟨c, c0, cv, cq, cn, cd⟩ := down q hq0 hqd
    rcases Nat.lt_or_ge c g.length with h1 | h1
    · exfalso
      have h2 : g.length - b ≤ c := top c c0 cn cd.per
      obtain ⟨z, hz⟩ := cv
      have h3 : c + c ≤ g.length := by
        rcases z with _ | _ | z
        · rw [Nat.mul_zero] at hz; omega
        · rw [Nat.mul_one] at hz; omega
        · rw [hz, show z + 1 + 1 = z + 2 from rfl, Nat.mul_add, Nat.mul_two]; omega
      have pd : Pd (dif g) (g.length - b) := fun k => by
        have r : k % c < c := Nat.mod_lt _ c0
        have a : dif g (k % c) = dif g k := cd.mod k
        have a2 : dif g (k + (g.length - b)) = dif g (k % c + (g.length - b)) := by
          have e1 := Nat.mod_add_div k c
          rw [Nat.mul_comm] at e1
          have := cd.mul (k / c) (k % c + (g.length - b))
          rw [show k % c + (g.length - b) + k / c * c = k + (g.length - b) by omega] at this
          exact this
        rw [a2, ← a, dif_lt (by omega), dif_lt (by omega)]
        exact per _ (by omega)
      have q2 := Pd.gcd (g.length - b) g.length pd dif_pd
      have g0 : 0 < Nat.gcd (g.length - b) g.length := Nat.gcd_pos_of_pos_left _ hq
      have l1 := top _ g0 (Nat.gcd_le_right _ hn) q2.per
      have l2 := Nat.gcd_le_left (g.length) hq
      have e2 : Nat.gcd (g.length - b) g.length = g.length - b := Nat.le_antisymm l2 l1
      exact e (Nat.mod_eq_zero_of_dvd (e2 ▸ Nat.gcd_dvd_right (g.length - b) g.length))
    · exact Nat.le_trans h1 cq
end
end Gr
namespace Gr
/-! ### sums of beginnings -/
def acc (d : Nat → Int) : Nat → Int
  | 0 => 0
  | n + 1 => acc d n + d n
theorem acc_add (d : Nat → Int) (m : Nat) : ∀ n, acc d (m + n) = acc d m + acc (fun k => d (m + k)) n
  | 0 => by rw [Nat.add_zero]; exact (Int.add_zero _).symm
  | n + 1 => by
    rw [← Nat.add_assoc]
    show acc d (m + n) + d (m + n) = acc d m + (acc _ n + d (m + n))
    rw [acc_add d m n, Int.add_assoc]
theorem acc_congr {d e : Nat → Int} : ∀ n, (∀ k, k < n → d k = e k) → acc d n = acc e n
  | 0, _ => rfl
  | n + 1, h => by
    show acc d n + d n = acc e n + e n
    rw [acc_congr n fun k hk => h k (by omega), h n (Nat.lt_succ_self n)]
theorem acc_mul {d : Nat → Int} {p : Nat} (h : Pd d p) : ∀ j r, acc d (j * p + r) = j * acc d p + acc d r
  | 0, r => by rw [Nat.zero_mul, Nat.zero_add]; show acc d r = ((0 : Nat) : Int) * _ + _; rw [Int.natCast_zero, Int.zero_mul, Int.zero_add]
  | j + 1, r => by
    rw [Nat.succ_mul, show j * p + p + r = p + (j * p + r) by omega, acc_add]
    rw [acc_congr (e := d) (j * p + r) fun k _ => by rw [Nat.add_comm p k]; exact h k]
    rw [acc_mul h j r]
    rw [show ((j + 1 : Nat) : Int) = (j : Int) + 1 from rfl, Int.add_mul, Int.one_mul]
    omega
/-! ### growths -/
/-- the last one of a row -/
def lst (t : List Int) : Int := at' t (t.length - 1)
/-- the value at a number, by told values and gains -/
def val (t g : List Int) (n : Nat) : Int := if n < t.length then at' t n else lst t + acc (dif g) (n - t.length + 1)
section
variable {t t' g g' : List Int} {n : Nat}
theorem val_lt (h : n < t.length) : val t g n = at' t n := if_pos h
/-- from the last told value on -/
theorem val_ge (h0 : 0 < t.length) (k : Nat) : val t g (t.length - 1 + k) = lst t + acc (dif g) k := by
  unfold val
  rcases Nat.eq_zero_or_pos k with h | h
  · subst h
    rw [if_pos (by omega)]
    show at' t (t.length - 1 + 0) = lst t + 0
    rw [Int.add_zero]
    rfl
  · rw [if_neg (by omega), show t.length - 1 + k - t.length + 1 = k by omega]
theorem val_step (h0 : 0 < t.length) (k : Nat) : val t g (t.length - 1 + k + 1) - val t g (t.length - 1 + k) = dif g k := by
  rw [Nat.add_assoc, val_ge h0, val_ge h0]
  show lst t + (acc (dif g) k + dif g k) - (lst t + acc (dif g) k) = dif g k
  omega
/-- the rounds taken at once -/
theorem val_far (h0 : 0 < t.length) (hn : t.length ≤ n) : val t g n = lst t + ((n - t.length + 1) / g.length : Nat) * acc (dif g) g.length + acc (dif g) ((n - t.length + 1) % g.length) := by
  unfold val
  rw [if_neg (by omega)]
  have e := Nat.mod_add_div (n - t.length + 1) g.length
  rw [Nat.mul_comm, Nat.add_comm] at e
  rw [← e, acc_mul dif_pd, e, Int.add_assoc]
/-- the normal form -/
structure NF (t g : List Int) : Prop where
  told : 0 < t.length
  gains : 0 < g.length
  least : Least (dif g) g.length
  few : t.length = 1 ∨ at' t (t.length - 1) - at' t (t.length - 2) ≠ lst g
/-- by how much the values rise -/
def rise (t g : List Int) (n : Nat) : Int := val t g (n + 1) - val t g n
theorem rise_ge (h0 : 0 < t.length) (h : t.length - 1 ≤ n) : rise t g n = dif g (n - (t.length - 1)) := by
  have := val_step (g := g) h0 (n - (t.length - 1))
  rwa [show t.length - 1 + (n - (t.length - 1)) = n by omega] at this
/-- the number of gains is the least number by which the rises come round at last -/
theorem least_end (h : NF t g) {q : Nat} (hq : 0 < q) {m : Nat} (hm : ∀ n, m ≤ n → rise t g (n + q) = rise t g n) : g.length ≤ q := by
  refine h.least.le q hq fun k => ?_
  have a := hm (t.length - 1 + (k + m * g.length)) (by have : m ≤ m * g.length := Nat.le_mul_of_pos_right m h.gains; omega)
  rw [rise_ge h.told (by omega), rise_ge h.told (by omega)] at a
  rw [show t.length - 1 + (k + m * g.length) + q - (t.length - 1) = k + q + m * g.length by omega, show t.length - 1 + (k + m * g.length) - (t.length - 1) = k + m * g.length by omega] at a
  rwa [dif_pd.mul, dif_pd.mul] at a
theorem end_pd (h : NF t g) (n : Nat) (hn : t.length - 1 ≤ n) : rise t g (n + g.length) = rise t g n := by
  rw [rise_ge h.told (by omega), rise_ge h.told hn, show n + g.length - (t.length - 1) = n - (t.length - 1) + g.length by omega]
  exact dif_pd _
theorem at_eq_of {a b : List Int} (hl : a.length = b.length) (h : ∀ i, i < a.length → at' a i = at' b i) : a = b := by
  refine List.ext_getElem? fun i => ?_
  rcases Nat.lt_or_ge i a.length with h1 | h1
  · have := h i h1
    unfold at' at this
    rw [List.getD_eq_getElem?_getD, List.getD_eq_getElem?_getD] at this
    rw [List.getElem?_eq_getElem h1, List.getElem?_eq_getElem (hl ▸ h1)] at this ⊢
    exact congrArg some this
  · rw [List.getElem?_eq_none h1, List.getElem?_eq_none (hl ▸ h1)]
theorem told_le (h : NF t g) (h' : NF t' g') (e : ∀ n, val t g n = val t' g' n) (eg : g.length = g'.length) : t'.length ≤ t.length := by
  rcases Nat.lt_or_ge t.length t'.length with hl | hl
  · exfalso
    have re : ∀ n, rise t g n = rise t' g' n := fun n => by unfold rise; rw [e, e]
    rcases h'.few with z | z
    · have := h.told; omega
    · apply z
      have t0 := h.told
      have a : rise t' g' (t'.length - 2) = at' t' (t'.length - 1) - at' t' (t'.length - 2) := by
        unfold rise
        rw [show t'.length - 2 + 1 = t'.length - 1 by omega, val_lt (by omega), val_lt (by omega)]
      have b : rise t' g' (t'.length - 2 + g.length) = lst g' := by
        have g0 := h.gains
        rw [rise_ge h'.told (by omega), show t'.length - 2 + g.length - (t'.length - 1) = g'.length - 1 by omega, dif_lt (by omega)]
        rfl
      rw [← a, ← b, ← re, ← re]
      exact (end_pd h _ (by omega)).symm
  · exact hl
/-- one normal form -/
theorem nf_one (h : NF t g) (h' : NF t' g') (e : ∀ n, val t g n = val t' g' n) : t = t' ∧ g = g' := by
  have re : ∀ n, rise t g n = rise t' g' n := fun n => by unfold rise; rw [e, e]
  have l1 : g.length ≤ g'.length := least_end h h'.gains (m := t'.length - 1) fun n hn => by rw [re, re]; exact end_pd h' n hn
  have l2 : g'.length ≤ g.length := least_end h' h.gains (m := t.length - 1) fun n hn => by rw [← re, ← re]; exact end_pd h n hn
  have eg : g.length = g'.length := Nat.le_antisymm l1 l2
  have et : t.length = t'.length := Nat.le_antisymm (told_le h' h (fun n => (e n).symm) eg.symm) (told_le h h' e eg)
  refine ⟨at_eq_of et fun i hi => ?_, at_eq_of eg fun i hi => ?_⟩
  · have := e i
    rwa [val_lt hi, val_lt (et ▸ hi)] at this
  · have a := rise_ge (g := g) h.told (n := t.length - 1 + i) (by omega)
    have b := rise_ge (g := g') h'.told (n := t.length - 1 + i) (by omega)
    rw [re, b, show t.length - 1 + i - (t.length - 1) = i by omega, show t.length - 1 + i - (t'.length - 1) = i by omega, dif_lt hi, dif_lt (eg ▸ hi)] at a
    exact a.symm
end
/-! ### told values that the gains give anyway -/
section
variable {t g : List Int} {s : Nat}
/-- the gain that would be i steps ahead of the first one -/
def back (g : List Int) (s : Nat) : Int := at' g (g.length - 1 - s % g.length)
/-- the last s told values are those that the gains give -/
def Spr (t g : List Int) (s : Nat) : Prop := s < t.length ∧ ∀ i, i < s → at' t (t.length - 1 - i) - at' t (t.length - 1 - i - 1) = back g i
theorem spr_zero (h : 0 < t.length) : Spr t g 0 := ⟨h, fun i hi => absurd hi (Nat.not_lt_zero i)⟩
theorem spr_step (h : Spr t g s) (hs : s < t.length - 1) (e : at' t (t.length - 1 - s) - at' t (t.length - 1 - s - 1) = back g s) : Spr t g (s + 1) :=
  ⟨by omega, fun i hi => by
    rcases Nat.lt_or_ge i s with z | z
    · exact h.2 i z
    · rw [show i = s by omega]
      exact e⟩
/-- told values and gains without the last s told values -/
def cutT (t : List Int) (s : Nat) : List Int := t.take (t.length - s)
def cutG (g : List Int) (s : Nat) : List Int := g.drop (g.length - s % g.length) ++ g.take (g.length - s % g.length)
theorem cutT_len (hs : s < t.length) : (cutT t s).length = t.length - s := by
  unfold cutT
  rw [List.length_take]
  omega
theorem cutG_len : (cutG g s).length = g.length := by
  unfold cutG
  rw [List.length_append, List.length_drop, List.length_take]
  omega
theorem at_take {l : List Int} {n i : Nat} (h : i < n) : at' (l.take n) i = at' l i := by
  unfold at'
  rw [List.getD_eq_getElem?_getD, List.getD_eq_getElem?_getD, List.getElem?_take_of_lt h]
theorem at_drop {l : List Int} {n i : Nat} : at' (l.drop n) i = at' l (n + i) := by
  unfold at'
  rw [List.getD_eq_getElem?_getD, List.getD_eq_getElem?_getD, List.getElem?_drop]
theorem at_app {a b : List Int} {i : Nat} : at' (a ++ b) i = if i < a.length then at' a i else at' b (i - a.length) := by
  unfold at'
  rw [List.getD_eq_getElem?_getD, List.getD_eq_getElem?_getD, List.getD_eq_getElem?_getD]
  by_cases h : i < a.length
  · rw [if_pos h, List.getElem?_append_left h]
  · rw [if_neg h, List.getElem?_append_right (by omega)]
/-- the gains turned: each one s places later -/
theorem dif_cut (hg : 0 < g.length) (k : Nat) : dif (cutG g s) (k + s) = dif g k := by
  have hr : s % g.length < g.length := Nat.mod_lt _ hg
  have hk : k % g.length < g.length := Nat.mod_lt _ hg
  unfold dif
  rw [cutG_len, Nat.add_mod]
  unfold cutG
  generalize s % g.length = r at hr ⊢
  generalize k % g.length = q at hk ⊢
  rw [at_app, List.length_drop, show g.length - (g.length - r) = r by omega]
  rcases Nat.lt_or_ge (q + r) g.length with h | h
  · rw [Nat.mod_eq_of_lt h, if_neg (by omega), at_take (by omega), show q + r - r = q by omega]
  · rw [Nat.mod_eq_sub_mod h, Nat.mod_eq_of_lt (by omega), if_pos (by omega), at_drop, show g.length - r + (q + r - g.length) = q by omega]
theorem dif_cut' (hg : 0 < g.length) {k : Nat} (h : s ≤ k) : dif (cutG g s) k = dif g (k - s) := by
  have := dif_cut (s := s) hg (k - s)
  rwa [show k - s + s = k by omega] at this
/-- the gain i places ahead of the first one, told of the turned ones -/
theorem back_cut (hg : 0 < g.length) {i : Nat} (hi : i < s) : dif (cutG g s) (s - 1 - i) = back g i := by
  have p := (dif_pd (g := cutG g s)).mul (i + 1) (s - 1 - i)
  rw [cutG_len] at p
  rw [← p, dif_cut' hg (by have : i + 1 ≤ (i + 1) * g.length := Nat.le_mul_of_pos_right _ hg; omega)]
  unfold dif back
  congr 1
  have hr : i % g.length < g.length := Nat.mod_lt _ hg
  have e := Nat.mod_add_div i g.length
  generalize i % g.length = r at hr e ⊢
  generalize i / g.length = c at e
  have e3 : (i + 1) * g.length = i * g.length + g.length := by rw [Nat.add_mul, Nat.one_mul]
  have e5 : c * g.length = g.length * c := Nat.mul_comm _ _
  have i0 : i ≤ i * g.length := Nat.le_mul_of_pos_right _ hg
  have cl : c ≤ i := by
    have := Nat.le_mul_of_pos_left c hg
    omega
  -- the number of whole rounds left
  have e4 : s - 1 - i + (i + 1) * g.length - s = g.length - 1 - r + (i - c) * g.length := by
    have : (i - c) * g.length = i * g.length - c * g.length := Nat.sub_mul _ _ _
    have le2 : c * g.length ≤ i * g.length := Nat.mul_le_mul_right _ cl
    omega
  rw [e4, Nat.add_mul_mod_self_right, Nat.mod_eq_of_lt (by omega)]
theorem back_zero (hg : 0 < g.length) : back g 0 = lst g := by
  unfold back lst
  rw [Nat.zero_mod, Nat.sub_zero]
/-- what stands s places ahead of the last told value, by the gains -/
theorem spr_told (h : Spr t g s) : ∀ i, i ≤ s → at' t (t.length - 1 - s + i) = lst (cutT t s) + acc (fun k => back g (s - 1 - k)) i
  | 0, _ => by
    have := h.1
    show _ = lst (cutT t s) + 0
    unfold lst
    rw [cutT_len h.1, Int.add_zero]
    unfold cutT
    rw [at_take (by omega), Nat.add_zero, show t.length - s - 1 = t.length - 1 - s by omega]
  | i + 1, hi => by
    have h1 := h.1
    have a := spr_told h i (by omega)
    have b := h.2 (s - 1 - i) (by omega)
    rw [show t.length - 1 - (s - 1 - i) = t.length - 1 - s + (i + 1) by omega, show t.length - 1 - s + (i + 1) - 1 = t.length - 1 - s + i by omega, a] at b
    show _ = lst (cutT t s) + (acc _ i + back g (s - 1 - i))
    omega
/-- the same values -/
theorem val_cut (hg : 0 < g.length) (h : Spr t g s) (n : Nat) : val (cutT t s) (cutG g s) n = val t g n := by
  have h1 := h.1
  have len := cutT_len (t := t) h1
  rcases Nat.lt_or_ge n (t.length - s) with a | a
  · rw [val_lt (by omega), val_lt (by omega)]
    unfold cutT
    rw [at_take a]
  · obtain ⟨k, rfl⟩ : ∃ k, n = t.length - s - 1 + k := ⟨n - (t.length - s - 1), by omega⟩
    have v := val_ge (g := cutG g s) (t := cutT t s) (by omega) k
    rw [len] at v
    rw [v]
    have b : ∀ i, i < s → dif (cutG g s) i = back g (s - 1 - i) := fun i hi => by
      have := back_cut (g := g) (s := s) hg (i := s - 1 - i) (by omega)
      rwa [show s - 1 - (s - 1 - i) = i by omega] at this
    rcases Nat.lt_or_ge k (s + 1) with c | c
    · rw [val_lt (by omega), show t.length - s - 1 + k = t.length - 1 - s + k by omega, spr_told h k (by omega), acc_congr k fun i hi => b i (by omega)]
    · obtain ⟨j, rfl⟩ : ∃ j, k = s + j := ⟨k - s, by omega⟩
      rw [acc_add, acc_congr s b, acc_congr (e := dif g) j fun i _ => by rw [Nat.add_comm s i]; exact dif_cut hg i]
      have l := spr_told h s (Nat.le_refl s)
      rw [show t.length - 1 - s + s = t.length - 1 by omega] at l
      rw [show t.length - s - 1 + (s + j) = t.length - 1 + j by omega, val_ge (by omega)]
      unfold lst at l ⊢
      rw [l]
      omega
theorem least_cut (hg : 0 < g.length) (h : Least (dif g) g.length) : Least (dif (cutG g s)) (cutG g s).length := by
  refine ⟨by rw [cutG_len]; exact hg, dif_pd, fun q hq hp => ?_⟩
  rw [cutG_len]
  refine h.le q hq fun k => ?_
  have := hp (k + s)
  rw [show k + s + q = k + q + s by omega, dif_cut hg, dif_cut hg] at this
  exact this
/-- the search of told values has come to its end: the normal form -/
theorem nf_cut (hg : 0 < g.length) (l : Least (dif g) g.length) (h : Spr t g s) (e : s = t.length - 1 ∨ at' t (t.length - 1 - s) - at' t (t.length - 1 - s - 1) ≠ back g s) : NF (cutT t s) (cutG g s) := by
  have h1 := h.1
  have len := cutT_len (t := t) h1
  refine ⟨by omega, by rw [cutG_len]; exact hg, least_cut hg l, ?_⟩
  rcases e with e | e
  · left
    omega
  · by_cases z : t.length - s = 1
    · left
      omega
    · right
      rw [len]
      unfold cutT
      rw [at_take (by omega), at_take (by omega), show t.length - s - 1 = t.length - 1 - s by omega, show t.length - s - 2 = t.length - 1 - s - 1 by omega]
      have q : lst (cutG g s) = back g s := by
        have a := back_cut (g := g) (s := s + 1) hg (i := s) (Nat.lt_succ_self s)
        have r : dif (cutG g (s + 1)) (s + 1 - 1 - s) = dif (cutG g s) (g.length - 1) := by
          rw [show s + 1 - 1 - s = 0 by omega]
          have p := (dif_pd (g := cutG g (s + 1))).mul (s + 1) 0
          rw [cutG_len] at p
          have m : s + 1 ≤ (s + 1) * g.length := Nat.le_mul_of_pos_right _ hg
          rw [← p, dif_cut' hg (by omega)]
          have p2 := (dif_pd (g := cutG g s)).mul s (g.length - 1)
          rw [cutG_len] at p2
          have m2 : s ≤ s * g.length := Nat.le_mul_of_pos_right _ hg
          have e3 : (s + 1) * g.length = s * g.length + g.length := by rw [Nat.add_mul, Nat.one_mul]
          rw [← p2, dif_cut' hg (by omega)]
          congr 1
          omega
        rw [r, dif_lt (by rw [cutG_len]; omega)] at a
        unfold lst
        rw [cutG_len]
        exact a
      rw [q]
      exact e
end
end Gr
namespace Gr
/-! ### told values and gains of a sequence that rises in rounds at last -/
section
variable {f : Nat → Int} {b l : Nat}
def pT (f : Nat → Int) (b : Nat) : List Int := (List.range b).map f
def pG (f : Nat → Int) (b l : Nat) : List Int := (List.range l).map fun k => f (b + k) - f (b + k - 1)
theorem pT_len : (pT f b).length = b := by unfold pT; rw [List.length_map, List.length_range]
theorem pG_len : (pG f b l).length = l := by unfold pG; rw [List.length_map, List.length_range]
theorem at_map_range {h : Nat → Int} {n i : Nat} (hi : i < n) : at' ((List.range n).map h) i = h i := by
  unfold at'
  rw [List.getD_eq_getElem?_getD, List.getElem?_map, List.getElem?_range hi]
  rfl
theorem val_parted (hb : 0 < b) (hl : 0 < l) (h : ∀ n, b - 1 ≤ n → f (n + l + 1) - f (n + l) = f (n + 1) - f n) (n : Nat) : val (pT f b) (pG f b l) n = f n := by
  have lt := pT_len (f := f) (b := b)
  have lg := pG_len (f := f) (b := b) (l := l)
  rcases Nat.lt_or_ge n b with a | a
  · rw [val_lt (by omega)]
    exact at_map_range a
  · obtain ⟨k, rfl⟩ : ∃ k, n = b - 1 + k := ⟨n - (b - 1), by omega⟩
    have v := val_ge (t := pT f b) (g := pG f b l) (by omega) k
    rw [lt] at v
    rw [v]
    have d : ∀ i, dif (pG f b l) i = f (b - 1 + i + 1) - f (b - 1 + i) := fun i => by
      unfold dif
      rw [lg]
      have hi : i % l < l := Nat.mod_lt _ hl
      have e : at' (pG f b l) (i % l) = f (b + i % l) - f (b + i % l - 1) := at_map_range hi
      rw [e, show b + i % l = b - 1 + i % l + 1 by omega, Nat.add_sub_cancel]
      have p : Pd (fun i => f (b - 1 + i + 1) - f (b - 1 + i)) l := fun i => by
        have := h (b - 1 + i) (by omega)
        rw [show b - 1 + i + l = b - 1 + (i + l) by omega] at this
        exact this
      exact p.mod i
    have la : lst (pT f b) = f (b - 1) := by
      unfold lst
      rw [lt]
      exact at_map_range (by omega)
    rw [la]
    clear v
    induction k with
    | zero => show f (b - 1) + 0 = f (b - 1 + 0); rw [Int.add_zero, Nat.add_zero]
    | succ k ih =>
      show f (b - 1) + (acc _ k + dif (pG f b l) k) = f (b - 1 + (k + 1))
      have ih' : f (b - 1) + acc (dif (pG f b l)) k = f (b - 1 + k) := by
        rcases Nat.lt_or_ge (b - 1 + k) b with c | c
        · have : k = 0 := by omega
          subst this
          show f (b - 1) + 0 = f (b - 1 + 0)
          rw [Int.add_zero, Nat.add_zero]
        · exact ih c
      rw [d k, ← Int.add_assoc, ih', ← Nat.add_assoc]
      omega
end
/-! ### sums -/
section
variable {t g t' g' : List Int}
/-- rises of a growth come round behind its told values, by each number of which its gains are a divisor -/
theorem rise_pd (h0 : 0 < t.length) {l n : Nat} (hd : g.length ∣ l) (hn : t.length - 1 ≤ n) : val t g (n + l + 1) - val t g (n + l) = val t g (n + 1) - val t g n := by
  have a := rise_ge (g := g) h0 (n := n + l) (by omega)
  have b := rise_ge (g := g) h0 hn
  unfold rise at a b
  rw [a, b, show n + l - (t.length - 1) = n - (t.length - 1) + l by omega]
  obtain ⟨c, rfl⟩ := hd
  rw [Nat.mul_comm]
  exact dif_pd.mul c _
theorem val_sum (h0 : 0 < t.length) (h0' : 0 < t'.length) {b l : Nat} (hb : t.length ≤ b) (hb' : t'.length ≤ b) (hl : 0 < l) (hd : g.length ∣ l) (hd' : g'.length ∣ l) (n : Nat) :
    val (pT (fun n => val t g n + val t' g' n) b) (pG (fun n => val t g n + val t' g' n) b l) n = val t g n + val t' g' n := by
  refine val_parted (by omega) hl (fun n hn => ?_) n
  have a := rise_pd (g := g) h0 (l := l) (n := n) hd (by omega)
  have c := rise_pd (g := g') h0' (l := l) (n := n) hd' (by omega)
  omega
/-! ### each value so many times -/
def sc (k : Int) (l : List Int) : List Int := l.map fun x => k * x
theorem sc_len {k : Int} {l : List Int} : (sc k l).length = l.length := List.length_map _
theorem sc_at {k : Int} {l : List Int} {i : Nat} : at' (sc k l) i = k * at' l i := by
  unfold at' sc
  rw [List.getD_eq_getElem?_getD, List.getD_eq_getElem?_getD, List.getElem?_map]
  cases l[i]? with
  | none => show (0 : Int) = k * 0; rw [Int.mul_zero]
  | some x => rfl
theorem acc_sc {k : Int} {d : Nat → Int} : ∀ n, acc (fun i => k * d i) n = k * acc d n
  | 0 => (Int.mul_zero k).symm
  | n + 1 => by
    show acc _ n + k * d n = k * (acc d n + d n)
    rw [acc_sc n, Int.mul_add]
theorem val_sc {k : Int} {n : Nat} : val (sc k t) (sc k g) n = k * val t g n := by
  have d : dif (sc k g) = fun i => k * dif g i := funext fun i => by unfold dif; rw [sc_len, sc_at]
  unfold val
  rw [sc_len]
  by_cases h : n < t.length
  · rw [if_pos h, if_pos h, sc_at]
  · rw [if_neg h, if_neg h, d, acc_sc, Int.mul_add]
    unfold lst
    rw [sc_len, sc_at]
/-! ### begun later -/
/-- the gains turned the other way -/
def rot (g : List Int) (r : Nat) : List Int := g.drop r ++ g.take r
theorem rot_len {r : Nat} (h : r ≤ g.length) : (rot g r).length = g.length := by
  unfold rot
  rw [List.length_append, List.length_drop, List.length_take]
  omega
theorem dif_rot {r : Nat} (h : r < g.length) (k : Nat) : dif (rot g r) k = dif g (k + r) := by
  unfold dif
  rw [rot_len (Nat.le_of_lt h), Nat.add_mod, Nat.mod_eq_of_lt h]
  have hk : k % g.length < g.length := Nat.mod_lt _ (by omega)
  generalize k % g.length = q at hk ⊢
  unfold rot
  rw [at_app, List.length_drop]
  rcases Nat.lt_or_ge (q + r) g.length with c | c
  · rw [Nat.mod_eq_of_lt c, if_pos (by omega), at_drop, Nat.add_comm]
  · rw [Nat.mod_eq_sub_mod c, Nat.mod_eq_of_lt (by omega), if_neg (by omega), at_take (by omega)]
    congr 1
    omega
/-- still within the told values -/
theorem val_shift1 {m : Nat} (hm : m < t.length) (n : Nat) : val (t.drop m) g n = val t g (n + m) := by
  have l : (t.drop m).length = t.length - m := List.length_drop
  rcases Nat.lt_or_ge n (t.length - m) with a | a
  · rw [val_lt (by omega), val_lt (by omega), at_drop, Nat.add_comm]
  · obtain ⟨k, rfl⟩ : ∃ k, n = t.length - m - 1 + k := ⟨n - (t.length - m - 1), by omega⟩
    have v := val_ge (t := t.drop m) (g := g) (by omega) k
    rw [l] at v
    rw [v, show t.length - m - 1 + k + m = t.length - 1 + k by omega, val_ge (by omega)]
    unfold lst
    rw [l, at_drop, show m + (t.length - m - 1) = t.length - 1 by omega]
/-- behind them -/
theorem val_shift2 {m : Nat} (h0 : 0 < t.length) (hg : 0 < g.length) (hm : t.length ≤ m) (n : Nat) : val [val t g m] (rot g ((m - t.length + 1) % g.length)) n = val t g (n + m) := by
  have hr : (m - t.length + 1) % g.length < g.length := Nat.mod_lt _ hg
  have v := val_ge (t := [val t g m]) (g := rot g ((m - t.length + 1) % g.length)) Nat.one_pos n
  rw [show [val t g m].length - 1 + n = n from Nat.zero_add n] at v
  rw [v, show n + m = t.length - 1 + (m - t.length + 1 + n) by omega, val_ge h0, acc_add]
  have e : lst [val t g m] = lst t + acc (dif g) (m - t.length + 1) := by
    show val t g m = _
    have := val_ge (g := g) h0 (m - t.length + 1)
    rwa [show t.length - 1 + (m - t.length + 1) = m by omega] at this
  rw [e, Int.add_assoc]
  congr 2
  refine acc_congr n fun k _ => ?_
  rw [dif_rot hr]
  have p := (dif_pd (g := g)).mul ((m - t.length + 1) / g.length) (k + (m - t.length + 1) % g.length)
  have q := Nat.mod_add_div (m - t.length + 1) g.length
  rw [Nat.mul_comm] at q
  rw [← p]
  congr 1
  omega
end
end Gr
namespace K07
open PySem L2 Evl Gr
abbrev sLP : Stmt := top 14
/-- a list or a tuple -/
def Sq (K : PySem.W.Frag) (H : Hp) (a : Addr) (xs : List V) : Prop := SqL K H a xs ∨ SqT K H a xs
theorem Sq.mono {K : PySem.W.Frag} {H H' : Hp} {a : Addr} {xs : List V} (e : Ex H H') (h : Sq K H a xs) : Sq K H' a xs := h.elim (fun h => .inl (ex_l e h)) fun h => .inr (ex_t e h)
def vI (g : List Int) : List V := g.map V.int
theorem vI_len {g : List Int} : (vI g).length = g.length := List.length_map _
theorem vI_get {g : List Int} {i : Nat} (h : i < g.length) : (vI g)[i]? = some (V.int (at' g i)) := by
  unfold vI at'
  rw [List.getElem?_map, List.getD_eq_getElem?_getD, List.getElem?_eq_getElem h]
  rfl
theorem rv_ix {K : PySem.W.Frag} {H : Hp} {p : Addr} {xs : List V} {i : Int} {v : V} (h : Sq K H p xs) (ha : atI xs i = some v) : RV (rIx K) (.ref p) (.int i) H v := fun H1 e Q q => by
  rcases h with h | h
  · exact .inl ⟨p, xs, i, v, rfl, rfl, ex_l e h, ha, q H1 (Ex.refl H1)⟩
  · exact .inr (.inl ⟨p, xs, i, v, rfl, rfl, ex_t e h, ha, q H1 (Ex.refl H1)⟩)
theorem rc_lenQ {K : PySem.W.Frag} {p : Addr} {xs : List V} {H : Hp} (h : Sq K H p xs) : RC (fun xs H Q => ∃ p ys, xs = [V.ref p] ∧ (SqL K H p ys ∨ SqT K H p ys) ∧ Q (.int ys.length) H) [.ref p] H (.int (xs.length : Int)) := fun H1 e _ q => ⟨p, xs, rfl, h.mono e, q H1 (Ex.refl H1)⟩
theorem st_asI {K : PySem.W.Frag} {H : Hp} {a : Addr} {g : List Int} (h : H a = some (.lst (vI g))) : Sq K H a (vI g) := .inl (sq_of h)
theorem atI_vI {g : List Int} {i : Nat} (h : i < g.length) : atI (vI g) (i : Int) = some (V.int (at' g i)) := atI_nat (vI_get h)
theorem atI_vlast {g : List Int} (h : 0 < g.length) : atI (vI g) (-1) = some (V.int (at' g (g.length - 1))) := by
  have e : ixN (vI g).length (-1) = some (g.length - 1) := by
    unfold ixN
    rw [vI_len, if_neg (by decide), if_pos (by omega)]
    congr 1
    omega
  unfold atI
  rw [e]
  exact vI_get (by omega)
theorem vI_app {g : List Int} {x : Int} : vI g ++ [V.int x] = vI (g ++ [x]) := by unfold vI; rw [List.map_append]; rfl
theorem vint_inj {x y : Int} : decide (V.int x = V.int y) = decide (x = y) := by
  by_cases h : x = y
  · rw [decide_eq_true h, decide_eq_true (congrArg V.int h)]
  · rw [decide_eq_false h, decide_eq_false fun z => h (V.int.inj z)]
/-- the longest borders of the beginnings -/
def Bs (g bs : List Int) : Prop := ∀ j, j < bs.length → ∃ w : Nat, at' bs j = (w : Int) ∧ Lb g (j + 1) w
theorem Bs.add {g bs : List Int} {w : Nat} (h : Bs g bs) (l : Lb g (bs.length + 1) w) : Bs g (bs ++ [(w : Int)]) := fun j hj => by
  rw [List.length_append] at hj
  have hj' : j < bs.length + 1 := hj
  rcases Nat.lt_or_ge j bs.length with z | z
  · rw [at_app, if_pos z]
    exact h j z
  · have e : j = bs.length := by omega
    subst e
    rw [at_app, if_neg (Nat.lt_irrefl _), Nat.sub_self]
    exact ⟨w, rfl, l⟩
structure GlbS (mg : Str → Option Value) : Prop where
  len : mg "len" = none
  range : mg "range" = none
  tuple : mg "tuple" = none
  list : mg "list" = none
section
variable {P : Program} {w : World} {K : PySem.W.Frag} {mg : Str → Option Value} {base : Heap}
/-! ### least_period -/
def spLP (K : PySem.W.Frag) : Sp := fun vs H Q _ => ∃ (a : Addr) (g : List Int), vs = [.ref a] ∧ Sq K H a (vI g) ∧ 0 < g.length ∧ g.length ≤ 4000 ∧
  ∀ p : Nat, Least (dif g) p → p ≤ g.length → p ∣ g.length → RetV (.int (p : Int)) H Q
theorem scLP : FnScope ["gains", "borders", "at", "width", "period"] ["gains"] (defScope sLP) := ⟨rfl, rfl, rfl, by decide +kernel, rfl, by decide +kernel, by decide +kernel⟩
theorem ok_LP {f : Addr} {fd : FuncData} (F : Fun K "least_period" "least_period" sLP f fd) (T : GlbS mg) : FnOk P w K mg base CX0 1 f fd ["gains"] (spLP K) := by
  refine F.ok scLP (fun vs H Q E h => ?_) (fun cdv A outer s H vs Q E hr h => ?_)
  · obtain ⟨a, g, rfl, _⟩ := h
    rfl
  · obtain ⟨a, g, rfl, hS, g0, g1, k⟩ := h
    refine ⟨_, pss_cons (ps_set (i := 1) scLP.nd rfl (.inl rfl) (pe_lst (pa_cons pe_int pa_nil)))
      (pss_cons (ps_for PassesOwn.never rfl (pi_range2 (by rfl) T.range (pa_cons pe_int (pa_cons (pe_callB call_len_seq (by rfl) T.len PySem.boot_len (pa_cons (pv 0) pa_nil)) pa_nil))) (pg_name (i := 2) scLP.nd rfl (.inl rfl))
        (pss_cons (ps_set (i := 3) scLP.nd rfl (.inl rfl) (pe_ix ix_list (pv 1) (pe_op op_sub (pv 2) pe_int) (fun _ _ => rfl)))
        (pss_cut (ps_while PassesOwn.never (PW.pt (pw_and (pt_cmpR op_gt (pv 3) pe_int (nomark _)) (pw_and1 (pt_cmpR op_ne (pe_ix ix_seq (pv 0) (pv 2) (fun _ _ => rfl)) (pe_ix ix_seq (pv 0) (pv 3) (fun _ _ => rfl)) (nomark _)))))
          (pss_one (ps_set (i := 3) scLP.nd rfl (.inl rfl) (pe_ix ix_list (pv 1) (pe_op op_sub (pv 3) pe_int) (fun _ _ => rfl)))))
        (pss_cut (ps_if (pt_cmpR op_eq (pe_ix ix_seq (pv 0) (pv 2) (fun _ _ => rfl)) (pe_ix ix_seq (pv 0) (pv 3) (fun _ _ => rfl)) (nomark _)) (pss_one (ps_aug (i := 3) scLP.nd rfl (.inl rfl) pe_int ip_add)) pss_nil)
        (pss_one (ps_expr (pe_bm PySem.F.plainAttrs_list PySem.F.slot_list_append PySem.F.type_list_append mt_append (pv 1) (pa_cons (pv 3) pa_nil))))))))
      (pss_cons (ps_set (i := 4) scLP.nd rfl (.inl rfl) (pe_op op_sub (pe_callB call_len_seq (by rfl) T.len PySem.boot_len (pa_cons (pv 0) pa_nil)) (pe_ix ix_list (pv 1) (pe_un un_neg pe_int) (fun _ _ => rfl))))
      (pss_cons (ps_if (pt_cmpR op_eq (pe_op op_mod (pe_callB call_len_seq (by rfl) T.len PySem.boot_len (pa_cons (pv 0) pa_nil)) (pv 4)) pe_int (nomark _)) (pss_one (ps_ret (pv 4))) pss_nil)
      (pss_one (ps_ret (pe_callB call_len_seq (by rfl) T.len PySem.boot_len (pa_cons (pv 0) pa_nil))))))), ?_⟩
    have hB : ∀ {H' : Hp}, Ex H H' → Sq K H' a (vI g) := fun e => hS.mono e
    refine q_asgL (xs := vI [0]) (el_lst (ea_cons ev_c ea_nil) (Nat.le_of_ble_eq_true rfl)) fun b H1 hb e1 h1 => ?_
    -- the loop over the places
    refine q_forR2 (lo := 1) (n := (g.length : Int)) (ea_cons ev_c (ea_cons (ev_is (ev_cb (ea_cons (ev_var rfl) ea_nil) (rc_lenQ (hB e1))) (by rw [vI_len])) ea_nil)) (by omega)
      (fun i σ' H' => ∃ (bs : List Int) (x2 x3 : Option V), σ' = [some (.ref a), some (.ref b), x2, x3, none] ∧ H' b = some (.lst (vI bs)) ∧ Ex H H' ∧ bs.length = i + 1 ∧ Bs g bs)
      (fun H2 e2 => ⟨[0], _, _, rfl, e2 _ _ h1, e1.trans e2, rfl, fun j hj => by
        have hj' : j < 1 := hj
        have z : j = 0 := by omega
        subst z
        exact ⟨0, rfl, lb_one⟩⟩) ?_ ?_
    · rintro i σ' H2 hi ⟨bs, x2, x3, rfl, hb2, e2, hl, hbs⟩
      obtain ⟨w0, hw0, lb0⟩ := hbs i (by omega)
      have hi1 : i + 1 < g.length := by omega
      have ei : (1 : Int) + (i : Int) = ((i + 1 : Nat) : Int) := by omega
      show tSeq _ _ _ _ _
      refine q_asg (v := .int (w0 : Int)) (ev_op (y := .int (i : Int)) (ev_var rfl) (ev_is (ev_op (ev_var rfl) ev_c rv_I0) (by congr 1; omega)) (rv_ixL (sq_of hb2) (by rw [atI_vI (by omega), hw0]))) fun H3 e3 => ?_
      have hb3 := e3 _ _ hb2
      have E3 := e2.trans e3
      have gat : ∀ {σ'' : L2.St} {H' : Hp} {t : TE} {m : Nat}, Ex H H' → m < g.length → σ''[0]? = some (some (.ref a)) → Ev t σ'' H' (.int (m : Int)) → Ev (tOp (rIx K) (tVar 0) t) σ'' H' (.int (at' g m)) := fun e hm h0 ht => ev_op (ev_var h0) ht (rv_ix (hB e) (atI_vI hm))
      -- the search
      refine q_cut (M := fun σ' H' => ∃ w : Nat, σ' = [some (.ref a), some (.ref b), some (.int ((i + 1 : Nat) : Int)), some (.int (w : Int)), none] ∧ H' b = some (.lst (vI bs)) ∧ Ex H H' ∧ Srch g (i + 1) w ∧ (w = 0 ∨ at' g (i + 1) = at' g w)) ?_ ?_
      · refine s_while (fun m σ' H' => σ' = [some (.ref a), some (.ref b), some (.int ((i + 1 : Nat) : Int)), some (.int (m : Int)), none] ∧ H' b = some (.lst (vI bs)) ∧ Ex H H' ∧ Srch g (i + 1) m) w0 ⟨by rw [← ei]; rfl, hb3, E3, srch_start lb0⟩ ?_
        rintro m σ' H4 ⟨rfl, hb4, E4, sr⟩
        have hm := sr.1.1
        refine ⟨_, et_and (et_test (ev_op (ev_var rfl) ev_c rv_I0)) (fun _ => et_test (ev_op (gat E4 hi1 rfl (ev_var rfl)) (gat E4 (by omega) rfl (ev_var rfl)) (rv_ne rfl))), fun ht H5 e5 => ?_, fun ht H5 e5 => ?_⟩
        · obtain ⟨t1, t2⟩ := Bool.and_eq_true_iff.mp ht
          have m0 : 0 < m := by have := of_decide_eq_true t1; omega
          have ne : at' g (i + 1) ≠ at' g m := fun z => by rw [vint_inj, decide_eq_true z] at t2; exact absurd t2 (by decide)
          obtain ⟨w1, hw1, lb1⟩ := hbs (m - 1) (by omega)
          rw [show m - 1 + 1 = m by omega] at lb1
          have st := srch_step sr m0 ne lb1
          refine ⟨fun σ' H' => σ' = [some (.ref a), some (.ref b), some (.int ((i + 1 : Nat) : Int)), some (.int (w1 : Int)), none] ∧ H' b = some (.lst (vI bs)) ∧ Ex H H', fun σ2 H6 h6 => ⟨w1, st.2, h6.1, h6.2.1, h6.2.2, st.1⟩, ?_⟩
          exact s_asg (v := .int (w1 : Int)) (ev_op (y := .int ((m - 1 : Nat) : Int)) (ev_var rfl) (ev_is (ev_op (ev_var rfl) ev_c rv_I0) (by congr 1; omega)) (rv_ixL (sq_of (e5 _ _ hb4)) (by rw [atI_vI (by omega), hw1]))) fun H6 e6 => ⟨rfl, e6 _ _ (e5 _ _ hb4), (E4.trans e5).trans e6⟩
        · refine ⟨m, rfl, e5 _ _ hb4, E4.trans e5, sr, ?_⟩
          rcases Nat.eq_zero_or_pos m with z | z
          · exact .inl z
          · right
            rw [decide_eq_true (by omega : ((m : Int) > 0)), Bool.true_and, vint_inj] at ht
            by_cases q : at' g (i + 1) = at' g m
            · exact q
            · rw [decide_eq_false q] at ht
              exact absurd ht (by decide)
      rintro σ' H4 ⟨w, rfl, hb4, E4, sr, fin⟩
      have hw := sr.1.1
      -- one more, if the signs are the same
      refine q_cut (M := fun σ' H' => ∃ v : Nat, σ' = [some (.ref a), some (.ref b), some (.int ((i + 1 : Nat) : Int)), some (.int (v : Int)), none] ∧ H' b = some (.lst (vI bs)) ∧ Ex H H' ∧ Lb g (i + 2) v) ?_ ?_
      · refine s_when (et_test (ev_op (gat E4 hi1 rfl (ev_var rfl)) (gat E4 (by omega) rfl (ev_var rfl)) (rv_eq rfl))) (fun ht H5 e5 => ?_) (fun ht H5 e5 => ?_)
        · rw [vint_inj] at ht
          refine s_aug (f := fun x y => x + y) (a := (w : Int)) (b := 1) rfl ev_c fun H6 e6 => ⟨w + 1, rfl, e6 _ _ (e5 _ _ hb4), (E4.trans e5).trans e6, srch_yes sr (of_decide_eq_true ht)⟩
        · rw [vint_inj] at ht
          have ne := of_decide_eq_false ht
          have w0 : w = 0 := fin.elim id fun z => absurd z ne
          subst w0
          exact ⟨0, rfl, e5 _ _ hb4, E4.trans e5, srch_no sr ne⟩
      rintro σ' H5 ⟨v, rfl, hb5, E5, lb⟩
      refine s_app hb5 (ev_var rfl) (ev_var rfl) (by rw [vI_len]; omega) fun H6 e6 => ?_
      have hbn : H b = none := hb
      refine ⟨bs ++ [(v : Int)], _, _, rfl, ?_, (E5.trans e6).mut hbn, by rw [List.length_append, hl]; rfl, hbs.add (by rw [hl]; exact lb)⟩
      rw [upd_same, vI_app]
    · rintro σ' H2 ⟨bs, x2, x3, rfl, hb2, E2, hl, hbs⟩
      have hl' : bs.length = g.length := by rw [hl]; omega
      obtain ⟨w, hw, lb⟩ := hbs (g.length - 1) (by omega)
      rw [show g.length - 1 + 1 = g.length by omega] at lb
      have hwl := lb.bd.1
      have key := least_of g0 lb
      have ln : ∀ {σ'' : L2.St} {H' : Hp}, Ex H H' → σ''[0]? = some (some (.ref a)) → Ev (tCB (fun xs H Q => ∃ p ys, xs = [V.ref p] ∧ (SqL K H p ys ∨ SqT K H p ys) ∧ Q (.int ys.length) H) (tCons (tVar 0) tNil)) σ'' H' (.int (g.length : Int)) := fun e h0 => ev_is (ev_cb (ea_cons (ev_var h0) ea_nil) (rc_lenQ (hB e))) (by rw [vI_len])
      refine q_asg (v := .int ((g.length - w : Nat) : Int)) (ev_is (ev_op (ln E2 rfl) (ev_op (ev_var rfl) (ev_un ev_c ru_neg) (rv_ixL (sq_of hb2) (by rw [atI_vlast (by omega), hl', hw]))) rv_I0) (by congr 1; omega)) fun H3 e3 => ?_
      have E3 := E2.trans e3
      refine q_when (et_test (ev_op (ev_op (ln E3 rfl) (ev_var rfl) (rv_I (by omega))) ev_c (rv_eq rfl))) (fun ht H4 e4 => ?_) (fun ht H4 e4 => ?_)
      · rw [vint_inj] at ht
        have z := of_decide_eq_true ht
        have z' : g.length % (g.length - w) = 0 := by omega
        rw [if_pos z'] at key
        exact s_ret (ev_var rfl) fun H5 e5 => k _ key (by omega) (Nat.dvd_of_mod_eq_zero z') H5 ((E3.trans e4).trans e5)
      · rw [vint_inj] at ht
        have z := of_decide_eq_false ht
        have z' : ¬ g.length % (g.length - w) = 0 := by omega
        rw [if_neg z'] at key
        exact s_ret (ln (E3.trans e4) rfl) fun H5 e5 => k _ key (Nat.le_refl _) (Nat.dvd_refl _) H5 ((E3.trans e4).trans e5)
end
end K07
namespace K07
open PySem L2 Evl Gr
abbrev sST : Stmt := top 15
theorem atI_neg {g : List Int} {r : Nat} (h : r < g.length) : atI (vI g) (-1 - (r : Int)) = some (V.int (at' g (g.length - 1 - r))) := by
  have e : ixN (vI g).length (-1 - (r : Int)) = some (g.length - 1 - r) := by
    unfold ixN
    rw [vI_len, if_neg (by omega), if_pos (by omega)]
    congr 1
    omega
  unfold atI
  rw [e]
  exact vI_get (by omega)
section
variable {P : Program} {w : World} {K : PySem.W.Frag} {mg : Str → Option Value} {base : Heap}
/-! ### spare_told -/
def spST (K : PySem.W.Frag) : Sp := fun vs H Q _ => ∃ (a b : Addr) (t g : List Int), vs = [.ref a, .ref b] ∧ Sq K H a (vI t) ∧ Sq K H b (vI g) ∧ 0 < t.length ∧ t.length ≤ 4000 ∧ 0 < g.length ∧ g.length ≤ 4000 ∧
  ∀ s : Nat, Spr t g s → (s = t.length - 1 ∨ at' t (t.length - 1 - s) - at' t (t.length - 1 - s - 1) ≠ back g s) → RetV (.int (s : Int)) H Q
theorem scST : FnScope ["told", "gains", "spare", "last"] ["told", "gains"] (defScope sST) := ⟨rfl, rfl, rfl, by decide +kernel, rfl, by decide +kernel, by decide +kernel⟩
theorem ok_ST {f : Addr} {fd : FuncData} (F : Fun K "spare_told" "spare_told" sST f fd) (T : GlbS mg) : FnOk P w K mg base CX0 1 f fd ["told", "gains"] (spST K) := by
  refine F.ok scST (fun vs H Q E h => ?_) (fun cdv A outer s H vs Q E hr h => ?_)
  · obtain ⟨a, b, t, g, rfl, _⟩ := h
    rfl
  · obtain ⟨a, b, t, g, rfl, hT, hG, t0, t1, g0, g1, k⟩ := h
    refine ⟨_, pss_cons (ps_set (i := 2) scST.nd rfl (.inl rfl) pe_int)
      (pss_cons (ps_set (i := 3) scST.nd rfl (.inl rfl) (pe_op op_sub (pe_callB call_len_seq (by rfl) T.len PySem.boot_len (pa_cons (pv 0) pa_nil)) pe_int))
      (pss_cons (ps_while PassesOwn.never (PW.pt (pw_and (pt_cmpR op_lt (pv 2) (pv 3) (nomark _)) (pw_and1 (pt_cmpR op_eq
          (pe_op op_sub (pe_ix ix_seq (pv 0) (pe_op op_sub (pv 3) (pv 2)) (fun _ _ => rfl)) (pe_ix ix_seq (pv 0) (pe_op op_sub (pe_op op_sub (pv 3) (pv 2)) pe_int) (fun _ _ => rfl)))
          (pe_ix ix_seq (pv 1) (pe_op op_sub (pe_un un_neg pe_int) (pe_op op_mod (pv 2) (pe_callB call_len_seq (by rfl) T.len PySem.boot_len (pa_cons (pv 1) pa_nil)))) (fun _ _ => rfl)) (nomark _)))))
        (pss_one (ps_aug (i := 2) scST.nd rfl (.inl rfl) pe_int ip_add)))
      (pss_one (ps_ret (pv 2))))), ?_⟩
    refine q_asg ev_c fun H1 e1 => ?_
    refine q_asg (v := .int ((t.length - 1 : Nat) : Int)) (ev_is (ev_op (ev_cb (ea_cons (ev_var rfl) ea_nil) (rc_lenQ (hT.mono e1))) ev_c rv_I0) (by rw [vI_len]; congr 1; omega)) fun H2 e2 => ?_
    refine q_while (fun m σ' H' => ∃ s : Nat, m = t.length - s ∧ σ' = [some (.ref a), some (.ref b), some (.int (s : Int)), some (.int ((t.length - 1 : Nat) : Int))] ∧ Ex H H' ∧ Spr t g s) t.length ⟨0, rfl, rfl, e1.trans e2, spr_zero t0⟩ ?_
    rintro m σ' H3 ⟨s, rfl, rfl, E3, sp⟩
    have hs := sp.1
    have hr : s % g.length < g.length := Nat.mod_lt _ g0
    have lnG : Ev (tCB (fun xs H Q => ∃ p ys, xs = [V.ref p] ∧ (SqL K H p ys ∨ SqT K H p ys) ∧ Q (.int ys.length) H) (tCons (tVar 1) tNil)) [some (.ref a), some (.ref b), some (.int (s : Int)), some (.int ((t.length - 1 : Nat) : Int))] H3 (.int (g.length : Int)) :=
      ev_is (ev_cb (ea_cons (ev_var rfl) ea_nil) (rc_lenQ (hG.mono E3))) (by rw [vI_len])
    refine ⟨_, et_and (et_test (ev_op (ev_var rfl) (ev_var rfl) rv_I0)) (fun hlt => et_test (ev_op
      (ev_op (ev_op (y := .int ((t.length - 1 - s : Nat) : Int)) (ev_var rfl) (ev_is (ev_op (ev_var rfl) (ev_var rfl) rv_I0) (by congr 1; omega)) (rv_ix (hT.mono E3) (atI_vI (by omega))))
        (ev_op (y := .int ((t.length - 1 - s - 1 : Nat) : Int)) (ev_var rfl) (ev_is (ev_op (ev_op (ev_var rfl) (ev_var rfl) rv_I0) ev_c rv_I0) (by have := of_decide_eq_true hlt; congr 1; omega)) (rv_ix (hT.mono E3) (atI_vI (by omega)))) rv_I0)
      (ev_op (y := .int (-1 - ((s % g.length : Nat) : Int))) (ev_var rfl) (ev_is (ev_op (ev_un ev_c ru_neg) (ev_op (ev_var rfl) lnG (rv_I (by omega))) rv_I0) (by congr 1)) (rv_ix (hG.mono E3) (atI_neg hr))) (rv_eq rfl))), fun ht H4 e4 => ?_, fun ht H4 e4 => ?_⟩
    · obtain ⟨h1, h2⟩ := Bool.and_eq_true_iff.mp ht
      rw [vint_inj] at h2
      have h1' := of_decide_eq_true h1
      have h2' := of_decide_eq_true h2
      refine ⟨fun σ' H' => σ' = [some (.ref a), some (.ref b), some (.int ((s + 1 : Nat) : Int)), some (.int ((t.length - 1 : Nat) : Int))] ∧ Ex H H', fun σ2 H5 h5 => ⟨t.length - (s + 1), by omega, s + 1, rfl, h5.1, h5.2, spr_step sp (by omega) h2'⟩, ?_⟩
      exact s_aug (f := fun x y => x + y) (a := (s : Int)) (b := 1) rfl ev_c fun H5 e5 => ⟨rfl, (E3.trans e4).trans e5⟩
    · refine s_ret (ev_var rfl) fun H5 e5 => k s sp ?_ H5 ((E3.trans e4).trans e5)
      rcases Nat.lt_or_ge s (t.length - 1) with z | z
      · right
        rw [decide_eq_true (by omega : ((s : Int) < ((t.length - 1 : Nat) : Int))), Bool.true_and, vint_inj] at ht
        exact of_decide_eq_false ht
      · left
        omega
end
end K07
namespace Gr
theorem dif_take {g : List Int} {p : Nat} (h : Pd (dif g) p) (hp : 0 < p) (hn : p ≤ g.length) : dif (g.take p) = dif g := funext fun k => by
  have e : (g.take p).length = p := by rw [List.length_take]; omega
  have hk : k % p < p := Nat.mod_lt _ hp
  show at' (g.take p) (k % (g.take p).length) = dif g k
  rw [e, at_take hk, ← dif_lt (g := g) (k := k % p) (by omega)]
  exact h.mod k
theorem ex_least {α : Type} {d : Nat → α} : ∀ p, 0 < p → Pd d p → ∃ q, Least d q := by
  intro p
  induction p using Nat.strongRecOn with
  | ind p ih =>
    intro hp h
    by_cases e : ∃ q, q < p ∧ 0 < q ∧ Pd d q
    · obtain ⟨q, h1, h2, h3⟩ := e
      exact ih q h1 h2 h3
    · refine ⟨p, hp, h, fun q h2 h3 => ?_⟩
      rcases Nat.lt_or_ge q p with h1 | h1
      · exact absurd ⟨q, h1, h2, h3⟩ e
      · exact h1
theorem Least.one {α : Type} {d : Nat → α} {p q : Nat} (h : Least d p) (h' : Least d q) : p = q := Nat.le_antisymm (h.le q h'.pos h'.pd) (h'.le p h.pos h.pd)
theorem Least.dvd {g : List Int} {p : Nat} (h : Least (dif g) p) (hn : 0 < g.length) : p ∣ g.length ∧ p ≤ g.length := by
  have a := Pd.gcd p g.length h.pd dif_pd
  have b := h.le _ (Nat.gcd_pos_of_pos_left _ h.pos) a
  have c : Nat.gcd p g.length = p := Nat.le_antisymm (Nat.gcd_le_left _ h.pos) b
  exact ⟨c ▸ Nat.gcd_dvd_right p g.length, h.le _ hn dif_pd⟩
theorem val_congr {t g g' : List Int} (h : dif g = dif g') (n : Nat) : val t g n = val t g' n := by unfold val; rw [h]
end Gr
namespace K07
open PySem L2 Evl Gr
/-! ### tuples that may be new ones or not -/
def EvTu (K : PySem.W.Frag) (te : TE) (σ : L2.St) (H : Hp) (xs : List V) : Prop := ∀ H1, Ex H H1 → ∀ Q : VK, (∀ p H2, Ex H1 H2 → SqT K H2 p xs → Q (.ref p) H2) → te σ H1 Q
section
variable {K : PySem.W.Frag} {σ : L2.St} {H : Hp} {te ta tb : TE} {tl th : TO} {a : Addr} {xs ys : List V} {lo hi : Option Int}
theorem cutV_all {n : Nat} (h1 : HT.sIx xs.length 0 lo = 0) (h2 : HT.sIx xs.length xs.length hi = xs.length) : cutV xs lo hi = xs := by
  unfold cutV
  rw [h1, h2, List.drop_zero, Nat.sub_zero, List.take_length]
theorem etu_cut (h : Ev te σ H (.ref a)) (h1 : EvO tl σ H lo) (h2 : EvO th σ H hi) (hs : SqT K H a xs) : EvTu K (tSl (rSlA K) te tl th) σ H (cutV xs lo hi) := fun H1 e Q q =>
  h H1 e _ fun H2 e2 => h1 H2 (e.trans e2) _ fun H3 e3 => h2 H3 ((e.trans e2).trans e3) _ fun H4 e4 =>
    ⟨a, xs, rfl, ex_t (((e.trans e2).trans e3).trans e4) hs, fun z => q a H4 ((e2.trans e3).trans e4) (by rw [cutV_all (n := 0) z.1 z.2]; exact ex_t (((e.trans e2).trans e3).trans e4) hs),
      fun _ p hp => q p _ (((e2.trans e3).trans e4).trans (Ex.new hp)) (st_of upd_same)⟩
theorem etu_cat (h1 : EvTu K ta σ H xs) (h2 : EvTu K tb σ H ys) (hz : xs.length + ys.length ≤ 100000) : EvTu K (tOp (rCatA K) ta tb) σ H (xs ++ ys) := fun H1 e Q q =>
  h1 H1 e _ fun p H2 e2 hp => h2 H2 (e.trans e2) _ fun r H3 e3 hr =>
    ⟨p, r, xs, ys, rfl, rfl, ex_t e3 hp, hr, sz_of hz, fun z => q r H3 (e2.trans e3) (by rw [z]; exact hr), fun _ z => q p H3 (e2.trans e3) (by rw [z, List.append_nil]; exact ex_t e3 hp),
      fun _ _ b hb => q b _ ((e2.trans e3).trans (Ex.new hb)) (st_of upd_same)⟩
/-- a cut of a list or a tuple -/
def rSlQ (K : PySem.W.Frag) : V → Option Int → Option Int → Hp → VK → Prop := fun x lo hi H Q => rSlL K x lo hi H Q ∨ rSlA K x lo hi H Q
theorem sl_seq {X : Cx} : SlR X (rSlQ X.K) := sl_list.or sl_tupA
/-- tuple(s[lo:hi]) -/
theorem etu_of (h : Ev te σ H (.ref a)) (h1 : EvO tl σ H lo) (h2 : EvO th σ H hi) (hs : Sq K H a xs) : EvTu K (tThen (tSl (rSlQ K) te tl th) (kTup K)) σ H (cutV xs lo hi) := fun H1 e Q q =>
  h H1 e _ fun H2 e2 => h1 H2 (e.trans e2) _ fun H3 e3 => h2 H3 ((e.trans e2).trans e3) _ fun H4 e4 => by
    have E := ((e.trans e2).trans e3).trans e4
    have E1 := (e2.trans e3).trans e4
    rcases hs.mono E with z | z
    · exact .inl ⟨a, xs, rfl, z, fun p hp => .inl ⟨p, _, rfl, sq_of upd_same, fun r hr => q r _ ((E1.trans (Ex.new hp)).trans (Ex.new hr)) (st_of upd_same)⟩⟩
    · exact .inr ⟨a, xs, rfl, z, fun c => .inr ⟨a, _, rfl, z, q a H4 E1 (by rw [cutV_all (n := 0) c.1 c.2]; exact z)⟩, fun _ p hp => .inr ⟨p, _, rfl, st_of upd_same, q p _ (E1.trans (Ex.new hp)) (st_of upd_same)⟩⟩
theorem q_asgT {i : Nat} {tz : TS} {D : Ends} (h : EvTu K te σ H xs) (k : ∀ p H1, Ex H H1 → SqT K H1 p xs → tz D (σ.set i (some (.ref p))) H1) : tSeq (tAsg te (gName i)) tz D σ H := h H (Ex.refl H) _ fun p H1 e s => k p H1 e s
end
theorem cut_take {g : List Int} {n : Nat} (h : n ≤ g.length) : cutV (vI g) none (some (n : Int)) = vI (g.take n) := by
  unfold cutV vI
  rw [show HT.sIx (g.map V.int).length 0 none = 0 from rfl, HT.sIx_nat, List.drop_zero, Nat.sub_zero, List.length_map, Nat.min_eq_left h, List.map_take]
theorem cut_drop {g : List Int} {n : Nat} (h : n ≤ g.length) : cutV (vI g) (some (n : Int)) none = vI (g.drop n) := by
  unfold cutV vI
  rw [HT.sIx_none, HT.sIx_nat, List.length_map, Nat.min_eq_left h, List.take_of_length_le (by rw [List.length_drop, List.length_map]; exact Nat.le_refl _), List.map_drop]
abbrev sNF : Stmt := top 16
section
variable {P : Program} {w : World} {K : PySem.W.Frag} {mg : Str → Option Value} {base : Heap}
/-! ### normal_form -/
/-- a pair of the told values and gains of a normal form -/
def RetNF (K : PySem.W.Frag) (t g : List Int) (H : Hp) (Q : VK) : Prop := ∀ r p q t' g' H', Ex H H' → SqT K H' r [.ref p, .ref q] → SqT K H' p (vI t') → SqT K H' q (vI g') → NF t' g' → (∀ n, val t' g' n = val t g n) →
  t'.length ≤ t.length → g'.length ≤ g.length → Q (.ref r) H'
def spNF (K : PySem.W.Frag) : Sp := fun vs H Q _ => ∃ (a b : Addr) (t g : List Int), vs = [.ref a, .ref b] ∧ Sq K H a (vI t) ∧ Sq K H b (vI g) ∧ 0 < t.length ∧ t.length ≤ 4000 ∧ 0 < g.length ∧ g.length ≤ 4000 ∧ RetNF K t g H Q
theorem scNF : FnScope ["told", "gains", "few", "spare", "cut"] ["told", "gains"] (defScope sNF) := ⟨rfl, rfl, rfl, by decide +kernel, rfl, by decide +kernel, by decide +kernel⟩
theorem ok_NF {f fL fS : Addr} {fd fdL fdS : FuncData} (F : Fun K "normal_form" "normal_form" sNF f fd) (T : GlbS mg)
    (FL : Fun K "least_period" "least_period" sLP fL fdL) (bL : Binds K fdL ["gains"] []) (gL : mg "least_period" = some (.ref fL))
    (FS : Fun K "spare_told" "spare_told" sST fS fdS) (bS : Binds K fdS ["told", "gains"] []) (gS : mg "spare_told" = some (.ref fS)) : FnOk P w K mg base CX0 2 f fd ["told", "gains"] (spNF K) := by
  have GL : FnOk P w K mg base CX0 1 fL fdL ["gains"] (spLP K) := ok_LP FL T
  have GS : FnOk P w K mg base CX0 1 fS fdS ["told", "gains"] (spST K) := ok_ST FS T
  refine F.ok scNF (fun vs H Q E h => ?_) (fun cdv A outer s H vs Q E hr h => ?_)
  · obtain ⟨a, b, t, g, rfl, _⟩ := h
    rfl
  · obtain ⟨a, b, t, g, rfl, hT, hG, t0, t1, g0, g1, k⟩ := h
    refine ⟨_, pss_cons (ps_set (i := 2) scNF.nd rfl (.inl rfl) (pe_tupleOf (by rfl) T.tuple (pe_slice sl_seq (pv 1) po_none (po_some (pe_call GL hr (by rfl) gL FL.kp bL .nil pass0 (pa_cons (pv 1) pa_nil))))))
      (pss_cons (ps_set (i := 3) scNF.nd rfl (.inl rfl) (pe_call GS hr (by rfl) gS FS.kp bS .nil pass0 (pa_cons (pv 0) (pa_cons (pv 2) pa_nil))))
      (pss_cons (ps_set (i := 4) scNF.nd rfl (.inl rfl) (pe_op op_sub (pe_callB call_len_seq (by rfl) T.len PySem.boot_len (pa_cons (pv 2) pa_nil)) (pe_op op_mod (pv 3) (pe_callB call_len_seq (by rfl) T.len PySem.boot_len (pa_cons (pv 2) pa_nil)))))
      (pss_one (ps_ret (pe_tup (pa_cons (pe_tupleOf (by rfl) T.tuple (pe_slice sl_seq (pv 0) po_none (po_some (pe_op op_sub (pe_callB call_len_seq (by rfl) T.len PySem.boot_len (pa_cons (pv 0) pa_nil)) (pv 3)))))
        (pa_cons (pe_op op_catA (pe_slice sl_tupA (pv 2) (po_some (pv 4)) po_none) (pe_slice sl_tupA (pv 2) po_none (po_some (pv 4)))) pa_nil))))))), ?_⟩
    obtain ⟨p, lp⟩ := ex_least g.length g0 (dif_pd (g := g))
    obtain ⟨pd, pn⟩ := lp.dvd g0
    have fl : (g.take p).length = p := by rw [List.length_take]; omega
    have l00 : 0 < p := lp.pos
    have fd' : dif (g.take p) = dif g := dif_take lp.pd lp.pos pn
    refine q_asgT (xs := vI (g.take p)) (by
      have z := etu_of (K := K) (σ := [some (.ref a), some (.ref b), none, none, none]) (H := H) (te := tVar 1) (tl := tNoPart) (th := tPart (tCall (spLP K) [] E0 (tCons (tVar 1) tNil))) (a := b) (xs := vI g) (lo := none) (hi := some (p : Int))
        (ev_var rfl) eo_none (eo_some (ev_call (ea_cons (ev_var rfl) ea_nil) (fun H1 e Q q E => ⟨b, g, rfl, hG.mono e, g0, g1, fun p' l' _ _ => by rw [l'.one lp]; exact q⟩))) hG
      rw [cut_take pn] at z
      exact z) fun c H1 e1 hF => ?_
    refine ⟨_, rfl, _, rfl, a, c, t, g.take p, rfl, hT.mono e1, .inr hF, t0, t1, by omega, by omega, fun s sp fin H2 e2 => ?_⟩
    have l0 : 0 < p := lp.pos
    have hr2 : s % p < p := Nat.mod_lt _ l0
    have hF2 := ex_t e2 hF
    have ln : ∀ {σ'' : L2.St} {H' : Hp}, SqT K H' c (vI (g.take p)) → σ''[2]? = some (some (.ref c)) → Ev (tCB (fun xs H Q => ∃ p ys, xs = [V.ref p] ∧ (SqL K H p ys ∨ SqT K H p ys) ∧ Q (.int ys.length) H) (tCons (tVar 2) tNil)) σ'' H' (.int (p : Int)) := fun e h0 => ev_is (ev_cb (ea_cons (ev_var h0) ea_nil) (rc_lenQ (.inr e))) (by rw [vI_len, fl])
    show tSeq _ _ _ _ _
    refine q_asg (v := .int ((p - s % p : Nat) : Int)) (ev_is (ev_op (ln hF2 rfl) (ev_op (ev_var rfl) (ln hF2 rfl) (rv_I (by omega))) rv_I0) (by congr 1; omega)) fun H3 e3 => ?_
    have E3 := (e1.trans e2).trans e3
    have hF3 := ex_t e3 hF2
    have hs := sp.1
    have c1 : EvTu K (tThen (tSl (rSlQ K) (tVar 0) tNoPart (tPart (tOp (rI0 fun i j => .int (i - j)) (tCB (fun xs H Q => ∃ p ys, xs = [V.ref p] ∧ (SqL K H p ys ∨ SqT K H p ys) ∧ Q (.int ys.length) H) (tCons (tVar 0) tNil)) (tVar 3)))) (kTup K))
        [some (.ref a), some (.ref b), some (.ref c), some (.int (s : Int)), some (.int ((p - s % p : Nat) : Int))] H3 (vI (cutT t s)) := by
      have z := etu_of (K := K) (σ := [some (.ref a), some (.ref b), some (.ref c), some (.int (s : Int)), some (.int ((p - s % p : Nat) : Int))]) (H := H3) (te := tVar 0) (tl := tNoPart)
        (th := tPart (tOp (rI0 fun i j => .int (i - j)) (tCB (fun xs H Q => ∃ p ys, xs = [V.ref p] ∧ (SqL K H p ys ∨ SqT K H p ys) ∧ Q (.int ys.length) H) (tCons (tVar 0) tNil)) (tVar 3))) (a := a) (xs := vI t) (lo := none) (hi := some ((t.length - s : Nat) : Int))
        (ev_var rfl) eo_none (eo_some (ev_is (ev_op (ev_cb (ea_cons (ev_var rfl) ea_nil) (rc_lenQ (hT.mono E3))) (ev_var rfl) rv_I0) (by rw [vI_len]; congr 1; omega))) (hT.mono E3)
      rw [cut_take (by omega)] at z
      exact z
    refine c1 H3 (Ex.refl H3) _ fun u H4 e4 hu => ?_
    have hF4 := ex_t e4 hF3
    have c2 := etu_cat (K := K) (σ := [some (.ref a), some (.ref b), some (.ref c), some (.int (s : Int)), some (.int ((p - s % p : Nat) : Int))]) (H := H4)
      (etu_cut (te := tVar 2) (tl := tPart (tVar 4)) (th := tNoPart) (lo := some ((p - s % p : Nat) : Int)) (hi := none) (ev_var rfl) (eo_some (ev_var rfl)) eo_none hF4)
      (etu_cut (te := tVar 2) (tl := tNoPart) (th := tPart (tVar 4)) (lo := none) (hi := some ((p - s % p : Nat) : Int)) (ev_var rfl) eo_none (eo_some (ev_var rfl)) hF4)
      (by
        have z1 := cutV_length (vI (g.take p)) (some ((p - s % p : Nat) : Int)) none
        have z2 := cutV_length (vI (g.take p)) none (some ((p - s % p : Nat) : Int))
        rw [vI_len, fl] at z1 z2
        omega)
    rw [cut_take (by omega), cut_drop (by omega)] at c2
    refine c2 H4 (Ex.refl H4) _ fun v H5 e5 hv => ?_
    refine ⟨by show 2 ≤ sizeLine; decide, fun r hr => ?_⟩
    have e6 := Ex.new (H := H5) (o := .tup [.ref u, .ref v]) hr
    have gl : 0 < (g.take p).length := by omega
    have ll : Least (dif (g.take p)) (g.take p).length := by rw [fd', fl]; exact lp
    refine k r u v (cutT t s) (cutG (g.take p) s) _ (((E3.trans e4).trans e5).trans e6) (st_of upd_same) (ex_t e6 (ex_t e5 hu)) ?_ (nf_cut gl ll sp fin) (fun n => (val_cut gl sp n).trans (val_congr fd' n)) (by rw [cutT_len hs]; omega) (by rw [cutG_len]; omega)
    have e7 : cutG (g.take p) s = (g.take p).drop (p - s % p) ++ (g.take p).take (p - s % p) := by unfold cutG; rw [fl]
    rw [e7]
    unfold vI at hv ⊢
    rw [List.map_append]
    exact ex_t e6 hv
end
end K07
namespace Gr
/-- the sums of the first gains, from none of them to all -/
def ris (g : List Int) : List Int := (List.range (g.length + 1)).map (acc (dif g))
theorem ris_len {g : List Int} : (ris g).length = g.length + 1 := by unfold ris; rw [List.length_map, List.length_range]
theorem ris_at {g : List Int} {i : Nat} (h : i ≤ g.length) : at' (ris g) i = acc (dif g) i := at_map_range (by omega)
def pre (d : Nat → Int) (n : Nat) : List Int := (List.range (n + 1)).map (acc d)
theorem pre_len {d : Nat → Int} {n : Nat} : (pre d n).length = n + 1 := by unfold pre; rw [List.length_map, List.length_range]
theorem pre_succ {d : Nat → Int} {n : Nat} : pre d (n + 1) = pre d n ++ [acc d n + d n] := by
  unfold pre
  rw [List.range_succ, List.map_append]
  rfl
theorem pre_last {d : Nat → Int} {n : Nat} : at' (pre d n) ((pre d n).length - 1) = acc d n := by
  rw [pre_len]
  exact at_map_range (by omega)
/-- gains whose sum is not great -/
def Small (g : List Int) : Prop := ∀ i, i < g.length → 0 ≤ at' g i ∧ at' g i ≤ 999999999999999999999999999999999999999999999999999999999999
theorem acc_small {g : List Int} (h : Small g) (hg : 0 < g.length) : ∀ n, 0 ≤ acc (dif g) n ∧ acc (dif g) n ≤ 999999999999999999999999999999999999999999999999999999999999 * (n : Int)
  | 0 => ⟨Int.le_refl _, by show (0 : Int) ≤ _; omega⟩
  | n + 1 => by
    have a := acc_small h hg n
    have b := h (n % g.length) (Nat.mod_lt _ hg)
    show 0 ≤ acc (dif g) n + dif g n ∧ acc (dif g) n + dif g n ≤ _
    have e : dif g n = at' g (n % g.length) := rfl
    omega
/-- gains whose sum is low -/
def Low (g : List Int) : Prop := ∀ i, i < g.length → 0 ≤ at' g i ∧ at' g i ≤ 4000000000000000
theorem acc_low {g : List Int} (h : Low g) (hg : 0 < g.length) : ∀ n, 0 ≤ acc (dif g) n ∧ acc (dif g) n ≤ 4000000000000000 * (n : Int)
  | 0 => ⟨Int.le_refl _, by show (0 : Int) ≤ _; omega⟩
  | n + 1 => by
    have a := acc_low h hg n
    have b := h (n % g.length) (Nat.mod_lt _ hg)
    show 0 ≤ acc (dif g) n + dif g n ∧ acc (dif g) n + dif g n ≤ _
    have e : dif g n = at' g (n % g.length) := rfl
    omega
theorem Low.small {g : List Int} (h : Low g) : Small g := fun i hi => ⟨(h i hi).1, by have := (h i hi).2; omega⟩
end Gr
namespace K07
open PySem L2 Evl Gr
abbrev sRis : Stmt := top 17
abbrev sVal : Stmt := top 18
/-! ### growths as they stand in the heap -/
structure GCls (K : PySem.W.Frag) (C : Addr) : Prop where
  cls : Cls K C
  told : NoAttr K C "told"
  gains : NoAttr K C "gains"
  rises : NoAttr K C "rises"
def GrAt (K : PySem.W.Frag) (C : Addr) (H : Hp) (o : Addr) (t g : List Int) : Prop := ∃ dx p q r, H o = some (.ins C dx [("told", .ref p), ("gains", .ref q), ("rises", .ref r)]) ∧ SqT K H p (vI t) ∧ SqT K H q (vI g) ∧ SqT K H r (vI (ris g)) ∧
  NF t g ∧ t.length ≤ 2000 ∧ g.length ≤ 2000 ∧ Small g
theorem GrAt.mono {K : PySem.W.Frag} {C : Addr} {H H' : Hp} {o : Addr} {t g : List Int} (e : Ex H H') (h : GrAt K C H o t g) : GrAt K C H' o t g := by
  obtain ⟨dx, p, q, r, h1, h2, h3, h4, h5⟩ := h
  exact ⟨dx, p, q, r, e _ _ h1, ex_t e h2, ex_t e h3, ex_t e h4, h5⟩
theorem ev_fld {K : PySem.W.Frag} {σ : L2.St} {H : Hp} {ta : TE} {o C dx : Addr} {fs : List (Str × V)} {v : V} {f : Str} (ha : Ev ta σ H (.ref o)) (ho : H o = some (.ins C dx fs)) (c : Cls K C) (n : NoAttr K C f) (hf : fs.lookup f = some v) :
    Ev (tFld K ta f) σ H v := fun H1 e Q q => ha H1 e _ fun H2 e2 => ⟨o, C, dx, fs, v, rfl, e2 _ _ (e _ _ ho), c, n, hf, q H2 e2⟩
section
variable {P : Program} {w : World} {K : PySem.W.Frag} {mg : Str → Option Value} {base : Heap}
/-! ### rises_of -/
def spRis (K : PySem.W.Frag) : Sp := fun vs H Q _ => ∃ (a : Addr) (g : List Int), vs = [.ref a] ∧ SqT K H a (vI g) ∧ g.length ≤ 4000 ∧ ∀ p H', Ex H H' → SqT K H' p (vI (ris g)) → Q (.ref p) H'
theorem scRis : FnScope ["gains", "rises", "gain"] ["gains"] (defScope sRis) := ⟨rfl, rfl, rfl, by decide +kernel, rfl, by decide +kernel, by decide +kernel⟩
theorem ok_Ris {f : Addr} {fd : FuncData} (F : Fun K "rises_of" "rises_of" sRis f fd) (T : GlbS mg) : FnOk P w K mg base CX0 1 f fd ["gains"] (spRis K) := by
  refine F.ok scRis (fun vs H Q E h => ?_) (fun cdv A outer s H vs Q E hr h => ?_)
  · obtain ⟨a, g, rfl, _⟩ := h
    rfl
  · obtain ⟨a, g, rfl, hG, g1, k⟩ := h
    refine ⟨_, pss_cons (ps_set (i := 1) scRis.nd rfl (.inl rfl) (pe_lst (pa_cons pe_int pa_nil)))
      (pss_cons (ps_for PassesOwn.never rfl (pi_tup (pv 0)) (pg_name (i := 2) scRis.nd rfl (.inl rfl))
        (pss_one (ps_expr (pe_bm PySem.F.plainAttrs_list PySem.F.slot_list_append PySem.F.type_list_append mt_append (pv 1) (pa_cons (pe_op op_add (pe_ix ix_list (pv 1) (pe_un un_neg pe_int) (fun _ _ => rfl)) (pv 2)) pa_nil)))))
      (pss_one (ps_ret (pe_tupleOf (by rfl) T.tuple (pv 1))))), ?_⟩
    refine q_asgL (xs := vI [0]) (el_lst (ea_cons ev_c ea_nil) (Nat.le_of_ble_eq_true rfl)) fun b H1 hb e1 h1 => ?_
    refine q_forT (xs := vI g) (ev_var rfl) (ex_t e1 hG) (fun i σ' H' => (∃ x, σ' = [some (.ref a), some (.ref b), x]) ∧ H' b = some (.lst (vI (pre (dif g) i))) ∧ Ex H H') (fun H2 e2 => ⟨⟨_, rfl⟩, e2 _ _ h1, e1.trans e2⟩) (fun i σ' H' _ z => ex_t z.2.2 hG) ?_ ?_
    · rintro i x σ' H2 hx ⟨⟨x2, rfl⟩, h2, e2⟩
      have hi : i < g.length := by
        have := (List.getElem?_eq_some_iff.mp hx).1
        rwa [vI_len] at this
      rw [vI_get hi] at hx
      obtain rfl := Option.some.inj hx
      show tDrop _ _ _ _
      refine s_app h2 (ev_var rfl) (v := .int (acc (dif g) i + dif g i)) (ev_op (ev_op (ev_var rfl) (ev_un ev_c ru_neg) (rv_ixL (sq_of h2) (by rw [atI_vlast (by rw [pre_len]; omega), pre_last]))) (ev_is (ev_var rfl) (by rw [dif_lt hi])) rv_I0) (by rw [vI_len, pre_len]; omega) fun H3 e3 => ?_
      exact ⟨⟨_, rfl⟩, by rw [upd_same, vI_app, pre_succ], (e2.trans e3).mut hb⟩
    · rintro σ' H2 ⟨⟨x2, rfl⟩, h2, e2⟩
      rw [vI_len] at h2
      refine ⟨_, rfl, .inl ⟨b, _, rfl, sq_of h2, fun q hq => k q _ (e2.trans (Ex.new hq)) (st_of upd_same)⟩⟩
/-! ### value_at -/
theorem wide_lt40 {i : Int} (h : 0 ≤ i ∧ i ≤ 20000000000000000000000000000000000000000) : i.natAbs < 2 ^ 140 := by
  have e : (2 : Nat) ^ 140 = 1393796574908163946345982392040522594123776 := by decide
  rw [e]
  omega
/-- i, j = divmod(a, b) -/
theorem q_divmod {σ : L2.St} {H : Hp} {ta : TA} {a b : Int} {i j : Nat} {tz : TS} {D : Ends} (h : EvA ta σ H [.int a, .int b]) (hc : CDiv a b) (k : ∀ H1, Ex H H1 → tz D ((σ.set i (some (.int (a / b)))).set j (some (.int (a % b)))) H1) :
    tSeq (tAsg (tCB (fun xs H Q => ∃ i j, xs = [V.int i, V.int j] ∧ CDiv i j ∧ ∀ p, H p = none → Q (.ref p) (upd H p (.tup [.int (i / j), .int (i % j)]))) ta) (gTup K 2 (gCons (gName i) (gCons (gName j) gNil)))) tz D σ H :=
  h H (Ex.refl H) _ fun H2 e2 => ⟨a, b, rfl, hc, fun p hp => ⟨p, _, rfl, st_of upd_same, rfl, _, _, rfl, _, _, rfl, rfl, k _ (e2.trans (Ex.new hp))⟩⟩
structure GlbV (mg : Str → Option Value) : Prop where
  divmod : mg "divmod" = none
  max : mg "max" = none
  zip : mg "zip" = none
theorem spv_val_far {t g : List Int} {n : Nat} (h0 : 0 < t.length) (hn : t.length ≤ n) : val t g n = at' t (t.length - 1) + ((n - t.length + 1) / g.length : Nat) * acc (dif g) g.length + acc (dif g) ((n - t.length + 1) % g.length) := val_far h0 hn
end
end K07
namespace Gr
theorem pT_at {f : Nat → Int} {n i : Nat} (h : i < n) : at' (pT f n) i = f i := at_map_range h
theorem pT_succ {f : Nat → Int} {n : Nat} : pT f (n + 1) = pT f n ++ [f n] := by
  unfold pT
  rw [List.range_succ, List.map_append]
  rfl
theorem pT_take {t g : List Int} {n : Nat} (h : n ≤ t.length) : t.take n = pT (val t g) n := by
  refine at_eq_of (by rw [pT_len, List.length_take]; omega) fun i hi => ?_
  rw [List.length_take] at hi
  rw [at_take (by omega), pT_at (by omega), val_lt (by omega)]
theorem val_next {t g : List Int} {n : Nat} (h0 : 0 < t.length) (h : t.length ≤ n) : val t g n = val t g (n - 1) + dif g (n - t.length) := by
  have := val_step (g := g) h0 (n - t.length)
  rw [show t.length - 1 + (n - t.length) + 1 = n by omega, show t.length - 1 + (n - t.length) = n - 1 by omega] at this
  omega
end Gr
namespace K07
open PySem L2 Evl Gr
abbrev sFirst : Stmt := top 19
section
variable {K : PySem.W.Frag} {σ : L2.St} {H : Hp} {te : TE} {xs : List V}
/-- list(t), t a tuple that may be a new one -/
theorem el_ofT (h : EvTu K te σ H xs) : EvL (tCB (rListS K) (tCons te tNil)) σ H xs := fun H1 e Q q =>
  h H1 e _ fun p H2 e2 hp => ⟨p, xs, rfl, .inr hp, fun l hl => q l _ (fresh_back e2 hl) (e2.trans (Ex.new hl)) upd_same⟩
end
section
variable {P : Program} {w : World} {K : PySem.W.Frag} {mg : Str → Option Value} {base : Heap}
/-! ### first_values -/
def spFirst (K : PySem.W.Frag) (C : Addr) : Sp := fun vs H Q _ => ∃ (o : Addr) (m : Nat) (t g : List Int), vs = [.ref o, .int (m : Int)] ∧ GrAt K C H o t g ∧ m ≤ 10000 ∧ ∀ p H', H p = none → Ex H H' → H' p = some (.lst (vI (pT (val t g) m))) → Q (.ref p) H'
theorem scFirst : FnScope ["one", "many", "values", "at"] ["one", "many"] (defScope sFirst) := ⟨rfl, rfl, rfl, by decide +kernel, rfl, by decide +kernel, by decide +kernel⟩
theorem ok_First {C f : Addr} {fd : FuncData} (F : Fun K "first_values" "first_values" sFirst f fd) (T : GlbS mg) (G : GCls K C) : FnOk P w K mg base CX0 1 f fd ["one", "many"] (spFirst K C) := by
  refine F.ok scFirst (fun vs H Q E h => ?_) (fun cdv A outer s H vs Q E hr h => ?_)
  · obtain ⟨o, n, t, g, rfl, _⟩ := h
    rfl
  · obtain ⟨o, m, t, g, rfl, hO, hm, k⟩ := h
    refine ⟨_, pss_cons (ps_set (i := 2) scFirst.nd rfl (.inl rfl) (pe_callTy call_list_of (by rfl) T.list (by decide +kernel) (pa_cons (pe_slice sl_tupA (pe_fld (pv 0) rfl) po_none (po_some (pv 1))) pa_nil)))
      (pss_cons (ps_set (i := 3) scFirst.nd rfl (.inl rfl) pe_int)
      (pss_cons (ps_while PassesOwn.never (pt_cmpR op_lt (pe_callB call_len_seq (by rfl) T.len PySem.boot_len (pa_cons (pv 2) pa_nil)) (pv 1) (nomark _))
        (pss_cons (ps_expr (pe_bm PySem.F.plainAttrs_list PySem.F.slot_list_append PySem.F.type_list_append mt_append (pv 2) (pa_cons (pe_op op_add (pe_ix ix_list (pv 2) (pe_un un_neg pe_int) (fun _ _ => rfl)) (pe_ix ix_seq (pe_fld (pv 0) rfl) (pv 3) (fun _ _ => rfl))) pa_nil)))
        (pss_cons (ps_aug (i := 3) scFirst.nd rfl (.inl rfl) pe_int ip_add)
        (pss_one (ps_if (pt_cmpR op_eq (pv 3) (pe_callB call_len_seq (by rfl) T.len PySem.boot_len (pa_cons (pe_fld (pv 0) rfl) pa_nil)) (nomark _)) (pss_one (ps_set (i := 3) scFirst.nd rfl (.inl rfl) pe_int)) pss_nil)))))
      (pss_one (ps_ret (pv 2))))), ?_⟩
    obtain ⟨dx, p, q, r, h1, h2, h3, h4, nf, t2, g2, sm⟩ := hO
    have t0 := nf.told
    have g0 := nf.gains
    have fT : ∀ {σ'' : L2.St} {H' : Hp}, Ex H H' → σ''[0]? = some (some (.ref o)) → Ev (tFld K (tVar 0) "told") σ'' H' (.ref p) := fun e h0 => ev_fld (ev_var h0) (e _ _ h1) G.cls G.told rfl
    have fG : ∀ {σ'' : L2.St} {H' : Hp}, Ex H H' → σ''[0]? = some (some (.ref o)) → Ev (tFld K (tVar 0) "gains") σ'' H' (.ref q) := fun e h0 => ev_fld (ev_var h0) (e _ _ h1) G.cls G.gains rfl
    have lG : ∀ {σ'' : L2.St} {H' : Hp}, Ex H H' → σ''[0]? = some (some (.ref o)) → Ev (tCB (fun xs H Q => ∃ p ys, xs = [V.ref p] ∧ (SqL K H p ys ∨ SqT K H p ys) ∧ Q (.int ys.length) H) (tCons (tFld K (tVar 0) "gains") tNil)) σ'' H' (.int (g.length : Int)) :=
      fun e h0 => ev_is (ev_cb (ea_cons (fG e h0) ea_nil) (rc_lenQ (.inr (ex_t e h3)))) (by rw [vI_len])
    obtain ⟨n0, hn0⟩ : ∃ n0, n0 = min m t.length := ⟨_, rfl⟩
    have c1 : EvL (tCB (rListS K) (tCons (tSl (rSlA K) (tFld K (tVar 0) "told") tNoPart (tPart (tVar 1))) tNil)) [some (.ref o), some (.int (m : Int)), none, none] H (vI (pT (val t g) n0)) := by
      have z := etu_cut (K := K) (σ := [some (.ref o), some (.int (m : Int)), none, none]) (H := H) (te := tFld K (tVar 0) "told") (tl := tNoPart) (th := tPart (tVar 1)) (lo := none) (hi := some (m : Int)) (fT (Ex.refl H) rfl) eo_none (eo_some (ev_var rfl)) h2
      have e : cutV (vI t) none (some (m : Int)) = vI (pT (val t g) n0) := by
        rcases Nat.lt_or_ge t.length m with c | c
        · have e1 : cutV (vI t) none (some (m : Int)) = vI t := cutV_all (n := 0) rfl (by rw [HT.sIx_nat, vI_len]; omega)
          rw [e1, show n0 = t.length by omega, ← pT_take (g := g) (Nat.le_refl _), List.take_length]
        · rw [cut_take c, show n0 = m by omega, pT_take (g := g) c]
      rw [e] at z
      exact el_ofT z
    refine q_asgL c1 fun b H1 hb e1 hb1 => ?_
    refine q_asg ev_c fun H2 e2 => ?_
    refine q_while (fun u σ' H' => ∃ n : Nat, u = m - n ∧ n ≤ m ∧ (n < m → t.length ≤ n) ∧ 0 < n + 1 ∧ σ' = [some (.ref o), some (.int (m : Int)), some (.ref b), some (.int (((n - t.length) % g.length : Nat) : Int))] ∧ H' b = some (.lst (vI (pT (val t g) n))) ∧ Ex H H') (m - n0)
      ⟨n0, rfl, by omega, fun _ => by omega, by omega, by rw [show n0 - t.length = 0 by omega, Nat.zero_mod]; rfl, e2 _ _ hb1, e1.trans e2⟩ ?_
    rintro u σ' H3 ⟨n, rfl, nm, nt, _, rfl, hb3, E3⟩
    refine ⟨_, et_test (ev_op (ev_is (ev_cb (ea_cons (ev_var rfl) ea_nil) (rc_len (sq_of hb3))) (by rw [vI_len, pT_len])) (ev_var rfl) rv_I0), fun ht H4 e4 => ?_, fun ht H4 e4 => ?_⟩
    · have hlt : n < m := by have := of_decide_eq_true ht; omega
      have hT := nt hlt
      have hr2 : (n - t.length) % g.length < g.length := Nat.mod_lt _ g0
      have hb4 := e4 _ _ hb3
      have E4 := E3.trans e4
      refine ⟨fun σ' H' => σ' = [some (.ref o), some (.int (m : Int)), some (.ref b), some (.int (((n + 1 - t.length) % g.length : Nat) : Int))] ∧ H' b = some (.lst (vI (pT (val t g) (n + 1)))) ∧ Ex H H',
        fun σ2 H5 h5 => ⟨m - (n + 1), by omega, n + 1, rfl, by omega, fun _ => by omega, by omega, h5.1, h5.2.1, h5.2.2⟩, ?_⟩
      refine q_app hb4 (ev_var rfl) (v := .int (val t g n)) (ev_is (ev_op (ev_op (ev_var rfl) (ev_un ev_c ru_neg) (rv_ixL (sq_of hb4) (by rw [atI_vlast (by rw [pT_len]; omega), pT_len, pT_at (by omega)])))
        (ev_op (fG E4 rfl) (ev_var rfl) (rv_ix (.inr (ex_t E4 h3)) (atI_vI hr2))) rv_I0) (by rw [val_next t0 hT]; rfl)) (by rw [vI_len, pT_len]; omega) fun H5 e5 => ?_
      have E5 : Ex H (upd H5 b (.lst (vI (pT (val t g) n) ++ [.int (val t g n)]))) := (E4.trans e5).mut hb
      have hb5 : (upd H5 b (.lst (vI (pT (val t g) n) ++ [.int (val t g n)]))) b = some (.lst (vI (pT (val t g) (n + 1)))) := by rw [upd_same, vI_app, pT_succ]
      generalize upd H5 b (.lst (vI (pT (val t g) n) ++ [.int (val t g n)])) = H6 at E5 hb5 ⊢
      refine q_aug (f := fun x y => x + y) (a := (((n - t.length) % g.length : Nat) : Int)) (b := 1) rfl ev_c fun H7 e7 => ?_
      have E7 := E5.trans e7
      have hb7 := e7 _ _ hb5
      have e8 : n + 1 - t.length = n - t.length + 1 := by omega
      refine s_when (et_test (ev_op (ev_var rfl) (lG E7 rfl) (rv_eq rfl))) (fun hq H8 e8' => ?_) (fun hq H8 e8' => ?_)
      · rw [vint_inj] at hq
        have hq' := of_decide_eq_true hq
        refine s_asg ev_c fun H9 e9 => ⟨?_, e9 _ _ (e8' _ _ hb7), (E7.trans e8').trans e9⟩
        have z : (n + 1 - t.length) % g.length = 0 := by
          rw [e8, Nat.add_mod]
          rcases Nat.eq_or_lt_of_le g0 with c | c
          · rw [← c, Nat.mod_one]
          · rw [Nat.mod_eq_of_lt c, show (n - t.length) % g.length + 1 = g.length by omega, Nat.mod_self]
        rw [z]
        rfl
      · rw [vint_inj] at hq
        have hq' := of_decide_eq_false hq
        refine ⟨?_, e8' _ _ hb7, E7.trans e8'⟩
        have z : (n + 1 - t.length) % g.length = (n - t.length) % g.length + 1 := by
          rw [e8, Nat.add_mod]
          rcases Nat.eq_or_lt_of_le g0 with c | c
          · rw [← c, Nat.mod_one] at hq' ⊢
            omega
          · rw [Nat.mod_eq_of_lt c, Nat.mod_eq_of_lt (by omega)]
        rw [z]
        rfl
    · have hge : n = m := by have := of_decide_eq_false ht; omega
      subst hge
      exact s_ret (ev_var rfl) fun H5 e5 => k b H5 hb ((E3.trans e4).trans e5) (e5 _ _ (e4 _ _ hb3))
end
end K07
namespace K07
open PySem L2 Evl Gr
abbrev sPart : Stmt := top 20
abbrev sBegin : Stmt := top 22
section
variable {σ : L2.St} {H : Hp} {te : TE} {t : TT}
/-- [e for j in range(a, b) if t] -/
theorem el_lcR2 {ta : TA} {j : Nat} {vs : List Nat} {lo n : Int} (f : Nat → Bool) (v : Nat → V) (h : EvA ta σ H [.int lo, .int n]) (hn : 0 ≤ lo ∧ lo ≤ n ∧ n ≤ 40000) (hw : ∀ x, wipe ((wipe σ vs).set j (some x)) vs = wipe σ vs)
    (ht : ∀ (i : Nat) H1, Ex H H1 → lo + (i : Int) < n → EvT t ((wipe σ vs).set j (some (.int (lo + (i : Int))))) H1 (f i)) (he : ∀ (i : Nat) H1, Ex H H1 → lo + (i : Int) < n → f i = true → Ev te ((wipe σ vs).set j (some (.int (lo + (i : Int))))) H1 (v i)) :
    EvL (tLc (iRng2 ta) (gName j) t te vs) σ H (given (n - lo).toNat f v) := fun H0 e Q q => h H0 e _ fun H1 e1 => ⟨lo, n, rfl, ⟨by omega, by omega, by omega, by omega⟩, fun Dl hD =>
  lc_range (lo := lo) (n := (n - lo).toNat) (Cw H1 f v Dl) ⟨hD, Ex.new hD, upd_same⟩ (fun i H' hi p =>
    ⟨hw _, cw_turn p (by omega) (ht i H1 (e.trans e1) (by omega)) (fun hf => he i H1 (e.trans e1) (by omega) hf)⟩) (fun H' p => q Dl H' (fresh_back e1 p.1) (e1.trans p.2.1) p.2.2)⟩
theorem given_all {n : Nat} {v : Nat → V} : given n (fun _ => true) v = (List.range n).map v := by
  unfold given
  rw [List.filter_eq_self.mpr fun _ _ => rfl]
theorem et_none : EvT (fun σ H Q => Q true H) σ H true := fun H1 _ _ q => q H1 (Ex.refl H1)
end
section
variable {P : Program} {w : World} {K : PySem.W.Frag} {mg : Str → Option Value} {base : Heap}
/-! ### begin_of_both -/
def spBegin (K : PySem.W.Frag) (C : Addr) : Sp := fun vs H Q _ => ∃ (o u : Addr) (t g t' g' : List Int), vs = [.ref o, .ref u] ∧ GrAt K C H o t g ∧ GrAt K C H u t' g' ∧ RetV (.int ((max t.length t'.length : Nat) : Int)) H Q
theorem scBegin : FnScope ["one", "other"] ["one", "other"] (defScope sBegin) := ⟨rfl, rfl, rfl, by decide +kernel, rfl, by decide +kernel, by decide +kernel⟩
theorem ev_lenF {σ : L2.St} {H : Hp} {ta : TE} {o C dx p : Addr} {fs : List (Str × V)} {f : Str} {g : List Int} (ha : Ev ta σ H (.ref o)) (ho : H o = some (.ins C dx fs)) (c : Cls K C) (n : NoAttr K C f) (hf : fs.lookup f = some (.ref p)) (hp : SqT K H p (vI g)) :
    Ev (tCB (fun xs H Q => ∃ p ys, xs = [V.ref p] ∧ (SqL K H p ys ∨ SqT K H p ys) ∧ Q (.int ys.length) H) (tCons (tFld K ta f) tNil)) σ H (.int (g.length : Int)) :=
  ev_is (ev_cb (ea_cons (ev_fld ha ho c n hf) ea_nil) (rc_lenQ (.inr hp))) (by rw [vI_len])
theorem ok_Begin {C f : Addr} {fd : FuncData} (F : Fun K "begin_of_both" "begin_of_both" sBegin f fd) (T : GlbS mg) (DV : GlbV mg) (G : GCls K C) : FnOk P w K mg base CX0 1 f fd ["one", "other"] (spBegin K C) := by
  refine F.ok scBegin (fun vs H Q E h => ?_) (fun cdv A outer s H vs Q E hr h => ?_)
  · obtain ⟨o, u, t, g, t', g', rfl, _⟩ := h
    rfl
  · obtain ⟨o, u, t, g, t', g', rfl, hO, hU, k⟩ := h
    refine ⟨_, pss_one (ps_ret (pe_callB (call_max2 rfl) (by rfl) DV.max (by decide +kernel) (pa_cons (pe_callB call_len_seq (by rfl) T.len PySem.boot_len (pa_cons (pe_fld (pv 0) rfl) pa_nil)) (pa_cons (pe_callB call_len_seq (by rfl) T.len PySem.boot_len (pa_cons (pe_fld (pv 1) rfl) pa_nil)) pa_nil)))), ?_⟩
    obtain ⟨dx, p, q, r, h1, h2, h3, h4, nf, t2, g2, sm⟩ := hO
    obtain ⟨dx', p', q', r', h1', h2', h3', h4', nf', t2', g2', sm'⟩ := hU
    refine s_ret (ev_is (ev_max2 (ev_lenF (ev_var rfl) h1 G.cls G.told rfl h2) (ev_lenF (ev_var rfl) h1' G.cls G.told rfl h2')) ?_) k
    by_cases c : (t'.length : Int) > (t.length : Int)
    · rw [if_pos c]; congr 1; omega
    · rw [if_neg c]; congr 1; omega
/-! ### parted -/
def spPart (K : PySem.W.Frag) : Sp := fun vs H Q _ => ∃ (a : Addr) (b l : Nat) (f : Nat → Int), vs = [.ref a, .int (b : Int)] ∧ SqL K H a (vI (pT f (b + l))) ∧ 0 < b ∧ b + l ≤ 20000 ∧
  ∀ r p q H', Ex H H' → SqT K H' r [.ref p, .ref q] → SqL K H' p (vI (pT f b)) → SqL K H' q (vI (pG f b l)) → Q (.ref r) H'
theorem scPart : FnScope ["values", "many", "gains", "at"] ["values", "many"] (defScope sPart) := ⟨rfl, rfl, rfl, by decide +kernel, rfl, by decide +kernel, by decide +kernel⟩
theorem ok_Part {f : Addr} {fd : FuncData} (F : Fun K "parted" "parted" sPart f fd) (T : GlbS mg) : FnOk P w K mg base CX0 1 f fd ["values", "many"] (spPart K) := by
  refine F.ok scPart (fun vs H Q E h => ?_) (fun cdv A outer s H vs Q E hr h => ?_)
  · obtain ⟨a, b, l, f, rfl, _⟩ := h
    rfl
  · obtain ⟨a, b, l, f, rfl, hA, b0, bl, k⟩ := h
    refine ⟨_, pss_cons (ps_setLc (i := 2) (own := [("at", 3)]) (g := gName 3) rfl scPart.nd rfl (by rfl) (by rfl) (pi_range2 (by rfl) T.range (pa_cons (pv 1) (pa_cons (pe_callB call_len_seq (by rfl) T.len PySem.boot_len (pa_cons (pv 0) pa_nil)) pa_nil))) (blkOk_by (own := [("at", 3)]) (N := ["values", "many", "gains", "at"]) (sc := defScope sPart) (by decide +kernel))
        (fun _ _ _ _ _ => pg_name (i := 3) scPart.nd rfl (Or.inl rfl)) (fun _ _ _ _ _ => pts_nil) (fun _ _ _ _ _ => pe_op op_sub (pe_ix (show IxR _ (rIxL K) from ix_list) (pv 0) (pv 3) (fun _ _ => rfl)) (pe_ix (show IxR _ (rIxL K) from ix_list) (pv 0) (pe_op op_sub (pv 3) pe_int) (fun _ _ => rfl))))
      (pss_one (ps_ret (pe_tup (pa_cons (pe_slice sl_list (pv 0) po_none (po_some (pv 1))) (pa_cons (pv 2) pa_nil))))), ?_⟩
    have c1 : EvL (tLc (iRng2 (tCons (tVar 1) (tCons (tCB (fun xs H Q => ∃ p ys, xs = [V.ref p] ∧ (SqL K H p ys ∨ SqT K H p ys) ∧ Q (.int ys.length) H) (tCons (tVar 0) tNil)) tNil))) (gName 3) tYes
        (tOp (rI0 fun i j => .int (i - j)) (tOp (rIxL K) (tVar 0) (tVar 3)) (tOp (rIxL K) (tVar 0) (tOp (rI0 fun i j => .int (i - j)) (tVar 3) (tC (.int 1))))) [3]) [some (.ref a), some (.int (b : Int)), none, none] H (vI (pG f b l)) := by
      have z := el_lcR2 (σ := [some (.ref a), some (.int (b : Int)), none, none]) (H := H) (t := tYes) (te := tOp (rI0 fun i j => .int (i - j)) (tOp (rIxL K) (tVar 0) (tVar 3)) (tOp (rIxL K) (tVar 0) (tOp (rI0 fun i j => .int (i - j)) (tVar 3) (tC (.int 1))))) (j := 3) (vs := [3]) (lo := (b : Int)) (n := ((b + l : Nat) : Int))
        (fun _ => true) (fun i => V.int (f (b + i) - f (b + i - 1))) (ta := tCons (tVar 1) (tCons (tCB (fun xs H Q => ∃ p ys, xs = [V.ref p] ∧ (SqL K H p ys ∨ SqT K H p ys) ∧ Q (.int ys.length) H) (tCons (tVar 0) tNil)) tNil))
        (ea_cons (ev_var rfl) (ea_cons (ev_is (ev_cb (ea_cons (ev_var rfl) ea_nil) (rc_lenQ (.inl hA))) (by rw [vI_len, pT_len])) ea_nil)) (by omega) (fun _ => rfl) (fun i H1 e1 hi => et_none) (fun i H1 e1 hi _ => ?_)
      · rw [given_all, show (((b + l : Nat) : Int) - (b : Int)).toNat = l by omega] at z
        have e : vI (pG f b l) = (List.range l).map fun i => V.int (f (b + i) - f (b + i - 1)) := by unfold vI pG; rw [List.map_map]; rfl
        rw [e]
        exact z
      · have hA1 := ex_l e1 hA
        exact ev_op (ev_op (y := .int ((b + i : Nat) : Int)) (ev_var rfl) (ev_is (ev_var rfl) (by congr 1)) (rv_ixL hA1 (by rw [atI_vI (by rw [pT_len]; omega), pT_at (by omega)])))
          (ev_op (y := .int ((b + i - 1 : Nat) : Int)) (ev_var rfl) (ev_is (ev_op (ev_var rfl) ev_c rv_I0) (by congr 1; omega)) (rv_ixL hA1 (by rw [atI_vI (by rw [pT_len]; omega), pT_at (by omega)]))) rv_I0
    refine q_asgL c1 fun q H1 hq e1 h1 => ?_
    have c2 := el_sl (K := K) (σ := [some (.ref a), some (.int (b : Int)), some (.ref q), none]) (H := H1) (te := tVar 0) (tl := tNoPart) (th := tPart (tVar 1)) (lo := none) (hi := some (b : Int)) (ev_var rfl) eo_none (eo_some (ev_var rfl)) (ex_l e1 hA)
    rw [cut_take (by rw [pT_len]; omega)] at c2
    refine c2 H1 (Ex.refl H1) _ fun p H2 hp e2 h2 => ?_
    refine ⟨_, rfl, by show 2 ≤ sizeLine; decide, fun r hr => ?_⟩
    have e3 := Ex.new (H := H2) (o := .tup [.ref p, .ref q]) hr
    refine k r p q _ ((e1.trans e2).trans e3) (st_of upd_same) ?_ (sq_of (e3 _ _ (e2 _ _ h1)))
    have e4 : (pT f (b + l)).take b = pT f b := at_eq_of (by rw [List.length_take, pT_len, pT_len]; omega) fun i hi => by
      rw [List.length_take, pT_len] at hi
      rw [at_take (by omega), pT_at (by omega), pT_at (by omega)]
    rw [e4] at h2
    exact sq_of (e3 _ _ h2)
end
end K07
namespace L2
open PySem PySem.Spec PyProof.Rows
section
variable {X : Cx}
def rLcm : List V → Hp → VK → Prop := fun vs H Q => ∃ a b : Nat, vs = [.int (a : Int), .int (b : Int)] ∧ a < 2 ^ 64 ∧ b < 2 ^ 64 ∧ Q (.int ((Nat.lcm a b : Nat) : Int)) H
theorem cr_lcm : CallR X (.builtin "math.lcm") rLcm := by
  intro pins s σ H vs us Q I r h
  obtain ⟨a, b, rfl, ha, hb, q⟩ := h
  obtain ⟨t, u, rfl⟩ := Vals.int2 r
  exact PySem.W.mc_lcm (by simpa using ha) (by simpa using hb) fun _ => ⟨.int _, H, I.tok _, ⟨_, rfl⟩, by simpa using q⟩
/-- a statement that is not come to -/
def tNo : TS := fun _ _ _ => False
theorem ps_no {st : Stmt} : PS X st tNo := ⟨fun _ _ _ _ _ _ h => h.elim⟩
end
end L2
namespace K07
open PySem L2 Evl Gr
abbrev sCommon : Stmt := top 21
abbrev sSum : Stmt := top 23
section
variable {K : PySem.W.Frag} {σ : L2.St} {H : Hp} {te : TE}
/-- [e for i, j in zip(x, y)] -/
theorem el_lcZ {ta : TA} {i j : Nat} {vs : List Nat} {xs ys : List V} (v : Nat → V) (h : ∀ H1, Ex H H1 → ∀ Q : List V → Hp → Prop, (∀ a b H2, Ex H1 H2 → SqL K H2 a xs → SqL K H2 b ys → Q [.ref a, .ref b] H2) → ta σ H1 Q)
    (hl : xs.length = ys.length) (hz : xs.length ≤ 40000) (hw : ∀ x y, wipe (((wipe σ vs).set i (some x)).set j (some y)) vs = wipe σ vs)
    (he : ∀ (k : Nat) x y H1, Ex H H1 → xs[k]? = some x → ys[k]? = some y → Ev te (((wipe σ vs).set i (some x)).set j (some y)) H1 (v k)) :
    EvL (tLc (iZip K ta) (gTup K 2 (gCons (gName i) (gCons (gName j) gNil))) tYes te vs) σ H ((List.range xs.length).map v) := fun H0 e Q q => h H0 e _ fun a b H1 e1 ha hb =>
  ⟨a, b, xs, ys, rfl, ha, hb, fun Dl hD => lc_it (n := xs.length) (walk_zip (xs := xs) (ys := ys) (by omega)) (Cw H1 (fun _ => true) v Dl) ⟨hD, Ex.new hD, upd_same⟩ (fun _ H' _ p => ⟨ex_l p.2.1 ha, ex_l p.2.1 hb⟩)
    (fun k x H' H'' hk p y => by
      obtain ⟨T, x1, y1, rfl, hT, rfl, hx, hy⟩ := y
      have e2 := Ex.new (H := H') (o := .tup [x1, y1]) hT
      have p' : Cw H1 (fun _ => true) v Dl k (upd H' T (.tup [x1, y1])) := ⟨p.1, p.2.1.trans e2, e2 _ _ p.2.2⟩
      exact ⟨T, _, rfl, st_of upd_same, rfl, _, _, rfl, _, _, rfl, rfl, hw _ _, cw_turn p' (by omega) et_none (fun _ => he k x1 y1 H1 (e.trans e1) hx hy)⟩)
    (fun H' p => q Dl H' (fresh_back e1 p.1) (e1.trans p.2.1) (by rw [← given_all]; exact p.2.2))⟩
end
section
variable {P : Program} {w : World} {K : PySem.W.Frag} {mg : Str → Option Value} {base : Heap}
/-! ### common_length -/
structure GlbL (mg : Str → Option Value) : Prop where
  lcm : mg "lcm" = some (.builtin "math.lcm")
  most : ∃ t, mg "MOST_PARTS" = some (.int 2000 t)
def spCommon (K : PySem.W.Frag) (C : Addr) : Sp := fun vs H Q _ => ∃ (o u : Addr) (t g t' g' : List Int), vs = [.ref o, .ref u] ∧ GrAt K C H o t g ∧ GrAt K C H u t' g' ∧ Nat.lcm g.length g'.length ≤ 2000 ∧ RetV (.int ((Nat.lcm g.length g'.length : Nat) : Int)) H Q
theorem scCommon : FnScope ["one", "other", "length"] ["one", "other"] (defScope sCommon) := ⟨rfl, rfl, rfl, by decide +kernel, rfl, by decide +kernel, by decide +kernel⟩
theorem ok_Common {C f : Addr} {fd : FuncData} (F : Fun K "common_length" "common_length" sCommon f fd) (T : GlbS mg) (L : GlbL mg) (G : GCls K C) : FnOk P w K mg base CX0 1 f fd ["one", "other"] (spCommon K C) := by
  obtain ⟨mt, gm⟩ := L.most
  refine F.ok scCommon (fun vs H Q E h => ?_) (fun cdv A outer s H vs Q E hr h => ?_)
  · obtain ⟨o, u, t, g, t', g', rfl, _⟩ := h
    rfl
  · obtain ⟨o, u, t, g, t', g', rfl, hO, hU, hl, k⟩ := h
    refine ⟨_, pss_cons (ps_set (i := 2) scCommon.nd rfl (.inl rfl) (pe_callBfun cr_lcm (by rfl) L.lcm (pa_cons (pe_callB call_len_seq (by rfl) T.len PySem.boot_len (pa_cons (pe_fld (pv 0) rfl) pa_nil)) (pa_cons (pe_callB call_len_seq (by rfl) T.len PySem.boot_len (pa_cons (pe_fld (pv 1) rfl) pa_nil)) pa_nil))))
      (pss_cons (ps_if (pt_cmpR op_gt (pv 2) (pe_glob (v := .int 2000) rfl gm ⟨_, rfl⟩) (nomark _)) (pss_one ps_no) pss_nil)
      (pss_one (ps_ret (pv 2)))), ?_⟩
    obtain ⟨dx, p, q, r, h1, h2, h3, h4, nf, t2, g2, sm⟩ := hO
    obtain ⟨dx', p', q', r', h1', h2', h3', h4', nf', t2', g2', sm'⟩ := hU
    refine q_asg (ev_cb (ea_cons (ev_lenF (ev_var rfl) h1 G.cls G.gains rfl h3) (ea_cons (ev_lenF (ev_var rfl) h1' G.cls G.gains rfl h3') ea_nil)) (fun H1 e Q q => ⟨_, _, rfl, by omega, by omega, q H1 (Ex.refl H1)⟩)) fun H1 e1 => ?_
    refine q_when (et_test (ev_op (ev_var rfl) ev_c rv_I0)) (fun ht H2 e2 => ?_) (fun ht H2 e2 => ?_)
    · have := of_decide_eq_true ht
      omega
    · exact s_ret (ev_var rfl) fun H3 e3 => k H3 ((e1.trans e2).trans e3)
/-! ### summed_parts -/
def spSum (K : PySem.W.Frag) (C : Addr) : Sp := fun vs H Q _ => ∃ (o u : Addr) (t g t' g' : List Int), vs = [.ref o, .ref u] ∧ GrAt K C H o t g ∧ GrAt K C H u t' g' ∧ Nat.lcm g.length g'.length ≤ 2000 ∧
  ∀ r p q b l H', Ex H H' → SqT K H' r [.ref p, .ref q] → SqL K H' p (vI (pT (fun n => val t g n + val t' g' n) b)) → SqL K H' q (vI (pG (fun n => val t g n + val t' g' n) b l)) → 0 < b → b ≤ 2000 → 0 < l → l ≤ 2000 →
    (∀ n, val (pT (fun n => val t g n + val t' g' n) b) (pG (fun n => val t g n + val t' g' n) b l) n = val t g n + val t' g' n) → Q (.ref r) H'
theorem scSum : FnScope ["one", "other", "begin", "many", "values", "left", "right"] ["one", "other"] (defScope sSum) := ⟨rfl, rfl, rfl, by decide +kernel, rfl, by decide +kernel, by decide +kernel⟩
theorem ok_Sum {C f fB fC fF fP : Addr} {fd fdB fdC fdF fdP : FuncData} (F : Fun K "summed_parts" "summed_parts" sSum f fd) (T : GlbS mg) (DV : GlbV mg) (L : GlbL mg) (G : GCls K C)
    (FB : Fun K "begin_of_both" "begin_of_both" sBegin fB fdB) (bB : Binds K fdB ["one", "other"] []) (gB : mg "begin_of_both" = some (.ref fB))
    (FC : Fun K "common_length" "common_length" sCommon fC fdC) (bC : Binds K fdC ["one", "other"] []) (gC : mg "common_length" = some (.ref fC))
    (FF : Fun K "first_values" "first_values" sFirst fF fdF) (bF : Binds K fdF ["one", "many"] []) (gF : mg "first_values" = some (.ref fF))
    (FP : Fun K "parted" "parted" sPart fP fdP) (bP : Binds K fdP ["values", "many"] []) (gP : mg "parted" = some (.ref fP)) : FnOk P w K mg base CX0 2 f fd ["one", "other"] (spSum K C) := by
  have GB : FnOk P w K mg base CX0 1 fB fdB ["one", "other"] (spBegin K C) := ok_Begin FB T DV G
  have GC : FnOk P w K mg base CX0 1 fC fdC ["one", "other"] (spCommon K C) := ok_Common FC T L G
  have GF : FnOk P w K mg base CX0 1 fF fdF ["one", "many"] (spFirst K C) := ok_First FF T G
  have GP : FnOk P w K mg base CX0 1 fP fdP ["values", "many"] (spPart K) := ok_Part FP T
  refine F.ok scSum (fun vs H Q E h => ?_) (fun cdv A outer s H vs Q E hr h => ?_)
  · obtain ⟨o, u, t, g, t', g', rfl, _⟩ := h
    rfl
  · obtain ⟨o, u, t, g, t', g', rfl, hO, hU, hl, k⟩ := h
    refine ⟨_, pss_cons (ps_set (i := 2) scSum.nd rfl (.inl rfl) (pe_call GB hr (by rfl) gB FB.kp bB .nil pass0 (pa_cons (pv 0) (pa_cons (pv 1) pa_nil))))
      (pss_cons (ps_set (i := 3) scSum.nd rfl (.inl rfl) (pe_op op_add (pv 2) (pe_call GC hr (by rfl) gC FC.kp bC .nil pass0 (pa_cons (pv 0) (pa_cons (pv 1) pa_nil)))))
      (pss_cons (ps_setLc (i := 4) (own := [("left", 5), ("right", 6)]) (g := gTup K 2 (gCons (gName 5) (gCons (gName 6) gNil))) rfl scSum.nd rfl (by rfl) (by rfl)
          (pi_zip (by rfl) DV.zip (pa_cons (pe_call GF hr (by rfl) gF FF.kp bF .nil pass0 (pa_cons (pv 0) (pa_cons (pv 3) pa_nil))) (pa_cons (pe_call GF hr (by rfl) gF FF.kp bF .nil pass0 (pa_cons (pv 1) (pa_cons (pv 3) pa_nil))) pa_nil)))
          (blkOk_by (own := [("left", 5), ("right", 6)]) (N := ["one", "other", "begin", "many", "values", "left", "right"]) (sc := defScope sSum) (by decide +kernel))
          (fun _ _ _ _ _ => pg_tup rfl (pgs_cons (pg_name (i := 5) scSum.nd rfl (Or.inl rfl)) (pgs_cons (pg_name (i := 6) scSum.nd rfl (Or.inl rfl)) pgs_nil))) (fun _ _ _ _ _ => pts_nil) (fun _ _ _ _ _ => pe_op op_add (pv 5) (pv 6)))
      (pss_one (ps_ret (pe_call GP hr (by rfl) gP FP.kp bP .nil pass0 (pa_cons (pv 4) (pa_cons (pv 2) pa_nil))))))), ?_⟩
    have hO0 := hO
    have hU0 := hU
    obtain ⟨dx, p, q, r, h1, h2, h3, h4, nf, t2, g2, sm⟩ := hO
    obtain ⟨dx', p', q', r', h1', h2', h3', h4', nf', t2', g2', sm'⟩ := hU
    have t0 := nf.told
    have t0' := nf'.told
    have l0 : 0 < Nat.lcm g.length g'.length := Nat.lcm_pos nf.gains nf'.gains
    obtain ⟨b, hb⟩ : ∃ b, b = max t.length t'.length := ⟨_, rfl⟩
    obtain ⟨l, hl'⟩ : ∃ l, l = Nat.lcm g.length g'.length := ⟨_, rfl⟩
    rw [← hl'] at hl l0
    refine q_asg (v := .int (b : Int)) (ev_call (ea_cons (ev_var rfl) (ea_cons (ev_var rfl) ea_nil)) (fun H1 e Q q E => ⟨o, u, t, g, t', g', rfl, hO0.mono e, hU0.mono e, by rw [← hb]; exact q⟩)) fun H1 e1 => ?_
    refine q_asg (v := .int ((b + l : Nat) : Int)) (ev_is (ev_op (y := .int (l : Int)) (ev_var rfl) (ev_call (ea_cons (ev_var rfl) (ea_cons (ev_var rfl) ea_nil)) (fun H2 e Q q E => ⟨o, u, t, g, t', g', rfl, hO0.mono (e1.trans e), hU0.mono (e1.trans e), by rw [← hl']; exact hl, by rw [← hl']; exact q⟩)) rv_I0) (by congr 1)) fun H2 e2 => ?_
    have E2 := e1.trans e2
    have c1 := el_lcZ (K := K) (σ := [some (.ref o), some (.ref u), some (.int (b : Int)), some (.int ((b + l : Nat) : Int)), none, none, none]) (H := H2) (te := tOp (rI0 fun i j => .int (i + j)) (tVar 5) (tVar 6)) (i := 5) (j := 6) (vs := [5, 6])
      (ta := tCons (tCall (spFirst K C) [] E0 (tCons (tVar 0) (tCons (tVar 3) tNil))) (tCons (tCall (spFirst K C) [] E0 (tCons (tVar 1) (tCons (tVar 3) tNil))) tNil))
      (xs := vI (pT (val t g) (b + l))) (ys := vI (pT (val t' g') (b + l))) (fun n => V.int (val t g n + val t' g' n))
      (fun H3 e3 Q3 q3 => ⟨_, rfl, _, rfl, o, b + l, t, g, rfl, hO0.mono (E2.trans e3), by omega, fun x H4 _ e4 hx => ⟨_, rfl, _, rfl, u, b + l, t', g', rfl, hU0.mono ((E2.trans e3).trans e4), by omega, fun y H5 _ e5 hy => q3 x y H5 (e4.trans e5) (sq_of (e5 _ _ hx)) (sq_of hy)⟩⟩)
      (by rw [vI_len, vI_len, pT_len, pT_len]) (by rw [vI_len, pT_len]; omega) (fun _ _ => rfl)
      (fun n x y H3 _ hx hy => by
        have hn : n < b + l := by
          have := (List.getElem?_eq_some_iff.mp hx).1
          rwa [vI_len, pT_len] at this
        rw [vI_get (by rw [pT_len]; exact hn), pT_at hn] at hx hy
        obtain rfl := Option.some.inj hx
        obtain rfl := Option.some.inj hy
        exact ev_op (ev_var rfl) (ev_var rfl) rv_I0)
    have e4 : (List.range (vI (pT (val t g) (b + l))).length).map (fun n => V.int (val t g n + val t' g' n)) = vI (pT (fun n => val t g n + val t' g' n) (b + l)) := by
      rw [vI_len, pT_len]
      unfold vI pT
      rw [List.map_map]
      rfl
    rw [e4] at c1
    refine q_asgL c1 fun x H3 hx e3 h3x => ?_
    refine ⟨_, rfl, _, rfl, x, b, l, fun n => val t g n + val t' g' n, rfl, sq_of h3x, by omega, by omega, fun r2 p2 q2 H4 e5 hr2 hp2 hq2 => ?_⟩
    exact k r2 p2 q2 b l H4 ((E2.trans e3).trans e5) hr2 hp2 hq2 (by omega) (by omega) l0 hl (val_sum t0 t0' (by omega) (by omega) l0 (by rw [hl']; exact Nat.dvd_lcm_left _ _) (by rw [hl']; exact Nat.dvd_lcm_right _ _))
end
end K07
/-! a field as one of several targets -/
namespace L2
open PySem PySem.Spec PyProof.Rows
/-- o.f = .., among targets -/
def gFld (K : PySem.W.Frag) (to : TE) (f : Str) : TG := fun v σ H Q => to σ H fun x H1 => ∃ a C dx fs, x = .ref a ∧ H1 a = some (.ins C dx fs) ∧ Cls K C ∧ NoAttr K C f ∧ fs.length < 1000 ∧ Q σ (upd H1 a (.ins C dx (putF f v fs)))
theorem pg_fld {X : Cx} {o : Expr} {f : Str} {pos : Pos} {to : TE} (ho : PE X o to) : PG X (.Attribute o f pos) (gFld X.K to f) := by
  refine ⟨fun pins s σ H v u Q I r h => ?_⟩
  rw [assign_Attribute]
  refine wpAny_bind (wpAny_holding (thn (ho.run pins s σ H _ I h) fun ov s1 ⟨x, H1, I1, rx, a, C, dx, fs, ex, ea, c, n, l, q⟩ => ?_))
  subst ex
  obtain rfl : ov = Value.ref a := rx
  refine wpAny_bind (wpAny_standAt (wpAny_bind (wpAny_holding (setattr_ok I1 ea c n l r fun s2 I2 => ?_))))
  exact wpAny_release ⟨σ, _, I2, q⟩
end L2
namespace L2
open PySem PySem.Spec PyProof.Rows
theorem PI.or {X : Cx} {tg e : Expr} {w1 w2 : TI} (h1 : PI X tg e w1) (h2 : PI X tg e w2) : PI X tg e (fun σ H R => w1 σ H R ∨ w2 σ H R) := ⟨fun pins s σ H R I h => h.elim (h1.run pins s σ H R I) (h2.run pins s σ H R I)⟩
end L2
namespace K07
open PySem L2 Evl Gr
abbrev sParts : Stmt := top 32
/-- over a list or a tuple -/
def iQ (K : PySem.W.Frag) (tl : TE) : TI := fun σ H R => iList K tl σ H R ∨ iTup K tl σ H R
theorem pi_seq {X : Cx} {tg e : Expr} {tl : TE} (h : PE X e tl) : PI X tg e (iQ X.K tl) := (pi_list h).or (pi_tup h)
section
variable {K : PySem.W.Frag} {σ : L2.St} {H : Hp} {te : TE}
theorem el_lcQ {a : Addr} {xs : List V} {tl : TE} {j : Nat} {vs : List Nat} (v : Nat → V) (h : Ev tl σ H (.ref a)) (hx : Sq K H a xs) (hz : xs.length ≤ 40000) (hw : ∀ x, wipe ((wipe σ vs).set j (some x)) vs = wipe σ vs)
    (he : ∀ (i : Nat) (x : V) H1, Ex H H1 → xs[i]? = some x → Ev te ((wipe σ vs).set j (some x)) H1 (v i)) : EvL (tLc (iQ K tl) (gName j) tYes te vs) σ H ((List.range xs.length).map v) := fun H0 e Q q => by
  rcases hx with hx | hx
  · exact .inl (h H0 e _ fun H1 e1 => ⟨a, rfl, ⟨xs, ex_l (e.trans e1) hx⟩, fun Dl hD => lc_it (n := xs.length) (walk_list (xs := xs)) (Cw H1 (fun _ => true) v Dl) ⟨hD, Ex.new hD, upd_same⟩ (fun _ H' _ p => ex_l ((e.trans e1).trans p.2.1) hx)
      (fun k x H' H'' hk p y => by
        obtain ⟨rfl, hx'⟩ := y
        exact ⟨hw _, cw_turn p (by omega) et_none (fun _ => he k x H1 (e.trans e1) hx')⟩)
      (fun H' p => q Dl H' (fresh_back e1 p.1) (e1.trans p.2.1) (by rw [← given_all]; exact p.2.2))⟩)
  · exact .inr (h H0 e _ fun H1 e1 => ⟨a, rfl, ⟨xs, ex_t (e.trans e1) hx⟩, fun Dl hD => lc_it (n := xs.length) (walk_tup (xs := xs)) (Cw H1 (fun _ => true) v Dl) ⟨hD, Ex.new hD, upd_same⟩ (fun _ H' _ p => ex_t ((e.trans e1).trans p.2.1) hx)
      (fun k x H' H'' hk p y => by
        obtain ⟨rfl, hx'⟩ := y
        exact ⟨hw _, cw_turn p (by omega) et_none (fun _ => he k x H1 (e.trans e1) hx')⟩)
      (fun H' p => q Dl H' (fresh_back e1 p.1) (e1.trans p.2.1) (by rw [← given_all]; exact p.2.2))⟩)
/-- a list or a tuple is one of both -/
theorem sq_ty {a : Addr} {xs : List V} (h : Sq K H a xs) : ∃ T : String, TyX K H (.ref a) (.type T) ∧ (T = "list" ∨ T = "tuple") := by
  rcases h with (h | h) | (h | h)
  · rcases h with h | ⟨o, h⟩
    · exact ⟨"list", .base (.lst h), .inl rfl⟩
    · exact ⟨"list", .base (.frz h), .inl rfl⟩
  · obtain ⟨o, its, n, lk, hc, _⟩ := h
    exact ⟨"list", .kList lk hc, .inl rfl⟩
  · rcases h with h | ⟨o, h⟩
    · exact ⟨"tuple", .base (.tup h), .inr rfl⟩
    · exact ⟨"tuple", .fTuple h, .inr rfl⟩
  · obtain ⟨o, its, n, lk, hc, _⟩ := h
    exact ⟨"tuple", .kTuple lk hc, .inr rfl⟩
theorem kit_lt {T : String} (h : T = "list" ∨ T = "tuple") : PySem.W.kitAny K (.type T) [.type "list", .type "tuple"] = some true := by
  rcases h with rfl | rfl
  · exact kitAny_cons (b := true) (kit_ty (by decide +kernel)) (fun h => absurd h (by decide)) fun _ => rfl
  · exact kitAny_cons (b := false) (kit_ty (by decide +kernel)) (fun _ => kitAny_cons (b := true) (kit_ty (by decide +kernel)) (fun h => absurd h (by decide)) fun _ => rfl) fun h => absurd h (by decide)
/-- isinstance(e, (list, tuple)), e one of both -/
theorem ev_isLT {ta : TE} {a : Addr} {xs : List V} (ha : Ev ta σ H (.ref a)) (h : Sq K H a xs) : Ev (tCB (rIsiT K) (tCons ta (tCons (tTup (tCons (tC (.ty "list")) (tCons (tC (.ty "tuple")) tNil))) tNil))) σ H (.bl true) := fun H1 e Q q =>
  ha H1 e _ fun H2 e2 => eu_tup (σ := σ) (H := H2) (ea_cons ev_c (ea_cons ev_c ea_nil)) (by show 2 ≤ 100000; decide) H2 (Ex.refl H2) _ fun p H3 _ e3 h3 => by
    obtain ⟨T, ty, hT⟩ := sq_ty (h.mono ((e.trans e2).trans e3))
    exact ⟨_, p, _, _, _, true, rfl, h3, .cons (.ty "list") (.cons (.ty "tuple") .nil), ty, kit_lt hT, q H3 (e2.trans e3)⟩
/-- all(e), e a new list of bools that are True -/
theorem ev_all {te : TE} {bs : List Bool} (h : EvL te σ H (bs.map V.bl)) : Ev (tCB (rAll K) (tCons te tNil)) σ H (.bl (bs.all id)) := fun H1 e Q q =>
  h H1 e _ fun p H2 _ e2 hp => ⟨p, bs, rfl, sq_of hp, q H2 e2⟩
end
section
variable {P : Program} {w : World} {K : PySem.W.Frag} {mg : Str → Option Value} {base : Heap}
/-! ### are_parts -/
def Pos (l : List Int) : Prop := ∀ i, i < l.length → 0 ≤ at' l i
def spParts (K : PySem.W.Frag) : Sp := fun vs H Q _ => ∃ (a : Addr) (l : List Int), vs = [.ref a, .int 2000] ∧ Sq K H a (vI l) ∧ 0 < l.length ∧ l.length ≤ 2000 ∧ Pos l ∧ RetV (.bl true) H Q
theorem scParts : FnScope ["values", "most", "value"] ["values", "most"] (defScope sParts) := ⟨rfl, rfl, rfl, by decide +kernel, rfl, by decide +kernel, by decide +kernel⟩
theorem ok_Parts {f fI fZ : Addr} {fd fdI fdZ : FuncData} (F : Fun K "are_parts" "are_parts" sParts f fd) (T : GlbS mg) (TT : GlbT mg) (all : mg "all" = none)
    (GZ : FnOk P w K mg base CX0 2 fZ fdZ ["value"] (spFrom0 K)) (kZ : PySem.W.keepIn K (.ref fZ) = true) (bZ : Binds K fdZ ["value"] []) (gZ : mg "is_from_zero" = some (.ref fZ)) :
    FnOk P w K mg base CX0 3 f fd ["values", "most"] (spParts K) := by
  refine F.ok scParts (fun vs H Q E h => ?_) (fun cdv A outer s H vs Q E hr h => ?_)
  · obtain ⟨a, l, rfl, _⟩ := h
    rfl
  · obtain ⟨a, l, rfl, hA, l0, l1, hp, k⟩ := h
    refine ⟨_, pss_cons (ps_if (PW.pt (pw_or (pt_not (pt_val (pe_callB call_isiT (by rfl) TT.inst (by decide +kernel) (pa_cons (pv 0) (pa_cons (pe_tup (pa_cons (pe_bltn (v := .ty "list") (by rfl) T.list (by decide +kernel) rfl) (pa_cons (pe_bltn (v := .ty "tuple") (by rfl) T.tuple (by decide +kernel) rfl) pa_nil))) pa_nil)))))
        (pw_or1 (pt_not (pt_chain op_le op_le pe_int (pe_callB call_len_seq (by rfl) T.len PySem.boot_len (pa_cons (pv 0) pa_nil)) (pv 1)))))) (pss_one (ps_ret pe_bl)) pss_nil)
      (pss_one (ps_ret (pe_callB (cr_all rfl) (by rfl) all (by decide +kernel) (pa_cons (pe_lc (own := [("value", 2)]) (g := gName 2) rfl scParts.nd (pi_seq (pv 0)) (blkOk_by (own := [("value", 2)]) (N := ["values", "most", "value"]) (sc := defScope sParts) (by decide +kernel))
        (fun _ _ _ _ _ => pg_name (i := 2) scParts.nd rfl (Or.inl rfl)) (fun _ _ _ _ _ => pts_nil) (fun _ _ _ _ _ => pe_call GZ hr (by rfl) gZ kZ bZ .nil pass0 (pa_cons (pv 2) pa_nil))) pa_nil)))), ?_⟩
    refine q_when (b := false) (et_is (et_or (et_not (et_B (ev_isLT (ev_var rfl) hA))) (fun _ => et_not (et_B (ev_chain ev_c (ev_is (ev_cb (ea_cons (ev_var rfl) ea_nil) (rc_lenQ hA)) (by rw [vI_len])) (ev_var rfl))))) (by
      rw [decide_eq_true (by omega : (1 : Int) ≤ (l.length : Int)), decide_eq_true (by omega : (l.length : Int) ≤ 2000)]
      rfl)) (fun hb => absurd hb (by decide)) (fun _ H1 e1 => ?_)
    have c1 := el_lcQ (K := K) (σ := [some (.ref a), some (.int 2000), none]) (H := H1) (te := tCall (spFrom0 K) [] E0 (tCons (tVar 2) tNil)) (a := a) (xs := vI l) (tl := tVar 0) (j := 2) (vs := [2]) (fun _ => V.bl true) (ev_var rfl) (hA.mono e1) (by rw [vI_len]; omega) (fun _ => rfl)
      (fun i x H2 e2 hx => by
        have hi : i < l.length := by
          have := (List.getElem?_eq_some_iff.mp hx).1
          rwa [vI_len] at this
        rw [vI_get hi] at hx
        obtain rfl := Option.some.inj hx
        refine ev_call (ea_cons (ev_var rfl) ea_nil) fun H3 e3 Q3 q3 E3 => .inl ⟨_, rfl, ?_⟩
        rw [decide_eq_true (hp i hi)]
        exact q3)
    have e2 : (List.range (vI l).length).map (fun _ => V.bl true) = (List.replicate l.length true).map V.bl := by
      rw [vI_len, List.map_const', List.length_range, List.map_replicate]
    rw [e2] at c1
    refine s_ret (ev_is (ev_all c1) (by congr 1; rw [List.all_eq_true]; intro b hb; exact (List.eq_of_mem_replicate hb))) fun H2 e3 => k H2 (e1.trans e3)
end
end K07
namespace Gr
/-- the gains of a normal form are gains of the growth -/
theorem small_of {t g t' g' : List Int} (nf : NF t' g') (t0 : 0 < t.length) (g0 : 0 < g.length) (sm : Small g) (e : ∀ n, val t' g' n = val t g n) : Small g' := fun i hi => by
  have p := (dif_pd (g := g')).mul t.length i
  rw [dif_lt hi] at p
  have m1 : t.length ≤ t.length * g'.length := Nat.le_mul_of_pos_right _ nf.gains
  have a := val_step (g := g') nf.told (i + t.length * g'.length)
  rw [p, e, e] at a
  have b := rise_ge (g := g) t0 (n := t'.length - 1 + (i + t.length * g'.length)) (by omega)
  unfold rise at b
  rw [b] at a
  rw [← a]
  exact sm _ (Nat.mod_lt _ g0)
end Gr
namespace K07
open PySem L2 Evl Gr ClX
theorem val_nonneg {t g : List Int} (pt : Pos t) (t0 : 0 < t.length) (g0 : 0 < g.length) (sm : Small g) (n : Nat) : 0 ≤ val t g n := by
  unfold val
  by_cases h : n < t.length
  · rw [if_pos h]
    exact pt n h
  · rw [if_neg h]
    have a := pt (t.length - 1) (by omega)
    have b := (acc_small sm g0 (n - t.length + 1)).1
    unfold lst
    omega
abbrev sGr (i : Nat) : Stmt := inClass (top 34) i
theorem sqT_upd {K : PySem.W.Frag} {H : Hp} {o p C dx : Addr} {fs : List (Str × V)} {u : HO} {xs : List V} (h : SqT K H p xs) (ho : H o = some (.ins C dx fs)) : SqT K (upd H o u) p xs := by
  rcases h with (h | ⟨o', h⟩) | h
  · exact .inl (.inl (by rw [upd_ne (fun z => by rw [z, ho] at h; cases h)]; exact h))
  · exact .inl (.inr ⟨o', by rw [upd_ne (fun z => by rw [z, ho] at h; cases h)]; exact h⟩)
  · exact .inr h
theorem ev_cval {K : PySem.W.Frag} {σ : L2.St} {H : Hp} {ta : TE} {C : Addr} {mc : Value} {f : Str} {v : V} {u : Value} (ha : Ev ta σ H (.ref C)) (r : CRead K C mc) (k : CVal K C mc f v u) : Ev (tCVal K ta f) σ H v := fun H1 e Q q =>
  ha H1 e _ fun H2 e2 => ⟨C, mc, v, u, rfl, r, k, q H2 e2⟩
section
variable {P : Program} {w : World} {K : PySem.W.Frag} {mg : Str → Option Value} {base : Heap}
/-! ### Growth.__init__ -/
def spInit (K : PySem.W.Frag) (C : Addr) : Sp := fun vs H Q _ => ∃ (o a b dx : Addr) (t g : List Int), vs = [.ref o, .ref a, .ref b] ∧ H o = some (.ins C dx []) ∧ Sq K H a (vI t) ∧ Sq K H b (vI g) ∧ 0 < t.length ∧ t.length ≤ 2000 ∧ 0 < g.length ∧ g.length ≤ 2000 ∧ Pos t ∧ Small g ∧
  ∀ t' g' H', Keep o H H' → GrAt K C H' o t' g' → Pos t' → (∀ n, val t' g' n = val t g n) → Q .non H'
theorem scInit : FnScope ["self", "told", "gains"] ["self", "told", "gains"] (defScope (sGr 1)) := ⟨rfl, rfl, rfl, by decide +kernel, rfl, by decide +kernel, by decide +kernel⟩
/-- what the class's constant is, and the class's own name -/
structure GName (K : PySem.W.Frag) (mg : Str → Option Value) (C : Addr) (mc : Value) : Prop where
  g : mg "Growth" = some (.ref C)
  rd : CRead K C mc
  most : ∃ u, CVal K C mc "MOST" (.int 2000) u
theorem ok_Init {C f fP fN fR : Addr} {mc : Value} {fd fdP fdN fdR : FuncData} {dvs : List V} (F : FunD K "__init__" "Growth.__init__" (defArgs (sGr 1)) (defBody (sGr 1)) (defScope (sGr 1)) dvs [] f fd) (N : GName K mg C mc) (G : GCls K C)
    (GP : FnOk P w K mg base CX0 3 fP fdP ["values", "most"] (spParts K)) (kP : PySem.W.keepIn K (.ref fP) = true) (bP : Binds K fdP ["values", "most"] []) (gP : mg "are_parts" = some (.ref fP))
    (GN : FnOk P w K mg base CX0 2 fN fdN ["told", "gains"] (spNF K)) (kN : PySem.W.keepIn K (.ref fN) = true) (bN : Binds K fdN ["told", "gains"] []) (gN : mg "normal_form" = some (.ref fN))
    (GR : FnOk P w K mg base CX0 1 fR fdR ["gains"] (spRis K)) (kR : PySem.W.keepIn K (.ref fR) = true) (bR : Binds K fdR ["gains"] []) (gR : mg "rises_of" = some (.ref fR)) :
    FnOk P w K mg base CX0 4 f fd ["self", "told", "gains"] (spInit K C) := by
  obtain ⟨mu, cm⟩ := N.most
  refine F.ok scInit (fun vs H Q E h => ?_) (fun cdv A outer s H vs Q E hr h => ?_)
  · obtain ⟨o, a, b, dx, t, g, rfl, _⟩ := h
    rfl
  · obtain ⟨o, a, b, dx, t, g, rfl, hO, hA, hB, t0, t1, g0, g1, pt, sm, k⟩ := h
    refine ⟨_, pss_cons (ps_if (pt_not (pt_val (pe_call GP hr (by rfl) gP kP bP .nil pass0 (pa_cons (pv 1) (pa_cons (pe_cval (pe_glob (v := .ref C) rfl N.g rfl)) pa_nil))))) (pss_one ps_no) pss_nil)
      (pss_cons (ps_if (pt_not (pt_val (pe_call GP hr (by rfl) gP kP bP .nil pass0 (pa_cons (pv 2) (pa_cons (pe_cval (pe_glob (v := .ref C) rfl N.g rfl)) pa_nil))))) (pss_one ps_no) pss_nil)
      (pss_cons (ps_asg (pe_call GN (hr.mono (by decide)) (by rfl) gN kN bN .nil pass0 (pa_cons (pv 1) (pa_cons (pv 2) pa_nil))) (pg_tup rfl (pgs_cons (pg_fld (pv 0)) (pgs_cons (pg_fld (pv 0)) pgs_nil))))
      (pss_one (ps_fld (pv 0) (pe_call GR (hr.mono (by decide)) (by rfl) gR kR bR .nil pass0 (pa_cons (pe_fld (pv 0) rfl) pa_nil)) (by rfl))))), ?_⟩
    have yes : ∀ {i : Nat} {c : Addr} {l : List Int} {H' : Hp} {σ : L2.St}, σ[i]? = some (some (.ref c)) → Sq K H' c (vI l) → 0 < l.length → l.length ≤ 2000 → Pos l →
        EvT (tNot (tB (tCall (spParts K) [] E0 (tCons (tVar i) (tCons (tCVal K (tC (.ref C)) "MOST") tNil))))) σ H' false := fun h0 hs l0 l1 lp =>
      et_is (et_not (et_B (ev_call (ea_cons (ev_var h0) (ea_cons (ev_cval ev_c N.rd cm) ea_nil)) fun H1 e Q q E => ⟨_, _, rfl, hs.mono e, l0, l1, lp, q⟩))) rfl
    have pg : Pos g := fun i hi => (sm i hi).1
    refine q_when (yes rfl hA t0 t1 pt) (fun hb => absurd hb (by decide)) (fun _ H1 e1 => ?_)
    refine q_when (yes rfl (hB.mono e1) g0 g1 pg) (fun hb => absurd hb (by decide)) (fun _ H2 e2 => ?_)
    have E2 := e1.trans e2
    refine ⟨_, rfl, _, rfl, a, b, t, g, rfl, hA.mono E2, hB.mono E2, t0, by omega, g0, by omega, fun r p q t' g' H3 e3 hr3 hp hq nf hv l1 l2 => ?_⟩
    have hO3 := e3 _ _ (E2 _ _ hO)
    refine ⟨r, [.ref p, .ref q], rfl, hr3, rfl, _, _, rfl, ⟨_, rfl, o, C, dx, [], rfl, hO3, G.cls, G.told, Nat.le_of_ble_eq_true rfl, ⟨_, _, rfl, ⟨_, rfl, o, C, dx, _, rfl, upd_same, G.cls, G.gains, Nat.le_of_ble_eq_true rfl, ⟨rfl, ?_⟩⟩⟩⟩⟩
    have kp3 : Keep o H (upd (upd H3 o (.ins C dx (putF "told" (.ref p) []))) o (.ins C dx (putF "gains" (.ref q) (putF "told" (.ref p) [])))) := fun c u hc hn => by
      rw [upd_ne hn, upd_ne hn]
      exact e3 _ _ (E2 _ _ hc)
    have hp4 : SqT K (upd (upd H3 o (.ins C dx (putF "told" (.ref p) []))) o (.ins C dx (putF "gains" (.ref q) (putF "told" (.ref p) [])))) p (vI t') := sqT_upd (sqT_upd hp hO3) upd_same
    have hq4 : SqT K (upd (upd H3 o (.ins C dx (putF "told" (.ref p) []))) o (.ins C dx (putF "gains" (.ref q) (putF "told" (.ref p) [])))) q (vI g') := sqT_upd (sqT_upd hq hO3) upd_same
    have hO4 : (upd (upd H3 o (.ins C dx (putF "told" (.ref p) []))) o (.ins C dx (putF "gains" (.ref q) (putF "told" (.ref p) [])))) o = some (.ins C dx [("told", .ref p), ("gains", .ref q)]) := upd_same
    generalize upd (upd H3 o (.ins C dx (putF "told" (.ref p) []))) o (.ins C dx (putF "gains" (.ref q) (putF "told" (.ref p) []))) = H4 at kp3 hp4 hq4 hO4 ⊢
    refine ⟨_, rfl, o, C, dx, _, .ref q, rfl, hO4, G.cls, G.gains, rfl, q, g', rfl, hq4, by omega, fun pr H5 e5 hpr => ?_⟩
    refine ⟨_, rfl, o, C, dx, _, rfl, e5 _ _ hO4, G.cls, G.rises, Nat.le_of_ble_eq_true rfl, ?_⟩
    have hO5 := e5 _ _ hO4
    refine k t' g' _ (fun c u hc hn => by rw [upd_ne hn]; exact e5 _ _ (kp3 _ _ hc hn)) ⟨dx, p, q, pr, upd_same, sqT_upd (ex_t e5 hp4) hO5, sqT_upd (ex_t e5 hq4) hO5, sqT_upd hpr hO5, nf, by omega, by omega, small_of nf t0 g0 sm hv⟩ (fun i hi => by
      have z := val_nonneg pt t0 g0 sm i
      rwa [← hv, val_lt hi] at z) hv
end
end K07
namespace Gr
/-- at last it never falls, and rises by no more than B -/
def Tail (f : Nat → Int) (B : Int) : Prop := ∃ m, ∀ n, m ≤ n → 0 ≤ f (n + 1) - f n ∧ f (n + 1) - f n ≤ B
theorem tail_val {t g : List Int} {B : Int} (t0 : 0 < t.length) (g0 : 0 < g.length) (h : ∀ i, i < g.length → 0 ≤ at' g i ∧ at' g i ≤ B) : Tail (val t g) B := ⟨t.length - 1, fun n hn => by
  have := rise_ge (g := g) t0 hn
  unfold rise at this
  rw [this]
  exact h _ (Nat.mod_lt _ g0)⟩
theorem gains_tail {t g : List Int} {f : Nat → Int} {B : Int} (t0 : 0 < t.length) (hf : ∀ n, val t g n = f n) (h : Tail f B) (i : Nat) (hi : i < g.length) : 0 ≤ at' g i ∧ at' g i ≤ B := by
  obtain ⟨m, hm⟩ := h
  have p := (dif_pd (g := g)).mul m i
  rw [dif_lt hi] at p
  have m1 : m ≤ m * g.length := Nat.le_mul_of_pos_right _ (by omega)
  have a := val_step (g := g) t0 (i + m * g.length)
  rw [p, hf, hf] at a
  rw [← a]
  exact hm _ (by omega)
theorem Tail.add {f g : Nat → Int} {A B : Int} (h : Tail f A) (h' : Tail g B) : Tail (fun n => f n + g n) (A + B) := by
  obtain ⟨m, hm⟩ := h
  obtain ⟨k, hk⟩ := h'
  refine ⟨max m k, fun n hn => ?_⟩
  have a := hm n (by omega)
  have b := hk n (by omega)
  show 0 ≤ f (n + 1) + g (n + 1) - (f n + g n) ∧ f (n + 1) + g (n + 1) - (f n + g n) ≤ A + B
  omega
theorem Tail.mono {f : Nat → Int} {A B : Int} (h : Tail f A) (hB : A ≤ B) : Tail f B := by
  obtain ⟨m, hm⟩ := h
  exact ⟨m, fun n hn => ⟨(hm n hn).1, Int.le_trans (hm n hn).2 hB⟩⟩
end Gr
namespace K07
open PySem L2 Evl Gr ClX
/-- a growth of these values stands at o -/
def GrF (K : PySem.W.Frag) (C : Addr) (H : Hp) (o : Addr) (f : Nat → Int) : Prop := ∃ t g, GrAt K C H o t g ∧ Pos t ∧ ∀ n, val t g n = f n
theorem GrF.mono {K : PySem.W.Frag} {C : Addr} {H H' : Hp} {o : Addr} {f : Nat → Int} (e : Ex H H') (h : GrF K C H o f) : GrF K C H' o f := by
  obtain ⟨t, g, h1, h2⟩ := h
  exact ⟨t, g, h1.mono e, h2⟩
/-- gives a new growth of these values -/
def EvG (K : PySem.W.Frag) (C : Addr) (te : TE) (σ : L2.St) (H : Hp) (f : Nat → Int) : Prop := ∀ H1, Ex H H1 → ∀ Q : VK, (∀ o H2, H1 o = none → Ex H1 H2 → GrF K C H2 o f → Q (.ref o) H2) → te σ H1 Q
/-- two parts, lists or tuples, old or new -/
def EvP (K : PySem.W.Frag) (ta : TA) (σ : L2.St) (H : Hp) (t g : List Int) : Prop := ∀ H1, Ex H H1 → ∀ Q : List V → Hp → Prop, (∀ a b H2, Ex H1 H2 → Sq K H2 a (vI t) → Sq K H2 b (vI g) → Q [.ref a, .ref b] H2) → ta σ H1 Q
section
variable {K : PySem.W.Frag} {C : Addr} {σ : L2.St} {H : Hp} {ta : TA} {t g : List Int} {f : Nat → Int}
theorem eg_make (h : EvP K ta σ H t g) (t0 : 0 < t.length) (t1 : t.length ≤ 2000) (g0 : 0 < g.length) (g1 : g.length ≤ 2000) (pt : Pos t) (sm : Small g) (hf : ∀ n, val t g n = f n) : EvG K C (tMake C (spInit K C) [] E0 ta) σ H f := fun H1 e Q q =>
  h H1 e _ fun a b H2 e2 ha hb x dx hx hd hn => by
    have e3 : Ex H2 (upd (upd H2 dx (.own x)) x (.ins C dx [])) := (Ex.new hd).trans (Ex.new (by rw [upd_ne hn.symm]; exact hx))
    refine ⟨x, a, b, dx, t, g, rfl, upd_same, ha.mono e3, hb.mono e3, t0, t1, g0, g1, pt, sm, fun t' g' H' kp gr pt' hv => ⟨rfl, ?_⟩⟩
    refine q x H' (fresh_back e2 hx) (e2.trans fun c u hc => ?_) ⟨t', g', gr, pt', fun n => (hv n).trans (hf n)⟩
    exact kp c u (e3 _ _ hc) (ne_of_none hc hx)
end
end K07
namespace K07
open PySem L2 Evl Gr ClX
theorem eqv_ints : ∀ xs ys : List Int, PyData.eqvAll (xs.map PyData.int) (ys.map PyData.int) = decide (xs = ys)
  | [], [] => by simp [PyData.eqvAll]
  | [], y :: ys => by simp [PyData.eqvAll]
  | x :: xs, [] => by simp [PyData.eqvAll]
  | x :: xs, y :: ys => by
    have ih := eqv_ints xs ys
    simp only [List.map_cons, PyData.eqvAll, PyData.eqv, ih]
    by_cases h : x = y <;> by_cases h2 : xs = ys <;> simp [h, h2]
theorem shaped_tup (ns : List Int) : SeqAt.shaped (.tuple (ns.map PyData.int)) = true := by
  unfold SeqAt.shaped
  simp [PyData.canLay0, canLay_ints, PyData.depth, depth_ints]
/-- what isinstance asks of the class -/
structure GIsi (K : PySem.W.Frag) (C : Addr) : Prop where
  ca : PySem.W.findIn K (.ref C) "__class__" = some (some (.builtin "object.__class__"))
  cn : PySem.W.specialIn K (.builtin "object.__class__") "__get__" = some (some (.builtin "getset_descriptor.__get__"))
  ct : PySem.W.takesIn K (.builtin "object.__class__") = some true
  cm : PySem.W.mroIn K C (.type "object") = some true
  own : PySem.W.kitOne K (.ref C) (.ref C) = some true
  int : PySem.W.kitOne K (.ref C) (.type "int") = some false
  bool : PySem.W.kitOne K (.ref C) (.type "bool") = some false
theorem gr_ty {K : PySem.W.Frag} {C : Addr} {H : Hp} {o : Addr} {t g : List Int} (G : GCls K C) (I : GIsi K C) (h : GrAt K C H o t g) : TyX K H (.ref o) (.ref C) := by
  obtain ⟨dx, p, q, r, h1, _⟩ := h
  exact .base (.ins h1 G.cls I.ca I.cn I.ct I.cm)
section
variable {K : PySem.W.Frag} {C : Addr} {σ : L2.St} {H : Hp} {ta tb : TE}
theorem ev_isG {o : Addr} {t g : List Int} (G : GCls K C) (I : GIsi K C) (ha : Ev ta σ H (.ref o)) (h : GrAt K C H o t g) : Ev (tCB (rIsi K) (tCons ta (tCons (tC (.ref C)) tNil))) σ H (.bl true) :=
  ev_cb (ea_cons ha (ea_cons ev_c ea_nil)) fun H1 e _ q => ⟨.ref o, .ref C, .ref C, .ref C, true, rfl, .own C, tyx_mono e (gr_ty G I h), I.own, q H1 (Ex.refl H1)⟩
/-- two tuples of ints compared -/
theorem ev_eqT {p q : Addr} {xs ys : List Int} (ha : Ev ta σ H (.ref p)) (hb : Ev tb σ H (.ref q)) (hp : SqT K H p (vI xs)) (hq : SqT K H q (vI ys)) : Ev (tOp (rEqD K) ta tb) σ H (.bl (decide (xs = ys))) :=
  ev_op ha hb fun H1 e Q q' => ⟨.tuple (xs.map PyData.int), .tuple (ys.map PyData.int), .tup (ex_t e hp) (dpAll_ints xs), .tup (ex_t e hq) (dpAll_ints ys), shaped_tup xs, shaped_tup ys, by
    have e2 : PyData.eqv (.tuple (xs.map PyData.int)) (.tuple (ys.map PyData.int)) = decide (xs = ys) := by
      rw [← eqv_ints]
      simp [PyData.eqv]
    rw [e2]
    exact q' H1 (Ex.refl H1)⟩
end
section
variable {P : Program} {w : World} {K : PySem.W.Frag} {mg : Str → Option Value} {base : Heap}
/-! ### Growth.__eq__ -/
def spGEq (K : PySem.W.Frag) (C : Addr) : Sp := fun vs H Q _ => ∃ (o u : Addr) (f f' : Nat → Int), vs = [.ref o, .ref u] ∧ GrF K C H o f ∧ GrF K C H u f' ∧ ∀ b : Bool, (b = true ↔ ∀ n, f n = f' n) → RetV (.bl b) H Q
theorem scGEq : FnScope ["self", "other"] ["self", "other"] (defScope (sGr 2)) := ⟨rfl, rfl, rfl, by decide +kernel, rfl, by decide +kernel, by decide +kernel⟩
theorem ok_GEq {C f : Addr} {mc : Value} {fd : FuncData} (F : Fun K "__eq__" "Growth.__eq__" (sGr 2) f fd) (N : GName K mg C mc) (G : GCls K C) (I : GIsi K C) (TT : GlbT mg) : FnOk P w K mg base CX0 1 f fd ["self", "other"] (spGEq K C) := by
  refine F.ok scGEq (fun vs H Q E h => ?_) (fun cdv A outer s H vs Q E hr h => ?_)
  · obtain ⟨o, u, f1, f2, rfl, _⟩ := h
    rfl
  · obtain ⟨o, u, f1, f2, rfl, ⟨t, g, hO, _, v1⟩, ⟨t', g', hU, _, v2⟩, k⟩ := h
    refine ⟨_, pss_one (ps_ret (pe_and (pe_callB call_isi (by rfl) TT.inst (by decide +kernel) (pa_cons (pv 1) (pa_cons (pe_glob (v := .ref C) rfl N.g rfl) pa_nil)))
      (pe_and (pe_cmpR (op_eqD hr.units) (pe_fld (pv 0) rfl) (pe_fld (pv 1) rfl) (nomark _)) (pe_one (pe_cmpR (op_eqD hr.units) (pe_fld (pv 0) rfl) (pe_fld (pv 1) rfl) (nomark _)))))), ?_⟩
    have i1 := ev_isG (σ := [some (.ref o), some (.ref u)]) (ta := tVar 1) G I (ev_var rfl) hU
    obtain ⟨dx, p, q, r, h1, h2, h3, h4, nf, t2, g2, sm⟩ := hO
    obtain ⟨dx', p', q', r', h1', h2', h3', h4', nf', t2', g2', sm'⟩ := hU
    have b1 := ev_eqT (σ := [some (.ref o), some (.ref u)]) (ta := tFld K (tVar 0) "told") (tb := tFld K (tVar 1) "told") (ev_fld (ev_var rfl) h1 G.cls G.told rfl) (ev_fld (ev_var rfl) h1' G.cls G.told rfl) h2 h2'
    have b2 := ev_eqT (σ := [some (.ref o), some (.ref u)]) (ta := tFld K (tVar 0) "gains") (tb := tFld K (tVar 1) "gains") (ev_fld (ev_var rfl) h1 G.cls G.gains rfl) (ev_fld (ev_var rfl) h1' G.cls G.gains rfl) h3 h3'
    refine s_ret (ev_is (ev_andV i1 fun _ => ev_andV b1 fun _ => b2) (by rw [Bool.true_and])) (k _ ?_)
    rw [Bool.and_eq_true_iff, decide_eq_true_iff, decide_eq_true_iff]
    constructor
    · rintro ⟨rfl, rfl⟩ n
      rw [← v1, ← v2]
    · intro hf
      exact nf_one nf nf' fun n => by rw [v1, v2, hf]
end
end K07
namespace Gr
/-- the rises come round at last -/
def PerT (f : Nat → Int) (l : Nat) : Prop := ∃ m, ∀ n, m ≤ n → f (n + l + 1) - f (n + l) = f (n + 1) - f n
theorem nf_dvd {t g : List Int} {f : Nat → Int} {l : Nat} (nf : NF t g) (hf : ∀ n, val t g n = f n) (h : PerT f l) : g.length ∣ l := by
  obtain ⟨m, hm⟩ := h
  have p : Pd (dif g) l := fun k => by
    have a := hm (t.length - 1 + (k + m * g.length)) (by have : m ≤ m * g.length := Nat.le_mul_of_pos_right m nf.gains; omega)
    rw [← hf, ← hf, ← hf, ← hf] at a
    have b := val_step (g := g) nf.told (k + m * g.length)
    have c := val_step (g := g) nf.told (k + l + m * g.length)
    rw [show t.length - 1 + (k + l + m * g.length) = t.length - 1 + (k + m * g.length) + l by omega] at c
    rw [a, b] at c
    rw [dif_pd.mul, dif_pd.mul] at c
    exact c.symm
  have q := Pd.gcd g.length l dif_pd p
  have c := nf.least.le _ (Nat.gcd_pos_of_pos_left _ nf.gains) q
  have d : Nat.gcd g.length l = g.length := Nat.le_antisymm (Nat.gcd_le_left _ nf.gains) c
  rw [← d]
  exact Nat.gcd_dvd_right _ _
theorem perT_val {t g : List Int} (t0 : 0 < t.length) {l : Nat} (h : g.length ∣ l) : PerT (val t g) l := ⟨t.length - 1, fun n hn => rise_pd t0 h hn⟩
theorem PerT.add {f g : Nat → Int} {l : Nat} (h : PerT f l) (h' : PerT g l) : PerT (fun n => f n + g n) l := by
  obtain ⟨m, hm⟩ := h
  obtain ⟨k, hk⟩ := h'
  refine ⟨max m k, fun n hn => ?_⟩
  have a := hm n (by omega)
  have b := hk n (by omega)
  show f (n + l + 1) + g (n + l + 1) - (f (n + l) + g (n + l)) = f (n + 1) + g (n + 1) - (f n + g n)
  omega
theorem PerT.mul {f : Nat → Int} {l : Nat} (h : PerT f l) {k : Nat} (hk : l ∣ k) : PerT f k := by
  obtain ⟨c, rfl⟩ := hk
  obtain ⟨m, hm⟩ := h
  refine ⟨m, ?_⟩
  induction c with
  | zero => intro n _; rw [Nat.mul_zero]; rfl
  | succ c ih =>
    intro n hn
    have a := hm (n + l * c) (by omega)
    rw [Nat.mul_succ, ← Nat.add_assoc, a]
    exact ih n hn
end Gr
namespace K07
open PySem L2 Evl Gr ClX
/-- a list that is walked and one that is made of it, of ints -/
theorem EvP.pair {K : PySem.W.Frag} {σ : L2.St} {H : Hp} {ta tb : TE} {a b : Addr} {t g : List Int} (ha : Ev ta σ H (.ref a)) (hb : Ev tb σ H (.ref b)) (sa : Sq K H a (vI t)) (sb : Sq K H b (vI g)) : EvP K (tCons ta (tCons tb tNil)) σ H t g := fun H1 e Q q =>
  ha H1 e _ fun H2 e2 => hb H2 (e.trans e2) _ fun H3 e3 => q a b H3 (e2.trans e3) (sa.mono ((e.trans e2).trans e3)) (sb.mono ((e.trans e2).trans e3))
theorem EvP.lists {K : PySem.W.Frag} {σ : L2.St} {H : Hp} {ta tb : TE} {t g : List Int} (ha : EvL ta σ H (vI t)) (hb : EvL tb σ H (vI g)) : EvP K (tCons ta (tCons tb tNil)) σ H t g := fun H1 e Q q =>
  ha H1 e _ fun p H2 _ e2 h2 => hb H2 (e.trans e2) _ fun r H3 _ e3 h3 => q p r H3 (e2.trans e3) (.inl (sq_of (e3 _ _ h2))) (.inl (sq_of h3))
def RetG (K : PySem.W.Frag) (C : Addr) (f : Nat → Int) (H : Hp) (Q : VK) : Prop := ∀ o H', H o = none → Ex H H' → GrF K C H' o f → Q (.ref o) H'
end K07
namespace Gr
theorem sum_take {g : List Int} : ∀ r, r ≤ g.length → (g.take r).sum = acc (dif g) r
  | 0, _ => by rw [List.take_zero]; rfl
  | r + 1, h => by
    have e : g.take (r + 1) = g.take r ++ [at' g r] := at_eq_of (by rw [List.length_append, List.length_take, List.length_take]; show _ = _ + 1; omega) fun i hi => by
      rw [List.length_take] at hi
      rw [at_take (by omega), at_app, List.length_take]
      by_cases z : i < r
      · rw [if_pos (by omega), at_take z]
      · have : i = r := by omega
        subst this
        rw [if_neg (by omega), show i - min i g.length = 0 by omega]
        rfl
    rw [e, List.sum_append, sum_take r (by omega)]
    show acc (dif g) r + List.sum [at' g r] = acc (dif g) r + dif g r
    rw [dif_lt (by omega), List.sum_cons, List.sum_nil, Int.add_zero]
theorem sum_all {g : List Int} : g.sum = acc (dif g) g.length := by
  have := sum_take (g := g) g.length (Nat.le_refl _)
  rwa [List.take_length] at this
end Gr
namespace K07
open PySem L2 Evl Gr ClX
abbrev sLV : Stmt := top 40
abbrev sLVs : Stmt := top 41
/-- plain parts of a growth: a pair of two lists -/
def Pl (K : PySem.W.Frag) (H : Hp) (a : Addr) (t g : List Int) : Prop := ∃ p q, SqT K H a [.ref p, .ref q] ∧ SqL K H p (vI t) ∧ SqL K H q (vI g) ∧ 0 < t.length ∧ t.length ≤ 2000 ∧ 0 < g.length ∧ g.length ≤ 2000 ∧ Pos t ∧ Low g
theorem Pl.mono {K : PySem.W.Frag} {H H' : Hp} {a : Addr} {t g : List Int} (e : Ex H H') (h : Pl K H a t g) : Pl K H' a t g := by
  obtain ⟨p, q, h1, h2, h3, h4⟩ := h
  exact ⟨p, q, ex_t e h1, ex_l e h2, ex_l e h3, h4⟩
end K07
namespace K07
open PySem L2 Evl Gr ClX
/-- one part -/
def EvP1 (K : PySem.W.Frag) (ta : TA) (σ : L2.St) (H : Hp) (t : List Int) : Prop := ∀ H1, Ex H H1 → ∀ Q : List V → Hp → Prop, (∀ a H2, Ex H1 H2 → Sq K H2 a (vI t) → Q [.ref a] H2) → ta σ H1 Q
section
variable {K : PySem.W.Frag} {C : Addr} {σ : L2.St} {H : Hp} {ta : TA} {t g : List Int} {f : Nat → Int}
theorem eg_make1 {T0 : Addr} (h : EvP1 K ta σ H t) (hT : ∀ H, Sq K H T0 (vI g)) (t0 : 0 < t.length) (t1 : t.length ≤ 2000) (g0 : 0 < g.length) (g1 : g.length ≤ 2000) (pt : Pos t) (sm : Small g) (hf : ∀ n, val t g n = f n) : EvG K C (tMake C (spInit K C) [.ref T0] E0 ta) σ H f := fun H1 e Q q =>
  h H1 e _ fun a H2 e2 ha x dx hx hd hn => by
    have e3 : Ex H2 (upd (upd H2 dx (.own x)) x (.ins C dx [])) := (Ex.new hd).trans (Ex.new (by rw [upd_ne hn.symm]; exact hx))
    refine ⟨x, a, T0, dx, t, g, rfl, upd_same, ha.mono e3, hT _, t0, t1, g0, g1, pt, sm, fun t' g' H' kp gr pt' hv => ⟨rfl, ?_⟩⟩
    refine q x H' (fresh_back e2 hx) (e2.trans fun c u hc => ?_) ⟨t', g', gr, pt', fun n => (hv n).trans (hf n)⟩
    exact kp c u (e3 _ _ hc) (ne_of_none hc hx)
theorem EvP.tup1 {te tf : TE} {x y : Int} (h : Ev te σ H (.int x)) (h' : ∀ H1, Ex H H1 → Ev tf σ H1 (.int y)) : EvP K (tCons (tTup (tCons te tNil)) (tCons (tTup (tCons tf tNil)) tNil)) σ H [x] [y] := fun H1 e Q q =>
  eu_tup (σ := σ) (H := H) (ea_cons h ea_nil) (Nat.le_of_ble_eq_true rfl) H1 e _ fun p H2 _ e2 h2 => eu_tup (σ := σ) (H := H2) (ea_cons (h' H2 (e.trans e2)) ea_nil) (Nat.le_of_ble_eq_true rfl) H2 (Ex.refl H2) _ fun r H3 _ e3 h3 =>
    q p r H3 (e2.trans e3) (.inr (st_of (e3 _ _ h2))) (.inr (st_of h3))
theorem EvP1.tup {te : TE} {x : Int} (h : Ev te σ H (.int x)) : EvP1 K (tCons (tTup (tCons te tNil)) tNil) σ H [x] := fun H1 e Q q =>
  eu_tup (σ := σ) (H := H) (ea_cons h ea_nil) (Nat.le_of_ble_eq_true rfl) H1 e _ fun p H2 _ e2 h2 => q p H2 e2 (.inr (st_of h2))
end
theorem val_one {x y : Int} (n : Nat) : val [x] [y] n = x + n * y := by
  have a := val_ge (t := [x]) (g := [y]) Nat.one_pos n
  rw [show [x].length - 1 + n = n from Nat.zero_add n] at a
  rw [a]
  have b : ∀ m : Nat, acc (dif [y]) m = m * y := fun m => by
    induction m with
    | zero => show (0 : Int) = ((0 : Nat) : Int) * y; rw [Int.natCast_zero, Int.zero_mul]
    | succ m ih =>
      show acc _ m + dif [y] m = _
      have d : dif [y] m = y := by
        unfold dif
        rw [show m % [y].length = 0 from Nat.mod_one m]
        rfl
      rw [ih, d, show ((m + 1 : Nat) : Int) = (m : Int) + 1 from rfl, Int.add_mul, Int.one_mul]
  rw [b]
  rfl
end K07
namespace K07
open PySem L2 Evl Gr ClX
/-! ### what draws: it may move the pen, and makes objects -/
def EvW (p l : Addr) (cells : List Int) (n : Nat) (te : TE) (σ : L2.St) (H : Hp) (R : V → Prop) : Prop := ∀ m H1, Keep p H H1 → PenAt H1 p l cells m → m + n ≤ 50000 → ∀ Q : VK, (∀ v H2, R v → PenAt H2 p l cells (m + n) → Keep p H1 H2 → Q v H2) → te σ H1 Q
section
variable {p l : Addr} {cells : List Int} {σ : L2.St} {H : Hp}
theorem w_draw {i : Nat} {tb : TE} {many : Int} (hi : σ[i]? = some (some (.ref p))) (hb : ∀ H1, Keep p H H1 → Ev tb σ H1 (.int many)) (h0 : 0 < many) (h1 : many ≤ 1000000000) (h63 : cells.length ≤ 63) :
    EvW p l cells 1 (tCall spDraw [] E0 (tCons (tVar i) (tCons tb tNil))) σ H (fun v => ∃ d : Nat, v = .int (d : Int) ∧ (d : Int) < many) := fun m H1 kp hP hm Q q =>
  ⟨_, hi, hb H1 kp H1 (Ex.refl H1) _ fun H2 e2 => ⟨p, l, cells, m, many, rfl, hP.mono e2 (Nat.le_refl m), by omega, h63, h0, h1, fun d H3 d0 d1 hP3 k3 => by
    obtain ⟨n, rfl⟩ := Int.eq_ofNat_of_zero_le d0
    exact q _ H3 ⟨n, rfl, d1⟩ hP3 ((Keep.of_ex e2).trans k3)⟩⟩
theorem w_pick {i : Nat} {tr : TA} {ns : List Int} (hi : σ[i]? = some (some (.ref p))) (hr : ∀ H1, EvA tr σ H1 (vI ns)) (h0 : 0 < ns.length) (h1 : ns.length ≤ 1000) (h63 : cells.length ≤ 63) :
    EvW p l cells 1 (tCall spPick [] E0 (tCons (tVar i) (tCons (tLst tr) tNil))) σ H (fun v => ∃ x, v = .int x ∧ x ∈ ns) := fun m H1 kp hP hm Q q =>
  ⟨_, hi, hr H1 H1 (Ex.refl H1) _ fun H2 e2 => ⟨by rw [vI_len]; exact sz_of (by omega), fun a ha => by
    have e3 := e2.trans (Ex.new (o := .lst (vI ns)) ha)
    have hap : a ≠ p := by
      obtain ⟨k, r, hp, _⟩ := hP
      intro z
      rw [z, e2 _ _ hp] at ha
      cases ha
    refine ⟨p, l, a, cells, m, vI ns, rfl, hP.mono e3 (Nat.le_refl m), by omega, h63, upd_same, hap, by rw [vI_len]; exact h0, by rw [vI_len]; omega, fun j x H3 hx hP3 k3 => ?_⟩
    have hj : j < ns.length := by
      have := (List.getElem?_eq_some_iff.mp hx).1
      rwa [vI_len] at this
    rw [vI_get hj] at hx
    obtain rfl := Option.some.inj hx
    refine q _ H3 ⟨_, rfl, ?_⟩ hP3 ((Keep.of_ex e3).trans k3)
    unfold at'
    rw [List.getD_eq_getElem?_getD, List.getElem?_eq_getElem hj]
    exact List.getElem_mem hj⟩⟩
end
abbrev sPlain : Stmt := top 39
theorem scPlain : FnScope ["_law_pen_here", "_law_is_rising", "_law_told", "_law_top", "_law_turn_so", "_law_most", "_law_gains"] ["_law_pen_here", "_law_is_rising"] (defScope sPlain) := ⟨rfl, rfl, rfl, by decide +kernel, rfl, by decide +kernel, by decide +kernel⟩
theorem PenAt.upd' {H : Hp} {p l a : Addr} {cells : List Int} {m : Nat} {o : HO} (h : PenAt H p l cells m) (h1 : a ≠ p) (h2 : a ≠ l) : PenAt (upd H a o) p l cells m := by
  obtain ⟨k, r, q1, q2, q3⟩ := h
  exact ⟨k, r, by rw [upd_ne h1.symm]; exact q1, by rw [upd_ne h2.symm]; exact q2, q3⟩
theorem PenAt.le {H : Hp} {p l : Addr} {cells : List Int} {m n : Nat} (h : PenAt H p l cells m) (hm : m ≤ n) : PenAt H p l cells n := h.mono (Ex.refl H) hm
/-- what is fresh may change -/
theorem Keep.mut {p a : Addr} {H H' : Hp} {o : HO} (h : Keep p H H') (ha : H a = none) : Keep p H (L2.upd H' a o) := fun b u hb hn => by
  have : b ≠ a := fun z => by rw [z, ha] at hb; cases hb
  rw [upd_ne this]
  exact h b u hb hn
section
variable {p l : Addr} {cells : List Int} {σ : L2.St} {H : Hp} {te : TE} {tu tz : TS} {D : Ends} {j m : Nat} {many : Int}
/-- a for over range(1 + what is drawn) -/
theorem q_forW (hw : EvW p l cells 1 te σ H (fun v => ∃ d : Nat, v = .int (d : Int) ∧ (d : Int) < many)) (hP : PenAt H p l cells m) (hm : m + 1 ≤ 50000) (hmany : many ≤ 100) (Pv : Nat → L2.St → Hp → Prop) (h0 : ∀ H1, PenAt H1 p l cells (m + 1) → Keep p H H1 → Pv 0 σ H1)
    (hs : ∀ (i : Nat) σ' H', (i : Int) < many → Pv i σ' H' → tu { D with nx := Pv (i + 1), ct := Pv (i + 1), bk := tz D } (σ'.set j (some (.int (i : Int)))) H') (hd : ∀ (n : Nat) σ' H', 0 < n → (n : Int) ≤ many → Pv n σ' H' → tz D σ' H') :
    tSeq (tFor (iRng1 (tCons (tOp (rI0 fun i j => .int (i + j)) (tC (.int 1)) te) tNil)) (gName j) tu) tz D σ H :=
  hw m H (Keep.of_ex (Ex.refl H)) hP hm _ fun v H2 hv hP2 k2 => by
    obtain ⟨d, rfl, hd'⟩ := hv
    refine ⟨1, (d : Int), rfl, rfl, ?_⟩
    refine ⟨1 + (d : Int), rfl, by omega, by omega, for_range (lo := 0) (n := (1 + (d : Int)).toNat) Pv (h0 H2 hP2 k2) (fun i σ' H' hi q => ?_) (fun σ' H' q => hd _ σ' H' (by omega) (by omega) q)⟩
    have e0 : (0 : Int) + (i : Int) = (i : Int) := Int.zero_add _
    show tu { D with nx := Pv (i + 1), ct := Pv (i + 1), bk := tz D } (σ'.set j (some (.int ((0 : Int) + (i : Int))))) H'
    rw [e0]
    exact hs i σ' H' (by omega) q
end
theorem q_asgR {σ : L2.St} {H : Hp} {te : TE} {i : Nat} {tz : TS} {D : Ends} (h : te σ H fun x H1 => tz D (σ.set i (some x)) H1) : tSeq (tAsg te (gName i)) tz D σ H := h
/-- [what is drawn for j in range(1 + what is drawn)] -/
theorem lc_draws {p l : Addr} {cells : List Int} {σ : L2.St} {H : Hp} {te0 te : TE} {j m : Nat} {many B : Int} {Q : VK} (hw : EvW p l cells 1 te0 σ H (fun v => ∃ d : Nat, v = .int (d : Int) ∧ (d : Int) < many)) (hP : PenAt H p l cells m) (hm : m + 102 ≤ 50000) (hmany : many ≤ 100)
    (hwi : ∀ x, wipe ((wipe σ [j]).set j (some x)) [j] = wipe σ [j]) (ht : ∀ x H1, Keep p H H1 → EvW p l cells 1 te ((wipe σ [j]).set j (some x)) H1 (fun v => ∃ d : Nat, v = .int (d : Int) ∧ (d : Int) < B))
    (k : ∀ a g H', H a = none → Keep p H H' → PenAt H' p l cells (m + 1 + g.length) → H' a = some (.lst (vI g)) → 0 < g.length → (g.length : Int) ≤ many → (∀ i, i < g.length → 0 ≤ at' g i ∧ at' g i < B) → Q (.ref a) H') :
    tLc (iRng1 (tCons (tOp (rI0 fun i j => .int (i + j)) (tC (.int 1)) te0) tNil)) (gName j) tYes te [j] σ H Q :=
  hw m H (Keep.of_ex (Ex.refl H)) hP (by omega) _ fun v H2 hv hP2 k2 => by
    obtain ⟨d, rfl, hd'⟩ := hv
    refine ⟨1, (d : Int), rfl, rfl, ?_⟩
    refine ⟨1 + (d : Int), rfl, by omega, by omega, fun Dl hD => ?_⟩
    have hDp : Dl ≠ p := fun z => by
      obtain ⟨_, _, q, _⟩ := hP2
      rw [z, q] at hD
      cases hD
    have hDl : Dl ≠ l := fun z => by
      obtain ⟨_, _, _, q, _⟩ := hP2
      rw [z, q] at hD
      cases hD
    have hDn : H Dl = none := by
      cases z : H Dl with
      | none => rfl
      | some u =>
        have := k2 _ _ z hDp
        rw [hD] at this
        cases this
    refine lc_range (lo := 0) (n := (1 + (d : Int)).toNat) (fun i H' => ∃ g : List Int, H' Dl = some (.lst (vI g)) ∧ g.length = i ∧ (∀ i', i' < g.length → 0 ≤ at' g i' ∧ at' g i' < B) ∧ PenAt H' p l cells (m + 1 + i) ∧ Keep p H2 H') ⟨[], upd_same, rfl, fun i' h => absurd h (Nat.not_lt_zero _), hP2.upd' hDp hDl, (Keep.of_ex (Ex.refl H2)).mut hD⟩ (fun i H' hi q => ⟨hwi _, ?_⟩) (fun H' q => ?_)
    · obtain ⟨g, hg, hlen, hb, hP3, k3⟩ := q
      show te ((wipe σ [j]).set j (some (.int ((0 : Int) + (i : Int))))) H' fun y H4 => ∃ acc, H4 Dl = some (.lst acc) ∧ acc.length < sizeLine ∧ _
      refine ht _ H' (k2.trans k3) (m + 1 + i) H' (Keep.of_ex (Ex.refl H')) hP3 (by omega) _ fun v H4 hv hP4 k4 => ?_
      obtain ⟨e, rfl, he⟩ := hv
      refine ⟨vI g, k4 _ _ hg hDp, sz_lt (by rw [vI_len]; omega), g ++ [(e : Int)], by rw [upd_same, vI_app], by rw [List.length_append, hlen]; rfl, fun i' hi' => ?_, (hP4.upd' hDp hDl).le (by omega), (k3.trans k4).mut hD⟩
      rw [List.length_append] at hi'
      have hi2 : i' < g.length + 1 := hi'
      rw [at_app]
      by_cases c : i' < g.length
      · rw [if_pos c]
        exact hb _ c
      · rw [if_neg c, show i' - g.length = 0 by omega]
        show 0 ≤ (e : Int) ∧ (e : Int) < B
        omega
    · obtain ⟨g, hg, hlen, hb, hP3, k3⟩ := q
      exact k Dl g H' hDn (k2.trans k3) (hP3.le (by omega)) hg (by omega) (by omega) hb
section
variable {P : Program} {w : World} {K : PySem.W.Frag} {mg : Str → Option Value} {base : Heap}
/-! ### _law_plain -/
/-- plain parts, new ones: at most five told -/
def PlN (H : Hp) (a : Addr) (t g : List Int) : Prop := ∃ p q, H a = some (.tup [.ref p, .ref q]) ∧ H p = some (.lst (vI t)) ∧ H q = some (.lst (vI g)) ∧ t.length ≤ 5
def spPlain (K : PySem.W.Frag) : Sp := fun vs H Q _ => ∃ (p l : Addr) (cells : List Int) (m : Nat) (r : Bool), vs = [.ref p, .bl r] ∧ PenAt H p l cells m ∧ m + 120 ≤ 50000 ∧ cells.length ≤ 63 ∧
  ∀ t g x H', Keep p H H' → PenAt H' p l cells (m + 13) → PlN H' x t g → Pl K H' x t g → g.length ≤ 4 → (∀ i, i < g.length → at' g i ≤ 1000000) → (∀ i, i < t.length → at' t i ≤ 5000000000) → Q (.ref x) H'
theorem ok_Plain {f fD fP : Addr} {fd fdD fdP : FuncData} (F : Fun K "_law_plain" "_law_plain" sPlain f fd) (range : mg "range" = none)
    (GD : FnOk P w K mg base CX0 1 fD fdD ["_law_pen_here", "_law_many"] spDraw) (kD : PySem.W.keepIn K (.ref fD) = true) (bD : Binds K fdD ["_law_pen_here", "_law_many"] []) (gD : mg "_law_draw" = some (.ref fD))
    (GP : FnOk P w K mg base CX0 2 fP fdP ["_law_pen_here", "_law_some"] spPick) (kP : PySem.W.keepIn K (.ref fP) = true) (bP : Binds K fdP ["_law_pen_here", "_law_some"] []) (gP : mg "_law_pick" = some (.ref fP)) :
    FnOk P w K mg base CX0 3 f fd ["_law_pen_here", "_law_is_rising"] (spPlain K) := by
  refine F.ok scPlain (fun vs H Q E h => ?_) (fun cdv A outer s H vs Q E hr h => ?_)
  · obtain ⟨p, l, cells, m, r, rfl, _⟩ := h
    rfl
  · obtain ⟨p, l, cells, m, r, rfl, hP, hm, h63, k⟩ := h
    refine ⟨_, pss_cons (ps_par (i := 2) (j := 3) rfl scPlain.nd rfl rfl (by decide) (by rfl) (by rfl) (pa_cons (pe_lst pa_nil) (pa_cons (pe_call GP hr (by rfl) gP kP bP .nil pass0 (pa_cons (pv 0) (pa_cons (pe_lst (pa_cons pe_int (pa_cons pe_int (pa_cons pe_int (pa_cons pe_int (pa_cons (pe_op op_pow pe_int pe_int) pa_nil)))))) pa_nil))) pa_nil)) (by rfl))
      (pss_cons (ps_for PassesOwn.never rfl (pi_range1 (by rfl) range (pa_cons (pe_op op_add pe_int (pe_call GD (hr.mono (by decide)) (by rfl) gD kD bD .nil pass0 (pa_cons (pv 0) (pa_cons pe_int pa_nil)))) pa_nil)) (pg_name (i := 4) scPlain.nd rfl (.inl rfl))
        (pss_one (ps_expr (pe_bm PySem.F.plainAttrs_list PySem.F.slot_list_append PySem.F.type_list_append mt_append (pv 2) (pa_cons (pe_op op_add (pe_call GD (hr.mono (by decide)) (by rfl) gD kD bD .nil pass0 (pa_cons (pv 0) (pa_cons (pv 3) pa_nil)))
          (pe_ifExp (PW.pt (pw_and (pt_cmpR (op_neD hr.units) (pv 2) (pe_lst pa_nil) (nomark _)) (pw_and1 (pt_val (pv 1))))) (pe_ix ix_list (pv 2) (pe_un un_neg pe_int) (fun _ _ => rfl)) pe_int)) pa_nil)))))
      (pss_cons (ps_set (i := 5) scPlain.nd rfl (.inr rfl) (pe_call GP hr (by rfl) gP kP bP .nil pass0 (pa_cons (pv 0) (pa_cons (pe_lst (pa_cons pe_int (pa_cons pe_int (pa_cons pe_int (pa_cons pe_int (pa_cons (pe_op op_pow pe_int pe_int) pa_nil)))))) pa_nil))))
      (pss_cons (ps_setLc (i := 6) (own := [("_law_turn_so", 4)]) (g := gName 4) rfl scPlain.nd rfl (by rfl) (by rfl) (pi_range1 (by rfl) range (pa_cons (pe_op op_add pe_int (pe_call GD (hr.mono (by decide)) (by rfl) gD kD bD .nil pass0 (pa_cons (pv 0) (pa_cons pe_int pa_nil)))) pa_nil)) (blkOk_by (own := [("_law_turn_so", 4)]) (N := ["_law_pen_here", "_law_is_rising", "_law_told", "_law_top", "_law_turn_so", "_law_most", "_law_gains"]) (sc := defScope sPlain) (by decide +kernel))
          (fun _ _ _ _ _ => pg_name (i := 4) scPlain.nd rfl (Or.inl rfl)) (fun _ _ _ _ _ => pts_nil) (fun _ _ _ _ _ => pe_call GD (hr.mono (by decide)) (by rfl) gD kD bD .nil pass0 (pa_cons (pv 0) (pa_cons (pe_op op_add (pv 5) pe_int) pa_nil))))
      (pss_one (ps_ret (pe_tup (pa_cons (pv 2) (pa_cons (pv 6) pa_nil)))))))), ?_⟩
    have hp0 : ∃ u, H p = some u := let ⟨_, _, q, _⟩ := hP; ⟨_, q⟩
    have hl0 : ∃ u, H l = some u := let ⟨_, _, _, q, _⟩ := hP; ⟨_, q⟩
    have kp0 : Keep p H H := Keep.of_ex (Ex.refl H)
    -- told = [], top = ..
    refine ⟨by decide, fun tl htl => ?_⟩
    have e1 := Ex.new (H := H) (o := .lst []) htl
    have hP1 := hP.mono e1 (Nat.le_refl m)
    have ntp : tl ≠ p := fun z => by
      obtain ⟨u, hu⟩ := hp0
      rw [z, hu] at htl
      cases htl
    have ntl : tl ≠ l := fun z => by
      obtain ⟨u, hu⟩ := hl0
      rw [z, hu] at htl
      cases htl
    refine w_pick (p := p) (l := l) (cells := cells) (σ := L2.start _ [V.ref p, V.bl r]) (H := upd H tl (.lst [])) (i := 0) (ns := [2, 5, 9, 40, (10 : Int) ^ (9 : Int).toNat]) rfl (fun H1 => ea_cons ev_c (ea_cons ev_c (ea_cons ev_c (ea_cons ev_c (ea_cons (ev_op ev_c ev_c (rv_I ⟨by decide, by decide, by decide⟩)) ea_nil))))) (by decide) (by decide) h63 m _ (Keep.of_ex (Ex.refl _)) hP1 (by omega) _ fun v H2 hv hP2 k2 => ?_
    obtain ⟨top, rfl, htop⟩ := hv
    have top2 : 0 < top ∧ top ≤ 1000000000 := by
      have : ∀ z ∈ [2, 5, 9, 40, (10 : Int) ^ (9 : Int).toNat], 0 < z ∧ z ≤ 1000000000 := by decide
      exact this _ htop
    refine ⟨_, _, rfl, ?_⟩
    have kH2 : Keep p H H2 := (Keep.of_ex e1).trans k2
    have htl2 : H2 tl = some (.lst (vI [])) := k2 _ _ upd_same ntp
    show tSeq _ _ _ _ _
    -- the loop of told values
    refine q_forW (p := p) (l := l) (cells := cells) (m := m + 1) (many := 5) (w_draw (i := 0) rfl (fun H1 _ => ev_c) (by decide) (by decide) h63) hP2 (by omega) (by decide)
      (fun i σ' H' => ∃ (x4 : Option V) (t : List Int), σ' = [some (.ref p), some (.bl r), some (.ref tl), some (.int top), x4, none, none] ∧ H' tl = some (.lst (vI t)) ∧ t.length = i ∧ Pos t ∧ PenAt H' p l cells (m + 2 + i) ∧ Keep p H H' ∧ ∀ j, j < t.length → at' t j ≤ 1000000000 * (t.length : Int))
      (fun H3 hP3 k3 => ⟨_, [], rfl, k3 _ _ htl2 ntp, rfl, fun i hi => absurd hi (Nat.not_lt_zero i), hP3, kH2.trans k3, fun j hj => absurd hj (Nat.not_lt_zero j)⟩) ?_ ?_
    · rintro i σ' H3 hi ⟨x4, t, rfl, ht, hlen, pt, hP3, k3, bt⟩
      show tDrop _ _ _ _
      refine ⟨_, rfl, Or.inl ⟨rfl, vI t, sq_of ht⟩, ?_⟩
      refine w_draw (p := p) (l := l) (cells := cells) (σ := [some (.ref p), some (.bl r), some (.ref tl), some (.int top), some (.int (i : Int)), none, none]) (H := H3) (i := 0) (tb := tVar 3) (many := top) rfl (fun H1 _ => ev_var rfl) top2.1 top2.2 h63 (m + 2 + i) H3 (Keep.of_ex (Ex.refl _)) hP3 (by omega) _ fun v H4 hv hP4 k4 => ?_
      obtain ⟨d, rfl, hd⟩ := hv
      have ht4 := k4 _ _ ht ntp
      obtain ⟨bn, evn, hne⟩ := ev_neNil (K := K) (σ := [some (.ref p), some (.bl r), some (.ref tl), some (.int top), some (.int (i : Int)), none, none]) (H := H4) (cells := t) (l := tl) (ta := tVar 2) (ev_var rfl) (sq_of ht4)
      have evi : ∃ z : Int, 0 ≤ z ∧ z ≤ 1000000000 * (t.length : Int) ∧ Ev (tIf (tAnd (tTest (tOp (rNeD K) (tVar 2) (tLst tNil))) (tB (tVar 1))) (tOp (rIxL K) (tVar 2) (tUn (rU fun i => .int (-i)) (tC (.int 1)))) (tC (.int 0))) [some (.ref p), some (.bl r), some (.ref tl), some (.int top), some (.int (i : Int)), none, none] H4 (.int z) := by
        have tst : EvT (tAnd (tTest (tOp (rNeD K) (tVar 2) (tLst tNil))) (tB (tVar 1))) [some (.ref p), some (.bl r), some (.ref tl), some (.int top), some (.int (i : Int)), none, none] H4 (bn && r) := et_and (et_test evn) fun _ => et_B (ev_var rfl)
        cases hbr : (bn && r) with
        | true =>
          rw [hbr] at tst
          have tn : 0 < t.length := List.length_pos_iff.mpr (hne (Bool.and_eq_true_iff.mp hbr).1)
          exact ⟨at' t (t.length - 1), pt _ (by omega), bt _ (by omega), ev_if tst (fun _ => ev_op (ev_var rfl) (ev_un ev_c ru_neg) (rv_ixL (sq_of ht4) (atI_vlast tn))) (fun hb => absurd hb (by decide))⟩
        | false =>
          rw [hbr] at tst
          exact ⟨0, Int.le_refl 0, by omega, ev_if tst (fun hb => absurd hb (by decide)) (fun _ => ev_c)⟩
      obtain ⟨z, z0, z1, evz⟩ := evi
      refine evz H4 (Ex.refl H4) _ fun H5 e5 => ?_
      refine ⟨(d : Int), z, rfl, rfl, tl, vI t, .int ((d : Int) + z), rfl, rfl, e5 _ _ ht4, sz_lt (by rw [vI_len]; omega), ?_⟩
      refine ⟨_, t ++ [(d : Int) + z], rfl, by rw [upd_same, vI_app], by rw [List.length_append, hlen]; rfl, fun i' hi' => ?_, ((hP4.mono e5 (Nat.le_refl _)).upd' ntp ntl).le (by omega), ((k3.trans k4).trans (Keep.of_ex e5)).mut htl, fun i' hi' => ?_⟩
      rotate_left
      · rw [List.length_append] at hi' ⊢
        have hi2 : i' < t.length + 1 := hi'
        show at' (t ++ [(d : Int) + z]) i' ≤ 1000000000 * ((t.length + 1 : Nat) : Int)
        rw [at_app]
        by_cases c : i' < t.length
        · rw [if_pos c]
          have := bt _ c
          omega
        · rw [if_neg c, show i' - t.length = 0 by omega]
          show (d : Int) + z ≤ _
          have := top2.2
          omega
      rw [List.length_append] at hi'
      have hi2 : i' < t.length + 1 := hi'
      rw [at_app]
      by_cases c : i' < t.length
      · rw [if_pos c]
        exact pt _ c
      · rw [if_neg c, show i' - t.length = 0 by omega]
        show 0 ≤ (d : Int) + z
        omega
    · rintro n σ' H3 n0 n5 ⟨x4, t, rfl, ht, hlen, pt, hP3, k3, bt⟩
      refine q_asgR (w_pick (p := p) (l := l) (cells := cells) (σ := [some (.ref p), some (.bl r), some (.ref tl), some (.int top), x4, none, none]) (H := H3) (i := 0) (ns := [1, 2, 3, 7, (10 : Int) ^ (6 : Int).toNat]) rfl (fun H1 => ea_cons ev_c (ea_cons ev_c (ea_cons ev_c (ea_cons ev_c (ea_cons (ev_op ev_c ev_c (rv_I ⟨by decide, by decide, by decide⟩)) ea_nil))))) (by decide) (by decide) h63 (m + 2 + n) H3 (Keep.of_ex (Ex.refl _)) hP3 (by omega) _ fun v H4 hv hP4 k4 => ?_)
      obtain ⟨most, rfl, hmost⟩ := hv
      have most2 : 0 < most ∧ most ≤ 1000000 := by
        have : ∀ z ∈ [1, 2, 3, 7, (10 : Int) ^ (6 : Int).toNat], 0 < z ∧ z ≤ 1000000 := by decide
        exact this _ hmost
      have ht4 := k4 _ _ ht ntp
      refine q_asgR (lc_draws (p := p) (l := l) (cells := cells) (σ := [some (.ref p), some (.bl r), some (.ref tl), some (.int top), x4, some (.int most), none]) (H := H4) (j := 4) (m := m + 2 + n + 1) (many := 4) (B := most + 1) (w_draw (i := 0) rfl (fun H1 _ => ev_c) (by decide) (by decide) h63) hP4 (by omega) (by decide) (fun _ => rfl)
        (fun x H1 _ => w_draw (i := 0) rfl (fun H2 _ => ev_op (ev_var rfl) ev_c rv_I0) (by omega) (by omega) h63) fun a g H5 ha k5 hP5 hg g0 g4 hb => ?_)
      show tRet _ _ _ _
      refine ⟨_, rfl, _, rfl, by show 2 ≤ sizeLine; decide, fun x hx => ?_⟩
      have e6 := Ex.new (H := H5) (o := .tup [.ref tl, .ref a]) hx
      have sg : Low g := fun i hi => ⟨(hb i hi).1, by have := (hb i hi).2; omega⟩
      refine k t g x _ (((k3.trans k4).trans k5).trans (Keep.of_ex e6)) ((hP5.mono e6 (Nat.le_refl _)).le (by omega)) ⟨tl, a, upd_same, e6 _ _ (k5 _ _ ht4 ntp), e6 _ _ hg, by omega⟩ ⟨tl, a, st_of upd_same, sq_of (e6 _ _ (k5 _ _ ht4 ntp)), sq_of (e6 _ _ hg), by omega, by omega, g0, by omega, pt, sg⟩ (by omega) (fun i hi => by have := (hb i hi).2; omega) (fun i hi => by have := bt i hi; omega)
end
end K07
namespace Gr
theorem Tail.sc {f : Nat → Int} {B : Int} (h : Tail f B) {k : Nat} : Tail (fun n => (k : Int) * f n) ((k : Int) * B) := by
  obtain ⟨m, hm⟩ := h
  refine ⟨m, fun n hn => ?_⟩
  obtain ⟨a, b⟩ := hm n hn
  show 0 ≤ (k : Int) * f (n + 1) - (k : Int) * f n ∧ (k : Int) * f (n + 1) - (k : Int) * f n ≤ (k : Int) * B
  rw [← Int.mul_sub]
  exact ⟨Int.mul_nonneg (by omega) a, Int.mul_le_mul_of_nonneg_left b (by omega)⟩
theorem acc_le {d : Nat → Int} {B : Int} (h : ∀ k, d k ≤ B) : ∀ n : Nat, acc d n ≤ (n : Int) * B
  | 0 => by rw [show ((0 : Nat) : Int) = 0 from rfl, Int.zero_mul]; exact Int.le_refl 0
  | n + 1 => by
    show acc d n + d n ≤ _
    rw [show ((n + 1 : Nat) : Int) = (n : Int) + 1 from rfl, Int.add_mul, Int.one_mul]
    exact Int.add_le_add (acc_le h n) (h n)
theorem val_le {t g : List Int} {A B : Int} (t0 : 0 < t.length) (g0 : 0 < g.length) (B0 : 0 ≤ B) (ht : ∀ i, i < t.length → at' t i ≤ A) (hg : ∀ i, i < g.length → at' g i ≤ B) (n : Nat) : val t g n ≤ A + (n : Int) * B := by
  unfold val
  by_cases h : n < t.length
  · rw [if_pos h]
    have a := ht n h
    have b := Int.mul_nonneg (show (0 : Int) ≤ (n : Int) by omega) B0
    omega
  · rw [if_neg h]
    have a : lst t ≤ A := ht _ (by omega)
    have b := acc_le (d := dif g) (fun k => hg _ (Nat.mod_lt _ g0)) (n - t.length + 1)
    have c : ((n - t.length + 1 : Nat) : Int) * B ≤ (n : Int) * B := Int.mul_le_mul_of_nonneg_right (by omega) B0
    omega
theorem dvd12 {n : Nat} (h0 : 0 < n) (h4 : n ≤ 4) : n ∣ 12 := by
  have : n = 1 ∨ n = 2 ∨ n = 3 ∨ n = 4 := by omega
  rcases this with rfl | rfl | rfl | rfl <;> decide
end Gr
namespace K07
open PySem L2 Evl Gr ClX OpX StX OwX
theorem q_call {σ : L2.St} {H : Hp} {sp : Sp} {dvs vs : List V} {E : XK} {ta : TA} {i : Nat} {tz : TS} {D : Ends} (h : EvA ta σ H vs) (k : ∀ H1, Ex H H1 → sp (vs ++ dvs) H1 (fun v H2 => tz D (σ.set i (some v)) H2) E) :
    tSeq (tAsg (tCall sp dvs E ta) (gName i)) tz D σ H := h H (Ex.refl H) _ k
theorem lst_i {t : TA} {Q : VK} {σ : L2.St} {H : Hp} (h : t σ H fun xs H1 => xs.length ≤ sizeLine ∧ ∀ l, H1 l = none → Q (.ref l) (upd H1 l (.lst xs))) : tLst t σ H Q := h
theorem cons_i {te : TE} {tr : TA} {σ : L2.St} {H : Hp} {Q : List V → Hp → Prop} (h : te σ H fun x H1 => tr σ H1 fun xs H2 => Q (x :: xs) H2) : tCons te tr σ H Q := h
theorem op_i {r : R2} {ta tb : TE} {σ : L2.St} {H : Hp} {Q : VK} (h : ta σ H fun x H1 => tb σ H1 fun y H2 => r x y H2 Q) : tOp r ta tb σ H Q := h
theorem fnR0 {P : Program} {w : World} {K : PySem.W.Frag} {mg : Str → Option Value} {base : Heap} {CX : CXT} {k : Nat} {f : Addr} {fd : FuncData} {ps : List Str} {sp : Sp} (F : FnOk P w K mg base CX k f fd ps sp) (b : Binds K fd ps []) : FnR P w K mg base CX k f sp :=
  (F.raw b .nil).imp fun vs H Q E h => by rw [List.append_nil]; exact h
theorem gr_ins {X : Cx} {C : Addr} {H : Hp} {o : Addr} {f : Nat → Int} (h : GrF X.K C H o f) : InsC X H o C := by
  obtain ⟨t, g, ⟨dx, p, q, r, h1, _⟩, _⟩ := h
  exact .inr ⟨dx, _, h1⟩
/-- a def of the module, found by its name -/
def Gfn (P : Program) (w : World) (K : PySem.W.Frag) (mg : Str → Option Value) (base : Heap) (k : Nat) (name : Str) (ps : List Str) (sp : Sp) : Prop :=
  ∃ f fd, FnOk P w K mg base CX0 k f fd ps sp ∧ PySem.W.keepIn K (.ref f) = true ∧ Binds K fd ps [] ∧ mg name = some (.ref f)
/-- what != asks of the class -/
structure GNe (K : PySem.W.Frag) (C fE : Addr) : Prop where
  has : Has K C fE "__eq__"
  ne : PySem.W.findIn K (.ref C) "__ne__" = some (some (.builtin "object.__ne__"))
  ob : PySem.W.mroIn K C (.type "object") = some true
  nf : PySem.W.notFirst K C (.ref C) = true
section
variable {p l : Addr} {cells : List Int} {σ : L2.St} {H : Hp}
/-- one of some things, one of which is drawn -/
theorem w_pickD {i : Nat} {tr : TA} {R : List Int → Prop} (hi : σ[i]? = some (some (.ref p)))
    (hr : ∀ m H1, Keep p H H1 → PenAt H1 p l cells m → m + 1 ≤ 50000 → ∀ Q : List V → Hp → Prop, (∀ ns H2, R ns → PenAt H2 p l cells (m + 1) → Keep p H1 H2 → Q (vI ns) H2) → tr σ H1 Q) (hR : ∀ ns, R ns → 0 < ns.length ∧ ns.length ≤ 1000) (h63 : cells.length ≤ 63) :
    EvW p l cells 2 (tCall spPick [] E0 (tCons (tVar i) (tCons (tLst tr) tNil))) σ H (fun v => ∃ x ns, v = .int x ∧ R ns ∧ x ∈ ns) := fun m H1 kp hP hm Q q =>
  ⟨_, hi, hr m H1 kp hP (by omega) _ fun ns H2 rn hP2 k2 => ⟨by rw [vI_len]; exact sz_of (by have := (hR ns rn).2; omega), fun a ha => by
    have e3 := Ex.new (H := H2) (o := .lst (vI ns)) ha
    have hap : a ≠ p := by
      obtain ⟨k, r, hp, _⟩ := hP2
      intro z
      rw [z, hp] at ha
      cases ha
    refine ⟨p, l, a, cells, m + 1, vI ns, rfl, hP2.mono e3 (Nat.le_refl _), by omega, h63, upd_same, hap, by rw [vI_len]; exact (hR ns rn).1, by rw [vI_len]; have := (hR ns rn).2; omega, fun j x H3 hx hP3 k3 => ?_⟩
    have hj : j < ns.length := by
      have := (List.getElem?_eq_some_iff.mp hx).1
      rwa [vI_len] at this
    rw [vI_get hj] at hx
    obtain rfl := Option.some.inj hx
    refine q _ H3 ⟨_, ns, rfl, rn, ?_⟩ hP3 ((k2.trans (Keep.of_ex e3)).trans k3)
    unfold at'
    rw [List.getD_eq_getElem?_getD, List.getElem?_eq_getElem hj]
    exact List.getElem_mem hj⟩⟩
theorem c_i {x : V} {Q : VK} (h : Q x H) : tC x σ H Q := h
theorem q_par {ta : TA} {i j : Nat} {tz : TS} {D : Ends} (h : ta σ H fun vs H1 => ∃ u v, vs = [u, v] ∧ tz D ((σ.set i (some u)).set j (some v)) H1) : tSeq (tPar i j ta) tz D σ H := h
theorem q_par3 {ta : TA} {i j n : Nat} {tz : TS} {D : Ends} (h : ta σ H fun vs H1 => ∃ u v w, vs = [u, v, w] ∧ tz D (((σ.set i (some u)).set j (some v)).set n (some w)) H1) : tSeq (tPar3 i j n ta) tz D σ H := h
theorem etu_tuple {K : PySem.W.Frag} {te : TE} {xs : List V} (h : EvL te σ H xs) : EvTu K (tThen te (kTup K)) σ H xs := fun H1 e Q q =>
  h H1 e _ fun p H2 _ e2 h2 => .inl ⟨p, xs, rfl, sq_of h2, fun r hr => q r _ (e2.trans (Ex.new hr)) (st_of upd_same)⟩
end
end K07
/-! a static method called off its class -/
namespace StM
open PySem PySem.Spec PyProof.Rows L2 ClX
/-- C.m is a staticmethod: its record at p, its def at g -/
structure SMet (K : PySem.W.Frag) (C : Addr) (mc : Value) (m : Str) (p g : Addr) : Prop where
  at_ : PySem.W.findCls K (.ref C) mc m = some (.get (.builtin "staticmethod.__get__") (.ref p) .none (.ref C))
  rc : ∃ rest, PySem.W.recIn K p "staticmethod" = some (.ref g :: rest)
  kp : PySem.W.keepIn K (.ref g) = true
/-- e.m(..), e the class at C -/
def tSMeth (C : Addr) (sp : Sp) (E : XK) (ta : TE) (t : TA) : TE := fun σ H Q => ta σ H fun x H1 => x = .ref C ∧ t σ H1 fun vs H2 => sp vs H2 Q E
section
variable {X : Cx} {CX : CXT} {k : Nat} {C p g : Addr} {mc : Value} {sp : Sp} {E : XK} {o e : Expr} {es : List Expr} {m : Str} {pos apos : Pos} {ta : TE} {t : TA} {pl : Sem Bool}
theorem pe_smeth (he : PE X o ta) (r : CRead X.K C mc) (c : SMet X.K C mc m p g) (F : FnR X.prog X.w X.K X.mg X.base CX k g sp) (hr : Room k X.A) (hx : Passes CX X E) (ha : PA X (e :: es) t)
    (hst : starEach (e :: es) X.env = (false, eval e X.env) :: starEach es X.env := by rfl) (hpl : (backTo pos (starEach es X.env)).any (·.1) = false := by rfl)
    (ht : eval (.Call (.Attribute o m apos) (e :: es) [] pos) X.env = (do
      let ov ← eval o X.env
      standAt apos.atName
      let (f, first) ← holding [ov] (getMethod ov m pl)
      callWith pos f first (backTo pos (starEach (e :: es) X.env)) (backToKw pos (keywordEach [] X.env))) := by rfl) :
    PE X (.Call (.Attribute o m apos) (e :: es) [] pos) (tSMeth C sp E ta t) := by
  refine ⟨fun pins s σ H Q I h => ?_⟩
  refine PySem.W.methodCall_KW (pl := pl) (thn (he.run pins s σ H _ I h) fun u s1 ⟨x, H1, I1, rx, ex, q⟩ => ?_) ht
  subst ex
  obtain rfl : u = Value.ref C := rx
  obtain ⟨rest, hp⟩ := c.rc
  refine PySem.W.method_cls I1.kIn r.ga (PySem.W.cls_bind I1.kIn r.rd c.at_ ?_)
  refine wpAny_call (PySem.W.sm_get (s := { s1 with toks := s1.toks + 1 }) I1.kIn hp (PySem.W.handed_on rfl ?_))
  have I2 : Inv X pins σ H1 { s1 with toks := s1.toks + 1 } := I1.tok _
  refine PySem.W.callWith_K (h₀ := X.base) I2.ok.mod.kin c.kp (thn (ha.run pos pins _ σ H1 _ I2 q) fun us s3 ⟨vs, H2, I3, rv, q2⟩ => ⟨I3.kIn, ?_⟩) hst hpl
  exact wpAny_call (run_fnR (us := us) (vs := vs) F hr hx I3 rv q2)
end
end StM
namespace K07
open PySem L2 Evl Gr ClX OpX StX OwX StM
/-! ### growths as they are, old or new -/
/-- gives a growth of these values -/
def EvR (K : PySem.W.Frag) (C : Addr) (te : TE) (σ : L2.St) (H : Hp) (f : Nat → Int) : Prop := ∀ H1, Ex H H1 → ∀ Q : VK, (∀ o H2, Ex H1 H2 → GrF K C H2 o f → Q (.ref o) H2) → te σ H1 Q
section
variable {K : PySem.W.Frag} {C : Addr} {σ : L2.St} {H H' : Hp} {te : TE} {f g : Nat → Int}
theorem EvG.any (h : EvG K C te σ H f) : EvR K C te σ H f := fun H1 e Q q => h H1 e Q fun o H2 _ e2 gr => q o H2 e2 gr
theorem er_var {i : Nat} {o : Addr} (h0 : σ[i]? = some (some (.ref o))) (h : GrF K C H o f) : EvR K C (tVar i) σ H f := fun H1 e Q q => ⟨_, h0, q o H1 (Ex.refl H1) (h.mono e)⟩
theorem EvR.mono (h : EvR K C te σ H f) (e : Ex H H') : EvR K C te σ H' f := fun H1 e1 => h H1 (e.trans e1)
theorem EvR.is (h : EvR K C te σ H f) (e : ∀ n, f n = g n) : EvR K C te σ H g := (funext e : f = g) ▸ h
theorem GrF.is {o : Addr} (h : GrF K C H o f) (e : ∀ n, f n = g n) : GrF K C H o g := (funext e : f = g) ▸ h
theorem GrF.ins {o : Addr} (h : GrF K C H o f) : ∃ dx p q r, H o = some (.ins C dx [("told", .ref p), ("gains", .ref q), ("rises", .ref r)]) := by
  obtain ⟨t, g, ⟨dx, p, q, r, h1, _⟩, _⟩ := h
  exact ⟨dx, p, q, r, h1⟩
end
section
variable {X : Cx} {C : Addr} {σ : L2.St} {H : Hp} {ta tb : TE} {f g : Nat → Int}
/-- two of the same values are not unlike -/
theorem ev_neR (ha : EvR X.K C ta σ H f) (hb : EvR X.K C tb σ H f) (_n1 : PySem.W.notFirst X.K C (.ref C) = true) : Ev (tOp (rNeO X C (spGEq X.K C) E0) ta tb) σ H (.bl false) := fun H1 e Q q =>
  ha H1 e _ fun o H2 e2 go => hb H2 (e.trans e2) _ fun u H3 e3 gu => ⟨o, u, rfl, rfl, gr_ins (go.mono e3), gr_ins gu, o, u, f, f, rfl, go.mono e3, gu, fun b hb => by
    obtain rfl : b = true := hb.mpr fun _ => rfl
    exact fun H4 e4 => ⟨true, rfl, q H4 ((e2.trans e3).trans e4)⟩⟩
theorem ev_eqR (ha : EvR X.K C ta σ H f) (hb : EvR X.K C tb σ H f) (n1 : PySem.W.notFirst X.K C (.ref C) = true) : Ev (tOp (rEqO X C (spGEq X.K C) E0) ta tb) σ H (.bl true) := fun H1 e Q q =>
  ha H1 e _ fun o H2 e2 go => hb H2 (e.trans e2) _ fun u H3 e3 gu => ⟨o, u, C, rfl, rfl, gr_ins (go.mono e3), gr_ins gu, n1, o, u, f, f, rfl, go.mono e3, gu, fun b hb => by
    obtain rfl : b = true := hb.mpr fun _ => rfl
    exact fun H4 e4 => q H4 ((e2.trans e3).trans e4)⟩
end
section
variable {K : PySem.W.Frag} {C : Addr} {σ : L2.St} {H : Hp} {ta tb : TE} {tk : TA} {f g : Nat → Int}
/-- a growth made of the parts of one -/
theorem ep_parts {o : Addr} {i : Nat} (G : GCls K C) (h0 : σ[i]? = some (some (.ref o))) {t g : List Int} (h : GrAt K C H o t g) : EvP K (tCons (tFld K (tVar i) "told") (tCons (tFld K (tVar i) "gains") tNil)) σ H t g := by
  obtain ⟨dx, p, q, r, h1, h2, h3, _⟩ := h
  exact EvP.pair (ev_fld (ev_var h0) h1 G.cls G.told rfl) (ev_fld (ev_var h0) h1 G.cls G.gains rfl) (.inr h2) (.inr h3)
theorem er_again {o : Addr} {i : Nat} (G : GCls K C) (h0 : σ[i]? = some (some (.ref o))) (h : GrF K C H o f) :
    EvR K C (tMake C (spInit K C) [] E0 (tCons (tFld K (tVar i) "told") (tCons (tFld K (tVar i) "gains") tNil))) σ H f := by
  obtain ⟨t, g, hG, pt, v⟩ := h
  have hG' := hG
  obtain ⟨_, _, _, _, _, _, _, _, nf, t2, g2, sm⟩ := hG'
  exact (eg_make (ep_parts G h0 hG) nf.told t2 nf.gains g2 pt sm v).any
/-- a growth made of plain parts -/
theorem er_plain {a : Addr} {i : Nat} {t g : List Int} (h0 : σ[i]? = some (some (.ref a))) (h : Pl K H a t g) : EvG K C (tMake C (spInit K C) [] E0 (tCons (tOp (rIx K) (tVar i) (tC (.int 0))) (tCons (tOp (rIx K) (tVar i) (tC (.int 1))) tNil))) σ H (val t g) := by
  obtain ⟨p, q, h1, h2, h3, t0, t1, g0, g1, pt, sm⟩ := h
  exact eg_make (EvP.pair (ev_op (ev_var h0) ev_c (rv_ix (.inr h1) rfl)) (ev_op (ev_var h0) ev_c (rv_ix (.inr h1) rfl)) (.inl h2) (.inl h3)) t0 t1 g0 g1 pt sm.small fun _ => rfl
/-- two tuples of the same ints -/
theorem ev_eqTu {xs : List Int} (ha : EvTu K ta σ H (vI xs)) (hb : EvTu K tb σ H (vI xs)) : Ev (tOp (rEqD K) ta tb) σ H (.bl true) := fun H1 e Q q =>
  ha H1 e _ fun p H2 e2 hp => hb H2 (e.trans e2) _ fun r H3 e3 hr => ⟨.tuple (xs.map PyData.int), .tuple (xs.map PyData.int), .tup (ex_t e3 hp) (dpAll_ints xs), .tup hr (dpAll_ints xs), shaped_tup xs, shaped_tup xs, by
    have e2' : PyData.eqv (.tuple (xs.map PyData.int)) (.tuple (xs.map PyData.int)) = true := by
      have := eqv_ints xs xs
      rw [decide_eq_true rfl] at this
      simpa [PyData.eqv] using this
    rw [e2']
    exact q H3 (e2.trans e3)⟩
/-- two lists of the same ints -/
theorem ev_neLs {xs : List Int} (ha : EvL ta σ H (vI xs)) (hb : EvL tb σ H (vI xs)) : Ev (tOp (rNeD K) ta tb) σ H (.bl false) := fun H1 e Q q =>
  ha H1 e _ fun p H2 _ e2 hp => hb H2 (e.trans e2) _ fun r H3 _ e3 hr => ⟨.list (xs.map PyData.int), .list (xs.map PyData.int), .lst (sq_of (e3 _ _ hp)) (dpAll_ints xs), .lst (sq_of hr) (dpAll_ints xs), shaped_ints xs, shaped_ints xs, by
    have e2' : PyData.eqv (.list (xs.map PyData.int)) (.list (xs.map PyData.int)) = true := by
      have := eqv_ints xs xs
      rw [decide_eq_true rfl] at this
      simpa [PyData.eqv] using this
    rw [e2']
    exact q H3 (e2.trans e3)⟩
end
/-! ### what stands while the pen moves -/
section
variable {K : PySem.W.Frag} {C : Addr} {H H' : Hp} {p l : Addr} {cells : List Int} {m : Nat}
theorem sqt_keep {q : Addr} {xs : List V} (hP : PenAt H p l cells m) (kp : Keep p H H') (h : SqT K H q xs) : SqT K H' q xs := by
  obtain ⟨_, _, hp, _⟩ := hP
  rcases h with (h | ⟨o, h⟩) | h
  · exact .inl (.inl (kp _ _ h fun z => by rw [z, hp] at h; cases h))
  · exact .inl (.inr ⟨o, kp _ _ h fun z => by rw [z, hp] at h; cases h⟩)
  · exact .inr h
theorem sql_keep {q : Addr} {xs : List Int} (hP : PenAt H p l cells m) (kp : Keep p H H') (h : SqL K H q (vI xs)) : SqL K H' q (vI xs) := by
  obtain ⟨_, _, hp, _⟩ := hP
  have no : ∀ {k r : Int}, ¬ [V.ref l, V.int k, V.int r] = vI xs := fun e => by
    cases xs with
    | nil => cases e
    | cons x xs => cases e
  rcases h with (h | ⟨o, h⟩) | h
  · exact .inl (.inl (kp _ _ h fun z => by rw [z, hp] at h; exact no (HO.lst.inj (Option.some.inj h))))
  · exact .inl (.inr ⟨o, kp _ _ h fun z => by rw [z, hp] at h; cases h⟩)
  · exact .inr h
theorem Pl.keep {a : Addr} {t g : List Int} (hP : PenAt H p l cells m) (kp : Keep p H H') (h : Pl K H a t g) : Pl K H' a t g := by
  obtain ⟨x, y, h1, h2, h3, h4⟩ := h
  exact ⟨x, y, sqt_keep hP kp h1, sql_keep hP kp h2, sql_keep hP kp h3, h4⟩
theorem GrF.keep {o : Addr} {f : Nat → Int} (hP : PenAt H p l cells m) (kp : Keep p H H') (h : GrF K C H o f) : GrF K C H' o f := by
  obtain ⟨t, g, ⟨dx, x, y, z, h1, h2, h3, h4, h5⟩, h6⟩ := h
  refine ⟨t, g, ⟨dx, x, y, z, kp _ _ h1 fun e => ?_, sqt_keep hP kp h2, sqt_keep hP kp h3, sqt_keep hP kp h4, h5⟩, h6⟩
  obtain ⟨_, _, hp, _⟩ := hP
  rw [e, hp] at h1
  cases h1
end
section
variable {K : PySem.W.Frag}
/-- plain parts as they are drawn -/
def PlB (K : PySem.W.Frag) (H : Hp) (a : Addr) (t g : List Int) : Prop := Pl K H a t g ∧ g.length ≤ 4 ∧ (∀ i, i < g.length → at' g i ≤ 1000000) ∧ ∀ i, i < t.length → at' t i ≤ 5000000000
structure Drawn (f : Nat → Int) : Prop where
  per : PerT f 12
  tail : Tail f 1000000
  pos : ∀ n, 0 ≤ f n
  le : ∀ n : Nat, f n ≤ 5000000000 + (n : Int) * 1000000
theorem PlB.drawn {H : Hp} {a : Addr} {t g : List Int} (h : PlB K H a t g) : Drawn (val t g) := by
  obtain ⟨⟨p, q, h1, h2, h3, t0, t1, g0, g1, pt, sm⟩, g4, bg, bt⟩ := h
  exact ⟨perT_val t0 (dvd12 g0 g4), tail_val t0 g0 fun i hi => ⟨(sm i hi).1, bg i hi⟩, val_nonneg pt t0 g0 sm.small, val_le t0 g0 (by decide) bt bg⟩
end
section
variable {K : PySem.W.Frag} {C : Addr} {σ : L2.St} {H : Hp} {te : TE} {ta : TA} {f : Nat → Int}
theorem er_of {o : Addr} (h : Ev te σ H (.ref o)) (g : GrF K C H o f) : EvR K C te σ H f := fun H1 e Q q => h H1 e _ fun H2 e2 => q o H2 e2 (g.mono (e.trans e2))
theorem gr_updL {o Dl : Addr} {xs : List V} {u : HO} (h : GrF K C H o f) (hD : H Dl = some (.lst xs)) : GrF K C (L2.upd H Dl u) o f := by
  obtain ⟨t, g, ⟨dx, x, y, z, h1, h2, h3, h4, h5⟩, h6⟩ := h
  have tup : ∀ {q : Addr} {ys : List V}, SqT K H q ys → SqT K (L2.upd H Dl u) q ys := fun {q ys} s => by
    rcases s with (s | ⟨w, s⟩) | s
    · exact .inl (.inl (by rw [upd_ne (fun e => by rw [e, hD] at s; cases s)]; exact s))
    · exact .inl (.inr ⟨w, by rw [upd_ne (fun e => by rw [e, hD] at s; cases s)]; exact s⟩)
    · exact .inr s
  exact ⟨t, g, ⟨dx, x, y, z, by rw [upd_ne (fun e => by rw [e, hD] at h1; cases h1)]; exact h1, tup h2, tup h3, tup h4, h5⟩, h6⟩
end
theorem PlB.keep {K : PySem.W.Frag} {H H' : Hp} {p l a : Addr} {cells : List Int} {m : Nat} {t g : List Int} (h : PlB K H a t g) (hP : PenAt H p l cells m) (kp : Keep p H H') : PlB K H' a t g := ⟨Pl.keep hP kp h.1, h.2⟩
theorem yes_i {σ : L2.St} {H : Hp} {A B : Hp → Prop} (h : A H) : tYes σ H (fun b H3 => if b = true then A H3 else B H3) := iteT (A := A H) (B := B H) h
end K07
namespace K07
open PySem L2 Evl Gr ClX OwX StX
/-! ### the text of a growth -/
def tx (x : Int) : Str := toString x
def tv : V → V
  | .int i => .str (tx i)
  | x => x
def wordsG (t g : List Int) : List Str := t.map tx ++ (("then" : Str) :: g.map tx)
def strG (t g : List Int) : Str := Txt.join " " (wordsG t g)
/-- a number that is not too great, or a short text -/
def okV (x : V) : Prop := (∃ i : Int, x = .int i ∧ 0 ≤ i ∧ i < 10 ^ 60) ∨ x = .str "then"
theorem given_map {l : List V} {f : V → V} : given l.length (fun _ => true) (fun n => f (l.getD n .non)) = l.map f := by
  rw [given_all]
  refine List.ext_getElem (by rw [List.length_map, List.length_map, List.length_range]) fun i h1 h2 => ?_
  rw [List.length_map] at h2
  rw [List.getElem_map, List.getElem_map, List.getElem_range, List.getD_eq_getElem?_getD, List.getElem?_eq_getElem h2]
  rfl
theorem words_tv {t g : List Int} : (vI t ++ (V.str "then" :: vI g)).map tv = (wordsG t g).map V.str := by
  unfold wordsG vI
  rw [List.map_append, List.map_append, List.map_cons, List.map_cons, List.map_map, List.map_map, List.map_map, List.map_map]
  rfl
theorem tx_len {x : Int} (h0 : 0 ≤ x) (h1 : x < 10 ^ 60) : (tx x).length ≤ 60 := PyProof.Rows.toString_length_le h0 (by decide) h1
theorem log_small {x : Int} (h0 : 0 ≤ x) (h1 : x < 10 ^ 60) : x.natAbs.log2 < 1920 := by
  have e : (10 : Int) ^ 60 = 1000000000000000000000000000000000000000000000000000000000000 := by decide
  rw [e] at h1
  have z : x.natAbs < 2 ^ 200 := by
    have : (2 : Nat) ^ 200 = 1606938044258990275541962092341162602522202993782792835301376 := by decide
    rw [this]
    omega
  exact Nat.lt_trans (PySem.Flt.log2_lt_of (by decide) z) (by decide)
theorem sum_le {ys : List Str} (h : ∀ y ∈ ys, y.length ≤ 60) : (ys.map (·.length)).sum ≤ 60 * ys.length := by
  induction ys with
  | nil => exact Nat.le_refl _
  | cons y ys ih =>
    rw [List.map_cons, List.sum_cons, List.length_cons]
    have a := h y (List.mem_cons_self ..)
    have b := ih fun z hz => h z (List.mem_cons_of_mem _ hz)
    omega
section
variable {K : PySem.W.Frag} {σ : L2.St} {H : Hp} {te : TE} {t : TA}
theorem ea_star {p : Addr} {xs ys : List V} (h : Ev te σ H (.ref p)) (hs : Sq K H p xs) (hr : EvA t σ H ys) : EvA (tStar K te t) σ H (xs ++ ys) := fun H1 e Q q =>
  h H1 e _ fun H2 e2 => ⟨p, xs, rfl, (hs.mono (e.trans e2)).symm, hr H2 (e.trans e2) _ fun H3 e3 => q H3 (e2.trans e3)⟩
abbrev rStrV : List V → Hp → VK → Prop := fun xs H Q => (∃ i, xs = [V.int i] ∧ i.natAbs.log2 < 1920 ∧ Q (.str (toString i)) H) ∨ ∃ a, xs = [V.str a] ∧ Q (.str a) H
theorem rc_strV {x : V} (h : okV x) : RC rStrV [x] H (tv x) := fun H1 e Q q => by
  rcases h with ⟨i, rfl, h0, h1⟩ | rfl
  · exact .inl ⟨i, rfl, log_small h0 h1, q H1 (Ex.refl H1)⟩
  · exact .inr ⟨_, rfl, q H1 (Ex.refl H1)⟩
end
section
variable {P : Program} {w : World} {K : PySem.W.Frag} {mg : Str → Option Value} {base : Heap}
/-! ### Growth.__str__ -/
def spStr (K : PySem.W.Frag) (C : Addr) : Sp := fun vs H Q _ => ∃ (o : Addr) (t g : List Int), vs = [.ref o] ∧ GrAt K C H o t g ∧ Pos t ∧ (∀ i, i < t.length → at' t i < 10 ^ 60) ∧ RetV (.str (strG t g)) H Q
theorem scStr : FnScope ["self", "value"] ["self"] (defScope (sGr 21)) := ⟨rfl, rfl, rfl, by decide +kernel, rfl, by decide +kernel, by decide +kernel⟩
theorem ok_Str {C f : Addr} {fd : FuncData} (F : Fun K "__str__" "Growth.__str__" (sGr 21) f fd) (G : GCls K C) (TT : GlbT mg) : FnOk P w K mg base CX0 1 f fd ["self"] (spStr K C) := by
  refine F.ok scStr (fun vs H Q E h => ?_) (fun cdv A outer s H vs Q E hr h => ?_)
  · obtain ⟨o, t, g, rfl, _⟩ := h
    rfl
  · obtain ⟨o, t, g, rfl, hO, pt, bt, k⟩ := h
    refine ⟨_, pss_one (ps_ret (pe_join pe_str (pe_lc (own := [("value", 1)]) (g := gName 1) rfl scStr.nd (pi_list (pe_lst (pa_star (pe_fld (pv 0) rfl) (pa_cons pe_str (pa_star (pe_fld (pv 0) rfl) pa_nil)))))
      (blkOk_by (own := [("value", 1)]) (N := ["self", "value"]) (sc := defScope (sGr 21)) (by decide +kernel)) (fun _ _ _ _ _ => pg_name (i := 1) scStr.nd rfl (Or.inl rfl)) (fun _ _ _ _ _ => pts_nil)
      (fun _ _ _ _ _ => pe_callTy call_strV (by rfl) TT.str (by decide +kernel) (pa_cons (pv 1) pa_nil))))), ?_⟩
    obtain ⟨dx, p, q, r, h1, h2, h3, h4, nf, t2, g2, sm⟩ := hO
    have L : EvL (tLst (tStar K (tFld K (tVar 0) "told") (tCons (tC (.str "then")) (tStar K (tFld K (tVar 0) "gains") tNil)))) [some (.ref o), none] H (vI t ++ (V.str "then" :: (vI g ++ []))) :=
      el_lst (ea_star (ev_fld (ev_var rfl) h1 G.cls G.told rfl) (.inr h2) (ea_cons ev_c (ea_star (ev_fld (ev_var rfl) h1 G.cls G.gains rfl) (.inr h3) ea_nil))) (by
        rw [List.append_nil, List.length_append, List.length_cons, vI_len, vI_len]
        omega)
    rw [List.append_nil] at L
    have all : ∀ x ∈ vI t ++ (V.str "then" :: vI g), okV x := fun x hx => by
      have num : ∀ {l : List Int}, (∀ i, i < l.length → 0 ≤ at' l i ∧ at' l i < 10 ^ 60) → x ∈ vI l → okV x := fun {l} hl hm => by
        obtain ⟨z, hz, rfl⟩ := List.mem_map.mp hm
        obtain ⟨i, hi, rfl⟩ := List.getElem_of_mem hz
        have b := hl i hi
        have e : at' l i = l[i] := by
          unfold at'
          rw [List.getD_eq_getElem?_getD, List.getElem?_eq_getElem hi]
          rfl
        rw [e] at b
        exact .inl ⟨_, rfl, b.1, b.2⟩
      rcases List.mem_append.mp hx with hm | hm
      · exact num (fun i hi => ⟨pt i hi, bt i hi⟩) hm
      · rcases List.mem_cons.mp hm with rfl | hm
        · exact .inr rfl
        · refine num (fun i hi => ⟨(sm i hi).1, Int.lt_of_le_of_lt (sm i hi).2 (by decide)⟩) hm
    have M := el_lcNL (K := K) (σ := [some (.ref o), none]) (H := H) (t := tYes) (te := tCB rStrV (tCons (tVar 1) tNil)) (j := 1) (vs := [1]) (fun _ => true) (fun n => tv ((vI t ++ (V.str "then" :: vI g)).getD n .non)) L (by
        rw [List.length_append, List.length_cons, vI_len, vI_len]
        omega) (fun _ => rfl) (fun i x H1 _ _ => et_none) (fun i x H1 e1 hx _ => by
        have e : (vI t ++ (V.str "then" :: vI g)).getD i .non = x := by
          rw [List.getD_eq_getElem?_getD, hx]
          rfl
        rw [e]
        exact ev_cb (ea_cons (ev_var rfl) ea_nil) (rc_strV (all x (List.mem_of_getElem? hx))))
    rw [given_map, words_tv] at M
    refine ⟨⟨_, rfl⟩, M H (Ex.refl H) _ fun a H1 ha e1 h => ⟨" ", a, wordsG t g, rfl, rfl, .inl (sq_of h), ?_, k H1 e1⟩⟩
    have wl : (wordsG t g).length ≤ 4001 := by
      unfold wordsG
      rw [List.length_append, List.length_cons, List.length_map, List.length_map]
      omega
    have sl := sum_le (ys := wordsG t g) fun y hy => by
      have hm : V.str y ∈ (wordsG t g).map V.str := List.mem_map.mpr ⟨y, hy, rfl⟩
      rw [← words_tv] at hm
      obtain ⟨x, hx, ex⟩ := List.mem_map.mp hm
      rcases all x hx with ⟨i, rfl, h0, h1⟩ | rfl
      · cases ex
        exact tx_len h0 h1
      · cases ex
        decide
    have one : (" " : Str).length = 1 := rfl
    rw [one]
    omega
end
end K07
namespace K07
open PySem L2 Gr
/-! ### the words of a text -/
inductive Wd where
  | num (n : Nat)
  | thn
  | bad (k : Fin 7)
deriving DecidableEq
def badS : Nat → Str
  | 0 => ""
  | 1 => "01"
  | 2 => "-1"
  | 3 => "a"
  | 4 => "0000000"
  | 5 => "3\n"
  | _ => "-"
def Wd.t : Wd → Str
  | .num n => tx (n : Int)
  | .thn => "then"
  | .bad k => badS k.val
def OkW (ws : List Wd) : Prop := ∀ n, Wd.num n ∈ ws → n < 10 ^ 60
def pg (ws : List Wd) : Str := Txt.join " " (ws.map Wd.t)
theorem tl_tx (n : Nat) : TL.tl (tx (n : Int)) = TL.numL n := TL.tl_num n
theorem bad_free : ∀ k : Fin 7, 32 ∉ TL.tl (badS k.val) := by decide +kernel
theorem free_w (w : Wd) : 32 ∉ TL.tl w.t := by
  cases w with
  | num n => show 32 ∉ TL.tl (tx (n : Int)); rw [tl_tx]; exact TL.numL_free (by decide)
  | thn => decide +kernel
  | bad k => exact bad_free k
theorem split_pg {ws : List Wd} (h : ws ≠ []) : Txt.split (pg ws) " " = ws.map Wd.t :=
  TL.split_join (y := " ") (s := 32) (S := []) (by decide +kernel) (by decide +kernel) (fun e => h (List.map_eq_nil_iff.mp e)) fun p hp => by
    obtain ⟨w, _, rfl⟩ := List.mem_map.mp hp
    exact free_w w
theorem dig_ok : ∀ c, c < 58 → 48 ≤ c → Unicode.isDigit c = true := by decide +kernel
theorem tx_cps (n : Nat) : (tx (n : Int)).cps.toList = TL.numL n := tl_tx n
theorem tx_ascii (n : Nat) : Txt.isascii (tx (n : Int)) = true := by
  unfold Txt.isascii
  rw [← Array.all_toList, tx_cps, List.all_eq_true]
  intro c hc
  have := TL.numL_digits n c hc
  exact decide_eq_true (by omega)
theorem tx_digit (n : Nat) : Txt.isdigit (tx (n : Int)) = true := by
  unfold Txt.isdigit
  rw [← Array.all_toList, tx_cps, Bool.and_eq_true]
  refine ⟨decide_eq_true ?_, List.all_eq_true.mpr fun c hc => ?_⟩
  · rw [TL.len_tl, tl_tx]
    exact List.length_pos_iff.mpr (TL.numL_ne n)
  · have := TL.numL_digits n c hc
    exact dig_ok c (by omega) (by omega)
theorem numL_head {n : Nat} (h : 0 < n) : ∃ c r, TL.numL n = c :: r ∧ c ≠ 48 := by
  induction n using Nat.strongRecOn with
  | _ n ih =>
    by_cases z : n < 10
    · exact ⟨_, _, TL.numL_lt z, by omega⟩
    · obtain ⟨c, r, e, hc⟩ := ih (n / 10) (by omega) (by omega)
      exact ⟨c, r ++ [48 + n % 10], by rw [TL.numL_step (by omega), e]; rfl, hc⟩
theorem tx_lead (n : Nat) : (decide (1 < ((tx (n : Int)).length : Int)) && Txt.startswith (tx (n : Int)) "0") = false := by
  by_cases z : n = 0
  · subst z
    decide +kernel
  · obtain ⟨c, r, e, hc⟩ := numL_head (n := n) (by omega)
    refine Bool.and_eq_false_iff.mpr (.inr ?_)
    unfold Txt.startswith
    refine Bool.and_eq_false_iff.mpr (.inr ?_)
    unfold PySem.Builtin.Str.subAt
    rw [beq_eq_false_iff_ne]
    intro h
    have h2 := congrArg Array.toList h
    rw [Array.toList_extract, tx_cps, e] at h2
    have h3 : (("0" : Str)).cps.toList = [48] := by decide +kernel
    rw [h3] at h2
    have h4 : (("0" : Str)).length = 1 := by decide +kernel
    rw [h4] at h2
    have : c = 48 := by simpa [List.extract] using h2
    exact hc this
theorem tx_int {n : Nat} (h : n < 10 ^ 60) : intText? (tx (n : Int)) = some (n : Int) := TL.int_num (Nat.le_trans (TL.numL_len (k := 60) (by decide) h) (by decide))
theorem txN_len {n : Nat} (h : n < 10 ^ 60) : (tx (n : Int)).length ≤ 60 := by
  rw [TL.len_tl, tl_tx]
  exact TL.numL_len (by decide) h
theorem txN_pos (n : Nat) : 1 ≤ (tx (n : Int)).length := by
  rw [TL.len_tl, tl_tx]
  exact List.length_pos_iff.mpr (TL.numL_ne n)
/-- the words that are no numbers -/
theorem bad_look : ∀ k : Fin 7, (Txt.isascii (badS k.val) && Txt.isdigit (badS k.val) && !(decide (1 < ((badS k.val).length : Int)) && Txt.startswith (badS k.val) "0")) = false := by decide +kernel
theorem bad_ne : ∀ k : Fin 7, badS k.val ≠ "then" := by decide +kernel
theorem bad_len : ∀ k : Fin 7, (badS k.val).length ≤ 7 := by decide +kernel
theorem tx_inj {m n : Nat} (h : tx (m : Int) = tx (n : Int)) : m = n := TL.numL_inj (by rw [← tl_tx, ← tl_tx, h])
theorem tx_then (n : Nat) : tx (n : Int) ≠ "then" := fun h => by
  have e := congrArg TL.tl h
  rw [tl_tx] at e
  have : (116 : Nat) ∈ TL.numL n := by rw [e]; decide +kernel
  exact TL.numL_free (by decide) this
theorem then_iff (w : Wd) : w.t = "then" ↔ w = .thn := by
  cases w with
  | num n => exact ⟨fun h => absurd h (tx_then n), fun h => by cases h⟩
  | thn => exact ⟨fun _ => rfl, fun _ => rfl⟩
  | bad k => exact ⟨fun h => absurd h (bad_ne k), fun h => by cases h⟩
theorem w_len {w : Wd} (h : ∀ n, w = .num n → n < 10 ^ 60) : w.t.length ≤ 60 := by
  cases w with
  | num n => exact txN_len (h n rfl)
  | thn => decide +kernel
  | bad k => exact Nat.le_trans (bad_len k) (by decide)
/-! ### numbers ahead, what is due -/
/-- the numbers at the head of some words -/
def nums : List Wd → List Nat
  | .num n :: r => n :: nums r
  | _ => []
theorem nums_len (ws : List Wd) : (nums ws).length ≤ ws.length := by
  induction ws with
  | nil => exact Nat.le_refl 0
  | cons w ws ih =>
    cases w with
    | num n => show (nums ws).length + 1 ≤ ws.length + 1; omega
    | thn => exact Nat.zero_le _
    | bad k => exact Nat.zero_le _
theorem nums_at {ws : List Wd} {i : Nat} (h : i < (nums ws).length) : ws[i]? = some (.num ((nums ws).getD i 0)) := by
  induction ws generalizing i with
  | nil => exact absurd h (Nat.not_lt_zero _)
  | cons w ws ih =>
    cases w with
    | num n =>
      cases i with
      | zero => rfl
      | succ i =>
        have := ih (i := i) (by have h : i + 1 < (nums ws).length + 1 := h; omega)
        rw [List.getElem?_cons_succ, this]
        rfl
    | thn => exact absurd h (Nat.not_lt_zero _)
    | bad k => exact absurd h (Nat.not_lt_zero _)
theorem nums_stop {ws : List Wd} (h : (nums ws).length < ws.length) : ∃ w, ws[(nums ws).length]? = some w ∧ ∀ n, w ≠ .num n := by
  induction ws with
  | nil => exact absurd h (Nat.not_lt_zero _)
  | cons w ws ih =>
    cases w with
    | num n =>
      obtain ⟨w, e, hw⟩ := ih (by have h : (nums ws).length + 1 < ws.length + 1 := h; omega)
      exact ⟨w, by show (Wd.num n :: ws)[(nums ws).length + 1]? = _; rw [List.getElem?_cons_succ]; exact e, hw⟩
    | thn => exact ⟨.thn, rfl, fun n e => by cases e⟩
    | bad k => exact ⟨.bad k, rfl, fun n e => by cases e⟩
theorem nums_mem {ws : List Wd} {n : Nat} (h : n ∈ nums ws) : Wd.num n ∈ ws := by
  induction ws with
  | nil => cases h
  | cons w ws ih =>
    cases w with
    | num m =>
      rcases List.mem_cons.mp h with rfl | h
      · exact List.mem_cons_self
      · exact List.mem_cons_of_mem _ (ih h)
    | thn => cases h
    | bad k => cases h
def told (ws : List Wd) : List Nat := nums ws
def gainsW (ws : List Wd) : List Nat := nums (ws.drop ((nums ws).length + 1))
/-- the index of the first word that cannot stand -/
def due (ws : List Wd) : Option Nat :=
  if (nums ws).length = 0 then some 0
  else if ws[(nums ws).length]? ≠ some .thn then some (nums ws).length
  else if (gainsW ws).length = 0 ∨ (nums ws).length + 1 + (gainsW ws).length < ws.length then some ((nums ws).length + 1 + (gainsW ws).length)
  else none
theorem due_parts {ws : List Wd} (h : due ws = none) : ws = (told ws).map Wd.num ++ (.thn :: (gainsW ws).map Wd.num) ∧ 0 < (told ws).length ∧ 0 < (gainsW ws).length := by
  unfold due at h
  split at h
  · cases h
  · rename_i h1
    split at h
    · cases h
    · rename_i h2
      split at h
      · cases h
      · rename_i h3
        have h2' : ws[(nums ws).length]? = some .thn := Classical.byContradiction h2
        have all : ∀ us : List Wd, us.take (nums us).length = (nums us).map Wd.num := fun us => by
          induction us with
          | nil => rfl
          | cons w us ih =>
            cases w with
            | num n => show Wd.num n :: us.take (nums us).length = Wd.num n :: (nums us).map Wd.num; rw [ih]
            | thn => rfl
            | bad k => rfl
        have lt := (List.getElem?_eq_some_iff.mp h2').1
        have e1 : ws = ws.take (nums ws).length ++ (.thn :: ws.drop ((nums ws).length + 1)) := by
          have d := List.drop_eq_getElem_cons lt
          rw [(List.getElem?_eq_some_iff.mp h2').2] at d
          rw [← d, List.take_append_drop]
        have e2 : ws.drop ((nums ws).length + 1) = (gainsW ws).map Wd.num := by
          have := all (ws.drop ((nums ws).length + 1))
          rw [List.take_of_length_le] at this
          · exact this
          · show (ws.drop ((nums ws).length + 1)).length ≤ (gainsW ws).length
            rw [List.length_drop]
            omega
        refine ⟨?_, ?_, ?_⟩
        · conv => lhs; rw [e1, all, e2]
          rfl
        · show 0 < (nums ws).length; omega
        · omega
end K07
/-! an error that was caught, kept in a name behind its suite: isinstance of it, its fields -/
namespace EXC
open PySem PySem.Spec PyProof.Rows L2
/-- a caught error at a: its class, its own dict -/
def ExC (cls : Value) (d : Option Addr) (a : Addr) : HO := .ext fun h => ∃ (oe : Obj) (vs : Array Value), h.get? a = some oe ∧ Zc cls d oe ∧ oe.data = .fields vs
theorem exC_ok {P : Program} {w : World} {H : Hp} {h : Heap} {a : Addr} {cls : Value} {d : Option Addr} {oe : Obj} {vs : Array Value} (e : h.get? a = some oe) (z : Zc cls d oe) (hd : oe.data = .fields vs) : ObjOk P w H h a (ExC cls d a) :=
  ⟨⟨oe, vs, e, z, hd⟩, ⟨oe, e⟩, fun _ _ ⟨o, v, q, r⟩ k => ⟨o, v, k o q, r⟩⟩
section
variable {X : Cx} {pins : List (Addr × Obj)} {σ : L2.St} {H : Hp} {s : Shared} {a : Addr} {o : HO}
/-- what stands there untracked, and did not stand at the entry, is tracked from now on -/
theorem Inv.track {oe : Obj} {vs : Array Value} (I : Inv X pins σ H s) (here : s.heap.get? a = some oe) (hd : oe.data = .fields vs) (n : H a = none) (n0 : X.s_0.heap.get? a = none) (nL : a ≠ X.env.locals) (nP : ∀ p ∈ X.pn ++ pins, p.1 ≠ a)
    (ok : ObjOk X.prog X.w (upd H a o) s.heap a o) : Inv X pins σ (upd H a o) s := by
  have off : ∀ b, b ≠ a → upd H a o b = H b := fun b hb => upd_ne hb
  have ne0 : ∀ b u, X.s_0.heap.get? b = some u → b ≠ a := fun b u e z => by rw [z, n0] at e; cases e
  have neS : ∀ b u, H b = some u → b ≠ a := fun b u e z => by rw [z, n] at e; cases e
  have base : Un X.fs X.ex X.H_0 (upd H a o) X.s_0.heap s.heap := {
    keep := I.base.keep
    slot := I.base.slot
    free := fun b u e m x => by rw [off b (ne0 b u e)]; exact I.base.free b u e m x
    there := I.base.there
    tups := fun b xs e => by
      have q := I.base.tups b xs e
      rw [off b (neS b _ q)]; exact q
    frzs := fun b u v e => by
      have q := I.base.frzs b u v e
      rw [off b (neS b _ q)]; exact q
    tbls := fun b ps e => by
      obtain ⟨m, q⟩ := I.base.tbls b ps e
      exact ⟨m, by rw [off b (neS b _ q)]; exact q⟩ }
  refine ⟨I.ok, I.os, I.bare, base, I.loc, I.cell, ?_, fun x c e => ?_, fun p hp => ?_, I.hok.laidN (fun _ _ e => e) n ok, I.len⟩
  · rw [off _ nL.symm]; exact I.free
  · have ne : c ≠ a := fun z => by
      obtain ⟨v, oc, hc, hv⟩ := I.cell x c e
      rw [z, here] at hc
      cases hc
      rw [hd] at hv
      cases hv
    rw [off _ ne]
    exact I.freeC x c e
  · obtain ⟨q1, q2, q3⟩ := I.pin p hp
    exact ⟨q1, by rw [off _ (nP p hp)]; exact q2, q3⟩
end
/-- what the clause 'except x as n' (n in slot i) wishes of each error of the body; behind it the error is kept -/
def wHeld (K : PySem.W.Frag) (c : Value) (i : Nat) (ts : Addr → Value → Option Addr → TS) (D : Ends) : WX := fun cls d σ H => PySem.W.exmOne K cls c = some true ∧
  ∀ a, H a = none → ts a cls d { nx := fun σ2 H2 => D.nx (σ2.set i none) (upd H2 a (ExC cls d a)), rt := fun _ _ => False, bk := fun _ _ => False, ct := fun _ _ => False } (σ.set i (some (.ref a))) H
section
variable {X : Cx} {x n : Str} {c : Value} {i : Nat} {body suite : List Stmt} {b₀ : Stmt} {np pos pos' : Pos} {tb : WX → TS} {ts : Addr → Value → Option Addr → TS}
theorem ps_try_held (hs : X.stack = X.env :: X.outer) (hf : X.env.frame = some X.env.locals) (hex : X.ex = []) (nd : X.N.Nodup) (at_i : X.N[i]? = some n) (loc : X.env.kindOf n = some .local) (hc : Names X x c)
    (hb : ∀ (W : WX) (pn : List (Addr × Obj)) (xe : Value → Shared → Prop), Takes (X.tr pn xe) W → PassesOwn (model X.prog X.w) X.A X.env xe → PSs (X.tr pn xe) body (tb W))
    (hsu : ∀ (a : Addr) (oe : Obj) (cls : Value) (d : Option Addr) (pn : List (Addr × Obj)), Zc cls d oe → (∃ vs, oe.data = .fields vs) → PSs (X.suite a ((a, oe) :: pn)) (b₀ :: suite) (ts a cls d)) :
    PS X (.Try body [.ExceptHandler (some (.Name x np)) (some n) (b₀ :: suite) pos'] [] [] pos) (fun D σ H => tb (wHeld X.K c i ts D) D σ H) := by
  refine ⟨fun pins s σ H D I h => ?_⟩
  have ok := I.ok
  have frames : X.A.frames = some (X.env :: X.outer) := ok.frames.trans (congrArg some hs)
  let catch' : Value → Shared → Prop := fun e s1 => wpAny (model X.prog X.w) X.A (noteFrame e X.env) (fun _ s2 => wpAny (model X.prog X.w) X.A (setFlight e none) (fun _ s3 =>
    wpAny (model X.prog X.w) X.A (handleBy e X.env [.ExceptHandler (some (.Name x np)) (some n) (b₀ :: suite) pos']) (SP X pins D) X.xe s3) X.xe s2) X.xe s1
  have takes : Takes (X.tr (X.pn ++ pins) catch') (wHeld X.K c i ts D) := by
    rintro u s' ⟨a, B, sI, ps, σ1, H1, cls, d, rfl, J0, nb, up, sky, na, os, ag, hit, next⟩
    have J : Inv X pins σ1 H1 sI := J0.ofTry ok
    rw [show (X.tr (X.pn ++ pins) catch').stack = X.env :: X.outer from hs] at sky
    show wpAny (model X.prog X.w) X.A (noteFrame (.ref a) X.env) _ _ _
    refine Sky.land Zc.steady frames hf sky fun h3 fl3 up3 => ?_
    have J3 : Inv X pins σ1 H1 { s' with heap := h3 } := J.landed nb (by exact fl3.1) (up.trans up3) os ag
    obtain ⟨o3, f3, g3, z3, d3⟩ := fl3.there
    have apart : a ∉ frs (X.env :: X.outer) := fun hm => by
      obtain ⟨_, o, e, hno⟩ := fl3.2.2.1.mem hm
      rw [g3] at e
      cases e
      exact hno _ d3
    have nL : a ≠ X.env.locals := fun z => apart (List.mem_filterMap.mpr ⟨X.env, List.mem_cons_self, by rw [hf, z]⟩)
    have nF : a ∉ X.fs := fun hm => by
      obtain ⟨e, he, q⟩ := List.mem_filterMap.mp hm
      exact apart (List.mem_filterMap.mpr ⟨e, List.mem_cons_of_mem _ he, q⟩)
    have new : sI.heap.get? a = none := by
      cases q : sI.heap.get? a with
      | none => rfl
      | some o =>
        have z := nb a o q (by rw [show (X.tr (X.pn ++ pins) catch').stack = X.env :: X.outer from hs]; exact apart)
        rw [fl3.2.1] at z
        cases z
    have new0 : X.s_0.heap.get? a = none := by
      cases q : X.s_0.heap.get? a with
      | none => rfl
      | some o =>
        obtain ⟨o2, z⟩ := J.base.there a o q (by rw [hex]; exact List.not_mem_nil)
        rw [new] at z
        cases z
    have unpinned : ∀ p ∈ X.pn ++ pins, p.1 ≠ a := fun p hp z => by
      have q := (J.pin p hp).1
      rw [z, new] at q
      cases q
    have S3 := J3.suite g3 d3 na nL nF
    refine wpAny_handleBy_cons (codeAny_handlers_test ?_) (by intro q; cases q)
    have looks : PySem.W.Looks (model X.prog X.w) h3 (typeOf (.ref a)) cls := fun _ _ _ _ k q => wpAny_typeOf_ref (k _ _ g3) (by rw [z3.1]; exact q)
    have hits := PySem.W.exm_one (M := model X.prog X.w) J3.kIn looks hit
    have named : ∀ {Q E : Value → Shared → Prop}, Q c { s' with heap := h3 } → wpAny (model X.prog X.w) (X.A.mark (some (.ref a))) (eval (.Name x np) X.env) Q E { s' with heap := h3 } := fun {Q E} q => by
      obtain ⟨g, nodbg, m | ⟨m, v, w⟩⟩ := hc
      · exact ld_glob (X := X.suite a ((a, o3) :: (X.pn ++ pins))) S3 g m q nodbg
      · exact ld_blt (X := X.suite a ((a, o3) :: (X.pn ++ pins))) S3 g m v q w nodbg
    refine named (hits.here (codeAny_handlers_suite_as (HandSPX.lands_againZ fl3 fun h4 fl4 up4 => ?_)))
    have J4 : Inv X pins σ1 H1 { s' with heap := h4 } := J.landed nb (by exact fl4.1) ((up.trans up3).trans up4) os ag
    obtain ⟨o4, f4, g4, z4, d4⟩ := fl4.there
    refine store_ok (X := X.suite a ((a, o4) :: (X.pn ++ pins))) (v := .ref a) (J4.suite g4 d4 na nL nF) nd at_i (.inl loc) rfl (fun s5 S5 => ?_) (.inr loc)
    refine wpAny_mono ((hsu a o4 cls d (X.pn ++ pins) z4 ⟨_, d4⟩).run [] s5 _ H1 _ S5 (next a na)) (fun fl s6 back => ?_) (fun _ _ z => z.elim)
    cases fl with
    | next =>
      obtain ⟨σ6, H6, S6, q6⟩ := back
      refine gone_ok (X := X.suite a ((a, o4) :: (X.pn ++ pins))) S6 nd at_i loc fun s7 S7 => ?_
      obtain ⟨p1, p2, _⟩ := S7.pin (a, o4) (List.mem_append_left _ List.mem_cons_self)
      exact ⟨_, _, Inv.track (S7.unsuite ok) p1 d4 p2 new0 nL unpinned (exC_ok p1 z4 d4), q6⟩
    | brk =>
      obtain ⟨_, _, _, z⟩ := back
      exact False.elim z
    | cont =>
      obtain ⟨_, _, _, z⟩ := back
      exact False.elim z
    | ret u =>
      obtain ⟨_, _, _, _, _, z⟩ := back
      exact False.elim z
  refine wpAny_Try_except (wpAny_mono ((hb _ _ catch' takes PassesOwn.looking).run [] s σ H D (I.toTry _) h) (fun fl s1 back => ?_) fun _ _ z => z)
  cases fl with
  | next =>
    obtain ⟨σ1, H1, J, q⟩ := back
    exact wpAny_execs_nil ⟨σ1, H1, J.ofTry ok, q⟩
  | brk =>
    obtain ⟨σ1, H1, J, q⟩ := back
    exact ⟨σ1, H1, J.ofTry ok, q⟩
  | cont =>
    obtain ⟨σ1, H1, J, q⟩ := back
    exact ⟨σ1, H1, J.ofTry ok, q⟩
  | ret u =>
    obtain ⟨v, σ1, H1, J, r, q⟩ := back
    exact ⟨v, σ1, H1, J.ofTry ok, r, q⟩
end
/-! ### isinstance of it, a field of it -/
def Dct (H : Hp) (d : Option Addr) : Prop := ∀ dd, d = some dd → ∃ fs, H dd = some (.xd fs)
theorem inst_of {X : Cx} {pins : List (Addr × Obj)} {σ : L2.St} {H : Hp} {s : Shared} {a C : Addr} {d : Option Addr} (I : Inv X pins σ H s) (ha : H a = some (ExC (.ref C) d a)) (hd : Dct H d) : ∃ ox od, PySem.W.InstAt s.heap a ox C od := by
  obtain ⟨⟨oe, vs, ho, hz, hf⟩, _, _⟩ := I.hok a _ ha
  have nc : PySem.W.notCls oe = true := by unfold PySem.W.notCls; rw [hf]
  cases d with
  | none => exact ⟨oe, none, ho, hz.1, nc, by rw [hz.2]; exact True.intro⟩
  | some dd =>
    obtain ⟨fs, e⟩ := hd dd rfl
    obtain ⟨mA, hns, _⟩ := (show ObjOk X.prog X.w H s.heap dd (.xd fs) from I.hok dd _ e)
    obtain ⟨od, hod, _⟩ := lookIn_ns hns
    exact ⟨oe, some od, ho, hz.1, nc, by rw [hz.2]; exact hod⟩
structure XcC (K : PySem.W.Frag) (C : Addr) : Prop where
  hcl : (PySem.W.clsIn K C).isSome = true
  hga : PySem.W.findIn K (.ref C) "__getattribute__" = some (some (.builtin "BaseException.__getattribute__"))
  hgt : PySem.W.findIn K (.ref C) "__getattr__" = some none
  hsub : PySem.W.subIn K (.ref C) (.type "BaseException") = some true
  hdct : PySem.W.hasDictIn K C = true
  ha : PySem.W.findIn K (.ref C) "__class__" = some (some (.builtin "object.__class__"))
  hn : PySem.W.specialIn K (.builtin "object.__class__") "__get__" = some (some (.builtin "getset_descriptor.__get__"))
  htk : PySem.W.takesIn K (.builtin "object.__class__") = some true
  hm : PySem.W.mroIn K C (.type "object") = some true
def rXc (K : PySem.W.Frag) : List V → Hp → VK → Prop := fun xs H Q => ∃ (a C : Addr) (d : Option Addr) (c : V) (u : Value) (b : Bool), xs = [.ref a, c] ∧ ClsV c u ∧ H a = some (ExC (.ref C) d a) ∧ Dct H d ∧ XcC K C ∧ PySem.W.kitOne K (.ref C) u = some b ∧ Q (.bl b) H
theorem call_xc {X : Cx} : CallR X (.builtin "isinstance") (rXc X.K) := by
  intro pins s σ H xs us Q I r h
  obtain ⟨a, C, d, c, u, b, rfl, k, xa, xd, T, e, q⟩ := h
  obtain ⟨u1, u2, rfl, r1, r2⟩ := vals2 r
  have e2 := k.eq r2
  subst e2
  obtain rfl : u1 = Value.ref a := r1
  obtain ⟨ox, od, J⟩ := inst_of I xa xd
  exact PySem.W.kia_one (PySem.W.kitx_exc T.hcl T.hga T.hgt T.hsub T.ha T.hn T.htk T.hm) I.kIn J e (fun z => nomatch z) fun tk => ⟨.bl b, H, I.tok tk, rfl, q⟩
/-- e.f, e a caught error -/
def tXcF (K : PySem.W.Frag) (f : Str) (te : TE) : TE := fun σ H Q => te σ H fun x H1 => ∃ (a C d : Addr) (fs : List (Str × V)) (v : V), x = .ref a ∧ H1 a = some (ExC (.ref C) (some d) a) ∧ H1 d = some (.xd fs) ∧ XcC K C ∧ PySem.W.findIn K (.ref C) f = some none ∧ fs.lookup f = some v ∧ Q v H1
theorem pe_xcF {X : Cx} {e : Expr} {te : TE} {pos : Pos} {n : Str} (he : PE X e te) (hb : attributeBase e n X.env (eval e X.env) = eval e X.env := by rfl) : PE X (.Attribute e n pos) (tXcF X.K n te) := by
  refine ⟨fun pins s σ H Q I h => attr_of hb (thn (he.run pins s σ H _ I h) fun u s1 ⟨x, H1, J, rx, a, C, d, fs, v, ex, ea, ed, T, own, l, q⟩ => ?_)⟩
  subst ex
  obtain rfl : u = Value.ref a := rx
  obtain ⟨⟨oe, vs, ho, hz, hf⟩, _, _⟩ := J.hok a _ ea
  obtain ⟨mA, hns, rel⟩ := (show ObjOk X.prog X.w H1 s1.heap d (.xd fs) from J.hok d _ ed)
  obtain ⟨od, hod, found⟩ := lookIn_ns hns
  obtain ⟨u2, hu, ru⟩ := RelO.some_of (v := v) (o := mA n) (l ▸ rel n)
  have at_ : PySem.W.InstAt s1.heap a oe C (some od) := ⟨ho, hz.1, by unfold PySem.W.notCls; rw [hf], by rw [hz.2]; exact hod⟩
  exact HandSPX.exc_get J.kIn at_ T.hga T.hgt T.hsub (PySem.W.findObj_own T.hdct own rfl (by rw [found, hu])) (handed_of ru) ⟨v, H1, J.tok _, ru, q⟩
end EXC
/-! C.m(k = v) of a class method; x(e, ..), x a name of the def that holds a class -/
namespace ClK
open PySem PySem.Spec PyProof.Rows L2 ClX StX
section
variable {X : Cx} {CX : CXT} {k : Nat} {C p g f : Addr} {mc : Value} {fd : FuncData} {ps ks : List Str} {sp : Sp} {E : XK} {o e : Expr} {es : List Expr} {x m : Str} {pos apos p1 : Pos} {ta : TE} {tk t : TA} {pl : Sem Bool} {kws : List Keyword} {gg : List Value → List Value → List Value} {gV : List V → List V → List V} {i : Nat}
/-- C.m(k = v, ..), keywords alone, m a class method -/
theorem pe_cmethK (he : PE X o ta) (r : CRead X.K C mc) (c : CMet X.K C mc m p g) (F : FnOk X.prog X.w X.K X.mg X.base CX k g fd ps sp) (hr : Room k X.A) (hx : Passes CX X E) (hb : KBn X.K fd ps 1 ks gg gV) (hkw : PK X kws tk)
    (some_ : (backToKw pos (keywordEach kws X.env)).all (·.1.isSome) = true := by rfl) (names : (backToKw pos (keywordEach kws X.env)).filterMap (·.1) = ks := by rfl)
    (none_ : ((backTo pos (starEach [] X.env)).any (·.1) || (backToKw pos (keywordEach kws X.env)).any (·.1.isNone)) = false := by rfl)
    (form : eval (.Call (.Attribute o m apos) [] kws pos) X.env = (do let ov ← eval o X.env; standAt apos.atName; let (f, first) ← holding [ov] (getMethod ov m pl); callWith pos f first (backTo pos (starEach [] X.env)) (backToKw pos (keywordEach kws X.env))) := by rfl) :
    PE X (.Call (.Attribute o m apos) [] kws pos) (fun σ H Q => ta σ H fun x H1 => x = .ref C ∧ tk σ H1 fun zs H2 => zs.length = ks.length ∧ sp (gV [.ref C] zs) H2 Q E) := by
  refine ⟨fun pins s σ H Q I h => PySem.W.methodCall_KW (pl := pl) (thn (he.run pins s σ H _ I h) fun u s1 ⟨x, H1, I1, rx, ex, q⟩ => ?_) form⟩
  subst ex
  cases (show u = Value.ref C from rx)
  refine getmethcm_ok I1 r c fun s2 I2 => ?_
  refine PySem.W.callWith_of (P := PySem.W.MethP X.K s1.heap.objs.size g (.ref C)) none_ (PySem.W.keeps_M c.fi) (PyProof.Rows.evalArgs_kw2_nil some_ (thn (hkw.run pos _ s2 σ H1 _ I2 q) fun ws s3 ⟨zs, H2, I3, rz, l2, q2⟩ => ⟨⟨pin_at I3, I3.kIn⟩, ?_⟩))
  rw [names]
  have went : wpAny (model X.prog X.w) X.A (call (.ref s1.heap.objs.size) [] (ks.zip ws)) (EP X ((s1.heap.objs.size, PySem.W.methodObj (.ref g) (.ref C)) :: pins) σ Q) X.xe s3 := by
    refine wpAny_call (PySem.W.method_call (pin_at I3) (codeAny_mono (F.run X.A X.stack s3 H2 ⟨[.ref C], ks.zip ws⟩ (gg [.ref C] ws) (gV [.ref C] zs) Q E hr I3.env0 (hb.to s3 [.ref C] ws I3.kIn rfl (rz.length.symm.trans l2)) (hb.rel (.cons rfl .nil) rz) q2) fun r s' back => ?_))
    match r, back with
    | .error er, z => exact hx _ _ _ _ _ _ I3 z
    | .ok (.ret u), z => exact I3.after z
    | .ok .next, z => exact z.elim
    | .ok .brk, z => exact z.elim
    | .ok .cont, z => exact z.elim
  exact thn went fun _ _ y => unpinE y
/-- x(e, ..), x a name of the def (slot i) that holds the class at C -/
def tMakeL (i : Nat) (C : Addr) (sp : Sp) (E : XK) (t : TA) : TE := fun σ H Q => σ[i]? = some (some (.ref C)) ∧ tMakeR C sp E t σ H Q
theorem pe_makeL (M : Mk X.K C f) (F : FnR X.prog X.w X.K X.mg X.base CX k f sp) (hr : Room (k + 1) X.A) (hN : X.N[i]? = some x) (hv : Vis X.env.scope x) (hx : Passes CX X E) (ha : PA X (e :: es) t)
    (notDebug : (x == ("__debug__" : Str)) = false := by decide) (notDict : (x == ("__classdict__" : Str)) = false := by decide)
    (head : starEach (e :: es) X.env = (false, eval e X.env) :: starEach es X.env := by rfl) (plain : (backTo pos (starEach es X.env)).any (·.1) = false := by rfl) : PE X (.Call (.Name x p1) (e :: es) [] pos) (tMakeL i C sp E t) := by
  refine ⟨fun pins s σ H Q I ⟨hs, h⟩ => ?_⟩
  refine wpAny_Call_Name_kw (thn ((pe_var (pos := p1) (i := i) hN hv notDebug notDict).run pins s σ H (fun v H1 => v = .ref C ∧ H1 = H) I ⟨.ref C, hs, rfl, rfl⟩) fun u s1 ⟨v, H1, I1, r1, ev, eH⟩ => ?_)
  subst ev eH
  cases (show u = Value.ref C from r1)
  exact PySem.W.callWith_K (h₀ := X.base) I1.ok.mod.kin M.kp (thn (ha.run pos pins s1 σ _ _ I1 h) fun us s2 ⟨vs, H2, I2, r, q⟩ => ⟨I2.kIn, run_makeR M F hr hx I2 r q⟩) head plain
end
/-- nothing is let out where nothing is wished -/
theorem passN {P : Program} {w : World} {X : Cx} (hp : X.prog = P) (hw : X.w = w) : Passes (L2.CX P w) X E0 := fun _ _ _ _ _ _ _ ⟨_, _, _, _, _, _, _, _, _, _, _, _, z⟩ => z.elim
end ClK
namespace K07
open PySem L2 Evl
abbrev sCls (i : Nat) : Stmt := inClass (top i) 0
/-- what the written part says of an error class x, PostError at B -/
structure CB (K : PySem.W.Frag) (x : Str) (C B : Addr) : Prop where
  aC : PySem.W.nsIn K mainGlobals x = some (some (.ref C))
  xL : ∃ nm q N bs sn sub ab col dd k0 k1 k2 k3 k5, K.lookup C = some (excClassObj nm q C N bs [.ref B, .type "ValueError", .type "Exception", .type "BaseException", .type "object"] true sn sub ab col dd k0 k1 k2 k3 k5 "ValueError.__new__")
  sa : PySem.W.findIn K (.ref C) "__setattr__" = some (some (.builtin "object.__setattr__"))
  ga : PySem.W.findIn K (.ref C) "__getattribute__" = some (some (.builtin "BaseException.__getattribute__"))
  gg : PySem.W.findIn K (.ref C) "__getattr__" = some none
  cc : PySem.W.findIn K (.ref C) "__class__" = some (some (.builtin "object.__class__"))
  tC : PySem.W.typeIn K (.ref C) = some (.type "type")
  kC : PySem.W.keepIn K (.ref C) = true
/-- .. and of its __init__, the def st -/
structure CF (K : PySem.W.Frag) (x qual : Str) (st : Stmt) (C f B : Addr) : Prop where
  b : CB K x C B
  a1 : PySem.W.findIn K (.ref C) "__init__" = some (some (.ref f))
  l1 : ∃ (oc : Value) (od : Option Addr) (kV doc pm : Value) (an : Option Addr) (cdv ct : Value) (osl : Array (Option Value)),
    K.lookup f = some ⟨oc, od, .func (PySem.W.fnOf "__init__" qual (defArgs st) (defBody st) (defScope st) .none kV doc pm an cdv ct), osl⟩ ∧ PySem.W.codeIn K cdv qual = true
  k1 : PySem.W.keepIn K (.ref f) = true
  t1 : PySem.W.typeIn K (.ref f) = some (.type "function")
structure CG (K : PySem.W.Frag) : Prop where
  sp : PySem.W.specialIn K (.builtin "object.__class__") "__get__" = some (some (.builtin "getset_descriptor.__get__"))
  tk : PySem.W.takesIn K (.builtin "object.__class__") = some true
section
variable {K : PySem.W.Frag} {x qual : Str} {st : Stmt} {C f B : Addr}
theorem CB.cls (T : CB K x C B) : ∃ cd, PySem.W.clsIn K C = some cd ∧ cd.mro = [.ref C, .ref B, .type "ValueError", .type "Exception", .type "BaseException", .type "object"] ∧ cd.hasDict = true := by
  obtain ⟨nm, q, N, bs, sn, sub, ab, col, dd, k0, k1, k2, k3, k5, h⟩ := T.xL
  refine ⟨{ name := nm, bases := bs, mro := .ref C :: [.ref B, .type "ValueError", .type "Exception", .type "BaseException", .type "object"], ns := N, qualname := q, hasDict := true, slotNames := sn, subclasses := sub, abstract := ab, collection := col, hasDel := false }, ?_, rfl, rfl⟩
  unfold PySem.W.clsIn
  rw [h] <;> rfl
theorem CB.mro (T : CB K x C B) (v : Value) : PySem.W.mroIn K C v = some ([Value.ref C, .ref B, .type "ValueError", .type "Exception", .type "BaseException", .type "object"].contains v) := by
  obtain ⟨cd, h1, h2, _⟩ := T.cls
  unfold PySem.W.mroIn
  rw [h1, Option.bind_some, h2]
  rfl
theorem CB.ox (T : CB K x C B) : OexC K C := by
  obtain ⟨nm, q, N, bs, sn, sub, ab, col, dd, k0, k1, k2, k3, k5, h⟩ := T.xL
  exact ⟨⟨nm, q, N, bs, _, sn, sub, ab, col, dd, k0, k1, k2, k3, k5, h, rfl⟩, T.sa, (T.mro _).trans (by rfl), T.tC, T.kC⟩
theorem CB.hd (T : CB K x C B) : PySem.W.hasDictIn K C = true := by
  obtain ⟨cd, h1, h2, h3⟩ := T.cls
  unfold PySem.W.hasDictIn
  rw [h1]
  first | exact h3 | (simp [h3])
theorem CB.xf (T : CB K x C B) : XfC K C := ⟨T.ga, T.gg, (T.mro _).trans (by rfl), T.hd⟩
theorem CB.xc (T : CB K x C B) (G : CG K) : EXC.XcC K C := by
  obtain ⟨cd, h1, _⟩ := T.cls
  exact ⟨by rw [h1]; rfl, T.ga, T.gg, (T.mro _).trans (by rfl), T.hd, T.cc, G.sp, G.tk, (T.mro _).trans (by rfl)⟩
theorem CB.caught (T : CB K x C B) (h1 : PySem.W.subIn K (.ref B) (.type "BaseException") = some true) (h2 : PySem.W.hasDictIn K B = true) (h3 : PySem.W.typeIn K (.ref B) = some (.type "type")) : PySem.W.exmOne K (.ref C) (.ref B) = some true :=
  PySem.W.exm_ref h1 h2 h3 ((T.mro _).trans (by simp))
theorem CF.fn (T : CF K x qual st C f B) : ∃ fd, Fun K "__init__" qual st f fd := by
  obtain ⟨oc, od, kV, doc, pm, an, cdv, ct, osl, h1, h2⟩ := T.l1
  exact ⟨_, fun_mk h1 h2 T.k1⟩
theorem eq_ref (a b : Addr) : (Value.ref a == Value.ref b) = decide (a = b) := by
  by_cases h : a = b
  · subst h
    simp
  · rw [decide_eq_false h]
    exact beq_eq_false_iff_ne.mpr fun z => h (Value.ref.inj z)
/-- isinstance of an instance of C, for another error class D -/
theorem CB.kit {x' : Str} {D : Addr} (T : CB K x C B) (U : CB K x' D B) (h : D ≠ B) : PySem.W.kitOne K (.ref C) (.ref D) = some (decide (D = C)) := by
  unfold PySem.W.kitOne PySem.W.kitCls
  by_cases e : C = D
  · subst e
    rw [if_pos (by simp), decide_eq_true rfl]
  · have e1 : (Value.ref C == Value.ref D) = false := by rw [eq_ref, decide_eq_false e]
    obtain ⟨cd, h1, _⟩ := U.cls
    rw [e1, if_neg Bool.false_ne_true]
    simp only [h1, U.tC, Option.isSome_some, beq_self_eq_true, Bool.and_self, if_true]
    refine (T.mro _).trans ?_
    rw [decide_eq_false (fun z => e z.symm)]
    simp [Ne.symm e, h, Ne.symm h]
theorem CB.kitB' (T : CB K x C B) (hB : ∃ cd, PySem.W.clsIn K B = some cd) (tB : PySem.W.typeIn K (.ref B) = some (.type "type")) : PySem.W.kitOne K (.ref C) (.ref B) = some true := by
  unfold PySem.W.kitOne PySem.W.kitCls
  by_cases e : C = B
  · subst e
    rw [if_pos (by simp)]
  · have e1 : (Value.ref C == Value.ref B) = false := by rw [eq_ref, decide_eq_false e]
    obtain ⟨cd, h1⟩ := hB
    rw [e1, if_neg Bool.false_ne_true]
    simp only [h1, tB, Option.isSome_some, beq_self_eq_true, Bool.and_self, if_true]
    refine (T.mro _).trans ?_
    simp
theorem CB.kitV (T : CB K x C B) : PySem.W.kitOne K (.ref C) (.type "ValueError") = some true := by
  unfold PySem.W.kitOne PySem.W.kitCls
  rw [if_neg (by simp)]
  show (if PySem.W.kitMeta "ValueError" = true then PySem.W.subIn K (.ref C) (.type "ValueError") else none) = some true
  rw [if_pos (by decide +kernel)]
  exact (T.mro _).trans (by rfl)
end
/-! ### __init__ of one field, of two -/
def spI1 (C : Addr) (n : Str) : Sp := fun vs H Q _ => ∃ (a : Addr) (v : V), vs = [.ref a, v] ∧ H a = some (exo a C none) ∧ ∀ d, H d = none → d ≠ a → Q .non (upd (upd H d (exd d [(n, v)])) a (exo a C (some d)))
def spI2 (C : Addr) (n m : Str) : Sp := fun vs H Q _ => ∃ (a : Addr) (v u : V), vs = [.ref a, v, u] ∧ H a = some (exo a C none) ∧ ∀ d, H d = none → d ≠ a → Q .non (upd (upd (upd H d (exd d [(n, v)])) a (exo a C (some d))) d (exd d [(m, u), (n, v)]))
section
variable {P : Program} {w : World} {K : PySem.W.Frag} {mg : Str → Option Value} {base : Heap}
theorem ok_I1 {x qual : Str} {st : Stmt} {C f B : Addr} {fd : FuncData} {n : Str} {p1 p2 p3 p4 : PySem.Pos} (T : CF K x qual st C f B) (F : Fun K "__init__" qual st f fd) (S : FnScope ["self", n] ["self", n] (defScope st)) (hb : defBody st = [Stmt.Assign [.Attribute (.Name "self" p1) n p2] (.Name n p3) p4])
    (l1 : (defScope st).names.lookup ("self" : Str) = some .local) (l2 : (defScope st).names.lookup n = some .local) (hd : (n == ("__debug__" : Str)) = false) (hcd : (n == ("__classdict__" : Str)) = false)
    (hno : PySem.W.findIn K (.ref C) n = some none) : FnOk P w K mg base CX0 1 f fd ["self", n] (spI1 C n) := by
  refine F.ok S (fun vs H Q E h => ?_) (fun cdv A outer s H vs Q E hr h => ?_)
  · obtain ⟨a, v, rfl, _⟩ := h
    rfl
  · obtain ⟨a, v, rfl, ha, k⟩ := h
    rw [hb]
    refine ⟨_, pss_one (ps_ost (pv 0 rfl (.inl l1)) (pv 1 rfl (.inl l2) hd hcd)), ?_⟩
    exact ⟨v, rfl, .ref a, rfl, a, C, rfl, T.b.ox, hno, .inl ⟨ha, fun d hd hda => k d hd hda⟩⟩
theorem ok_I2 {x qual : Str} {st : Stmt} {C f B : Addr} {fd : FuncData} {n m : Str} {p1 p2 p3 p4 q1 q2 q3 q4 : PySem.Pos} (T : CF K x qual st C f B) (F : Fun K "__init__" qual st f fd) (S : FnScope ["self", n, m] ["self", n, m] (defScope st))
    (hb : defBody st = [Stmt.Assign [.Attribute (.Name "self" p1) n p2] (.Name n p3) p4, Stmt.Assign [.Attribute (.Name "self" q1) m q2] (.Name m q3) q4])
    (l1 : (defScope st).names.lookup ("self" : Str) = some .local) (l2 : (defScope st).names.lookup n = some .local) (l3 : (defScope st).names.lookup m = some .local) (hd : (n == ("__debug__" : Str)) = false) (hcd : (n == ("__classdict__" : Str)) = false) (hd2 : (m == ("__debug__" : Str)) = false) (hcd2 : (m == ("__classdict__" : Str)) = false)
    (hno : PySem.W.findIn K (.ref C) n = some none) (hno2 : PySem.W.findIn K (.ref C) m = some none) : FnOk P w K mg base CX0 1 f fd ["self", n, m] (spI2 C n m) := by
  refine F.ok S (fun vs H Q E h => ?_) (fun cdv A outer s H vs Q E hr h => ?_)
  · obtain ⟨a, v, u, rfl, _⟩ := h
    rfl
  · obtain ⟨a, v, u, rfl, ha, k⟩ := h
    rw [hb]
    refine ⟨_, pss_cons (ps_ost (pv 0 rfl (.inl l1)) (pv 1 rfl (.inl l2) hd hcd)) (pss_one (ps_ost (pv 0 rfl (.inl l1)) (pv 2 rfl (.inl l3) hd2 hcd2))), ?_⟩
    refine ⟨v, rfl, .ref a, rfl, a, C, rfl, T.b.ox, hno, .inl ⟨ha, fun d hd hda => ?_⟩⟩
    exact ⟨u, rfl, .ref a, rfl, a, C, rfl, T.b.ox, hno2, .inr ⟨d, _, upd_same, by rw [upd_ne hda]; exact upd_same, by show 1 ≤ 900; decide, k d hd hda⟩⟩
end
end K07
namespace K07
open PySem L2 Evl Gr
/-! ### lists of numbers from zero -/
def zI (l : List Nat) : List Int := l.map fun n : Nat => (n : Int)
abbrev vN (l : List Nat) : List V := vI (zI l)
theorem zI_len {l : List Nat} : (zI l).length = l.length := List.length_map _
theorem vN_len {l : List Nat} : (vN l).length = l.length := by rw [vI_len, zI_len]
theorem zI_app {l k : List Nat} : zI (l ++ k) = zI l ++ zI k := List.map_append
theorem zI_inj {l k : List Nat} : zI l = zI k ↔ l = k := by
  constructor
  · intro h
    have := congrArg (List.map Int.toNat) h
    unfold zI at this
    have e : ∀ m : List Nat, m.map (Int.toNat ∘ fun n : Nat => (n : Int)) = m := fun m => by
      rw [show (Int.toNat ∘ fun n : Nat => (n : Int)) = id from funext fun n => Int.toNat_natCast n, List.map_id]
    rw [List.map_map, List.map_map, e, e] at this
    exact this
  · rintro rfl; rfl
theorem dec_zI {l k : List Nat} : decide (zI l = zI k) = decide (l = k) := by
  by_cases h : l = k
  · rw [decide_eq_true h, decide_eq_true (zI_inj.mpr h)]
  · rw [decide_eq_false h, decide_eq_false fun z => h (zI_inj.mp z)]
theorem vN_app {l : List Nat} {x : Nat} : vN l ++ [V.int (x : Int)] = vN (l ++ [x]) := by show vI (zI l) ++ _ = vI (zI (l ++ [x])); rw [vI_app, zI_app]; rfl
theorem vN_get {l : List Nat} {i : Nat} {x : V} (h : (vN l)[i]? = some x) : ∃ n, l[i]? = some n ∧ x = .int (n : Int) := by
  unfold vN vI zI at h
  rw [List.getElem?_map, List.getElem?_map] at h
  cases e : l[i]? with
  | none => rw [e] at h; cases h
  | some n => rw [e] at h; exact ⟨n, rfl, (Option.some.inj h).symm⟩
theorem vN_at {l : List Nat} {i n : Nat} (h : l[i]? = some n) : (vN l)[i]? = some (.int (n : Int)) := by
  unfold vN vI zI
  rw [List.getElem?_map, List.getElem?_map, h]
  rfl
theorem perm_zI {ns : List Int} {l : List Nat} (h : ns.Perm (zI l)) : ∃ D : List Nat, ns = zI D ∧ D.Perm l := by
  refine ⟨ns.map Int.toNat, ?_, ?_⟩
  · have e : zI (ns.map Int.toNat) = ns.map id := by
      unfold zI
      rw [List.map_map]
      refine List.map_congr_left fun x hx => ?_
      obtain ⟨n, _, e⟩ := List.mem_map.mp (h.mem_iff.mp hx)
      show ((x.toNat : Nat) : Int) = x
      omega
    rw [e, List.map_id]
  · have := h.map Int.toNat
    unfold zI at this
    rw [List.map_map] at this
    have e : l.map (Int.toNat ∘ fun n : Nat => (n : Int)) = l := by
      rw [show (Int.toNat ∘ fun n : Nat => (n : Int)) = id from funext fun n => Int.toNat_natCast n, List.map_id]
    rwa [e] at this
theorem le_zI {D : List Nat} (h : (zI D).Pairwise (· ≤ ·)) : D.Pairwise (· ≤ ·) := by
  unfold zI at h
  rw [List.pairwise_map] at h
  exact h.imp fun h => by omega
theorem ge_zI {D : List Nat} (h : (zI D).Pairwise (· ≥ ·)) : D.Pairwise (· ≥ ·) := by
  unfold zI at h
  rw [List.pairwise_map] at h
  exact h.imp fun h => by omega
/-- what a comprehension over such a list gives -/
theorem given_nats (l : List Nat) (f : Nat → Bool) (g : Nat → Nat) : given l.length (fun i => f (l.getD i 0)) (fun i => V.int ((g (l.getD i 0) : Nat) : Int)) = vN ((l.filter f).map g) := by
  have e : l = (List.range l.length).map fun i => l.getD i 0 := by
    refine List.ext_getElem? fun i => ?_
    rw [List.getElem?_map]
    by_cases h : i < l.length
    · rw [List.getElem?_range h, List.getElem?_eq_getElem h]
      show some l[i] = some (l.getD i 0)
      rw [List.getD_eq_getElem?_getD, List.getElem?_eq_getElem h]
      rfl
    · rw [List.getElem?_eq_none (by omega), List.getElem?_eq_none (by rw [List.length_range]; omega)]
      rfl
  have e2 : l.filter f = ((List.range l.length).filter fun i => f (l.getD i 0)).map fun i => l.getD i 0 := by
    conv => lhs; rw [e]
    rw [List.filter_map]
    rfl
  rw [e2]
  unfold given vN vI zI
  rw [List.map_map, List.map_map, List.map_map]
  rfl
theorem getD_of {l : List Nat} {i n : Nat} (h : l[i]? = some n) : l.getD i 0 = n := by rw [List.getD_eq_getElem?_getD, h]; rfl
section
variable {K : PySem.W.Frag} {σ : L2.St} {H : Hp} {ta tb te tl : TE}
/-- a comprehension over a list of numbers -/
theorem el_nums {a : Addr} {l : List Nat} {tl : TE} {t : TT} {j : Nat} {vs : List Nat} (f : Nat → Bool) (g : Nat → Nat) (h : Ev tl σ H (.ref a)) (hx : SqL K H a (vN l)) (hz : l.length ≤ 40000) (hw : ∀ x, wipe ((wipe σ vs).set j (some x)) vs = wipe σ vs)
    (ht : ∀ n ∈ l, ∀ H1, Ex H H1 → EvT t ((wipe σ vs).set j (some (.int (n : Int)))) H1 (f n)) (he : ∀ n ∈ l, ∀ H1, Ex H H1 → f n = true → Ev te ((wipe σ vs).set j (some (.int (n : Int)))) H1 (.int ((g n : Nat) : Int))) :
    EvL (tLc (iList K tl) (gName j) t te vs) σ H (vN ((l.filter f).map g)) := by
  have c := el_lcL (K := K) (σ := σ) (H := H) (t := t) (te := te) (a := a) (xs := vN l) (tl := tl) (j := j) (vs := vs) (fun i => f (l.getD i 0)) (fun i => V.int ((g (l.getD i 0) : Nat) : Int)) h hx (by rw [vN_len]; exact hz) hw
    (fun i x H1 e hi => by
      obtain ⟨n, hn, rfl⟩ := vN_get hi
      rw [getD_of hn]
      exact ht n (List.mem_of_getElem? hn) H1 e)
    (fun i x H1 e hi hf => by
      obtain ⟨n, hn, rfl⟩ := vN_get hi
      rw [getD_of hn] at hf ⊢
      exact he n (List.mem_of_getElem? hn) H1 e hf)
  rw [vN_len, given_nats] at c
  exact c
theorem filter_yes (l : List Nat) : l.filter (fun _ => true) = l := List.filter_eq_self.mpr fun _ _ => rfl
end
/-- a list of words -/
def vW (ws : List Wd) : List V := ws.map fun w => V.str w.t
theorem vW_len {ws : List Wd} : (vW ws).length = ws.length := List.length_map _
theorem vW_get {ws : List Wd} {i : Nat} {x : V} (h : (vW ws)[i]? = some x) : ∃ w, ws[i]? = some w ∧ x = .str w.t := by
  unfold vW at h
  rw [List.getElem?_map] at h
  cases e : ws[i]? with
  | none => rw [e] at h; cases h
  | some w => rw [e] at h; exact ⟨w, rfl, (Option.some.inj h).symm⟩
theorem vW_at {ws : List Wd} {i : Nat} {w : Wd} (h : ws[i]? = some w) : (vW ws)[i]? = some (.str w.t) := by
  unfold vW
  rw [List.getElem?_map, h]
  rfl
theorem vW_app {a b : List Wd} : vW (a ++ b) = vW a ++ vW b := List.map_append
theorem vW_strs {ws : List Wd} : vW ws = (ws.map Wd.t).map V.str := by unfold vW; rw [List.map_map]; rfl
theorem vW_drop {ws : List Wd} {n : Nat} : (vW ws).drop n = vW (ws.drop n) := by unfold vW; rw [← List.map_drop]
theorem vW_take {ws : List Wd} {n : Nat} : (vW ws).take n = vW (ws.take n) := by unfold vW; rw [← List.map_take]
theorem sum_w {ws : List Wd} (h : OkW ws) : ((ws.map Wd.t).map (·.length)).sum ≤ 60 * ws.length := by
  have := sum_le (ys := ws.map Wd.t) fun y hy => by
    obtain ⟨w, hw, rfl⟩ := List.mem_map.mp hy
    exact w_len fun n e => h n (e ▸ hw)
  rwa [List.length_map] at this
theorem joinL_len (S : List Nat) : ∀ l : List (List Nat), (TL.joinL S l).length ≤ (l.map (·.length)).sum + S.length * l.length
  | [] => Nat.zero_le _
  | [p] => by show p.length ≤ p.length + 0 + S.length * 1; omega
  | p :: q :: r => by
    have ih := joinL_len S (q :: r)
    show (p ++ (S ++ TL.joinL S (q :: r))).length ≤ _
    rw [List.length_append, List.length_append, List.map_cons, List.sum_cons, List.length_cons (a := p), Nat.mul_succ]
    omega
theorem pg_len {ws : List Wd} (h : OkW ws) : (pg ws).length ≤ 61 * ws.length := by
  have a := joinL_len [32] ((ws.map Wd.t).map TL.tl)
  have e : TL.tl (pg ws) = TL.joinL [32] ((ws.map Wd.t).map TL.tl) := by
    unfold pg
    rw [TL.join_eq, TL.tl_join]
    rfl
  rw [TL.len_tl, e]
  have b := sum_w h
  have c : (((ws.map Wd.t).map TL.tl).map (·.length)) = (ws.map Wd.t).map (·.length) := by
    rw [List.map_map]
    refine List.map_congr_left fun y _ => ?_
    exact (TL.len_tl y).symm
  rw [c, List.length_map, List.length_map] at a
  have : ([32] : List Nat).length = 1 := rfl
  rw [this] at a
  omega
theorem okW_drop {ws : List Wd} {n : Nat} (h : OkW ws) : OkW (ws.drop n) := fun m hm => h m (List.mem_of_mem_drop hm)
theorem okW_take {ws : List Wd} {n : Nat} (h : OkW ws) : OkW (ws.take n) := fun m hm => h m (List.mem_of_mem_take hm)
theorem okW_app {a b : List Wd} (h : OkW a) (h' : OkW b) : OkW (a ++ b) := fun m hm => (List.mem_append.mp hm).elim (h m) (h' m)
theorem cut_far {xs : List V} {b m : Nat} (h : b ≤ xs.length) (h2 : xs.length ≤ b + m) : cutV xs (some (b : Int)) (some ((b : Int) + (m : Int))) = xs.drop b := by
  unfold cutV
  rw [show (b : Int) + (m : Int) = ((b + m : Nat) : Int) by omega, HT.sIx_nat, HT.sIx_nat, Nat.min_eq_left h, Nat.min_eq_right h2]
  exact List.take_of_length_le (by rw [List.length_drop]; exact Nat.le_refl _)
theorem cut_to {xs : List V} {n : Nat} (h : n ≤ xs.length) : cutV xs none (some (n : Int)) = xs.take n := by
  unfold cutV
  rw [HT.sIx_none, HT.sIx_nat, Nat.min_eq_left h, List.drop_zero, Nat.sub_zero]
theorem cut_from {xs : List V} {n : Nat} (h : n ≤ xs.length) : cutV xs (some (n : Int)) none = xs.drop n := by
  unfold cutV
  rw [HT.sIx_none, HT.sIx_nat, Nat.min_eq_left h]
  exact List.take_of_length_le (by rw [List.length_drop]; exact Nat.le_refl _)
theorem cut_within {xs : List V} {a b : Nat} (h : a ≤ b) : cutV xs (some (a : Int)) (some (b : Int)) = (xs.drop a).take (b - a) := by
  unfold cutV
  rw [HT.sIx_nat, HT.sIx_nat]
  by_cases z : b ≤ xs.length
  · rw [Nat.min_eq_left z, Nat.min_eq_left (by omega)]
  · rw [Nat.min_eq_right (by omega : xs.length ≤ b)]
    by_cases y : a ≤ xs.length
    · rw [Nat.min_eq_left y, List.take_of_length_le (by rw [List.length_drop]; exact Nat.le_refl _), List.take_of_length_le (by rw [List.length_drop]; omega)]
    · rw [Nat.min_eq_right (by omega : xs.length ≤ a), List.drop_eq_nil_of_le (by omega : xs.length ≤ a), List.drop_eq_nil_of_le (Nat.le_refl _), List.take_nil, List.take_nil]
/-! ### what is let out: BadText(0, k) -/
def Bad (CB : Addr) (k : Nat) (H : Hp) (E : XK) : Prop := ∀ d H', H d = none → Ex H H' → H' d = some (.xd [("word", .int (k : Int)), ("line", .int 0)]) → E (.ref CB) (some d) H'
theorem Bad.mono {CB : Addr} {k : Nat} {H H' : Hp} {E : XK} (e : Ex H H') (h : Bad CB k H E) : Bad CB k H' E := fun d H2 hd e2 h2 => h d H2 (fresh_back e hd) (e.trans e2) h2
theorem raise_text {K : PySem.W.Frag} {C : Addr} {σ : L2.St} {H : Hp} {E : XK} {k : Nat} {ta : TA} (h : EvA ta σ H [.int 0, .int (k : Int)]) (b : Bad C k H E) : tMkO C (spI2 C "line" "word") [] ta σ H (fun cls d H' => E cls d H') :=
  h H (Ex.refl H) _ fun H1 e1 => ⟨by show 2 ≤ 1000; decide, fun a ha => ⟨a, .int 0, .int (k : Int), rfl, upd_same, fun d hd hda => ⟨rfl, d, [("word", .int (k : Int)), ("line", .int 0)], by rw [upd_ne hda.symm]; exact upd_same, upd_same, by rw [upd_ne hda] at hd; exact hd, by
    rw [upd_ne hda] at hd
    refine b d _ (fresh_back e1 hd) (fun c u hc => ?_) upd_same
    have hc1 := e1 _ _ hc
    have na : c ≠ a := ne_of_none hc1 ha
    have nd : c ≠ d := ne_of_none hc1 hd
    rw [upd_ne nd, del_ne na, upd_ne nd, upd_ne na, upd_ne nd, upd_ne na]
    exact hc1⟩⟩⟩
end K07
namespace K07
open PySem L2 Evl Gr
abbrev sWo : Stmt := top 29
abbrev sNo : Stmt := top 30
abbrev sNf : Stmt := top 33
/-- the error class BadText with its __init__ -/
structure GBad (P : Program) (w : World) (K : PySem.W.Frag) (mg : Str → Option Value) (base : Heap) (CB fB : Addr) (fdB : FuncData) : Prop where
  ox : OexC K CB
  init : PySem.W.findIn K (.ref CB) "__init__" = some (some (.ref fB))
  ty : PySem.W.typeIn K (.ref fB) = some (.type "function")
  ok : FnOk P w K mg base CX0 1 fB fdB ["self", "line", "word"] (spI2 CB "line" "word")
  b : Binds K fdB ["self", "line", "word"] []
  g : mg "BadText" = some (.ref CB)
section
variable {K : PySem.W.Frag} {σ : L2.St} {H : Hp} {ta tb te tl : TE}
theorem ev_m0 {r : V → List V → Hp → VK → Prop} {a : Str} {v : V} (h : Ev te σ H (.str a)) (hr : ∀ H1, Ex H H1 → ∀ Q : VK, (∀ H2, Ex H1 H2 → Q v H2) → r (.str a) [] H1 Q) : Ev (tM0 r te) σ H v := fun H1 e Q q =>
  h H1 e _ fun H2 e2 => ⟨⟨a, rfl⟩, hr H2 (e.trans e2) Q fun H3 e3 => q H3 (e2.trans e3)⟩
theorem ev_m1 {r : V → List V → Hp → VK → Prop} {a : Str} {y v : V} (h : Ev te σ H (.str a)) (h2 : Ev tb σ H y) (hr : ∀ H1, Ex H H1 → ∀ Q : VK, (∀ H2, Ex H1 H2 → Q v H2) → r (.str a) [y] H1 Q) : Ev (tM1 r te tb) σ H v := fun H1 e Q q =>
  h H1 e _ fun H2 e2 => ⟨⟨a, rfl⟩, h2 H2 (e.trans e2) _ fun H3 e3 => hr H3 ((e.trans e2).trans e3) Q fun H4 e4 => q H4 ((e2.trans e3).trans e4)⟩
theorem ev_isN {x : V} (h : Ev te σ H x) : Ev (tOp rIsN te (tC .non)) σ H (.bl (decide (x = .non))) := ev_op h ev_c fun H1 _ Q q => ⟨rfl, q H1 (Ex.refl H1)⟩
theorem dec_non_int {i : Int} : decide (V.int i = V.non) = false := decide_eq_false fun z => by cases z
end
section
variable {P : Program} {w : World} {K : PySem.W.Frag} {mg : Str → Option Value} {base : Heap}
/-! ### words_of -/
def spWo (K : PySem.W.Frag) (CB : Addr) : Sp := fun vs H Q E => (∃ ws, vs = [.str (pg ws)] ∧ ws ≠ [] ∧ OkW ws ∧ ws.length ≤ 1500 ∧ ∀ p H', H p = none → Ex H H' → H' p = some (.lst (vW ws)) → Q (.ref p) H') ∨
  ∃ (x : V) (t : Value), vs = [x] ∧ TyX K H x t ∧ PySem.W.kitOne K t (.type "str") = some false ∧ Bad CB 0 H E
theorem scWo : FnScope ["text"] ["text"] (defScope sWo) := ⟨rfl, rfl, rfl, by decide +kernel, rfl, by decide +kernel, by decide +kernel⟩
theorem ok_Wo {f CB fB : Addr} {fd fdB : FuncData} (F : Fun K "words_of" "words_of" sWo f fd) (TT : GlbT mg) (B : GBad P w K mg base CB fB fdB) : FnOk P w K mg base (L2.CX P w) 3 f fd ["text"] (spWo K CB) := by
  refine F.okX scWo (fun vs H Q E h => ?_) (fun cdv A outer s H vs Q E hr h => ?_)
  · rcases h with ⟨ws, rfl, _⟩ | ⟨x, t, rfl, _⟩ <;> rfl
  · rcases h with ⟨ws, rfl, hn, ok, hl, k⟩ | ⟨x, t, rfl, ht, hk, k⟩
    · refine ⟨_, pss_cons (ps_if (pt_not (pt_val (pe_callB call_isi (by rfl) TT.inst (by decide +kernel) (pa_cons (pv 0) (pa_cons (pe_bltn (v := .ty "str") (by rfl) TT.str (by decide +kernel) rfl) pa_nil)))))
        (pss_one (ps_raise rfl (takes_of rfl rfl rfl rfl) (pmk_oex B.ox B.init B.ty B.ok hr B.b .nil pass0 (by rfl) B.g (pa_cons pe_int (pa_cons pe_int pa_nil))))) pss_nil)
      (pss_one (ps_ret (pe_split (pv 0) pe_str))), ?_⟩
      refine q_when (b := false) (et_is (et_not (et_B (ev_cb (ea_cons (ev_var rfl) (ea_cons ev_c ea_nil)) (rc_isi (.base (.str _)) (r := true) (by decide +kernel))))) rfl) (fun hb => absurd hb (by decide)) (fun _ H1 e1 => ?_)
      refine ⟨_, rfl, ⟨_, rfl⟩, _, " ", rfl, rfl, by decide +kernel, ?_, ?_⟩
      · have := pg_len ok
        exact sz_of (n := (pg ws).length + 2) (by omega)
      · rw [split_pg hn]
        exact fun p hp => k p _ (fresh_back e1 hp) (e1.trans (Ex.new hp)) (by rw [upd_same, vW_strs])
    · refine ⟨_, pss_cons (ps_if (pt_not (pt_val (pe_callB call_isi (by rfl) TT.inst (by decide +kernel) (pa_cons (pv 0) (pa_cons (pe_bltn (v := .ty "str") (by rfl) TT.str (by decide +kernel) rfl) pa_nil)))))
        (pss_one (ps_raise rfl (takes_of rfl rfl rfl rfl) (pmk_oex B.ox B.init B.ty B.ok hr B.b .nil pass0 (by rfl) B.g (pa_cons pe_int (pa_cons pe_int pa_nil))))) pss_nil)
      (pss_one (ps_ret (pe_split (pv 0) pe_str))), ?_⟩
      refine q_when (b := true) (et_is (et_not (et_B (ev_cb (ea_cons (ev_var rfl) (ea_cons ev_c ea_nil)) fun H1 e _ q => ⟨x, .ty "str", t, .type "str", false, rfl, .ty "str", tyx_mono e ht, hk, q H1 (Ex.refl H1)⟩))) rfl) (fun _ H1 e1 => ?_) (fun hb => absurd hb (by decide))
      exact raise_text (K := K) (ea_cons ev_c (ea_cons ev_c ea_nil)) (k.mono e1)
/-! ### number_of -/
def noV : Wd → V
  | .num n => .int (n : Int)
  | _ => .non
def spNo : Sp := fun vs H Q _ => ∃ w : Wd, vs = [.str w.t] ∧ (∀ n, w = .num n → n < 10 ^ 60) ∧ RetV (noV w) H Q
theorem scNo : FnScope ["word"] ["word"] (defScope sNo) := ⟨rfl, rfl, rfl, by decide +kernel, rfl, by decide +kernel, by decide +kernel⟩
theorem ok_No {f : Addr} {fd : FuncData} (F : Fun K "number_of" "number_of" sNo f fd) (TT : GlbT mg) : FnOk P w K mg base CX0 1 f fd ["word"] spNo := by
  refine F.ok scNo (fun vs H Q E h => ?_) (fun cdv A outer s H vs Q E hr h => ?_)
  · obtain ⟨w, rfl, _⟩ := h
    rfl
  · obtain ⟨w, rfl, hw, k⟩ := h
    refine ⟨_, pss_cons (ps_if (PW.pt (pw_or (pt_not (pt_val (pe_m0 PySem.F.slot_str_isascii PySem.F.type_str_isascii mt_isascii (pv 0)))) (pw_or1 (pt_not (pt_val (pe_m0 PySem.F.slot_str_isdigit PySem.F.type_str_isdigit mt_isdigit (pv 0))))))) (pss_one (ps_ret pe_non)) pss_nil)
      (pss_cons (ps_if (PW.pt (pw_and (pt_cmpR op_gt (pe_callB call_len_str (by rfl) TT.len PySem.boot_len (pa_cons (pv 0) pa_nil)) pe_int (nomark _)) (pw_and1 (pt_val (pe_m1 PySem.F.slot_str_startswith PySem.F.type_str_startswith mt_startswith (pv 0) pe_str))))) (pss_one (ps_ret pe_non)) pss_nil)
      (pss_one (ps_ret (pe_callTy call_int_str (by rfl) TT.int (by decide +kernel) (pa_cons (pv 0) pa_nil))))), ?_⟩
    have len60 := w_len hw
    have hA : ∀ H1, Ev (tM0 (fun x xs H Q => ∃ a, x = V.str a ∧ xs = [] ∧ True ∧ Q (.bl (Txt.isascii a)) H) (tVar 0)) [some (.str w.t)] H1 (.bl (Txt.isascii w.t)) := fun H1 => ev_m0 (ev_var rfl) fun H2 e Q q => ⟨_, rfl, rfl, trivial, q H2 (Ex.refl H2)⟩
    have hD : ∀ H1, Ev (tM0 (fun x xs H Q => ∃ a, x = V.str a ∧ xs = [] ∧ True ∧ Q (.bl (Txt.isdigit a)) H) (tVar 0)) [some (.str w.t)] H1 (.bl (Txt.isdigit w.t)) := fun H1 => ev_m0 (ev_var rfl) fun H2 e Q q => ⟨_, rfl, rfl, trivial, q H2 (Ex.refl H2)⟩
    refine q_when (b := !Txt.isascii w.t || !Txt.isdigit w.t) (et_or (et_not (et_B (hA H))) fun _ => et_not (et_B (hD H))) (fun hb H1 e1 => ?_) (fun hb H1 e1 => ?_)
    · have nv : noV w = .non := by
        cases w with
        | num n =>
          rw [show Wd.t (.num n) = tx (n : Int) from rfl, tx_ascii, tx_digit] at hb
          exact absurd hb (by decide)
        | thn => rfl
        | bad k => rfl
      rw [nv] at k
      exact s_ret ev_c fun H2 e2 => k H2 (e1.trans e2)
    · have hl : Ev (tCB (fun xs H Q => ∃ z, xs = [V.str z] ∧ z.length ≤ sizeLine ∧ Q (.int z.length) H) (tCons (tVar 0) tNil)) [some (.str w.t)] H1 (.int (w.t.length : Int)) := ev_cb (ea_cons (ev_var rfl) ea_nil) fun H2 e Q q => ⟨_, rfl, sz_of (by omega), q H2 (Ex.refl H2)⟩
      have hs : Ev (tM1 (fun x xs H Q => ∃ a b, x = V.str a ∧ xs = [V.str b] ∧ Q (.bl (Txt.startswith a b)) H) (tVar 0) (tC (.str "0"))) [some (.str w.t)] H1 (.bl (Txt.startswith w.t "0")) := ev_m1 (ev_var rfl) ev_c fun H2 e Q q => ⟨_, _, rfl, rfl, q H2 (Ex.refl H2)⟩
      refine q_when (b := decide (((w.t).length : Int) > 1) && Txt.startswith w.t "0") (et_and (et_test (ev_op hl ev_c rv_I0)) fun _ => et_B hs) (fun hb2 H2 e2 => ?_) (fun hb2 H2 e2 => ?_)
      · have nv : noV w = .non := by
          cases w with
          | num n =>
            have := tx_lead n
            rw [show (decide (((Wd.t (.num n)).length : Int) > 1) && Txt.startswith (Wd.t (.num n)) "0") = (decide (1 < ((tx (n : Int)).length : Int)) && Txt.startswith (tx (n : Int)) "0") from rfl, this] at hb2
            exact absurd hb2 (by decide)
          | thn => rfl
          | bad k => rfl
        rw [nv] at k
        exact s_ret ev_c fun H3 e3 => k H3 ((e1.trans e2).trans e3)
      · cases w with
        | num n =>
          refine s_ret (v := .int (n : Int)) (ev_cb (ea_cons (ev_var rfl) ea_nil) fun H3 e Q q => ⟨tx (n : Int), (n : Int), rfl, tx_int (hw n rfl), by have := len60; exact Nat.le_trans this (by decide), q H3 (Ex.refl H3)⟩) fun H3 e3 => k H3 ((e1.trans e2).trans e3)
        | thn => exact absurd hb (by decide +kernel)
        | bad j =>
          have z := bad_look j
          have hb : (!Txt.isascii (badS j.val) || !Txt.isdigit (badS j.val)) = false := hb
          have hb2 : (decide (((badS j.val).length : Int) > 1) && Txt.startswith (badS j.val) "0") = false := hb2
          have hb2 : (decide (1 < ((badS j.val).length : Int)) && Txt.startswith (badS j.val) "0") = false := hb2
          rw [hb2] at z
          revert hb z
          cases Txt.isascii (badS j.val) <;> cases Txt.isdigit (badS j.val) <;> simp
end
end K07
namespace K07
open PySem L2 Evl Gr ClX StX ClK
section
variable {K : PySem.W.Frag} {σ : L2.St} {H : Hp} {ta tb te tl : TE}
theorem eqv_lists (xs ys : List Int) : PyData.eqv (.list (xs.map PyData.int)) (.list (ys.map PyData.int)) = decide (xs = ys) := by
  have := eqv_ints xs ys
  simpa [PyData.eqv] using this
theorem eqv_tups (xs ys : List Int) : PyData.eqv (.tuple (xs.map PyData.int)) (.tuple (ys.map PyData.int)) = decide (xs = ys) := by
  have := eqv_ints xs ys
  simpa [PyData.eqv] using this
theorem ev_neTu {xs ys : List Int} (ha : EvTu K ta σ H (vI xs)) (hb : EvTu K tb σ H (vI ys)) : Ev (tOp (rNeD K) ta tb) σ H (.bl (!decide (xs = ys))) := fun H1 e Q q =>
  ha H1 e _ fun p H2 e2 hp => hb H2 (e.trans e2) _ fun r H3 e3 hr => ⟨.tuple (xs.map PyData.int), .tuple (ys.map PyData.int), .tup (ex_t e3 hp) (dpAll_ints xs), .tup hr (dpAll_ints ys), shaped_tup xs, shaped_tup ys, by rw [eqv_tups]; exact q H3 (e2.trans e3)⟩
theorem etu_tupleP {p : Addr} {xs : List V} (h : Ev te σ H (.ref p)) (hs : SqL K H p xs) : EvTu K (tThen te (kTup K)) σ H xs := fun H1 e Q q =>
  h H1 e _ fun H2 e2 => .inl ⟨p, xs, rfl, ex_l (e.trans e2) hs, fun r hr => q r _ (e2.trans (Ex.new hr)) (st_of upd_same)⟩
theorem etu_fld {o p C dx : Addr} {fs : List (Str × V)} {f : Str} {xs : List V} (ha : Ev ta σ H (.ref o)) (ho : H o = some (.ins C dx fs)) (c : Cls K C) (n : NoAttr K C f) (hf : fs.lookup f = some (.ref p)) (hp : SqT K H p xs) : EvTu K (tFld K ta f) σ H xs := fun H1 e Q q =>
  ev_fld ha ho c n hf H1 e _ fun H2 e2 => q p H2 e2 (ex_t (e.trans e2) hp)
theorem etu_var {i : Nat} {p : Addr} {xs : List V} (h0 : σ[i]? = some (some (.ref p))) (hs : SqT K H p xs) : EvTu K (tVar i) σ H xs := fun H1 e Q q => ⟨_, h0, q p H1 (Ex.refl H1) (ex_t e hs)⟩
theorem ev_lenL {p : Addr} {g : List Int} (h : Ev ta σ H (.ref p)) (hs : SqL K H p (vI g)) : Ev (tCB (fun xs H Q => ∃ p ys, xs = [V.ref p] ∧ (SqL K H p ys ∨ SqT K H p ys) ∧ Q (.int ys.length) H) (tCons ta tNil)) σ H (.int (g.length : Int)) := ev_is (ev_cb (ea_cons h ea_nil) (rc_lenQ (.inl hs))) (by rw [vI_len])
theorem given_none {n : Nat} {v : Nat → V} : given n (fun _ => false) v = vI [] := by
  unfold given
  have f : ∀ l : List Nat, l.filter (fun _ => false) = [] := fun l => by induction l with | nil => rfl | cons a l ih => exact ih
  rw [f]
  rfl
theorem el_noneN {t : TT} {j : Nat} {xs : List V} (hl : EvL tl σ H xs) (h4 : xs.length ≤ 40000) (hw : ∀ x, wipe ((wipe σ [j]).set j (some x)) [j] = wipe σ [j])
    (ht : ∀ (i : Nat) (x : V) H1, Ex H H1 → xs[i]? = some x → EvT t ((wipe σ [j]).set j (some x)) H1 false) : EvL (tLc (iList K tl) (gName j) t (tVar j) [j]) σ H (vI []) := by
  have c := el_lcNL (K := K) (σ := σ) (H := H) (t := t) (te := tVar j) (j := j) (vs := [j]) (fun _ => false) (fun _ => V.non) hl h4 hw ht (fun i x H1 e hi hf => by cases hf)
  rw [given_none] at c
  exact c
theorem ev_eqLP {p : Addr} {xs ys : List Int} (ha : EvL ta σ H (vI xs)) (hb : Ev tb σ H (.ref p)) (hp : SqL K H p (vI ys)) : Ev (tOp (rEqD K) ta tb) σ H (.bl (decide (xs = ys))) := fun H1 e Q q =>
  ha H1 e _ fun r H2 _ e2 hr => hb H2 (e.trans e2) _ fun H3 e3 => ⟨.list (xs.map PyData.int), .list (ys.map PyData.int), .lst (sq_of (e3 _ _ hr)) (dpAll_ints xs), .lst (ex_l (e.trans (e2.trans e3)) hp) (dpAll_ints ys), shaped_ints xs, shaped_ints ys, by rw [eqv_lists]; exact q H3 (e2.trans e3)⟩
theorem el_catN {xs ys : List Int} (ha : EvL ta σ H (vI xs)) (hb : EvL tb σ H (vI ys)) (hz : xs.length + ys.length ≤ 100000) : EvL (tOp rCat ta tb) σ H (vI (xs ++ ys)) := fun H1 e Q k =>
  ha H1 e _ fun p H2 _ e2 hp => hb H2 (e.trans e2) _ fun r H3 _ e3 hr => ⟨p, r, vI xs, vI ys, rfl, rfl, e3 _ _ hp, hr, by rw [vI_len, vI_len]; exact sz_of hz, fun a ha => k a _ (fresh_back (e2.trans e3) ha) ((e2.trans e3).trans (Ex.new ha)) (by rw [upd_same]; unfold vI; rw [List.map_append])⟩
theorem for_i {tl : TE} {g : TG} {tu tz : TS} {D : Ends} (h : tl σ H fun x H1 => ∃ a, x = .ref a ∧ (∃ xs, SqL K H1 a xs) ∧ tFor (fun _ _ R => R (Itl K a) H1) g tu { D with nx := tz D } σ H1) : tSeq (tFor (iList K tl) g tu) tz D σ H := h
theorem s_retR {D : Ends} (h : te σ H D.rt) : tRet te D σ H := h
theorem ev_eqTuG {xs ys : List Int} (ha : EvTu K ta σ H (vI xs)) (hb : EvTu K tb σ H (vI ys)) : Ev (tOp (rEqD K) ta tb) σ H (.bl (decide (xs = ys))) := fun H1 e Q q =>
  ha H1 e _ fun p H2 e2 hp => hb H2 (e.trans e2) _ fun r H3 e3 hr => ⟨.tuple (xs.map PyData.int), .tuple (ys.map PyData.int), .tup (ex_t e3 hp) (dpAll_ints xs), .tup hr (dpAll_ints ys), shaped_tup xs, shaped_tup ys, by rw [eqv_tups]; exact q H3 (e2.trans e3)⟩
/-- not xs, xs a list -/
theorem et_emptyL {p : Addr} {xs : List V} (h : Ev te σ H (.ref p)) (hs : SqL K H p xs) : EvT (tNot (fun σ H Q => te σ H fun x H' => ∃ k, TruV K x H' k ∧ Q k H')) σ H xs.isEmpty := et_is (et_not (a := !xs.isEmpty) fun H1 e Q q => h H1 e _ fun H2 e2 => ⟨!xs.isEmpty, .inl ⟨xs, ex_l (e.trans e2) hs, rfl⟩, q H2 e2⟩) (by cases xs.isEmpty <;> rfl)
end
theorem due_first {ws : List Wd} (h : (nums ws).length = 0 ∨ ws[(nums ws).length]? ≠ some .thn) : due ws = some (nums ws).length := by
  unfold due
  by_cases z : (nums ws).length = 0
  · rw [if_pos z, z]
  · rw [if_neg z, if_pos (h.resolve_left z)]
theorem due_second {ws : List Wd} (h : ¬ ((nums ws).length = 0 ∨ ws[(nums ws).length]? ≠ some .thn)) (h2 : (gainsW ws).length = 0 ∨ (nums ws).length + 1 + (gainsW ws).length < ws.length) : due ws = some ((nums ws).length + 1 + (gainsW ws).length) := by
  unfold due
  rw [if_neg fun z => h (.inl z), if_neg fun z => h (.inr z), if_pos h2]
theorem due_none {ws : List Wd} (h : ¬ ((nums ws).length = 0 ∨ ws[(nums ws).length]? ≠ some .thn)) (h2 : ¬ ((gainsW ws).length = 0 ∨ (nums ws).length + 1 + (gainsW ws).length < ws.length)) : due ws = none := by
  unfold due
  rw [if_neg fun z => h (.inl z), if_neg fun z => h (.inr z), if_neg h2]
section
variable {P : Program} {w : World} {K : PySem.W.Frag} {mg : Str → Option Value} {base : Heap}
/-! ### numbers_from -/
abbrev nNf : List Str := ["words", "begin", "most", "numbers", "word", "number"]
def spNf (K : PySem.W.Frag) : Sp := fun vs H Q _ => ∃ (a : Addr) (b : Nat) (ws : List Wd), vs = [.ref a, .int (b : Int), .int 2000] ∧ SqL K H a (vW ws) ∧ b ≤ ws.length ∧ OkW ws ∧ ws.length ≤ 1500 ∧
  ∀ p H', H p = none → Ex H H' → H' p = some (.lst (vN (nums (ws.drop b)))) → Q (.ref p) H'
theorem scNf : FnScope nNf ["words", "begin", "most"] (defScope sNf) := ⟨rfl, rfl, rfl, by decide +kernel, rfl, by decide +kernel, by decide +kernel⟩
theorem take_snoc {l : List Nat} {i : Nat} (h : i < l.length) : l.take (i + 1) = l.take i ++ [l.getD i 0] := by
  rw [List.take_add_one, List.getElem?_eq_getElem h, List.getD_eq_getElem?_getD, List.getElem?_eq_getElem h]
  rfl
theorem ok_Nf {f fN : Addr} {fd fdN : FuncData} (F : Fun K "numbers_from" "numbers_from" sNf f fd)
    (GN : FnOk P w K mg base CX0 1 fN fdN ["word"] spNo) (kN : PySem.W.keepIn K (.ref fN) = true) (bN : Binds K fdN ["word"] []) (gN : mg "number_of" = some (.ref fN)) : FnOk P w K mg base CX0 2 f fd ["words", "begin", "most"] (spNf K) := by
  refine F.ok scNf (fun vs H Q E h => ?_) (fun cdv A outer s H vs Q E hr h => ?_)
  · obtain ⟨a, b, ws, rfl, _⟩ := h
    rfl
  · obtain ⟨a, b, ws, rfl, hL, hb, ok, hz, k⟩ := h
    refine ⟨_, pss_cons (ps_set (i := 3) scNf.nd rfl (.inl rfl) (pe_lst pa_nil))
      (pss_cons (ps_for PassesOwn.never rfl (pi_list (pe_slice sl_list (pv 0) (po_some (pv 1)) (po_some (pe_op op_add (pv 1) (pv 2))))) (pg_name (i := 4) scNf.nd rfl (.inl rfl))
        (pss_cons (ps_set (i := 5) scNf.nd rfl (.inl rfl) (pe_call GN hr (by rfl) gN kN bN .nil pass0 (pa_cons (pv 4) pa_nil)))
        (pss_cons (ps_if (pt_cmpR op_isN1 (pv 5) pe_non (nomark _)) (pss_one (ps_ret (pv 3))) pss_nil)
        (pss_one (ps_expr (pe_bm PySem.F.plainAttrs_list PySem.F.slot_list_append PySem.F.type_list_append mt_append (pv 3) (pa_cons (pv 5) pa_nil)))))))
      (pss_one (ps_ret (pv 3)))), ?_⟩
    refine q_asgL (xs := vN []) (el_lst ea_nil (Nat.zero_le _)) fun c H1 hc e1 h1 => ?_
    have okd : OkW (ws.drop b) := okW_drop ok
    have cutE : cutV (vW ws) (some (b : Int)) (some ((b : Int) + 2000)) = vW (ws.drop b) := by
      rw [show (2000 : Int) = ((2000 : Nat) : Int) from rfl, cut_far (by rw [vW_len]; exact hb) (by rw [vW_len]; omega), vW_drop]
    have sl := el_sl (K := K) (σ := [some (.ref a), some (.int (b : Int)), some (.int 2000), some (.ref c), none, none]) (H := H1) (te := tVar 0) (tl := tPart (tVar 1)) (th := tPart (tOp (rI0 fun i j => .int (i + j)) (tVar 1) (tVar 2))) (lo := some (b : Int)) (hi := some ((b : Int) + 2000)) (ev_var rfl) (eo_some (ev_var rfl)) (eo_some (ev_op (ev_var rfl) (ev_var rfl) rv_I0)) (ex_l e1 hL)
    rw [cutE] at sl
    generalize hW : ws.drop b = W at sl okd k
    refine q_forNLn (xs := vW W) sl (fun p i σ' H' => ∃ x4 x5, σ' = [some (.ref a), some (.int (b : Int)), some (.int 2000), some (.ref c), x4, x5] ∧ H' c = some (.lst (vN ((nums W).take i))) ∧ i ≤ (nums W).length ∧ H' p = some (.lst (vW W)) ∧ p ≠ c ∧ Ex H H')
      (fun p H2 hp e2 h2 => ⟨none, none, rfl, e2 _ _ h1, Nat.zero_le _, h2, (ne_of_none h1 hp).symm, e1.trans e2⟩) (fun p i σ' H' _ ⟨_, _, _, _, _, z, _⟩ => sq_of z) ?_ ?_
    · rintro p i x σ' H2 hx ⟨x4, x5, rfl, h2, hi, hp, hpc, e2⟩
      obtain ⟨w, hw, rfl⟩ := vW_get hx
      show tSeq _ _ _ _ _
      refine q_asg (v := noV w) (ev_call (ea_cons (ev_var rfl) ea_nil) fun H3 e Q2 q2 E2 => ⟨w, rfl, fun n en => okd n (en ▸ List.mem_of_getElem? hw), q2⟩) fun H3 e3 => ?_
      have h3 := e3 _ _ h2
      have e23 := e2.trans e3
      by_cases lt : i < (nums W).length
      · have := nums_at lt
        rw [hw] at this
        obtain rfl := Option.some.inj this
        refine q_when (b := false) (et_is (et_test (ev_isN (ev_var rfl))) dec_non_int) (fun hb => absurd hb (by decide)) (fun _ H4 e4 => ?_)
        show tDrop _ _ _ _
        refine s_app (v := .int (((nums W).getD i 0 : Nat) : Int)) (e4 _ _ h3) (ev_var rfl) (ev_var rfl) (by
          rw [vN_len, List.length_take]
          have := nums_len W
          have : W.length ≤ 1500 := by rw [← hW, List.length_drop]; omega
          omega) fun H5 e5 => ?_
        rw [vN_app, ← take_snoc lt]
        have hcH : H c = none := hc
        exact ⟨_, _, rfl, upd_same, lt, by rw [upd_ne hpc]; exact e5 _ _ (e4 _ _ (e3 _ _ hp)), hpc, ((e23.trans e4).trans e5).mut hcH⟩
      · have ie : i = (nums W).length := by omega
        subst ie
        have iW : (nums W).length < W.length := (List.getElem?_eq_some_iff.mp hw).1
        obtain ⟨w2, hw2, hn⟩ := nums_stop iW
        rw [hw] at hw2
        obtain rfl := Option.some.inj hw2
        have nv : noV w = .non := by
          cases w with
          | num n => exact absurd rfl (hn n)
          | thn => rfl
          | bad k => rfl
        rw [nv]
        refine q_when (b := true) (et_is (et_test (ev_isN (ev_var rfl))) (decide_eq_true rfl)) (fun _ H4 e4 => ?_) (fun hb => absurd hb (by decide))
        rw [List.take_length] at h3
        exact s_ret (ev_var rfl) fun H5 e5 => k c H5 hc ((e23.trans e4).trans e5) (e5 _ _ (e4 _ _ h3))
    · rintro p σ' H2 ⟨x4, x5, rfl, h2, hi, hp, hpc, e2⟩
      have : (vW W).length = W.length := vW_len
      rw [this] at h2 hi
      have := nums_len W
      rw [List.take_of_length_le this] at h2
      exact s_ret (ev_var rfl) fun H5 e5 => k c H5 hc (e2.trans e5) (e5 _ _ h2)
end
end K07
namespace K07
open PySem L2 Evl Gr ClX StX ClK
theorem pos_z (l : List Nat) : Pos (zI l) := fun i hi => by
  unfold at' zI
  rw [zI_len] at hi
  rw [List.getD_eq_getElem?_getD, List.getElem?_map, List.getElem?_eq_getElem hi]
  show (0 : Int) ≤ ((l[i] : Nat) : Int)
  omega
theorem small_z {l : List Nat} (h : ∀ n ∈ l, n < 10 ^ 60) : Small (zI l) := fun i hi => by
  rw [zI_len] at hi
  have b := h _ (List.getElem_mem hi)
  have e : (10 : Nat) ^ 60 = 1000000000000000000000000000000000000000000000000000000000000 := by decide
  rw [e] at b
  unfold at' zI
  rw [List.getD_eq_getElem?_getD, List.getElem?_map, List.getElem?_eq_getElem hi]
  show (0 : Int) ≤ ((l[i] : Nat) : Int) ∧ ((l[i] : Nat) : Int) ≤ _
  omega
section
variable {P : Program} {w : World} {K : PySem.W.Frag} {mg : Str → Option Value} {base : Heap}
/-! ### Growth.read -/
abbrev nRd : List Str := ["cls", "text", "words", "told", "then", "gains", "end", "growth"]
def RdRes (K : PySem.W.Frag) (C CB : Addr) (ws : List Wd) (H : Hp) (Q : VK) (E : XK) : Prop :=
  (∀ i, due ws = some i → Bad CB i H E) ∧ (due ws = none → ¬ NF (zI (told ws)) (zI (gainsW ws)) → Bad CB 0 H E) ∧
  (due ws = none → NF (zI (told ws)) (zI (gainsW ws)) → ∀ o H', H o = none → Ex H H' → GrAt K C H' o (zI (told ws)) (zI (gainsW ws)) → Q (.ref o) H')
def spRd (K : PySem.W.Frag) (C CB : Addr) : Sp := fun vs H Q E => (∃ ws, vs = [.ref C, .str (pg ws)] ∧ ws ≠ [] ∧ OkW ws ∧ ws.length ≤ 1500 ∧ RdRes K C CB ws H Q E) ∨
  ∃ (x : V) (t : Value), vs = [.ref C, x] ∧ TyX K H x t ∧ PySem.W.kitOne K t (.type "str") = some false ∧ Bad CB 0 H E
theorem scRd : FnScope nRd ["cls", "text"] (defScope (sGr 22)) := ⟨rfl, rfl, rfl, by decide +kernel, rfl, by decide +kernel, by decide +kernel⟩
theorem lenE {σ : L2.St} {H : Hp} {te : TE} {p : Addr} {xs : List V} (h : Ev te σ H (.ref p)) (hs : SqL K H p xs) : Ev (tCB (fun xs H Q => ∃ p ys, xs = [V.ref p] ∧ (SqL K H p ys ∨ SqT K H p ys) ∧ Q (.int ys.length) H) (tCons te tNil)) σ H (.int (xs.length : Int)) := ev_cb (ea_cons h ea_nil) (rc_lenQ (.inl hs))
theorem okE {f fW fN fI CB fB C : Addr} {mc : Value} {fd fdW fdN fdI fdB : FuncData} (F : Fun K "read" "Growth.read" (sGr 22) f fd) (T : GlbS mg) (TT : GlbT mg) (N : GName K mg C mc) (G : GCls K C) (M : Mk K C fI)
    (B : GBad P w K mg base CB fB fdB)
    (GW : FnOk P w K mg base (L2.CX P w) 3 fW fdW ["text"] (spWo K CB)) (kW : PySem.W.keepIn K (.ref fW) = true) (bW : Binds K fdW ["text"] []) (gW : mg "words_of" = some (.ref fW))
    (GN : FnOk P w K mg base CX0 2 fN fdN ["words", "begin", "most"] (spNf K)) (kN : PySem.W.keepIn K (.ref fN) = true) (bN : Binds K fdN ["words", "begin", "most"] []) (gN : mg "numbers_from" = some (.ref fN))
    (GI : FnR P w K mg base CX0 4 fI (spInit K C)) :
    FnOk P w K mg base (L2.CX P w) 6 f fd ["cls", "text"] (spRd K C CB) := by
  obtain ⟨mu, cm⟩ := N.most
  refine F.okX scRd (fun vs H Q E h => ?_) (fun cdv A outer s H vs Q E hr h => ?_)
  · rcases h with ⟨ws, rfl, _⟩ | ⟨x, t, rfl, _⟩ <;> rfl
  · have r3 := hr.mono (show 3 ≤ 5 by decide)
    have r2 := hr.mono (show 2 ≤ 5 by decide)
    rcases h with ⟨ws, rfl, hn, ok, hl, kd, kn, ky⟩ | ⟨x, t, rfl, ht, hk, k⟩
    all_goals refine ⟨_, pss_cons (ps_set (i := 2) scRd.nd rfl (.inl rfl) (pe_call (E := E) GW r3 (by rfl) gW kW bW .nil (passes_call (takes_of rfl rfl rfl rfl) fun _ _ _ _ z => z) (pa_cons (pv 1) pa_nil)))
      (pss_cons (ps_set (i := 3) scRd.nd rfl (.inl rfl) (pe_call GN r2 (by rfl) gN kN bN .nil pass0 (pa_cons (pv 2) (pa_cons pe_int (pa_cons (pe_cval (pe_glob (v := .ref C) rfl N.g rfl)) pa_nil)))))
      (pss_cons (ps_set (i := 4) scRd.nd rfl (.inl rfl) (pe_callB call_len_seq (by rfl) T.len PySem.boot_len (pa_cons (pv 3) pa_nil)))
      (pss_cons (ps_if (PW.pt (pw_or (pt_cmpR op_eq (pv 4) pe_int (nomark _)) (pw_or (pt_cmpR op_eq (pv 4) (pe_callB call_len_seq (by rfl) T.len PySem.boot_len (pa_cons (pv 2) pa_nil)) (nomark _)) (pw_or1 (pt_cmpR op_ne (pe_ix ix_list (pv 2) (pv 4) (fun _ _ => rfl)) pe_str (nomark _))))))
        (pss_one (ps_raise rfl (takes_of rfl rfl rfl rfl) (pmk_oex B.ox B.init B.ty B.ok r2 B.b .nil pass0 (by rfl) B.g (pa_cons pe_int (pa_cons (pv 4) pa_nil))))) pss_nil)
      (pss_cons (ps_set (i := 5) scRd.nd rfl (.inl rfl) (pe_call GN r2 (by rfl) gN kN bN .nil pass0 (pa_cons (pv 2) (pa_cons (pe_op op_add (pv 4) pe_int) (pa_cons (pe_cval (pe_glob (v := .ref C) rfl N.g rfl)) pa_nil)))))
      (pss_cons (ps_set (i := 6) scRd.nd rfl (.inl rfl) (pe_op op_add (pe_op op_add (pv 4) pe_int) (pe_callB call_len_seq (by rfl) T.len PySem.boot_len (pa_cons (pv 5) pa_nil))))
      (pss_cons (ps_if (PW.pt (pw_or (pt_not (pt_truth (pv 5) (by intro _; rfl))) (pw_or1 (pt_cmpR op_lt (pv 6) (pe_callB call_len_seq (by rfl) T.len PySem.boot_len (pa_cons (pv 2) pa_nil)) (nomark _)))))
        (pss_one (ps_raise rfl (takes_of rfl rfl rfl rfl) (pmk_oex B.ox B.init B.ty B.ok r2 B.b .nil pass0 (by rfl) B.g (pa_cons pe_int (pa_cons (pv 6) pa_nil))))) pss_nil)
      (pss_cons (ps_set (i := 7) scRd.nd rfl (.inl rfl) (pe_makeL (i := 0) (E := E0) M GI hr rfl (.inl rfl) pass0 (pa_cons (pv 3) (pa_cons (pv 5) pa_nil))))
      (pss_cons (ps_if (PW.pt (pw_or (pt_cmpR (op_neD hr.units) (pe_fld (pv 7) rfl) (pe_tupleOf (by rfl) T.tuple (pv 3)) (nomark _)) (pw_or1 (pt_cmpR (op_neD hr.units) (pe_fld (pv 7) rfl) (pe_tupleOf (by rfl) T.tuple (pv 5)) (nomark _)))))
        (pss_one (ps_raise rfl (takes_of rfl rfl rfl rfl) (pmk_oex B.ox B.init B.ty B.ok r2 B.b .nil pass0 (by rfl) B.g (pa_cons pe_int (pa_cons pe_int pa_nil))))) pss_nil)
      (pss_one (ps_ret (pv 7))))))))))), ?_⟩
    · refine q_call (ea_cons (ev_var rfl) ea_nil) fun H1 e1 => .inl ⟨ws, rfl, hn, ok, hl, fun a H2 ha e2 hA => ?_⟩
      have E2 := e1.trans e2
      have nl := nums_len ws
      refine q_asgL (xs := vN (nums ws)) (el_call (ea_cons (ev_var rfl) (ea_cons ev_c (ea_cons (ev_cval ev_c N.rd cm) ea_nil))) fun H3 e3 Q3 q3 E3 => ⟨a, 0, ws, rfl, sq_of (e3 _ _ hA), Nat.zero_le _, ok, hl, fun p H4 hp e4 h4 => q3 p H4 hp e4 h4⟩) fun c H3 hc e3 h3 => ?_
      refine q_asg (v := .int (((nums ws).length : Nat) : Int)) (ev_is (lenE (ev_var rfl) (sq_of h3)) (by rw [vN_len])) fun H4 e4 => ?_
      have E4 := (E2.trans e3).trans e4
      have hA4 := e4 _ _ (e3 _ _ hA)
      have hl4 : ∀ {σ : L2.St} {H' : Hp}, Ex H4 H' → σ[2]? = some (some (.ref a)) → Ev (tCB (fun xs H Q => ∃ p ys, xs = [V.ref p] ∧ (SqL K H p ys ∨ SqT K H p ys) ∧ Q (.int ys.length) H) (tCons (tVar 2) tNil)) σ H' (.int (ws.length : Int)) := fun e h0 => ev_is (lenE (ev_var h0) (sq_of (e _ _ hA4))) (by rw [vW_len])
      refine q_when (b := decide ((nums ws).length = 0) || (decide ((nums ws).length = ws.length) || !decide (ws[(nums ws).length]? = some .thn))) (et_or (et_is (et_test (ev_op (ev_var rfl) ev_c (rv_eq rfl))) (by rw [vint_inj]; exact decide_eq_decide.mpr (by omega))) fun z1 => et_or (et_is (et_test (ev_op (ev_var rfl) (hl4 (Ex.refl _) rfl) (rv_eq rfl))) (by rw [vint_inj]; exact decide_eq_decide.mpr (by omega))) fun z2 => by
          have lt : (nums ws).length < ws.length := by have := of_decide_eq_false z2; omega
          obtain ⟨w, hw, _⟩ := nums_stop lt
          refine et_is (et_test (ev_op (x := .str w.t) (y := .str "then") (ev_op (ev_var rfl) (ev_var rfl) (rv_ixL (K := K) (sq_of hA4) (atI_nat (vW_at hw)))) ev_c (rv_ne rfl))) ?_
          rw [hw]
          congr 1
          exact decide_eq_decide.mpr ⟨fun z => congrArg some ((then_iff w).mp (V.str.inj z)), fun z => congrArg V.str ((then_iff w).mpr (Option.some.inj z))⟩) (fun hb H5 e5 => ?_) (fun hb H5 e5 => ?_)
      · have hd : due ws = some (nums ws).length := due_first (by
          rcases Bool.or_eq_true_iff.mp hb with z | z
          · exact .inl (of_decide_eq_true z)
          · rcases Bool.or_eq_true_iff.mp z with z | z
            · right
              rw [of_decide_eq_true z, List.getElem?_eq_none (Nat.le_refl _)]
              exact fun e => by cases e
            · exact .inr (by simpa using z))
        exact raise_text (K := K) (ea_cons ev_c (ea_cons (ev_var rfl) ea_nil)) ((kd _ hd).mono (E4.trans e5))
      · have h0 : ¬ ((nums ws).length = 0 ∨ ws[(nums ws).length]? ≠ some .thn) := by
          obtain ⟨z1, z2⟩ := Bool.or_eq_false_iff.mp hb
          obtain ⟨z2, z3⟩ := Bool.or_eq_false_iff.mp z2
          rintro (z | z)
          · exact of_decide_eq_false z1 z
          · exact z (by simpa using z3)
        have ht : ws[(nums ws).length]? = some .thn := Classical.byContradiction fun z => h0 (.inr z)
        have lt := (List.getElem?_eq_some_iff.mp ht).1
        have E5 := E4.trans e5
        refine q_asgL (xs := vN (gainsW ws)) (el_call (vs := [.ref a, .int (((nums ws).length + 1 : Nat) : Int), .int 2000]) (ea_cons (ev_var rfl) (ea_cons (ev_op (ev_var rfl) ev_c rv_I0) (ea_cons (ev_cval ev_c N.rd cm) ea_nil))) fun H6 e6 Q6 q6 E6 => ⟨a, (nums ws).length + 1, ws, rfl, sq_of (e6 _ _ (e5 _ _ hA4)), by omega, ok, hl, fun p H7 hp e7 h7 => q6 p H7 hp e7 h7⟩) fun g H6 hg e6 h6 => ?_
        have gl : (gainsW ws).length ≤ ws.length := by
          have := nums_len (ws.drop ((nums ws).length + 1))
          rw [List.length_drop] at this
          unfold gainsW
          omega
        refine q_asg (v := .int (((nums ws).length + 1 + (gainsW ws).length : Nat) : Int)) (ev_is (ev_op (ev_op (ev_var rfl) ev_c rv_I0) (lenE (ev_var rfl) (sq_of h6)) rv_I0) (by rw [vN_len]; congr 1)) fun H7 e7 => ?_
        have hg7 := e7 _ _ h6
        have E7 := (E5.trans e6).trans e7
        refine q_when (b := (vN (gainsW ws)).isEmpty || decide ((nums ws).length + 1 + (gainsW ws).length < ws.length)) (et_or (et_emptyL (ev_var rfl) (sq_of hg7)) fun z1 => et_is (et_test (ev_op (ev_var rfl) (hl4 ((e5.trans e6).trans e7) rfl) rv_I0)) (decide_eq_decide.mpr (by omega))) (fun hb2 H8 e8 => ?_) (fun hb2 H8 e8 => ?_)
        · have hd : due ws = some ((nums ws).length + 1 + (gainsW ws).length) := due_second h0 (by
            rcases Bool.or_eq_true_iff.mp hb2 with z | z
            · left
              have := congrArg List.length (List.isEmpty_iff.mp z)
              rw [vN_len] at this
              exact this
            · exact .inr (of_decide_eq_true z))
          exact raise_text (K := K) (ea_cons ev_c (ea_cons (ev_var rfl) ea_nil)) ((kd _ hd).mono (E7.trans e8))
        · have h1 : ¬ ((gainsW ws).length = 0 ∨ (nums ws).length + 1 + (gainsW ws).length < ws.length) := by
            obtain ⟨z1, z2⟩ := Bool.or_eq_false_iff.mp hb2
            rintro (z | z)
            · have : gainsW ws = [] := List.length_eq_zero_iff.mp z
              rw [this] at z1
              exact absurd z1 (by decide)
            · exact of_decide_eq_false z2 z
          have hdn := due_none h0 h1
          have kn := kn hdn
          have ky := ky hdn
          have E8 := E7.trans e8
          have ht8 : SqL K H8 c (vI (zI (nums ws))) := sq_of (e8 _ _ (e7 _ _ (e6 _ _ (e5 _ _ (e4 _ _ h3)))))
          have hg8 : SqL K H8 g (vI (zI (gainsW ws))) := sq_of (e8 _ _ hg7)
          refine q_asgR ⟨rfl, _, rfl, _, rfl, fun x dx hx hdx hne => ?_⟩
          have e9 : Ex H8 (upd (upd H8 dx (.own x)) x (.ins C dx [])) := (Ex.new hdx).trans (Ex.new (by rw [upd_ne hne.symm]; exact hx))
          refine ⟨x, c, g, dx, zI (nums ws), zI (gainsW ws), rfl, upd_same, .inl (ex_l e9 ht8), .inl (ex_l e9 hg8), by rw [zI_len]; omega, by rw [zI_len]; omega, by rw [zI_len]; omega, by rw [zI_len]; omega, pos_z _,
            small_z fun n hn => okW_drop ok n (nums_mem hn), fun t' g' H9 kp gr pt hv => ⟨rfl, ?_⟩⟩
          have e89 : Ex H8 H9 := fun u o hu => kp u o (e9 _ _ hu) (ne_of_none hu hx)
          have E9 := E8.trans e89
          have ht9 := ex_l e89 ht8
          have hg9 := ex_l e89 hg8
          have gr0 := gr
          obtain ⟨dx', p, q, r, g1, g2, g3, g4, nf, g5⟩ := gr
          show tSeq _ _ _ _ _
          refine q_when (b := !decide (t' = zI (nums ws)) || !decide (g' = zI (gainsW ws))) (et_or (et_test (ev_neTu (etu_fld (ev_var rfl) g1 G.cls G.told rfl g2) (etu_tupleP (ev_var rfl) ht9))) fun _ => et_test (ev_neTu (etu_fld (ev_var rfl) g1 G.cls G.gains rfl g3) (etu_tupleP (ev_var rfl) hg9))) (fun hb3 H10 e10 => ?_) (fun hb3 H10 e10 => ?_)
          · refine raise_text (K := K) (k := 0) (ea_cons ev_c (ea_cons ev_c ea_nil)) ((kn fun nf' => ?_).mono (E9.trans e10))
            obtain ⟨rfl, rfl⟩ := nf_one nf nf' hv
            unfold told at hb3
            rw [decide_eq_true rfl, decide_eq_true rfl] at hb3
            exact absurd hb3 (by decide)
          · obtain ⟨z1, z2⟩ := Bool.or_eq_false_iff.mp hb3
            have y1 : t' = zI (nums ws) := by simpa using z1
            have y2 : g' = zI (gainsW ws) := by simpa using z2
            subst y1 y2
            exact s_ret (ev_var rfl) fun H11 e11 => ky nf x H11 (fresh_back E8 hx) ((E9.trans e10).trans e11) (gr0.mono (e10.trans e11))
    · refine q_call (ea_cons (ev_var rfl) ea_nil) fun H1 e1 => .inr ⟨x, t, rfl, tyx_mono e1 ht, hk, k.mono e1⟩
end
end K07
namespace K07
open PySem L2 Evl Gr ClX OwX
section
variable {P : Program} {w : World} {K : PySem.W.Frag} {mg : Str → Option Value} {base : Heap} {σ : L2.St} {H : Hp} {te : TE} {ta : TA} {t : TT}
/-- a comprehension over a text -/
theorem el_lcS {z : Str} {tl : TE} {j : Nat} {vs : List Nat} (f : Nat → Bool) (v : Nat → V) (h : Ev tl σ H (.str z)) (hz : z.cps.size ≤ 40000) (hw : ∀ x, wipe ((wipe σ vs).set j (some x)) vs = wipe σ vs)
    (ht : ∀ (i c : Nat) H1, Ex H H1 → z.cps[i]? = some c → EvT t ((wipe σ vs).set j (some (.str ⟨#[c]⟩))) H1 (f i)) (he : ∀ (i c : Nat) H1, Ex H H1 → z.cps[i]? = some c → f i = true → Ev te ((wipe σ vs).set j (some (.str ⟨#[c]⟩))) H1 (v i)) :
    EvL (tLc (iStr tl) (gName j) t te vs) σ H (given z.cps.size f v) := fun H0 e Q q => h H0 e _ fun H1 e1 => ⟨z, rfl, fun Dl hD => by
  refine ⟨fun i m H' => m = z.cps.size - i ∧ i ≤ z.cps.size ∧ Cw H1 f v Dl i H', ⟨_, rfl, Nat.zero_le _, hD, Ex.new hD, upd_same⟩, ?_⟩
  rintro i m H' ⟨rfl, hi, p⟩
  by_cases hlt : i < z.cps.size
  · refine .inr ⟨hlt, Cw H1 f v Dl (i + 1), fun H'' p' => ⟨z.cps.size - (i + 1), by omega, rfl, hlt, p'⟩, fun x H'' y => ?_⟩
    obtain ⟨rfl, c, hc, rfl⟩ := y
    exact ⟨hw _, cw_turn p (by omega) (ht i c H1 (e.trans e1) hc) (fun hf => he i c H1 (e.trans e1) hc hf)⟩
  · obtain rfl : i = z.cps.size := by omega
    exact .inl ⟨Nat.le_refl _, q Dl H' (fresh_back e1 p.1) (e1.trans p.2.1) p.2.2⟩⟩
/-- the signs of z that stand not in w -/
def offs (z w : Str) : List Str := ((List.range z.cps.size).filter fun i => !decide (z.cps.toList.getD i 0 ∈ w.cps.toList)).map fun i => ⟨#[z.cps.toList.getD i 0]⟩
theorem dpAll_strs {H : Hp} : ∀ (ns : List Str), DpAll K H (ns.map V.str) (ns.map PyData.str)
  | [] => .nil
  | n :: ns => .cons (.str n) (dpAll_strs ns)
/-- [c for c in z if c not in w] == [] -/
theorem ev_noOffs {z w : Str} {tl : TE} {j : Nat} {vs : List Nat} (h : Ev tl σ H (.str z)) (hz : z.cps.size ≤ 4000) (hw : ∀ x, wipe ((wipe σ vs).set j (some x)) vs = wipe σ vs) (hj : ∀ x, ((wipe σ vs).set j (some x))[j]? = some (some x))
    (hs : SeqAt.shaped (.list ((offs z w).map PyData.str)) = true) :
    Ev (tOp (rEqD K) (tLc (iStr tl) (gName j) (tTest (tOp (fun x y H Q => ∃ (c : Nat) (z : Str), x = .str ⟨#[c]⟩ ∧ y = .str z ∧ Q (.bl (!decide (c ∈ z.cps.toList))) H) (tVar j) (tC (.str w)))) (tVar j) vs) (tLst tNil)) σ H (.bl (PyData.eqv (.list ((offs z w).map PyData.str)) (.list []))) := by
  have hc : ∀ {i c : Nat}, z.cps[i]? = some c → z.cps.toList.getD i 0 = c := fun {i c} e => by
    have : z.cps.toList[i]? = some c := by rw [Array.getElem?_toList]; exact e
    rw [List.getD_eq_getElem?_getD, this]
    rfl
  refine ev_opLL (xs := (offs z w).map V.str) (ys := []) ?_ (el_lst ea_nil (by decide)) (fun p q H1 hp hq e => ?_)
  · have e1 : (offs z w).map V.str = given z.cps.size (fun i => !decide (z.cps.toList.getD i 0 ∈ w.cps.toList)) (fun i => V.str ⟨#[z.cps.toList.getD i 0]⟩) := by
      unfold offs given
      rw [List.map_map]
      rfl
    rw [e1]
    refine el_lcS _ _ h (by omega) hw (fun i c H1 e hi => ?_) (fun i c H1 e hi _ => ?_)
    · rw [hc hi]
      exact et_test (ev_op (ev_var (hj _)) ev_c fun H2 e2 Q q => ⟨c, w, rfl, rfl, q H2 (Ex.refl H2)⟩)
    · rw [hc hi]
      exact ev_var (hj _)
  · exact fun H2 e2 Q k => ⟨_, _, .lst (sq_of (e2 _ _ hp)) (dpAll_strs _), .lst (sq_of (e2 _ _ hq)) .nil, hs, shaped_nil, k H2 (Ex.refl H2)⟩
end
theorem canLay_strs : ∀ (ns : List Str), (∀ n ∈ ns, PyData.strOk n = true) → PyData.canLayAll0 (ns.map PyData.str) = true
  | [], _ => by simp [PyData.canLayAll0]
  | n :: ns, h => by simp [PyData.canLayAll0, PyData.canLay0, h n List.mem_cons_self, canLay_strs ns fun m hm => h m (List.mem_cons_of_mem _ hm)]
theorem depth_strs : ∀ (ns : List Str), PyData.depthAll (ns.map PyData.str) = 0
  | [] => by simp [PyData.depthAll]
  | n :: ns => by simp [PyData.depthAll, PyData.depth, depth_strs ns]
theorem shaped_strs (ns : List Str) (h : ∀ n ∈ ns, PyData.strOk n = true) : SeqAt.shaped (.list (ns.map PyData.str)) = true := by
  unfold SeqAt.shaped
  simp [PyData.canLay0, canLay_strs ns h, PyData.depth, depth_strs]
theorem shaped_tstrs (ns : List Str) (h : ∀ n ∈ ns, PyData.strOk n = true) : SeqAt.shaped (.tuple (ns.map PyData.str)) = true := by
  unfold SeqAt.shaped
  simp [PyData.canLay0, canLay_strs ns h, PyData.depth, depth_strs]
theorem eqv_strs : ∀ xs ys : List Str, PyData.eqvAll (xs.map PyData.str) (ys.map PyData.str) = decide (xs = ys)
  | [], [] => by simp [PyData.eqvAll]
  | [], y :: ys => by simp [PyData.eqvAll]
  | x :: xs, [] => by simp [PyData.eqvAll]
  | x :: xs, y :: ys => by
    have ih := eqv_strs xs ys
    simp only [List.map_cons, PyData.eqvAll, PyData.eqv, ih]
    by_cases h : x = y <;> by_cases h2 : xs = ys <;> simp [h, h2]
theorem eqv_lstrs (xs ys : List Str) : PyData.eqv (.list (xs.map PyData.str)) (.list (ys.map PyData.str)) = decide (xs = ys) := by
  have := eqv_strs xs ys
  simpa [PyData.eqv] using this
theorem eqv_tstrs (xs ys : List Str) : PyData.eqv (.tuple (xs.map PyData.str)) (.tuple (ys.map PyData.str)) = decide (xs = ys) := by
  have := eqv_strs xs ys
  simpa [PyData.eqv] using this
/-! ### _law_is_number -/
def Wd.isN : Wd → Bool
  | .num _ => true
  | _ => false
def Dig : Str := "0123456789"
theorem dig_tl : Dig.cps.toList = [48, 49, 50, 51, 52, 53, 54, 55, 56, 57] := by decide +kernel
theorem offs_num (n : Nat) : offs (tx (n : Int)) Dig = [] := by
  unfold offs
  rw [List.map_eq_nil_iff, List.filter_eq_nil_iff]
  intro i hi
  have hi := List.mem_range.mp hi
  have hl : i < (tx (n : Int)).cps.toList.length := by rw [Array.length_toList]; exact hi
  have d : decide ((tx (n : Int)).cps.toList.getD i 0 ∈ Dig.cps.toList) = true := by
    refine decide_eq_true ?_
    rw [List.getD_eq_getElem?_getD, List.getElem?_eq_getElem hl, dig_tl]
    show (tx (n : Int)).cps.toList[i] ∈ _
    have m : (tx (n : Int)).cps.toList[i] ∈ TL.numL n := by
      have := List.getElem_mem hl
      exact (tx_cps n) ▸ this
    have b := TL.numL_digits n _ m
    generalize (tx (n : Int)).cps.toList[i] = c at b
    have : c = 48 ∨ c = 49 ∨ c = 50 ∨ c = 51 ∨ c = 52 ∨ c = 53 ∨ c = 54 ∨ c = 55 ∨ c = 56 ∨ c = 57 := by omega
    simp only [List.mem_cons, List.not_mem_nil, or_false]
    exact this
  rw [d]
  decide
/-- what is asked of a word: its length; its signs; the number that it writes -/
theorem bad_number : ∀ k : Fin 7, (decide (1 ≤ ((badS k.val).length : Int)) && decide (((badS k.val).length : Int) ≤ 99) && decide (offs (badS k.val) Dig = [])) = false ∨ (∃ m : Nat, m < 2 ∧ intText? (badS k.val) = some (m : Int) ∧ decide (tx (m : Int) = badS k.val) = false) := by
  intro k
  have : k = 0 ∨ k = 1 ∨ k = 2 ∨ k = 3 ∨ k = 4 ∨ k = 5 ∨ k = 6 := by omega
  rcases this with rfl | rfl | rfl | rfl | rfl | rfl | rfl
  · left; decide +kernel
  · right; exact ⟨1, by decide, by decide +kernel, by decide +kernel⟩
  · left; decide +kernel
  · left; decide +kernel
  · right; exact ⟨0, by decide, by decide +kernel, by decide +kernel⟩
  · left; decide +kernel
  · left; decide +kernel
theorem thn_number : (decide (1 ≤ ((Wd.t .thn).length : Int)) && decide (((Wd.t .thn).length : Int) ≤ 99) && decide (offs (Wd.t .thn) Dig = [])) = false := by decide +kernel
theorem word_look {w : Wd} (h : ∀ n, w = .num n → n < 10 ^ 60) : ((decide (1 ≤ ((w.t).length : Int)) && decide (((w.t).length : Int) ≤ 99) && decide (offs w.t Dig = [])) = false ∧ w.isN = false) ∨
    (∃ m : Nat, m < 10 ^ 60 ∧ intText? w.t = some (m : Int) ∧ decide (tx (m : Int) = w.t) = w.isN) := by
  cases w with
  | num n => exact .inr ⟨n, h n rfl, tx_int (h n rfl), decide_eq_true rfl⟩
  | thn => exact .inl ⟨thn_number, rfl⟩
  | bad k =>
    rcases bad_number k with z | ⟨m, h1, h2, h3⟩
    · exact .inl ⟨z, rfl⟩
    · exact .inr ⟨m, Nat.lt_of_lt_of_le h1 (by decide), h2, h3⟩
theorem bad_offs : ∀ k : Fin 7, SeqAt.shaped (.list ((offs (badS k.val) Dig).map PyData.str)) = true := by decide +kernel
theorem offs_shaped (w : Wd) : SeqAt.shaped (.list ((offs w.t Dig).map PyData.str)) = true := by
  cases w with
  | num n => rw [show Wd.t (.num n) = tx (n : Int) from rfl, offs_num]; decide +kernel
  | thn => decide +kernel
  | bad k => exact bad_offs k
section
variable {P : Program} {w : World} {K : PySem.W.Frag} {mg : Str → Option Value} {base : Heap}
abbrev sIn : Stmt := top 43
def spIn : Sp := fun vs H Q _ => ∃ w : Wd, vs = [.str w.t] ∧ (∀ n, w = .num n → n < 10 ^ 60) ∧ RetV (.bl w.isN) H Q
abbrev nIn : List Str := ["_law_word", "_law_sign"]
theorem scIn : FnScope nIn ["_law_word"] (defScope sIn) := ⟨rfl, rfl, rfl, by decide +kernel, rfl, by decide +kernel, by decide +kernel⟩
theorem ok_In {f : Addr} {fd : FuncData} (F : Fun K "_law_is_number" "_law_is_number" sIn f fd) (TT : GlbT mg) : FnOk P w K mg base CX0 1 f fd ["_law_word"] spIn := by
  refine F.ok scIn (fun vs H Q E h => ?_) (fun cdv A outer s H vs Q E hr h => ?_)
  · obtain ⟨w, rfl, _⟩ := h
    rfl
  · obtain ⟨w, rfl, hw, k⟩ := h
    have len60 := w_len hw
    refine ⟨_, pss_one (ps_ret (pe_and (pe_chain op_le op_le pe_int (pe_callB call_len_str (by rfl) TT.len PySem.boot_len (pa_cons (pv 0) pa_nil)) pe_int)
      (pe_and (pe_cmpR (op_eqD hr.units) (pe_lc (own := [("_law_sign", 1)]) (g := gName 1) rfl scIn.nd (pi_str (pv 0)) (blkOk_by (own := [("_law_sign", 1)]) (N := nIn) (sc := defScope sIn) (by decide +kernel))
          (fun _ _ _ _ _ => pg_name (i := 1) scIn.nd rfl (Or.inl rfl)) (fun _ _ _ _ _ => pts_one (pt_cmpR op_notIn_sign (pv 1) pe_str (by rfl))) (fun _ _ _ _ _ => pv 1)) (pe_lst pa_nil) (nomark _))
        (pe_one (pe_cmpR op_eq (pe_callTy call_str_int (by rfl) TT.str (by decide +kernel) (pa_cons (pe_callTy call_int_str (by rfl) TT.int (by decide +kernel) (pa_cons (pv 0) pa_nil)) pa_nil)) (pv 0) (nomark _)))))), ?_⟩
    have hl : ∀ H1, Ev (tCB (fun xs H Q => ∃ z, xs = [V.str z] ∧ z.length ≤ sizeLine ∧ Q (.int z.length) H) (tCons (tVar 0) tNil)) [some (.str w.t), none] H1 (.int (w.t.length : Int)) := fun H1 => ev_cb (ea_cons (ev_var rfl) ea_nil) fun H2 e Q q => ⟨_, rfl, sz_of (by omega), q H2 (Ex.refl H2)⟩
    have ho := ev_noOffs (K := K) (σ := [some (.str w.t), none]) (H := H) (z := w.t) (w := Dig) (tl := tVar 0) (j := 1) (vs := [1]) (ev_var rfl) (by have : w.t.cps.size = w.t.length := rfl; omega) (fun _ => rfl) (fun _ => rfl) (offs_shaped w)
    rw [show PyData.eqv (.list ((offs w.t Dig).map PyData.str)) (.list []) = decide (offs w.t Dig = []) from eqv_lstrs _ []] at ho
    refine s_ret (v := .bl w.isN) ?_ k
    have c1 := ev_chain (ta := tC (.int 1)) (tb := tCB (fun xs H Q => ∃ z, xs = [V.str z] ∧ z.length ≤ sizeLine ∧ Q (.int z.length) H) (tCons (tVar 0) tNil)) (tc := tC (.int 99)) (f := fun i j => decide (i ≤ j)) (g := fun i j => decide (i ≤ j)) (ev_c (σ := [some (.str w.t), none]) (H := H)) (hl H) ev_c
    rcases word_look hw with ⟨z, nv⟩ | ⟨m, hm, hi, hb⟩
    · refine ev_is (ev_andV (b := decide (offs w.t Dig = []) && false) c1 fun z1 => ev_andV (b := false) ho fun z2 => ?_) (by rw [nv, Bool.and_false, Bool.and_false])
      rw [z1, z2] at z
      exact absurd z (by decide)
    · have e3 : Ev (tOp rEq (tCB (fun xs H Q => ∃ i, xs = [V.int i] ∧ i.natAbs.log2 < 1920 ∧ Q (.str (toString i)) H) (tCons (tCB (fun xs H Q => ∃ a n, xs = [V.str a] ∧ intText? a = some n ∧ a.length ≤ 640 ∧ Q (.int n) H) (tCons (tVar 0) tNil)) tNil)) (tVar 0)) [some (.str w.t), none] H (.bl (decide (V.str (tx (m : Int)) = V.str w.t))) :=
        ev_op (x := .str (tx (m : Int))) (ev_cb (ea_cons (ev_cb (z := .int (m : Int)) (ea_cons (ev_var rfl) ea_nil) fun H2 e Q q => ⟨_, _, rfl, hi, Nat.le_trans len60 (by decide), q H2 (Ex.refl H2)⟩) ea_nil) fun H2 e Q q => ⟨(m : Int), rfl, log_small (by omega) (by have := Int.ofNat_lt.mpr hm; rw [Int.natCast_pow] at this; exact this), q H2 (Ex.refl H2)⟩) (ev_var rfl) (rv_eq rfl)
      rw [show decide (V.str (tx (m : Int)) = V.str w.t) = w.isN by
        rw [← hb]
        exact decide_eq_decide.mpr ⟨V.str.inj, congrArg V.str⟩] at e3
      refine ev_is (ev_andV c1 fun z1 => ev_andV ho fun z2 => e3) ?_
      cases hw2 : w with
      | num n =>
        subst hw2
        have p1 := txN_pos n
        rw [show Wd.t (.num n) = tx (n : Int) from rfl, offs_num]
        have : (tx (n : Int)).length ≤ 60 := len60
        rw [decide_eq_true (by omega : (1 : Int) ≤ ((tx (n : Int)).length : Int)), decide_eq_true (by omega : ((tx (n : Int)).length : Int) ≤ 99)]
        rfl
      | thn => simp [Wd.isN]
      | bad j => simp [Wd.isN]
end
end K07
namespace Gr
def rep (c : Nat) (h : List Int) : List Int := (List.replicate c h).flatten
theorem rep_succ {c : Nat} {h : List Int} : rep (c + 1) h = h ++ rep c h := by
  unfold rep
  rw [List.replicate_succ, List.flatten_cons]
theorem rep_len {c : Nat} {h : List Int} : (rep c h).length = c * h.length := by
  induction c with
  | zero => rw [Nat.zero_mul]; rfl
  | succ c ih => rw [rep_succ, List.length_append, ih, Nat.succ_mul, Nat.add_comm]
theorem rep_at {h : List Int} (h0 : 0 < h.length) : ∀ {c i : Nat}, i < c * h.length → at' (rep c h) i = at' h (i % h.length)
  | 0, i, hi => absurd hi (by rw [Nat.zero_mul]; exact Nat.not_lt_zero i)
  | c + 1, i, hi => by
    rw [rep_succ, at_app]
    rw [Nat.succ_mul] at hi
    by_cases z : i < h.length
    · rw [if_pos z, Nat.mod_eq_of_lt z]
    · rw [if_neg z, rep_at h0 (c := c) (by omega), Nat.mod_eq_sub_mod (a := i) (by omega)]
theorem dif_rep {h : List Int} {c : Nat} (h0 : 0 < h.length) (c0 : 0 < c) : dif (rep c h) = dif h := funext fun k => by
  have L : 0 < c * h.length := Nat.mul_pos c0 h0
  show at' (rep c h) (k % (rep c h).length) = at' h (k % h.length)
  rw [rep_len, rep_at h0 (Nat.mod_lt _ L), Nat.mod_mod_of_dvd _ (Nat.dvd_mul_left _ _)]
/-- whether the first n, again and again, are all -/
theorem rep_take {g : List Int} {n : Nat} (g0 : 0 < g.length) (n0 : 0 < n) (d : n ∣ g.length) : rep (g.length / n) (g.take n) = g ↔ Pd (dif g) n := by
  have nl : n ≤ g.length := Nat.le_of_dvd g0 d
  have tl : (g.take n).length = n := by rw [List.length_take]; omega
  have c1 : g.length / n * n = g.length := Nat.div_mul_cancel d
  have c0 : 0 < g.length / n := Nat.div_pos nl n0
  constructor
  · intro e
    have z := dif_rep (h := g.take n) (c := g.length / n) (by omega) c0
    rw [e] at z
    rw [z]
    have := dif_pd (g := g.take n)
    rwa [tl] at this
  · intro p
    refine at_eq_of (by rw [rep_len, tl, c1]) fun i hi => ?_
    rw [rep_len, tl] at hi
    rw [rep_at (by omega) (by rw [tl]; exact hi), tl, at_take (Nat.mod_lt _ n0)]
    have a := p.mod i
    rw [dif_lt (by have := Nat.mod_lt i n0; omega), dif_lt (by omega)] at a
    exact a
/-- the numbers of gains, fewer than all, that come again until all are told -/
def subs (g : List Int) : List Nat := (List.range (g.length - 1)).filter fun i => decide (g.length % (i + 1) = 0) && decide (rep (g.length / (i + 1)) (g.take (i + 1)) = g)
def nrm (t g : List Int) : Bool := !(decide (1 < t.length) && decide (at' t (t.length - 1) - at' t (t.length - 2) = lst g)) && (subs g).isEmpty
theorem nrm_iff {t g : List Int} (t0 : 0 < t.length) (g0 : 0 < g.length) : nrm t g = true ↔ NF t g := by
  unfold nrm
  rw [Bool.and_eq_true_iff, List.isEmpty_iff]
  constructor
  · rintro ⟨h1, h2⟩
    refine ⟨t0, g0, ⟨g0, dif_pd, fun q q0 pq => ?_⟩, ?_⟩
    · refine Classical.byContradiction fun lt => ?_
      have pg := Pd.gcd q g.length pq dif_pd
      have d := Nat.gcd_dvd_right q g.length
      have le : Nat.gcd q g.length ≤ q := Nat.le_of_dvd q0 (Nat.gcd_dvd_left q g.length)
      have p0 : 0 < Nat.gcd q g.length := Nat.gcd_pos_of_pos_left _ q0
      generalize Nat.gcd q g.length = n at pg d le p0
      have m : n - 1 ∈ subs g := by
        refine List.mem_filter.mpr ⟨List.mem_range.mpr (by omega), ?_⟩
        rw [show n - 1 + 1 = n by omega, Bool.and_eq_true_iff]
        exact ⟨decide_eq_true (Nat.mod_eq_zero_of_dvd d), decide_eq_true ((rep_take g0 p0 d).mpr pg)⟩
      rw [h2] at m
      cases m
    · by_cases z : t.length = 1
      · exact .inl z
      · right
        intro e
        rw [decide_eq_true (by omega : 1 < t.length), decide_eq_true e] at h1
        exact absurd h1 (by decide)
  · intro nf
    refine ⟨?_, ?_⟩
    · rcases nf.few with z | z
      · rw [decide_eq_false (by omega : ¬ 1 < t.length)]
        rfl
      · rw [decide_eq_false z, Bool.and_false]
        rfl
    · refine List.filter_eq_nil_iff.mpr fun i hi h => ?_
      have hi := List.mem_range.mp hi
      obtain ⟨a, b⟩ := Bool.and_eq_true_iff.mp h
      have d : (i + 1) ∣ g.length := Nat.dvd_of_mod_eq_zero (of_decide_eq_true a)
      have := nf.least.le (i + 1) (by omega) ((rep_take g0 (by omega) d).mp (of_decide_eq_true b))
      omega
end Gr
namespace K07
open PySem L2 Evl Gr ClX OwX
def dueV (ws : List Wd) : V := match due ws with
  | some i => .int (i : Int)
  | none => .non
theorem nums_stopN {ws : List Wd} {b j : Nat} {w : Wd} (hw : ws[b + j]? = some w) (hj : j = (nums (ws.drop b)).length) : w.isN = false := by
  have lt := (List.getElem?_eq_some_iff.mp hw).1
  obtain ⟨w2, h2, hn⟩ := nums_stop (ws := ws.drop b) (by rw [List.length_drop, ← hj]; omega)
  rw [List.getElem?_drop, ← hj, hw] at h2
  obtain rfl := Option.some.inj h2
  cases w with
  | num n => exact absurd rfl (hn n)
  | thn => rfl
  | bad k => rfl
theorem nums_atN {ws : List Wd} {b j : Nat} (hj : j < (nums (ws.drop b)).length) : ∃ n, ws[b + j]? = some (.num n) := by
  have := nums_at hj
  rw [List.getElem?_drop] at this
  exact ⟨_, this⟩
theorem nums_room {ws : List Wd} {b : Nat} (hb : b ≤ ws.length) : b + (nums (ws.drop b)).length ≤ ws.length := by
  have := nums_len (ws.drop b)
  rw [List.length_drop] at this
  omega
section
variable {P : Program} {w : World} {K : PySem.W.Frag} {mg : Str → Option Value} {base : Heap}
/-! ### _law_due -/
abbrev sDue : Stmt := top 44
abbrev nDue : List Str := ["_law_words", "_law_at", "_law_part", "_law_begin_so"]
def spDue (K : PySem.W.Frag) : Sp := fun vs H Q _ => ∃ (a : Addr) (ws : List Wd), vs = [.ref a] ∧ SqL K H a (vW ws) ∧ OkW ws ∧ ws.length ≤ 1500 ∧ RetV (dueV ws) H Q
theorem scDue : FnScope nDue ["_law_words"] (defScope sDue) := ⟨rfl, rfl, rfl, by decide +kernel, rfl, by decide +kernel, by decide +kernel⟩
theorem ok_Due {f fN : Addr} {fd fdN : FuncData} (F : Fun K "_law_due" "_law_due" sDue f fd) (T : GlbS mg)
    (GN : FnOk P w K mg base CX0 1 fN fdN ["_law_word"] spIn) (kN : PySem.W.keepIn K (.ref fN) = true) (bN : Binds K fdN ["_law_word"] []) (gN : mg "_law_is_number" = some (.ref fN)) : FnOk P w K mg base CX0 2 f fd ["_law_words"] (spDue K) := by
  refine F.ok scDue (fun vs H Q E h => ?_) (fun cdv A outer s H vs Q E hr h => ?_)
  · obtain ⟨a, ws, rfl, _⟩ := h
    rfl
  · obtain ⟨a, ws, rfl, hL, ok, hz, k⟩ := h
    refine ⟨_, pss_cons (ps_set (i := 1) scDue.nd rfl (.inl rfl) pe_int)
      (pss_cons (ps_for PassesOwn.never rfl (pi_range1 (by rfl) T.range (pa_cons pe_int pa_nil)) (pg_name (i := 2) scDue.nd rfl (.inl rfl))
        (pss_cons (ps_set (i := 3) scDue.nd rfl (.inl rfl) (pv 1))
        (pss_cons (ps_while PassesOwn.never (PW.pt (pw_and (pt_cmpR op_lt (pv 1) (pe_callB call_len_seq (by rfl) T.len PySem.boot_len (pa_cons (pv 0) pa_nil)) (nomark _)) (pw_and1 (pt_val (pe_call GN hr (by rfl) gN kN bN .nil pass0 (pa_cons (pe_ix ix_list (pv 0) (pv 1) (fun _ _ => rfl)) pa_nil))))))
          (pss_one (ps_set (i := 1) scDue.nd rfl (.inl rfl) (pe_op op_add (pv 1) pe_int))))
        (pss_cons (ps_if (pt_cmpR op_eq (pv 1) (pv 3) (nomark _)) (pss_one (ps_ret (pv 1))) pss_nil)
        (pss_one (ps_if (pt_cmpR op_eq (pv 2) pe_int (nomark _)) (pss_cons (ps_if (PW.pt (pw_or (pt_cmpR op_eq (pv 1) (pe_callB call_len_seq (by rfl) T.len PySem.boot_len (pa_cons (pv 0) pa_nil)) (nomark _)) (pw_or1 (pt_cmpR op_ne (pe_ix ix_list (pv 0) (pv 1) (fun _ _ => rfl)) pe_str (nomark _))))) (pss_one (ps_ret (pv 1))) pss_nil)
          (pss_one (ps_set (i := 1) scDue.nd rfl (.inl rfl) (pe_op op_add (pv 1) pe_int)))) pss_nil))))))
      (pss_one (ps_ret (pe_ifExp (pt_cmpR op_lt (pv 1) (pe_callB call_len_seq (by rfl) T.len PySem.boot_len (pa_cons (pv 0) pa_nil)) (nomark _)) (pv 1) pe_non)))), ?_⟩
    have evl : ∀ {σ : L2.St} {H' : Hp}, Ex H H' → σ[0]? = some (some (.ref a)) → Ev (tCB (fun xs H Q => ∃ p ys, xs = [V.ref p] ∧ (SqL K H p ys ∨ SqT K H p ys) ∧ Q (.int ys.length) H) (tCons (tVar 0) tNil)) σ H' (.int (ws.length : Int)) := fun e h0 => ev_is (lenE (ev_var h0) (ex_l e hL)) (by rw [vW_len])
    have evw : ∀ {σ : L2.St} {H' : Hp} {n : Nat} {u : Wd}, Ex H H' → σ[0]? = some (some (.ref a)) → σ[1]? = some (some (.int (n : Int))) → ws[n]? = some u → Ev (tOp (rIxL K) (tVar 0) (tVar 1)) σ H' (.str u.t) := fun e h0 h1 hw => ev_op (ev_var h0) (ev_var h1) (rv_ixL (ex_l e hL) (atI_nat (vW_at hw)))
    refine q_asg ev_c fun H1 e1 => ?_
    refine q_forR1 (n := 2) (ea_cons ev_c ea_nil) (by decide) (fun i σ' H' => Ex H H' ∧ ∃ x2 x3, (i = 0 ∧ σ' = [some (.ref a), some (.int ((0 : Nat) : Int)), x2, x3]) ∨
      (¬ ((nums ws).length = 0 ∨ ws[(nums ws).length]? ≠ some .thn) ∧ ((i = 1 ∧ σ' = [some (.ref a), some (.int (((nums ws).length + 1 : Nat) : Int)), x2, x3]) ∨ (i = 2 ∧ (gainsW ws).length ≠ 0 ∧ σ' = [some (.ref a), some (.int (((nums ws).length + 1 + (gainsW ws).length : Nat) : Int)), x2, x3]))))
      (fun H2 e2 => ⟨e1.trans e2, _, _, .inl ⟨rfl, rfl⟩⟩) ?_ ?_
    · rintro i σ' H2 hi ⟨e2, x2, x3, hst⟩
      -- where this part begins
      obtain ⟨b, hb, σe, hpart⟩ : ∃ b : Nat, b ≤ ws.length ∧ σ' = [some (.ref a), some (.int (b : Int)), x2, x3] ∧ ((i = 0 ∧ b = 0) ∨ (i = 1 ∧ b = (nums ws).length + 1 ∧ ¬ ((nums ws).length = 0 ∨ ws[(nums ws).length]? ≠ some .thn))) := by
        rcases hst with ⟨rfl, rfl⟩ | ⟨hno, ⟨rfl, rfl⟩ | ⟨rfl, _, rfl⟩⟩
        · exact ⟨0, Nat.zero_le _, rfl, .inl ⟨rfl, rfl⟩⟩
        · have ht : ws[(nums ws).length]? = some .thn := Classical.byContradiction fun z => hno (.inr z)
          have lt := (List.getElem?_eq_some_iff.mp ht).1
          exact ⟨_, lt, rfl, .inr ⟨rfl, rfl, hno⟩⟩
        · exact absurd hi (by decide)
      subst σe
      have room := nums_room hb
      show tSeq _ _ _ _ _
      refine q_asg (ev_var rfl) fun H3 e3 => ?_
      refine q_while (fun u σ' H' => ∃ j, u = (nums (ws.drop b)).length - j ∧ j ≤ (nums (ws.drop b)).length ∧ σ' = [some (.ref a), some (.int ((b + j : Nat) : Int)), some (.int (i : Int)), some (.int (b : Int))] ∧ Ex H H') (nums (ws.drop b)).length ⟨0, rfl, Nat.zero_le _, rfl, e2.trans e3⟩ ?_
      rintro u σ' H4 ⟨j, rfl, hj, rfl, e4⟩
      refine ⟨decide (j < (nums (ws.drop b)).length), ?_, fun ht H5 e5 => ?_, fun ht H5 e5 => ?_⟩
      · by_cases z : j < (nums (ws.drop b)).length
        · obtain ⟨n, hw⟩ := nums_atN z
          refine et_is (et_and (et_is (et_test (ev_op (ev_var rfl) (evl e4 rfl) rv_I0)) (decide_eq_true (by omega : ((b + j : Nat) : Int) < (ws.length : Int)))) fun _ => et_B (ev_call (z := .bl true) (ea_cons (evw e4 rfl rfl hw) ea_nil) fun H6 e6 Q6 q6 E6 => ⟨.num n, rfl, fun m em => ok m (em ▸ List.mem_of_getElem? hw), q6⟩)) (by rw [decide_eq_true z]; rfl)
        · have je : j = (nums (ws.drop b)).length := by omega
          by_cases y : b + j < ws.length
          · have hw : ws[b + j]? = some ws[b + j] := List.getElem?_eq_getElem y
            have nn := nums_stopN hw je
            refine et_is (et_and (et_is (et_test (ev_op (ev_var rfl) (evl e4 rfl) rv_I0)) (decide_eq_true (by omega : ((b + j : Nat) : Int) < (ws.length : Int)))) fun _ => et_B (ev_call (z := .bl false) (ea_cons (evw e4 rfl rfl hw) ea_nil) fun H6 e6 Q6 q6 E6 => ⟨ws[b + j], rfl, fun m em => ok m (em ▸ List.mem_of_getElem? hw), by rw [nn]; exact q6⟩)) (by rw [decide_eq_false z]; rfl)
          · refine et_is (et_and (b := false) (et_is (et_test (ev_op (ev_var rfl) (evl e4 rfl) rv_I0)) (decide_eq_false (by omega : ¬ ((b + j : Nat) : Int) < (ws.length : Int)))) fun z => absurd z (by decide)) (by rw [decide_eq_false z]; rfl)
      · have lt := of_decide_eq_true ht
        refine ⟨fun σ2 H6 => σ2 = [some (.ref a), some (.int ((b + (j + 1) : Nat) : Int)), some (.int (i : Int)), some (.int (b : Int))] ∧ Ex H H6, fun σ2 H6 h6 => ⟨_, (by omega : (nums (ws.drop b)).length - (j + 1) < (nums (ws.drop b)).length - j), j + 1, rfl, lt, h6.1, h6.2⟩, ?_⟩
        exact s_asg (v := .int ((b + (j + 1) : Nat) : Int)) (ev_is (ev_op (ev_var rfl) ev_c rv_I0) (by congr 1)) fun H6 e6 => ⟨rfl, (e4.trans e5).trans e6⟩
      · have nlt := of_decide_eq_false ht
        have je : j = (nums (ws.drop b)).length := by omega
        subst je
        have e45 := e4.trans e5
        refine q_when (b := decide ((nums (ws.drop b)).length = 0)) (et_is (et_test (ev_op (ev_var rfl) (ev_var rfl) (rv_eq rfl))) (by rw [vint_inj]; exact decide_eq_decide.mpr (by omega))) (fun hb5 H6 e6 => ?_) (fun hb5 H6 e6 => ?_)
        · have z0 := of_decide_eq_true hb5
          refine s_ret (v := dueV ws) (ev_is (ev_var rfl) ?_) fun H7 e7 => k H7 ((e45.trans e6).trans e7)
          rw [z0]
          unfold dueV
          rcases hpart with ⟨rfl, rfl⟩ | ⟨rfl, rfl, hno⟩
          · rw [List.drop_zero] at z0
            rw [due_first (.inl z0), z0]
          · have z0 : (gainsW ws).length = 0 := z0
            rw [due_second hno (.inl z0), z0]
        · have z0 := of_decide_eq_false hb5
          rcases hpart with ⟨rfl, rfl⟩ | ⟨rfl, rfl, hno⟩
          · rw [List.drop_zero] at z0 room
            have dz : ws.drop 0 = ws := List.drop_zero
            rw [dz]
            refine s_when (b := true) (et_is (et_test (ev_op (ev_var rfl) ev_c (rv_eq rfl))) (by rfl)) (fun _ H7 e7 => ?_) (fun hb => absurd hb (by decide))
            have e47 := (e45.trans e6).trans e7
            refine q_when (b := decide ((nums ws).length = ws.length) || !decide (ws[(nums ws).length]? = some .thn)) (et_or (et_is (et_test (ev_op (ev_var rfl) (evl e47 rfl) (rv_eq rfl))) (by rw [vint_inj]; exact decide_eq_decide.mpr (by omega))) fun z1 => by
              have z1 := of_decide_eq_false z1
              have lt : (nums ws).length < ws.length := by omega
              have hw : ws[0 + (nums ws).length]? = some ws[(nums ws).length] := by rw [Nat.zero_add]; exact List.getElem?_eq_getElem lt
              refine et_is (et_test (ev_op (x := .str (ws[(nums ws).length]).t) (y := .str "then") (evw e47 rfl rfl hw) ev_c (rv_ne rfl))) ?_
              rw [Nat.zero_add] at hw
              rw [hw]
              congr 1
              exact decide_eq_decide.mpr ⟨fun z => congrArg some ((then_iff _).mp (V.str.inj z)), fun z => congrArg V.str ((then_iff _).mpr (Option.some.inj z))⟩) (fun hb8 H8 e8 => ?_) (fun hb8 H8 e8 => ?_)
            · refine s_ret (v := dueV ws) (ev_is (ev_var rfl) ?_) fun H9 e9 => k H9 ((e47.trans e8).trans e9)
              unfold dueV
              rw [Nat.zero_add, due_first (by
                rcases Bool.or_eq_true_iff.mp hb8 with z | z
                · right
                  rw [of_decide_eq_true z, List.getElem?_eq_none (Nat.le_refl _)]
                  exact fun e => by cases e
                · exact .inr (by simpa using z))]
            · obtain ⟨y1, y2⟩ := Bool.or_eq_false_iff.mp hb8
              refine s_asg (v := .int (((nums ws).length + 1 : Nat) : Int)) (ev_is (ev_op (ev_var rfl) ev_c rv_I0) (by congr 1; omega)) fun H9 e9 => ⟨(e47.trans e8).trans e9, _, _, .inr ⟨?_, .inl ⟨rfl, rfl⟩⟩⟩
              rintro (z | z)
              · exact z0 z
              · exact z (by simpa using y2)
          · refine s_when (b := false) (et_is (et_test (ev_op (ev_var rfl) ev_c (rv_eq rfl))) (by rfl)) (fun hb => absurd hb (by decide)) (fun _ H7 e7 => ?_)
            exact ⟨(e45.trans e6).trans e7, _, _, .inr ⟨hno, .inr ⟨rfl, z0, rfl⟩⟩⟩
    · rintro σ' H2 ⟨e2, x2, x3, hst⟩
      rcases hst with ⟨hh, _⟩ | ⟨hno, ⟨hh, _⟩ | ⟨_, g0, rfl⟩⟩
      · exact absurd hh (by decide)
      · exact absurd hh (by decide)
      · by_cases z : (nums ws).length + 1 + (gainsW ws).length < ws.length
        · refine s_ret (v := dueV ws) (ev_is (ev_if (b := true) (et_is (et_test (ev_op (ev_var rfl) (evl e2 rfl) rv_I0)) (decide_eq_true (by omega))) (fun _ => ev_var rfl) (fun hb => absurd hb (by decide))) ?_) fun H9 e9 => k H9 (e2.trans e9)
          unfold dueV
          rw [due_second hno (.inr z)]
        · refine s_ret (v := dueV ws) (ev_is (ev_if (b := false) (et_is (et_test (ev_op (ev_var rfl) (evl e2 rfl) rv_I0)) (decide_eq_false (by omega))) (fun hb => absurd hb (by decide)) (fun _ => ev_c)) ?_) fun H9 e9 => k H9 (e2.trans e9)
          unfold dueV
          rw [due_none hno (fun y => y.elim g0 z)]
end
end K07
namespace K07
open PySem L2 Evl Gr ClX OwX
abbrev rIntS : List V → Hp → VK → Prop := fun xs H Q => ∃ a n, xs = [V.str a] ∧ intText? a = some n ∧ a.length ≤ 640 ∧ Q (.int n) H
abbrev rInt1 : List V → Hp → VK → Prop := fun xs H Q => (∃ i, xs = [V.int i] ∧ Q (.int i) H) ∨ ∃ k, xs = [V.bl k] ∧ Q (.int (if k then 1 else 0)) H
theorem tup_i {t : TA} {σ : L2.St} {H : Hp} {Q : VK} (h : t σ H fun xs H1 => xs.length ≤ sizeLine ∧ ∀ l, H1 l = none → Q (.ref l) (upd H1 l (.tup xs))) : tTup t σ H Q := h
theorem q_asgG {σ : L2.St} {H : Hp} {te : TE} {g : TG} {tz : TS} {D : Ends} (h : te σ H fun x H1 => g x σ H1 fun σ2 H2 => tz D σ2 H2) : tSeq (tAsg te g) tz D σ H := h
theorem atI_negK {g : List Int} {k : Nat} (h0 : 0 < k) (h : k ≤ g.length) : atI (vI g) (-(k : Int)) = some (V.int (at' g (g.length - k))) := by
  have e : ixN (vI g).length (-(k : Int)) = some (g.length - k) := by
    unfold ixN
    rw [vI_len, if_neg (by omega), if_pos (by omega)]
    congr 1
    omega
  unfold atI
  rw [e]
  exact vI_get (by omega)
section
variable {K : PySem.W.Frag} {σ : L2.St} {H : Hp} {ta tb te tl : TE}
theorem rc_int1 {i : Int} : RC rInt1 [.int i] H (.int i) := fun H1 e Q q => .inl ⟨i, rfl, q H1 (Ex.refl H1)⟩
theorem el_nilI : EvL (tLst tNil) σ H [] := fun H1 e Q q => ⟨by show 0 ≤ _; exact Nat.zero_le _, fun a ha => q a _ ha (Ex.new ha) upd_same⟩
/-- [int(w) for w in a new list of numbers' words] -/
theorem el_wnums {l : List Nat} {j : Nat} (h : EvL tl σ H (vW (l.map Wd.num))) (hz : l.length ≤ 40000) (hl : ∀ n ∈ l, n < 10 ^ 60) (hw : ∀ x, wipe ((wipe σ [j]).set j (some x)) [j] = wipe σ [j]) (hj : ∀ x, ((wipe σ [j]).set j (some x))[j]? = some (some x)) :
    EvL (tLc (iList K tl) (gName j) tYes (tCB rIntS (tCons (tVar j) tNil)) [j]) σ H (vN l) := by
  have c := el_lcNL (K := K) (σ := σ) (H := H) (t := tYes) (te := tCB rIntS (tCons (tVar j) tNil)) (tl := tl) (j := j) (vs := [j]) (fun _ => true) (fun i => V.int ((l.getD i 0 : Nat) : Int)) h (by rw [vW_len, List.length_map]; exact hz) hw (fun _ _ _ _ _ => et_none)
    (fun i x H1 e hi _ => by
      obtain ⟨w, hw', rfl⟩ := vW_get hi
      rw [List.getElem?_map] at hw'
      cases e2 : l[i]? with
      | none => rw [e2] at hw'; cases hw'
      | some n =>
        rw [e2] at hw'
        obtain rfl := Option.some.inj hw'
        rw [List.getD_eq_getElem?_getD, e2]
        have b := hl n (List.mem_of_getElem? e2)
        exact ev_cb (ea_cons (ev_var (hj _)) ea_nil) fun H2 e3 Q q => ⟨tx (n : Int), (n : Int), rfl, tx_int b, Nat.le_trans (txN_len b) (by decide), q H2 (Ex.refl H2)⟩)
  rw [vW_len, List.length_map] at c
  have g := given_nats l (fun _ => true) (fun n => n)
  rw [filter_yes, List.map_id'] at g
  rw [g] at c
  exact c
theorem el_repL {xs : List Int} {c : Nat} (ha : EvL ta σ H (vI xs)) (hb : ∀ H1, Ex H H1 → Ev tb σ H1 (.int (c : Int))) (hz : xs.length * c ≤ 100000) (hc : c ≤ 100000) : EvL (tOp rRep ta tb) σ H (vI (rep c xs)) := fun H1 e Q q =>
  ha H1 e _ fun p H2 hp e2 h2 => hb H2 (e.trans e2) H2 (Ex.refl H2) _ fun H3 e3 => ⟨p, (c : Int), vI xs, rfl, rfl, e3 _ _ h2, by omega, by omega, by rw [vI_len, Int.toNat_natCast]; exact sz_of hz, fun a ha => q a _ (fresh_back (e2.trans e3) ha) ((e2.trans e3).trans (Ex.new ha)) (by
    rw [upd_same, Int.toNat_natCast]
    unfold vI rep
    rw [List.map_flatten, List.map_replicate])⟩
end
section
variable {P : Program} {w : World} {K : PySem.W.Frag} {mg : Str → Option Value} {base : Heap}
/-! ### _law_is_normal -/
abbrev sNrm : Stmt := top 45
abbrev nNrm : List Str := ["_law_words", "_law_spot", "_law_told", "_law_gains", "_law_word", "_law_n"]
def spNrm (K : PySem.W.Frag) : Sp := fun vs H Q _ => ∃ (a : Addr) (ws : List Wd), vs = [.ref a] ∧ SqL K H a (vW ws) ∧ OkW ws ∧ ws.length ≤ 1500 ∧ due ws = none ∧ RetV (.bl (nrm (zI (told ws)) (zI (gainsW ws)))) H Q
theorem scNrm : FnScope nNrm ["_law_words"] (defScope sNrm) := ⟨rfl, rfl, rfl, by decide +kernel, rfl, by decide +kernel, by decide +kernel⟩
theorem flat_w (ws : List Wd) : (vW ws).all flatV = true := by
  unfold vW
  rw [List.all_map]
  exact List.all_eq_true.mpr fun _ _ => rfl
theorem subs_empty {g : List Int} : decide ((subs g).map (fun i : Nat => 1 + (i : Int)) = []) = (subs g).isEmpty := by
  cases subs g <;> rfl
theorem ok_Nrm {f : Addr} {fd : FuncData} (F : Fun K "_law_is_normal" "_law_is_normal" sNrm f fd) (T : GlbS mg) (TT : GlbT mg) : FnOk P w K mg base CX0 1 f fd ["_law_words"] (spNrm K) := by
  refine F.ok scNrm (fun vs H Q E h => ?_) (fun cdv A outer s H vs Q E hr h => ?_)
  · obtain ⟨a, ws, rfl, _⟩ := h
    rfl
  · obtain ⟨a, ws, rfl, hL, ok, hz, hd, k⟩ := h
    refine ⟨_, pss_cons (ps_set (i := 1) scNrm.nd rfl (.inl rfl) (pe_bm PySem.F.plainAttrs_list PySem.F.slot_list_index PySem.F.type_list_index mt_index (pv 0) (pa_cons pe_str pa_nil)))
      (pss_cons (ps_asg (pe_tup (pa_cons (pe_lc (own := [("_law_word", 4)]) (g := gName 4) rfl scNrm.nd (pi_list (pe_slice sl_list (pv 0) po_none (po_some (pv 1)))) (blkOk_by (own := [("_law_word", 4)]) (N := nNrm) (sc := defScope sNrm) (by decide +kernel))
            (fun _ _ _ _ _ => pg_name (i := 4) scNrm.nd rfl (Or.inl rfl)) (fun _ _ _ _ _ => pts_nil) (fun _ _ _ _ _ => pe_callTy call_int_str (by rfl) TT.int (by decide +kernel) (pa_cons (pv 4) pa_nil)))
          (pa_cons (pe_lc (own := [("_law_word", 4)]) (g := gName 4) rfl scNrm.nd (pi_list (pe_slice sl_list (pv 0) (po_some (pe_op op_add (pv 1) pe_int)) po_none)) (blkOk_by (own := [("_law_word", 4)]) (N := nNrm) (sc := defScope sNrm) (by decide +kernel))
            (fun _ _ _ _ _ => pg_name (i := 4) scNrm.nd rfl (Or.inl rfl)) (fun _ _ _ _ _ => pts_nil) (fun _ _ _ _ _ => pe_callTy call_int_str (by rfl) TT.int (by decide +kernel) (pa_cons (pv 4) pa_nil))) pa_nil)))
        (pg_tup rfl (pgs_cons (pg_name (i := 2) scNrm.nd rfl (.inl rfl)) (pgs_cons (pg_name (i := 3) scNrm.nd rfl (.inr rfl)) pgs_nil))))
      (pss_cons (ps_if (PW.pt (pw_and (pt_cmpR op_gt (pe_callB call_len_seq (by rfl) T.len PySem.boot_len (pa_cons (pv 2) pa_nil)) pe_int (nomark _))
          (pw_and1 (pt_cmpR op_eq (pe_op op_sub (pe_ix ix_list (pv 2) (pe_un un_neg pe_int) (fun _ _ => rfl)) (pe_ix ix_list (pv 2) (pe_un un_neg pe_int) (fun _ _ => rfl))) (pe_ix ix_list (pv 3) (pe_un un_neg pe_int) (fun _ _ => rfl)) (nomark _))))) (pss_one (ps_ret pe_bl)) pss_nil)
      (pss_one (ps_ret (pe_cmpR (op_eqD hr.units) (pe_lc (own := [("_law_n", 5)]) (g := gName 5) rfl scNrm.nd (pi_range2 (by rfl) T.range (pa_cons pe_int (pa_cons (pe_callB call_len_seq (by rfl) T.len PySem.boot_len (pa_cons (pv 3) pa_nil)) pa_nil))) (blkOk_by (own := [("_law_n", 5)]) (N := nNrm) (sc := defScope sNrm) (by decide +kernel))
          (fun _ _ _ _ _ => pg_name (i := 5) scNrm.nd rfl (Or.inl rfl))
          (fun _ _ _ _ _ => pts_one (PW.pt (pw_and (pt_cmpR op_eq (pe_op op_mod (pe_callTy call_int1 (by rfl) TT.int (by decide +kernel) (pa_cons (pe_callB (show CallR _ (.builtin "len") (fun xs H Q => ∃ p ys, xs = [V.ref p] ∧ (SqL K H p ys ∨ SqT K H p ys) ∧ Q (.int ys.length) H) from call_len_seq) (by rfl) T.len PySem.boot_len (pa_cons (pv 3) pa_nil)) pa_nil)) (pv 5)) pe_int (nomark _))
            (pw_and1 (pt_cmpR (show OpR _ (compareOp .Eq) (rEqD K) from op_eqD hr.units) (pe_op op_rep (pe_slice (show SlR _ (rSlL K) from sl_list) (pv 3) po_none (po_some (pv 5))) (pe_callTy call_int1 (by rfl) TT.int (by decide +kernel) (pa_cons (pe_op op_fdiv (pe_callB (show CallR _ (.builtin "len") (fun xs H Q => ∃ p ys, xs = [V.ref p] ∧ (SqL K H p ys ∨ SqT K H p ys) ∧ Q (.int ys.length) H) from call_len_seq) (by rfl) T.len PySem.boot_len (pa_cons (pv 3) pa_nil)) (pv 5)) pa_nil))) (pv 3) (nomark _))))))
          (fun _ _ _ _ _ => pv 5)) (pe_lst pa_nil) (nomark _)))))), ?_⟩
    obtain ⟨hws, t0, g0⟩ := due_parts hd
    have nl := nums_len ws
    have glen : (told ws).length + 1 + (gainsW ws).length = ws.length := by
      have := congrArg List.length hws
      rw [List.length_append, List.length_cons, List.length_map, List.length_map] at this
      omega
    have okT : ∀ n ∈ told ws, n < 10 ^ 60 := fun n hn => ok n (nums_mem hn)
    have okG : ∀ n ∈ gainsW ws, n < 10 ^ 60 := fun n hn => okW_drop ok n (nums_mem hn)
    generalize told ws = t at *
    generalize gainsW ws = g at *
    have wt : ws.take t.length = t.map Wd.num := by
      rw [hws]
      exact List.take_left' (by rw [List.length_map])
    have wg : ws.drop (t.length + 1) = g.map Wd.num := by
      rw [hws, List.drop_append, List.drop_eq_nil_of_le (by rw [List.length_map]; omega), List.nil_append, List.length_map, show t.length + 1 - t.length = 1 by omega]
      rfl
    have at_t : ws[t.length]? = some .thn := by
      rw [hws, List.getElem?_append_right (by rw [List.length_map]; exact Nat.le_refl _), List.length_map, Nat.sub_self]
      rfl
    have ix : Ev (tBM K "list" (rIndex K) (tVar 0) (tCons (tC (.str "then")) tNil)) [some (.ref a), none, none, none, none, none] H (.int (t.length : Int)) := fun H1 e Q q => ⟨_, rfl, .inl ⟨rfl, _, ex_l e hL⟩, a, vW ws, .str "then", t.length, .str (Wd.t .thn), rfl, rfl, ex_l e hL, rfl, flat_w ws, vW_at at_t, by decide +kernel, fun m z' hm hz' => by
      obtain ⟨w, hw, rfl⟩ := vW_get hz'
      have : w ∈ t.map Wd.num := by
        rw [← wt]
        have h2 : (ws.take t.length)[m]? = some w := by rw [List.getElem?_take, if_pos hm]; exact hw
        exact List.mem_of_getElem? h2
      obtain ⟨n, _, rfl⟩ := List.mem_map.mp this
      show (tx (n : Int) == ("then" : Str)) = false
      exact beq_eq_false_iff_ne.mpr (tx_then n), q H1 (Ex.refl H1)⟩
    refine q_asg ix fun H1 e1 => ?_
    have sl1 := el_sl (K := K) (σ := [some (.ref a), some (.int (t.length : Int)), none, none, none, none]) (H := H1) (te := tVar 0) (tl := tNoPart) (th := tPart (tVar 1)) (lo := none) (hi := some (t.length : Int)) (ev_var rfl) eo_none (eo_some (ev_var rfl)) (ex_l e1 hL)
    rw [cut_to (by rw [vW_len]; omega), vW_take, wt] at sl1
    refine q_asgG (tup_i (cons_i (el_wnums (K := K) sl1 (by omega) okT (fun _ => rfl) (fun _ => rfl) H1 (Ex.refl H1) _ fun p H2 hp e2 h2 => cons_i ?_)))
    have sl2 := el_sl (K := K) (σ := [some (.ref a), some (.int (t.length : Int)), none, none, none, none]) (H := H2) (te := tVar 0) (tl := tPart (tOp (rI0 fun i j => .int (i + j)) (tVar 1) (tC (.int 1)))) (th := tNoPart) (lo := some ((t.length + 1 : Nat) : Int)) (hi := none) (ev_var rfl) (eo_some (ev_op (ev_var rfl) ev_c rv_I0)) eo_none (ex_l (e1.trans e2) hL)
    rw [cut_from (by rw [vW_len]; omega), vW_drop, wg] at sl2
    refine el_wnums (K := K) sl2 (by omega) okG (fun _ => rfl) (fun _ => rfl) H2 (Ex.refl H2) _ fun r H3 hr3 e3 h3 => ?_
    refine ⟨by show 2 ≤ sizeLine; decide, fun tl htl => ⟨tl, _, rfl, st_of upd_same, rfl, _, _, rfl, _, _, rfl, rfl, ?_⟩⟩
    have e4 := Ex.new (o := .tup [.ref p, .ref r]) htl
    generalize upd H3 tl (.tup [.ref p, .ref r]) = H4 at e4 ⊢
    have hT : SqL K H4 p (vI (zI t)) := sq_of ((e3.trans e4) _ _ h2)
    have hG : SqL K H4 r (vI (zI g)) := sq_of (e4 _ _ h3)
    have E4 := ((e1.trans e2).trans e3).trans e4
    have lt := zI_len (l := t)
    have lg := zI_len (l := g)
    show tSeq _ _ _ [some (.ref a), some (.int (t.length : Int)), some (.ref p), some (.ref r), none, none] H4
    have ev1 : ∀ {i : Nat} {q : Addr} {l : List Nat} {kk : Nat} {H' : Hp}, [some (V.ref a), some (.int (t.length : Int)), some (.ref p), some (.ref r), none, none][i]? = some (some (.ref q)) → SqL K H' q (vI (zI l)) → 0 < kk → kk ≤ l.length → Ev (tOp (rIxL K) (tVar i) (tUn (fun x H Q => ∃ i, x = .int i ∧ Q (.int (-i)) H) (tC (.int (kk : Int))))) [some (.ref a), some (.int (t.length : Int)), some (.ref p), some (.ref r), none, none] H' (.int (at' (zI l) (l.length - kk))) := fun h0 hs k0 k1 =>
      ev_is (ev_op (ev_var h0) (ev_un (x := .int _) (z := .int _) ev_c fun H1 _ Q q => ⟨_, rfl, q H1 (Ex.refl H1)⟩) (rv_ixL hs (atI_negK k0 (by rw [zI_len]; exact k1)))) (by rw [zI_len])
    refine q_when (b := decide (1 < (zI t).length) && decide (at' (zI t) ((zI t).length - 1) - at' (zI t) ((zI t).length - 2) = lst (zI g))) (et_and (et_is (et_test (ev_op (lenE (ev_var rfl) hT) ev_c rv_I0)) (by rw [vI_len]; exact decide_eq_decide.mpr (by omega))) fun z1 => et_is (et_test (ev_op (ev_op (ev1 (i := 2) (kk := 1) rfl hT (by decide) t0) (ev1 (i := 2) (kk := 2) rfl hT (by decide) (by have := of_decide_eq_true z1; omega)) rv_I0) (ev1 (i := 3) (kk := 1) rfl hG (by decide) g0) (rv_eq rfl))) (by
        rw [vint_inj, lt, ← lg]
        rfl)) (fun hb H5 e5 => ?_) (fun hb H5 e5 => ?_)
    · refine s_ret (v := .bl (nrm (zI t) (zI g))) (ev_is ev_c ?_) fun H6 e6 => k H6 ((E4.trans e5).trans e6)
      unfold nrm
      rw [hb]
      rfl
    · have hG5 := ex_l e5 hG
      have lc := el_lcR2 (σ := [some (.ref a), some (.int (t.length : Int)), some (.ref p), some (.ref r), none, none]) (H := H5)
        (t := tAnd (tTest (tOp rEq (tOp (rI (fun _ j => 0 < j) fun i j => .int (i % j)) (tCB rInt1 (tCons (tCB (fun xs H Q => ∃ p ys, xs = [V.ref p] ∧ (SqL K H p ys ∨ SqT K H p ys) ∧ Q (.int ys.length) H) (tCons (tVar 3) tNil)) tNil)) (tVar 5)) (tC (.int 0))))
          (tTest (tOp (rEqD K) (tOp rRep (tSl (rSlL K) (tVar 3) tNoPart (tPart (tVar 5))) (tCB rInt1 (tCons (tOp (rI CDiv fun i j => .int (i / j)) (tCB (fun xs H Q => ∃ p ys, xs = [V.ref p] ∧ (SqL K H p ys ∨ SqT K H p ys) ∧ Q (.int ys.length) H) (tCons (tVar 3) tNil)) (tVar 5)) tNil))) (tVar 3))))
        (te := tVar 5) (ta := tCons (tC (.int 1)) (tCons (tCB (fun xs H Q => ∃ p ys, xs = [V.ref p] ∧ (SqL K H p ys ∨ SqT K H p ys) ∧ Q (.int ys.length) H) (tCons (tVar 3) tNil)) tNil)) (j := 5) (vs := [5]) (lo := 1) (n := (g.length : Int))
        (fun i => decide ((zI g).length % (i + 1) = 0) && decide (rep ((zI g).length / (i + 1)) ((zI g).take (i + 1)) = zI g)) (fun i => V.int (1 + (i : Int)))
        (ea_cons ev_c (ea_cons (ev_is (lenE (ev_var rfl) hG5) (by rw [vI_len, zI_len])) ea_nil)) ⟨by omega, by omega, by omega⟩ (fun _ => rfl) (fun i H6 e6 hi => by
          have hG6 := ex_l e6 hG5
          have i1 : (1 : Int) + (i : Int) = ((i + 1 : Nat) : Int) := by omega
          have hi2 : i + 1 ≤ g.length := by omega
          have dl : (zI g).length / (i + 1) * (i + 1) ≤ (zI g).length := Nat.div_mul_le_self _ _
          have sl := el_sl (K := K) (σ := [some (.ref a), some (.int (t.length : Int)), some (.ref p), some (.ref r), none, some (.int (1 + (i : Int)))]) (H := H6) (te := tVar 3) (tl := tNoPart) (th := tPart (tVar 5)) (lo := none) (hi := some (1 + (i : Int))) (ev_var rfl) eo_none (eo_some (ev_var rfl)) hG6
          have ct : cutV (vI (zI g)) none (some (1 + (i : Int))) = vI ((zI g).take (i + 1)) := by
            rw [i1, cut_to (by rw [vI_len, zI_len]; exact hi2)]
            unfold vI
            rw [List.map_take]
          rw [ct] at sl
          have dv : (zI g).length / (i + 1) ≤ (zI g).length := Nat.div_le_self _ _
          refine et_and (et_is (et_test (ev_op (ev_op (ev_cb (ea_cons (lenE (ev_var rfl) hG6) ea_nil) rc_int1) (ev_var rfl) (rv_I (by omega))) ev_c (rv_eq rfl))) ?_) fun _ => et_is (et_test (ev_eqLP (xs := rep ((zI g).length / (i + 1)) ((zI g).take (i + 1))) (ys := zI g) (el_repL sl (fun H7 e7 => ev_is (ev_cb (ea_cons (ev_op (x := .int ((zI g).length : Int)) (ev_is (lenE (ev_var rfl) (ex_l e7 hG6)) (by rw [vI_len])) (ev_var rfl) (rv_I ⟨by omega, by omega⟩)) ea_nil) rc_int1) (by rw [i1, Int.natCast_ediv])) (by
              rw [List.length_take]
              have : min (i + 1) (zI g).length * ((zI g).length / (i + 1)) ≤ (zI g).length := by
                rw [Nat.min_eq_left (by omega), Nat.mul_comm]
                exact dl
              omega) (by omega)) (ev_var rfl) hG6)) rfl
          rw [vint_inj, vI_len, i1, show ((zI g).length : Int) % ((i + 1 : Nat) : Int) = (((zI g).length % (i + 1) : Nat) : Int) from rfl]
          exact decide_eq_decide.mpr (by omega)) (fun i H6 e6 hi _ => ev_var rfl)
      have ge : given ((g.length : Int) - 1).toNat (fun i => decide ((zI g).length % (i + 1) = 0) && decide (rep ((zI g).length / (i + 1)) ((zI g).take (i + 1)) = zI g)) (fun i => V.int (1 + (i : Int))) = vI ((subs (zI g)).map fun i : Nat => 1 + (i : Int)) := by
        unfold given subs vI
        rw [List.map_map, show ((g.length : Int) - 1).toNat = (zI g).length - 1 by omega]
        rfl
      rw [ge] at lc
      refine s_ret (v := .bl (nrm (zI t) (zI g))) (fun H6 e6 Q6 q6 => lc H6 e6 _ fun x H7 hx e7 h7 => el_nilI H7 (Ex.refl H7) _ fun y H8 hy e8 h8 => ⟨_, .list [], .lst (sq_of (e8 _ _ h7)) (dpAll_ints _), .lst (sq_of h8) .nil, shaped_ints _, shaped_nil, ?_⟩) fun H6 e6 => k H6 ((E4.trans e5).trans e6)
      rw [show PyData.eqv (.list (((subs (zI g)).map fun i : Nat => 1 + (i : Int)).map PyData.int)) (.list []) = decide ((subs (zI g)).map (fun i : Nat => 1 + (i : Int)) = []) from eqv_lists _ [], subs_empty]
      unfold nrm at q6
      rw [hb] at q6
      exact q6 H8 (e7.trans e8)
end
end K07
namespace K07
open PySem L2 Evl Gr ClX OwX LamX EXC
/-! ### _law_heard -/
abbrev sHd : Stmt := top 42
abbrev nHd : List Str := ["_law_ask", "_law_caught", "error"]
theorem scHd : FnScope nHd ["_law_ask"] (defScope sHd) := ⟨rfl, rfl, rfl, by decide +kernel, rfl, by decide +kernel, by decide +kernel⟩
theorem takes_len {X : Cx} {W : WX} (t : Takes X W) : Takes X (fun c d σ H => σ.length = X.N.length → W c d σ H) := fun u s' ⟨a, B, sI, pins, σ, H, cls, d, e, I, nb, up, sky, na, os, ag, w⟩ => t u s' ⟨a, B, sI, pins, σ, H, cls, d, e, I, nb, up, sky, na, os, ag, w I.len⟩
/-- what is told of an error: ("text", "0", the word's place) -/
def heardV (k : Nat) : List V := [.str "text", .str "0", .str (tx (k : Int))]
/-- the wish of what _law_heard asks for -/
def HdE (cT : Addr) (Q : VK) : XK := fun cls d H1 => cls = .ref cT ∧ ∃ dd k, d = some dd ∧ k ≤ 1500 ∧ H1 dd = some (.xd [("word", .int ((k : Nat) : Int)), ("line", .int 0)]) ∧ ∀ H2 l, Ex H1 H2 → H2 l = none → Q (.ref l) (upd H2 l (.tup (heardV k)))
def THd (cT : Addr) : (XK → Hp → VK → Prop) → Hp → VK → Prop := fun tl H Q => tl (HdE cT Q) H fun v H1 => [v].length ≤ sizeLine ∧ ∀ l, H1 l = none → Q (.ref l) (upd H1 l (.lst [v]))
/-- the error classes and what the def reads -/
structure HdK (K : PySem.W.Frag) (mg : Str → Option Value) (B cG cN cT cM : Addr) : Prop where
  gP : mg "PostError" = some (.ref B)
  gG : mg "BadGrowth" = some (.ref cG)
  gN : mg "BadNumber" = some (.ref cN)
  gT : mg "BadText" = some (.ref cT)
  gM : mg "TooMany" = some (.ref cM)
  inst : mg "isinstance" = none
  repr : mg "repr" = none
  hit : PySem.W.exmOne K (.ref cT) (.ref B) = some true
  kG : PySem.W.kitOne K (.ref cT) (.ref cG) = some false
  kN : PySem.W.kitOne K (.ref cT) (.ref cN) = some false
  kT : PySem.W.kitOne K (.ref cT) (.ref cT) = some true
  xc : XcC K cT
  fw : PySem.W.findIn K (.ref cT) "word" = some none
  fl : PySem.W.findIn K (.ref cT) "line" = some none
section
variable {K : PySem.W.Frag} {σ : L2.St} {H : Hp} {ta tb te tl : TE}
theorem ev_xcF {a C d : Addr} {fs : List (Str × V)} {v : V} {f : Str} (h : Ev te σ H (.ref a)) (ha : H a = some (ExC (.ref C) (some d) a)) (hd : H d = some (.xd fs)) (xc : XcC K C) (own : PySem.W.findIn K (.ref C) f = some none) (l : fs.lookup f = some v) : Ev (tXcF K f te) σ H v := fun H1 e Q q =>
  h H1 e _ fun H2 e2 => ⟨a, C, d, fs, v, rfl, (e.trans e2) _ _ ha, (e.trans e2) _ _ hd, xc, own, l, q H2 e2⟩
theorem rc_xc {a C D d : Addr} {fs : List (Str × V)} {b : Bool} (ha : H a = some (ExC (.ref C) (some d) a)) (hd : H d = some (.xd fs)) (xc : XcC K C) (hk : PySem.W.kitOne K (.ref C) (.ref D) = some b) : RC (rXc K) [.ref a, .ref D] H (.bl b) := fun H1 e Q q =>
  ⟨a, C, some d, _, _, b, rfl, .own D, e _ _ ha, fun dd z => ⟨fs, by cases z; exact e _ _ hd⟩, xc, hk, q H1 (Ex.refl H1)⟩
theorem rc_repr {k : Nat} (h : k ≤ 1500) : RC (fun xs H Q => ∃ i : Int, xs = [.int i] ∧ i.natAbs.log2 < 1920 ∧ Q (.str (toString i)) H) [.int (k : Int)] H (.str (tx (k : Int))) := fun H1 e Q q =>
  ⟨(k : Int), rfl, by
    rw [Int.natAbs_natCast]
    have h1 : k.log2 ≤ k := Nat.log2_le_self k
    omega, q H1 (Ex.refl H1)⟩
end
theorem heard_gives {X : Cx} {q : Str} {g : Addr} {cdg : Value} {B cG cN cT cM : Addr} (T : HdK X.K X.mg B cG cN cT cM) : GivesTo X nHd "_law_heard" (defScope sHd) g cdg (defBody sHd) "_law_ask" q (THd cT) := by
  intro f c' s H Q tl act hc h
  refine ⟨_, pss_cons (ps_set (i := 1) scHd.nd rfl (.inl rfl) pe_non)
    (pss_cons (ps_try_held (X := (cxOf C8.CX0 X.prog X.w X.K X.mg X.base nHd "_law_heard" (defScope sHd) g cdg X.A X.stack s H C8.E0).nox) (c := .ref B) (i := 2)
      (tb := fun W D σ H => ∃ Ech : XK, (∀ cls d σ' H', Ech cls d H' → σ'.length = 3 → W cls d σ' H') ∧ σ[0]? = some (some (.ref f)) ∧ H c' = some (CodeO c' q) ∧ tl Ech H fun v H1 => [v].length ≤ sizeLine ∧ ∀ l, H1 l = none → D.rt (.ref l) (upd H1 l (.lst [v])))
      rfl rfl rfl scHd.nd rfl rfl ⟨rfl, by decide, .inl T.gP⟩ (fun W pn xe tk _ => ?_) (fun a oe cls d pn _ _ => pss_one (ps_set (i := 1) scHd.nd rfl (.inl rfl) (pv 2))))
    (pss_cons (ps_if (pt_val (pe_callB call_xc (by rfl) T.inst (by decide +kernel) (pa_cons (pv 1) (pa_cons (pe_glob (v := .ref cG) (by rfl) T.gG (by rfl)) pa_nil))))
      (pss_one (ps_ret (pe_tup (pa_cons pe_str (pa_cons (pe_xcF (pv 1)) pa_nil))))) pss_nil)
    (pss_cons (ps_if (pt_val (pe_callB call_xc (by rfl) T.inst (by decide +kernel) (pa_cons (pv 1) (pa_cons (pe_glob (v := .ref cN) (by rfl) T.gN (by rfl)) pa_nil))))
      (pss_one (ps_ret (pe_tup (pa_cons pe_str (pa_cons (pe_callB SkE.call_repr_int (by rfl) T.repr (by decide +kernel) (pa_cons (pe_xcF (pv 1)) pa_nil)) pa_nil))))) pss_nil)
    (pss_cons (ps_if (pt_val (pe_callB call_xc (by rfl) T.inst (by decide +kernel) (pa_cons (pv 1) (pa_cons (pe_glob (v := .ref cT) (by rfl) T.gT (by rfl)) pa_nil))))
      (pss_one (ps_ret (pe_tup (pa_cons pe_str (pa_cons (pe_callB SkE.call_repr_int (by rfl) T.repr (by decide +kernel) (pa_cons (pe_xcF (pv 1)) pa_nil)) (pa_cons (pe_callB SkE.call_repr_int (by rfl) T.repr (by decide +kernel) (pa_cons (pe_xcF (pv 1)) pa_nil)) pa_nil)))))) pss_nil)
    (pss_one (ps_ret (pe_ifExp (pt_val (pe_callB call_xc (by rfl) T.inst (by decide +kernel) (pa_cons (pv 1) (pa_cons (pe_glob (v := .ref cM) (by rfl) T.gM (by rfl)) pa_nil))))
      (pe_tup (pa_cons pe_str (pa_cons (pe_xcF (pv 1)) (pa_cons (pe_xcF (pv 1)) pa_nil)))) (pe_tup (pa_cons pe_str pa_nil))))))))), ?_⟩
  · refine ⟨fun pins s' σ H' D I h' => ?_⟩
    obtain ⟨Ech, hW, h1, h2, h3⟩ := h'
    have hp := act _ pn xe Ech ⟨302, 16, 302, 24⟩ ⟨302, 16, 302, 26⟩ (takes_len tk) (fun cls d σ' H2 e l => hW cls d σ' H2 e l)
    have hq := pss_one (ps_ret (pos := ⟨302, 8, 302, 27⟩) (pe_lst (pos := ⟨302, 15, 302, 27⟩) (pa_cons hp pa_nil)))
    exact hq.run pins s' σ H' D I ⟨h1, h2, h3⟩
  · refine ⟨HdE cT Q, fun cls d σ' H1 hE hlen => ?_, rfl, hc, h⟩
    obtain ⟨rfl, dd, k, rfl, hk, hd, kk⟩ := hE
    obtain ⟨x, y, z, rfl⟩ : ∃ x y z, σ' = [x, y, z] := by
      match σ', hlen with
      | [x, y, z], _ => exact ⟨x, y, z, rfl⟩
    refine ⟨T.hit, fun a ha => ?_⟩
    refine ⟨_, rfl, ?_⟩
    dsimp only [gName, List.set]
    have ne : dd ≠ a := ne_of_none hd ha
    have e1 := Ex.new (o := ExC (.ref cT) (some dd) a) ha
    have ha2 : upd H1 a (ExC (.ref cT) (some dd) a) a = some (ExC (.ref cT) (some dd) a) := upd_same
    have hd2 := e1 _ _ hd
    generalize upd H1 a (ExC (.ref cT) (some dd) a) = H2 at e1 ha2 hd2 ⊢
    have i1 : ∀ {D : Addr} {b : Bool} {H' : Hp}, Ex H2 H' → PySem.W.kitOne X.K (.ref cT) (.ref D) = some b → EvT (tB (tCB (rXc X.K) (tCons (tVar 1) (tCons (tC (.ref D)) tNil)))) [x, some (.ref a), none] H' b := fun e' hk' => et_B (ev_cb (ea_cons (ev_var rfl) (ea_cons ev_c ea_nil)) (rc_xc (e' _ _ ha2) (e' _ _ hd2) T.xc hk'))
    refine q_when (b := false) (i1 (Ex.refl _) T.kG) (fun z => absurd z (by decide)) fun _ H3 e3 => ?_
    refine q_when (b := false) (i1 e3 T.kN) (fun z => absurd z (by decide)) fun _ H4 e4 => ?_
    refine q_when (b := true) (i1 (e3.trans e4) T.kT) (fun _ H5 e5 => ?_) (fun z => absurd z (by decide))
    have E5 := (e3.trans e4).trans e5
    have fd : ∀ {f : Str} {v : V} {H' : Hp}, Ex H2 H' → PySem.W.findIn X.K (.ref cT) f = some none → ([("word", V.int ((k : Nat) : Int)), ("line", V.int 0)] : List (Str × V)).lookup f = some v → Ev (tXcF X.K f (tVar 1)) [x, some (.ref a), none] H' v := fun e' ow l => ev_xcF (ev_var rfl) (e' _ _ ha2) (e' _ _ hd2) T.xc ow l
    refine tup_i (cons_i (ev_c H5 (Ex.refl H5) _ fun H6 e6 => cons_i (ev_cb (ea_cons (fd (E5.trans e6) T.fl rfl) ea_nil) (rc_repr (k := 0) (by decide)) H6 (Ex.refl H6) _ fun H7 e7 => cons_i (ev_cb (ea_cons (fd ((E5.trans e6).trans e7) T.fw rfl) ea_nil) (rc_repr hk) H7 (Ex.refl H7) _ fun H8 e8 => ?_))))
    exact ⟨by show 3 ≤ sizeLine; decide, fun l hl => kk H8 l ((((e1.trans E5).trans e6).trans e7).trans e8) hl⟩
end K07
namespace K07
open PySem L2 Evl Gr ClX OwX OpX StX LamX EXC ClK
/-- a def as it stands behind the top, its code object known -/
structure FunC (K : PySem.W.Frag) (x qual : Str) (st : Stmt) (f : Addr) (fd : FuncData) (c : Addr) : Prop where
  ex : ∃ (oc : Value) (od : Option Addr) (kV doc pm : Value) (an : Option Addr) (ct : Value) (osl : Array (Option Value)),
    fd = PySem.W.fnOf x qual (defArgs st) (defBody st) (defScope st) .none kV doc pm an (.ref c) ct ∧ K.lookup f = some ⟨oc, od, .func fd, osl⟩ ∧ PySem.W.codeIn K (.ref c) qual = true
  kp : PySem.W.keepIn K (.ref f) = true
section
variable {P : Program} {w : World} {K : PySem.W.Frag} {mg : Str → Option Value} {base : Heap}
theorem FunC.fn {x qual : Str} {st : Stmt} {f c : Addr} {fd : FuncData} (F : FunC K x qual st f fd c) : Fun K x qual st f fd := by
  obtain ⟨oc, od, kV, doc, pm, an, ct, osl, h⟩ := F.ex
  exact ⟨⟨oc, od, kV, doc, pm, an, .ref c, ct, osl, h⟩, F.kp⟩
theorem FunC.ok {x qual : Str} {st : Stmt} {f c : Addr} {fd : FuncData} {N ps : List Str} {k : Nat} {sp : Sp} (F : FunC K x qual st f fd c) (S : FnScope N ps (defScope st)) (len : ∀ vs H Q E, sp vs H Q E → vs.length = ps.length)
    (hbody : ∀ (A : Around) (outer : List Env) (s : Shared) (H : Hp) (vs : List V) (Q : VK) (E : XK), Room k (A.deeper (PyProof.Rows.envOfC qual (defScope st) s.heap.objs.size f (.ref c))) → sp vs H Q E →
      ∃ t, PSs (cxOf CX0 P w K mg base N qual (defScope st) f (.ref c) A outer s H E).nox (defBody st) t ∧ t { nx := fun _ H' => Q .non H', rt := Q } (L2.start N vs) H) : FnOk P w K mg base CX0 (k + 1) f fd ps sp := by
  obtain ⟨oc, od, kV, doc, pm, an, ct, osl, rfl, lk, hcd⟩ := F.ex
  refine fn_of lk hcd S len fun A outer s H vs Q E hr hsp => ?_
  obtain ⟨t, h, q⟩ := hbody A outer s H vs Q E hr hsp
  exact ⟨t, h.nox, q⟩
/-- what was heard of Growth.read(page) -/
def Heard (K : PySem.W.Frag) (C : Addr) (ws : List Wd) (l : Addr) (H : Hp) : Prop :=
  (∃ i, H l = some (.tup (heardV i)) ∧ i ≤ 1500 ∧ (due ws = some i ∨ (due ws = none ∧ ¬ NF (zI (told ws)) (zI (gainsW ws)) ∧ i = 0))) ∨
  (∃ o, H l = some (.lst [.ref o]) ∧ due ws = none ∧ NF (zI (told ws)) (zI (gainsW ws)) ∧ GrAt K C H o (zI (told ws)) (zI (gainsW ws)))
theorem due_le {ws : List Wd} {i : Nat} (h : due ws = some i) (hl : ws.length ≤ 1500) : i ≤ 1500 := by
  have n1 := nums_len ws
  have n2 := nums_len (ws.drop ((nums ws).length + 1))
  unfold due at h
  unfold gainsW at h
  rw [List.length_drop] at n2
  split at h
  · cases h
    decide
  · split at h
    · cases h
      omega
    · rename_i h0 h1
      have lt : (nums ws).length < ws.length := (List.getElem?_eq_some_iff.mp (Classical.byContradiction fun z => h1 z)).1
      split at h
      · cases h
        omega
      · cases h
theorem lam_read {C cT : Addr} {σ : L2.St} {H : Hp} {ws : List Wd} {ta : TE} {Q : VK} (hv : Ev ta σ H (.str (pg ws))) (hn : ws ≠ []) (ok : OkW ws) (hl : ws.length ≤ 1500)
    (k : ∀ l H7, Ex H H7 → Heard K C ws l H7 → Q (.ref l) H7) : THd cT (fun E H' Q' => tCMeth C (spRd K C cT) E (tC (.ref C)) (tCons ta tNil) σ H' Q') H Q := by
  refine ⟨rfl, (ea_cons hv ea_nil) H (Ex.refl H) _ fun H5 e5 => .inl ⟨ws, rfl, hn, ok, hl, fun i hd d H6 hd6 e6 h6 => ?_, fun hd nf d H6 hd6 e6 h6 => ?_, fun hd nf o H6 ho e6 h6 => ?_⟩⟩
  · exact ⟨rfl, d, i, rfl, due_le hd hl, h6, fun H7 l e7 hl7 => k l _ (((e5.trans e6).trans e7).trans (Ex.new hl7)) (.inl ⟨i, upd_same, due_le hd hl, .inl hd⟩)⟩
  · exact ⟨rfl, d, 0, rfl, by decide, h6, fun H7 l e7 hl7 => k l _ (((e5.trans e6).trans e7).trans (Ex.new hl7)) (.inl ⟨0, upd_same, by decide, .inr ⟨hd, nf, rfl⟩⟩)⟩
  · exact ⟨by show 1 ≤ sizeLine; decide, fun l hl6 => k l _ ((e5.trans e6).trans (Ex.new hl6)) (.inr ⟨o, upd_same, hd, nf, h6.mono (Ex.new hl6)⟩)⟩
theorem lam_odd {C cT : Addr} {σ : L2.St} {H : Hp} {x : V} {ty : Value} {ta : TE} {Q : VK} (hv : Ev ta σ H x) (ht : TyX K H x ty) (hk : PySem.W.kitOne K ty (.type "str") = some false)
    (k : ∀ l H7, Ex H H7 → H7 l = some (.tup (heardV 0)) → Q (.ref l) H7) : THd cT (fun E H' Q' => tCMeth C (spRd K C cT) E (tC (.ref C)) (tCons ta tNil) σ H' Q') H Q := by
  refine ⟨rfl, (ea_cons hv ea_nil) H (Ex.refl H) _ fun H5 e5 => .inr ⟨x, ty, rfl, tyx_mono e5 ht, hk, fun d H6 hd6 e6 h6 => ?_⟩⟩
  exact ⟨rfl, d, 0, rfl, by decide, h6, fun H7 l e7 hl7 => k l _ (((e5.trans e6).trans e7).trans (Ex.new hl7)) upd_same⟩
theorem strOk_of {x : Str} (h : Txt.isascii x = true) : PyData.strOk x = true := by
  unfold PyData.strOk
  unfold Txt.isascii at h
  rw [← Array.all_toList, List.all_eq_true] at h ⊢
  intro c hc
  have := of_decide_eq_true (h c hc)
  exact decide_eq_true (by omega)
theorem etu_strs {σ : L2.St} {H : Hp} {t : TA} {ys : List V} (h : EvA t σ H ys) (hz : ys.length ≤ 100) : EvTu K (tTup t) σ H ys := fun H1 e Q q =>
  h H1 e _ fun H2 e2 => ⟨sz_of (n := ys.length) (by omega), fun a ha => q a _ (e2.trans (Ex.new ha)) (st_of upd_same)⟩
theorem ev_eqTS {σ : L2.St} {H : Hp} {ta tb : TE} {p : Addr} {xs ys : List Str} (ha : Ev ta σ H (.ref p)) (hp : SqT K H p (xs.map V.str)) (hb : EvTu K tb σ H (ys.map V.str)) (ox : ∀ n ∈ xs, PyData.strOk n = true) (oy : ∀ n ∈ ys, PyData.strOk n = true) :
    Ev (tOp (rEqD K) ta tb) σ H (.bl (decide (xs = ys))) := fun H1 e Q q =>
  ha H1 e _ fun H2 e2 => hb H2 (e.trans e2) _ fun r H3 e3 hr => ⟨.tuple (xs.map PyData.str), .tuple (ys.map PyData.str), .tup (ex_t (e.trans (e2.trans e3)) hp) (dpAll_strs xs), .tup hr (dpAll_strs ys), shaped_tstrs xs ox, shaped_tstrs ys oy, by rw [eqv_tstrs]; exact q H3 (e2.trans e3)⟩
/-! ### _law_one_right -/
abbrev sRt : Stmt := top 46
abbrev nRt : List Str := ["_law_page", "_law_words", "_law_due_here", "_law_heard_here"]
abbrev qRt : Str := ("_law_one_right" : Str) ++ ".<locals>." ++ "<lambda>"
def spRt (T : List (Addr × Str)) : Sp := fun vs H Q _ => ∃ ws, vs = [.str (pg ws)] ∧ ws ≠ [] ∧ OkW ws ∧ ws.length ≤ 1500 ∧ Tabs T H ∧ ∀ H', ExtN H H' → Tabs T H' → Q (.bl true) H'
theorem scRt : FnScope nRt ["_law_page"] (defScope sRt) := ⟨rfl, rfl, rfl, by decide +kernel, rfl, by decide +kernel, by decide +kernel⟩
/-- what stands for Growth.read -/
structure RdK (P : Program) (w : World) (K : PySem.W.Frag) (mg : Str → Option Value) (base : Heap) (C cT fG pG : Addr) (mc : Value) (fdG : FuncData) : Prop where
  c : CMet K C mc "read" pG fG
  ok : FnOk P w K mg base (L2.CX P w) 6 fG fdG ["cls", "text"] (spRd K C cT)
  b : Binds K fdG ["cls", "text"] []
  kb : KBn K fdG ["cls", "text"] 1 ["text"] (fun us ws => us ++ ws) (fun vs zs => vs ++ zs)
theorem fnRX {CX : CXT} {k : Nat} {f : Addr} {fd : FuncData} {ps : List Str} {sp : Sp} (F : FnOk P w K mg base CX k f fd ps sp) (b : Binds K fd ps []) : FnR P w K mg base CX k f sp := fnR0 F b
end
end K07
namespace K07
open PySem L2 Evl Gr ClX OwX OpX StX LamX EXC ClK
section
variable {P : Program} {w : World} {K : PySem.W.Frag} {mg : Str → Option Value} {base : Heap}
theorem pe_heard {X : Cx} {T : List (Addr × Str)} {y : Str} {j : Nat} {scope : Scope} {params : Arguments} {c Pc fH C cT fG pG B cG cN cM : Addr} {mc : Value} {fdH fdG : FuncData} {p lpos pos p1 p2 p3 p4 : PySem.Pos}
    (hg : Gl X "_law_heard") (gH : X.mg "_law_heard" = some (.ref fH)) (FH : Fun X.K "_law_heard" "_law_heard" sHd fH fdH) (bH : Binds X.K fdH ["_law_ask"] []) (HK : HdK X.K X.mg B cG cN cT cM) (N : GName X.K X.mg C mc) (RK : RdK X.prog X.w X.K X.mg X.base C cT fG pG mc fdG)
    (TB : TabB X.base X.mg c Pc) (hcode : X.env.code = .ref c) (hT : (Pc, X.env.qual ++ "<lambda>") ∈ T) (hu : ∀ p ∈ T, p.1 = Pc → p.2 = X.env.qual ++ "<lambda>") (hr : Room 8 X.A) (L : LamS X.env.scope scope) (hdef : defaultsOf params X.env = ([], []))
    (hbind : ∀ (body : Expr) (q : Str) (cl : List (Str × Addr)) (pm cv ctv : Value), bindArgs (PySem.W.kla_fn "<lambda>" q params body scope cl pm cv ctv) ⟨[], []⟩ = pure [])
    (hN : X.N[j]? = some y) (hv : Vis scope y) (hgl : scope.names.lookup ("Growth" : Str) = some .globalImplicit) (hform : ∀ env : Env, ∃ pl : Sem Bool, eval (.Call (.Attribute (.Name "Growth" p1) "read" p2) [.Name y p3] [] p4) env = (do
      let ov ← eval (.Name "Growth" p1) env
      standAt p2.atName
      let (f, first) ← holding [ov] (getMethod ov "read" pl)
      callWith p4 f first (backTo p4 (starEach [.Name y p3] env)) (backToKw p4 (keywordEach [] env))))
    (hd : (y == ("__debug__" : Str)) = false) (hcd : (y == ("__classdict__" : Str)) = false) :
    PE X (.Call (.Name "_law_heard" p) [.Lambda params (.Call (.Attribute (.Name "Growth" p1) "read" p2) [.Name y p3] [] p4) scope lpos] [] pos) (tLam T (THd cT) fun E => tCMeth C (spRd X.K C cT) E (tC (.ref C)) (tCons (tVar j) tNil)) := by
  obtain ⟨ocH, odH, kVH, docH, pmH, anH, cdH, ctH, oslH, rfl, lkH, hcH⟩ := FH.ex
  exact pe_lamcall (T := T) (TT := THd cT) (k := 6) (Ng := nHd) (a := "_law_ask") hg gH FH.kp lkH hcH bH scHd rfl (.inl rfl) (heard_gives HK) TB hcode hT hu hr L hdef (hbind _)
          (fun A outer s H E f c' hr6 => by
            obtain ⟨pl, e⟩ := hform (lamCx X A outer s H E scope f c').env
            exact pe_cmeth (pl := pl) (E := E) (X := lamCx X A outer s H E scope f c') (pe_glob (v := .ref C) hgl N.g rfl) N.rd RK.c (fnRX RK.ok RK.b) hr6 (passes_call (takes_of rfl rfl rfl rfl) fun _ _ _ _ z => z) (pa_cons (pe_var hN hv hd hcd) pa_nil) (ht := e))
end
end K07
namespace K07
open PySem L2 Evl Gr ClX OwX OpX StX LamX EXC ClK
section
variable {P : Program} {w : World} {K : PySem.W.Frag} {mg : Str → Option Value} {base : Heap}
theorem q_parH {i j : Nat} {ta : TA} {tz : TS} {D : Ends} {σ : L2.St} {H : Hp} (h : ta σ H fun vs H1 => ∃ v w, vs = [v, w] ∧ tz D ((σ.set i (some v)).set j (some w)) H1) : tSeq (tPar i j ta) tz D σ H := h
theorem str_pg {ws : List Wd} (h : due ws = none) : strG (zI (told ws)) (zI (gainsW ws)) = pg ws := by
  obtain ⟨hws, _, _⟩ := due_parts h
  have z : ∀ l : List Nat, (zI l).map tx = (l.map Wd.num).map Wd.t := fun l => by
    unfold zI
    rw [List.map_map, List.map_map]
    rfl
  unfold strG wordsG
  rw [z, z]
  show _ = Txt.join " " (ws.map Wd.t)
  conv => rhs; rw [hws, List.map_append, List.map_cons]
  rfl
theorem heard_ok (i : Nat) : ∀ n ∈ (["text", "0", tx (i : Int)] : List Str), PyData.strOk n = true := fun n hn => by
  simp only [List.mem_cons, List.not_mem_nil, or_false] at hn
  rcases hn with rfl | rfl | rfl
  · decide +kernel
  · decide +kernel
  · exact strOk_of (tx_ascii i)
theorem ok_Rt {f c Pc fH fD fN C cT fG pG fE fS B cG cN cM : Addr} {mc : Value} {fd fdH fdD fdN fdG : FuncData} {T : List (Addr × Str)} (F : FunC K "_law_one_right" "_law_one_right" sRt f fd c) (TB : TabB base mg c Pc) (hT : (Pc, qRt) ∈ T) (hu : ∀ p ∈ T, p.1 = Pc → p.2 = qRt)
    (TT : GlbT mg) (TS : GlbS mg) (N : GName K mg C mc) (G : GCls K C) (HK : HdK K mg B cG cN cT cM) (FH : Fun K "_law_heard" "_law_heard" sHd fH fdH) (bH : Binds K fdH ["_law_ask"] []) (gH : mg "_law_heard" = some (.ref fH))
    (GD : FnOk P w K mg base CX0 2 fD fdD ["_law_words"] (spDue K)) (kD : PySem.W.keepIn K (.ref fD) = true) (bD : Binds K fdD ["_law_words"] []) (gD : mg "_law_due" = some (.ref fD))
    (GN : FnOk P w K mg base CX0 1 fN fdN ["_law_words"] (spNrm K)) (kN : PySem.W.keepIn K (.ref fN) = true) (bN : Binds K fdN ["_law_words"] []) (gN : mg "_law_is_normal" = some (.ref fN))
    (RK : RdK P w K mg base C cT fG pG mc fdG) (NE : GNe K C fE) (GE : FnR P w K mg base CX0 1 fE (spGEq K C)) (SI : StrIn K C fS) (GS : FnR P w K mg base CX0 1 fS (spStr K C)) :
    FnOk P w K mg base CX0 9 f fd ["_law_page"] (spRt T) := by
  refine F.ok scRt (fun vs H Q E h => ?_) (fun A outer s H vs Q E hr h => ?_)
  · obtain ⟨ws, rfl, _⟩ := h
    rfl
  · have r2 := hr.mono (show 2 ≤ 8 by decide)
    have r1 := hr.mono (show 1 ≤ 8 by decide)
    have r3 := hr.mono (show 3 ≤ 8 by decide)
    have r6 := hr.mono (show 6 ≤ 8 by decide)
    obtain ⟨ws, rfl, hn, ok, hl, tabs, k⟩ := h
    refine ⟨_, pss_cons (ps_set (i := 1) scRt.nd rfl (.inl rfl) (pe_split (pv 0) pe_str))
      (pss_cons (ps_par (i := 2) (j := 3) rfl scRt.nd rfl rfl (by decide) rfl rfl (pa_cons (pe_call GD r2 (by rfl) gD kD bD .nil pass0 (pa_cons (pv 1) pa_nil)) (pa_cons (pe_heard (X := (cxOf CX0 P w K mg base nRt "_law_one_right" (defScope sRt) f (.ref c) A outer s H E).nox) (T := T) (j := 0) (by rfl) gH FH bH HK N RK TB rfl hT hu hr (lamS_by (sc := defScope sRt) (by decide +kernel)) rfl (fun _ _ _ _ _ _ => rfl) rfl (.inr (.inr rfl)) rfl (fun _ => ⟨_, rfl⟩) (by decide) (by decide)) pa_nil)) rfl)
      (pss_cons (ps_if (pt_cmpR op_notN1 (pv 2) pe_non (nomark _)) (pss_one (ps_ret (pe_cmpR (op_eqD hr.units) (pv 3) (pe_tup (pa_cons pe_str (pa_cons pe_str (pa_cons (pe_callTy call_str_int (by rfl) TT.str (by decide +kernel) (pa_cons (pv 2) pa_nil)) pa_nil)))) (nomark _)))) pss_nil)
      (pss_cons (ps_if (pt_not (pt_val (pe_call GN r1 (by rfl) gN kN bN .nil pass0 (pa_cons (pv 1) pa_nil)))) (pss_one (ps_ret (pe_cmpR (op_eqD hr.units) (pv 3) (pe_tup (pa_cons pe_str (pa_cons pe_str (pa_cons pe_str pa_nil)))) (nomark _)))) pss_nil)
      (pss_one (ps_ret (pe_and (pe_callB call_isi (by rfl) TT.inst (by decide +kernel) (pa_cons (pv 3) (pa_cons (pe_bltn (v := .ty "list") (by rfl) TS.list (by decide +kernel) rfl) pa_nil)))
        (pe_and (pe_cmpR op_eq (pe_callTy (call_strI (E := E0) SI GS r3 pass0) (by rfl) TT.str (by decide +kernel) (pa_cons (pe_ix ix_list (pv 3) pe_int (fun _ _ => rfl)) pa_nil)) (pv 0) (nomark _))
          (pe_one (pe_cmpR (op_eqO (E := E0) (op := .Eq) (fun _ _ => rfl) NE.has GE r1 pass0) (pe_ix ix_list (pv 3) pe_int (fun _ _ => rfl)) (pe_cmethK (E := E0) (pe_glob (v := .ref C) (by rfl) N.g (by rfl)) N.rd RK.c RK.ok r6 (passN rfl rfl) RK.kb (pk_cons (pv 0) pk_nil)) (nomark _)))))))))), ?_⟩
    refine q_asgR ⟨_, rfl, ⟨_, rfl⟩, _, " ", rfl, rfl, by decide +kernel, ?_, ?_⟩
    · have := pg_len ok
      exact sz_of (n := (pg ws).length + 2) (by omega)
    rw [split_pg hn]
    intro a ha
    have e1 := Ex.new (o := .lst ((ws.map Wd.t).map V.str)) ha
    have hA : upd H a (.lst ((ws.map Wd.t).map V.str)) a = some (.lst (vW ws)) := by rw [upd_same, vW_strs]
    generalize upd H a (.lst ((ws.map Wd.t).map V.str)) = H1 at e1 hA ⊢
    refine q_parH (cons_i ((ea_cons (ev_var rfl) ea_nil) H1 (Ex.refl H1) _ fun H2 e2 => ⟨a, ws, rfl, ex_l e2 (sq_of hA), ok, hl, fun H3 e3 => cons_i ⟨tabs.ext ((e1.trans e2).trans e3), fun H4 eN T4 => ?_⟩⟩))
    refine lam_read (ev_var rfl) hn ok hl fun l H7 e7 hc => ⟨_, _, rfl, ?_⟩
    show tSeq _ _ _ [some (.str (pg ws)), some (.ref a), some (dueV ws), some (.ref l)] H7
    have hA7 : SqL K H7 a (vW ws) := sq_of (e7 _ _ (eN _ _ (e3 _ _ (e2 _ _ hA)) (by intro ps z; cases z)))
    have fin : ∀ H8, Ex H7 H8 → Q (.bl true) H8 := fun H8 e8 => k H8 (((ExtN.of ((e1.trans e2).trans e3)).trans eN).trans (ExtN.of (e7.trans e8))) (T4.ext (e7.trans e8))
    have eqS : ∀ {i : Nat} {H' : Hp} {tb : TE}, H7 l = some (.tup (heardV i)) → Ex H7 H' → EvTu K tb [some (.str (pg ws)), some (.ref a), some (dueV ws), some (.ref l)] H' (heardV i) → Ev (tOp (rEqD K) (tVar 3) tb) [some (.str (pg ws)), some (.ref a), some (dueV ws), some (.ref l)] H' (.bl true) := fun {i H' tb} hi e' ht =>
      ev_is (ev_eqTS (xs := ["text", "0", tx ((i : Nat) : Int)]) (ys := ["text", "0", tx ((i : Nat) : Int)]) (ev_var rfl) (st_of (e' _ _ hi)) ht (heard_ok i) (heard_ok i)) (by rw [decide_eq_true rfl])
    cases hd : due ws with
    | some j =>
      have hv : dueV ws = .int (j : Int) := by
        unfold dueV
        rw [hd]
      rw [hv] at eqS ⊢
      obtain ⟨i, hi, li, hij⟩ : ∃ i, H7 l = some (.tup (heardV i)) ∧ i ≤ 1500 ∧ i = j := by
        rcases hc with ⟨i, hi, li, h1 | ⟨h1, _⟩⟩ | ⟨o, _, h1, _⟩
        · rw [hd] at h1
          exact ⟨i, hi, li, (Option.some.inj h1).symm⟩
        · rw [hd] at h1
          cases h1
        · rw [hd] at h1
          cases h1
      subst hij
      refine q_when (b := true) (et_is (et_test (ev_op (ev_var rfl) ev_c (fun H1 _ Q q => ⟨rfl, q H1 (Ex.refl H1)⟩))) rfl) (fun _ H8 e8 => ?_) (fun z => absurd z (by decide))
      exact s_ret (eqS hi e8 (etu_strs (ea_cons ev_c (ea_cons ev_c (ea_cons (ev_cb (ea_cons (ev_var rfl) ea_nil) (rc_repr li)) ea_nil))) (show 3 ≤ 100 by decide))) fun H9 e9 => fin H9 (e8.trans e9)
    | none =>
      have hv : dueV ws = .non := by
        unfold dueV
        rw [hd]
      rw [hv] at eqS ⊢
      refine q_when (b := false) (et_is (et_test (ev_op (ev_var rfl) ev_c (fun H1 _ Q q => ⟨rfl, q H1 (Ex.refl H1)⟩))) rfl) (fun z => absurd z (by decide)) (fun _ H8 e8 => ?_)
      obtain ⟨_, t0, g0⟩ := due_parts hd
      have nf_iff := nrm_iff (t := zI (told ws)) (g := zI (gainsW ws)) (by rw [zI_len]; exact t0) (by rw [zI_len]; exact g0)
      refine q_when (b := !nrm (zI (told ws)) (zI (gainsW ws))) (et_not (et_B (fun H1 e Q q => (ea_cons (ev_var rfl) ea_nil) H1 (Ex.refl H1) _ fun H2 e2 => ⟨a, ws, rfl, ex_l ((e8.trans e).trans e2) hA7, ok, hl, hd, fun H3 e3 => q H3 (e2.trans e3)⟩))) (fun hb H9 e9 => ?_) (fun hb H9 e9 => ?_)
      · have nn : ¬ NF (zI (told ws)) (zI (gainsW ws)) := fun z => by
          rw [nf_iff.mpr z] at hb
          cases hb
        have hi : H7 l = some (.tup (heardV 0)) := by
          rcases hc with ⟨i, hi, li, h1 | ⟨h1, _, rfl⟩⟩ | ⟨o, _, h1, h2, _⟩
          · rw [hd] at h1
            cases h1
          · exact hi
          · exact absurd h2 nn
        exact s_ret (eqS (i := 0) hi (e8.trans e9) (etu_strs (ea_cons ev_c (ea_cons ev_c (ea_cons ev_c ea_nil))) (show 3 ≤ 100 by decide))) fun H10 e10 => fin H10 ((e8.trans e9).trans e10)
      · have nf : NF (zI (told ws)) (zI (gainsW ws)) := nf_iff.mp (by
          cases z : nrm (zI (told ws)) (zI (gainsW ws))
          · rw [z] at hb
            cases hb
          · rfl)
        obtain ⟨o, ho, hG⟩ : ∃ o, H7 l = some (.lst [.ref o]) ∧ GrAt K C H7 o (zI (told ws)) (zI (gainsW ws)) := by
          rcases hc with ⟨i, hi, li, h1 | ⟨h1, h2, _⟩⟩ | ⟨o, h1, h2, h3, h4⟩
          · rw [hd] at h1
            cases h1
          · exact absurd nf h2
          · exact ⟨o, h1, h4⟩
        have E9 := e8.trans e9
        have p0 := pos_z (told ws)
        have gf : ∀ {H' : Hp} {o' : Addr}, GrAt K C H' o' (zI (told ws)) (zI (gainsW ws)) → GrF K C H' o' (val (zI (told ws)) (zI (gainsW ws))) := fun h => ⟨_, _, h, p0, fun n => rfl⟩
        have at0 : ∀ {H' : Hp}, Ex H7 H' → Ev (tOp (rIxL K) (tVar 3) (tC (.int 0))) [some (.str (pg ws)), some (.ref a), some .non, some (.ref l)] H' (.ref o) := fun e' => ev_op (ev_var rfl) ev_c (rv_ixL (K := K) (sq_of (e' _ _ ho)) rfl)
        have bnd : ∀ i, i < (zI (told ws)).length → at' (zI (told ws)) i < 10 ^ 60 := fun i hi => Int.lt_of_le_of_lt (small_z (fun n hn => ok n (nums_mem hn)) i hi).2 (by decide)
        refine s_ret (v := .bl true) (ev_is (ev_andV (ev_cb (ea_cons (ev_var rfl) (ea_cons ev_c ea_nil)) (rc_isi (.base (.lst (E9 _ _ ho))) (r := true) (by decide +kernel))) fun _ => ev_andV (b := true) (ev_is (ev_op (x := .str (pg ws)) (ev_cb (ea_cons (at0 E9) ea_nil) fun H10 e10 Q q =>
            ⟨o, rfl, gr_ins (gf (hG.mono (E9.trans e10))), o, _, _, rfl, hG.mono (E9.trans e10), p0, bnd, fun H11 e11 => ⟨_, rfl, by rw [str_pg hd]; exact q H11 e11⟩⟩) (ev_var rfl) (rv_eq rfl)) (by rw [decide_eq_true rfl])) fun _ => ?_) rfl) fun H10 e10 => fin H10 (E9.trans e10)
        intro H10 e10 Q1 q1
        refine op_i (at0 (E9.trans e10) H10 (Ex.refl H10) _ fun H11 e11 => ⟨rfl, (ea_cons (ev_var rfl) ea_nil) H11 (Ex.refl H11) _ fun H12 e12 => ⟨rfl, .inl ⟨ws, rfl, hn, ok, hl, fun i z => ?_, fun _ z => absurd nf z, fun _ _ o' H13 ho' e13 hG' => ?_⟩⟩⟩)
        · rw [hd] at z
          cases z
        · have hG2 := hG.mono (((E9.trans e10).trans e11).trans (e12.trans e13))
          exact ⟨o, o', C, rfl, rfl, gr_ins (gf hG2), gr_ins (gf hG'), NE.nf, o, o', _, _, rfl, gf hG2, gf hG', fun b hb H14 e14 => by
            rw [hb.mpr fun n => rfl]
            exact q1 H14 ((e11.trans e12).trans (e13.trans e14))⟩
end
end K07
namespace K07
open PySem L2 Evl Gr ClX OwX OpX StX LamX EXC ClK
theorem joinL_ne (S a : List Nat) : ∀ {L : List (List Nat)}, L ≠ [] → TL.joinL S (a :: L) = a ++ (S ++ TL.joinL S L)
  | [], h => absurd rfl h
  | _ :: _, _ => rfl
theorem joinL_two (S T U : List Nat) (B : List (List Nat)) : ∀ A : List (List Nat), TL.joinL S (A ++ (T ++ (S ++ U)) :: B) = TL.joinL S (A ++ T :: U :: B)
  | [] => by
    cases B with
    | nil => rfl
    | cons b r =>
      show (T ++ (S ++ U)) ++ (S ++ TL.joinL S (b :: r)) = T ++ (S ++ (U ++ (S ++ TL.joinL S (b :: r))))
      simp only [List.append_assoc]
  | a :: A => by
    rw [List.cons_append, List.cons_append, joinL_ne S a (by simp), joinL_ne S a (by simp), joinL_two S T U B A]
theorem tl_one {x y : Str} (h : TL.tl x = TL.tl y) : x = y := by
  have := TL.map_tl_inj (l := [x]) (m := [y]) (by simp [h])
  exact List.head_eq_of_cons_eq this
/-- a word, or two of them in one -/
def raw : Option Wd → Str
  | none => "then 3"
  | some w => w.t
def unr : Option Wd → List Wd
  | none => [.thn, .num 3]
  | some w => [w]
structure Laid (ss : List Str) (ws : List Wd) : Prop where
  eq : Txt.join " " ss = pg ws
  ne : ws ≠ []
  ok : OkW ws
  n : ss.length ≤ 1500
  len : ∀ s ∈ ss, s.length ≤ 60
theorem okW_len {ws : List Wd} (h : OkW ws) : ∀ s ∈ ws.map Wd.t, s.length ≤ 60 := fun s hs => by
  obtain ⟨w, hw, rfl⟩ := List.mem_map.mp hs
  exact w_len fun n e => h n (e ▸ hw)
theorem laid_plain {A : List Wd} (ne : A ≠ []) (ok : OkW A) (n : A.length ≤ 1450) : Laid (A.map Wd.t) A := ⟨rfl, ne, ok, by rw [List.length_map]; omega, okW_len ok⟩
theorem laid_one {A B : List Wd} {x : Option Wd} (hA : OkW A) (hB : OkW B) (hx : OkW (unr x)) (n : A.length + B.length ≤ 1450) : Laid (A.map Wd.t ++ raw x :: B.map Wd.t) (A ++ (unr x ++ B)) := by
  refine ⟨?_, ?_, okW_app hA (okW_app hx hB), ?_, fun s hs => ?_⟩
  · cases x with
    | some w =>
      show _ = Txt.join " " ((A ++ ([w] ++ B)).map Wd.t)
      rw [List.map_append, List.map_append]
      rfl
    | none =>
      show _ = Txt.join " " ((A ++ ([Wd.thn, Wd.num 3] ++ B)).map Wd.t)
      refine tl_one ?_
      rw [TL.join_eq, TL.join_eq, TL.tl_join, TL.tl_join, List.map_append, List.map_append, List.map_append, List.map_append, List.map_cons]
      have e : TL.tl (raw none) = TL.tl (Wd.t .thn) ++ (TL.tl " " ++ TL.tl (Wd.t (.num 3))) := by decide +kernel
      rw [e]
      exact joinL_two _ _ _ _ _
  · intro z
    have := congrArg List.length z
    rw [List.length_append, List.length_append] at this
    cases x <;> simp [unr] at this
  · rw [List.length_append, List.length_cons, List.length_map, List.length_map]
    omega
  · rcases List.mem_append.mp hs with h | h
    · exact okW_len hA s h
    · rcases List.mem_cons.mp h with rfl | h
      · cases x with
        | none => decide +kernel
        | some w => exact w_len fun n e => hx n (by subst e; exact List.mem_singleton.mpr rfl)
      · exact okW_len hB s h
theorem unr_len (x : Option Wd) : (unr x).length ≤ 2 := by
  cases x with
  | none => exact Nat.le_refl 2
  | some w => exact Nat.le_succ 1
section
variable {X : Cx}
theorem op_mulS : OpR X (binaryOp .Mult) (fun x y H Q => ∃ a i, x = .str a ∧ y = .int i ∧ MulOk a i ∧ Q (.str (Txt.mul a i)) H) := by
  intro pins s σ H x y v u Q I rx ry h
  obtain ⟨a, i, rfl, rfl, ok, q⟩ := h
  obtain ⟨t, rfl⟩ := rx
  obtain ⟨t2, rfl⟩ := ry
  exact SB.mul ok fun t' k => ⟨.str _, H, I.tok _, ⟨_, rfl⟩, q⟩
end
section
variable {p l : Addr} {cells : List Int} {σ : L2.St} {H : Hp} {ta tb te : TE}
theorem el_cat {xs ys : List V} (ha : EvL ta σ H xs) (hb : EvL tb σ H ys) (hz : xs.length + ys.length ≤ 100000) : EvL (tOp rCat ta tb) σ H (xs ++ ys) := fun H1 e Q k =>
  ha H1 e _ fun p H2 _ e2 hp => hb H2 (e.trans e2) _ fun r H3 _ e3 hr => ⟨p, r, xs, ys, rfl, rfl, e3 _ _ hp, hr, sz_of hz, fun a ha => k a _ (fresh_back (e2.trans e3) ha) ((e2.trans e3).trans (Ex.new ha)) upd_same⟩
theorem w_pickV {i : Nat} {tr : TA} {xs : List V} (hi : σ[i]? = some (some (.ref p))) (hr : ∀ H1, EvA tr σ H1 xs) (h0 : 0 < xs.length) (h1 : xs.length ≤ 1000) (h63 : cells.length ≤ 63) :
    EvW p l cells 1 (tCall spPick [] E0 (tCons (tVar i) (tCons (tLst tr) tNil))) σ H (fun v => v ∈ xs) := fun m H1 kp hP hm Q q =>
  ⟨_, hi, hr H1 H1 (Ex.refl H1) _ fun H2 e2 => ⟨sz_of (n := xs.length) (by omega), fun a ha => by
    have e3 := e2.trans (Ex.new (o := .lst xs) ha)
    have hap : a ≠ p := by
      obtain ⟨k, r, hp, _⟩ := hP
      intro z
      rw [z, e2 _ _ hp] at ha
      cases ha
    refine ⟨p, l, a, cells, m, xs, rfl, hP.mono e3 (Nat.le_refl m), by omega, h63, upd_same, hap, h0, by omega, fun j x H3 hx hP3 k3 => ?_⟩
    exact q _ H3 (List.mem_of_getElem? hx) hP3 ((Keep.of_ex e3).trans k3)⟩⟩
end
/-- the words of which one is drawn -/
def xsB : List (Option Wd) := [some (.bad 0), some .thn, some (.num 0), some (.num 1), some (.num 3), some (.bad 1), some (.bad 2), some (.bad 3), some (.num (10 ^ 30)), some (.num (10 ^ 60 - 1)), some (.bad 4), none, some (.bad 5), some (.bad 6)]
theorem xsB_ok : ∀ x ∈ xsB, OkW (unr x) := fun x hx n hn => by
  unfold xsB at hx
  simp only [List.mem_cons, List.not_mem_nil, or_false] at hx
  rcases hx with rfl | rfl | rfl | rfl | rfl | rfl | rfl | rfl | rfl | rfl | rfl | rfl | rfl | rfl <;> simp [unr] at hn <;> subst hn <;> decide
end K07
namespace K07
open PySem L2 Evl Gr ClX OwX OpX StX LamX EXC ClK
theorem cut_fromA {xs : List V} {n : Nat} : cutV xs (some (n : Int)) none = xs.drop n := by
  unfold cutV
  rw [HT.sIx_none, HT.sIx_nat]
  by_cases h : n ≤ xs.length
  · rw [Nat.min_eq_left h]
    exact List.take_of_length_le (by rw [List.length_drop]; exact Nat.le_refl _)
  · rw [Nat.min_eq_right (by omega), List.drop_eq_nil_of_le (Nat.le_refl _), List.drop_eq_nil_of_le (by omega), List.take_nil]
theorem vW_one {A B : List Wd} {x : Option Wd} : vW A ++ [V.str (raw x)] ++ vW B = (A.map Wd.t ++ raw x :: B.map Wd.t).map V.str := by
  rw [vW_strs, vW_strs, List.map_append, List.map_cons, List.append_assoc]
  rfl
theorem el_revL {K : PySem.W.Frag} {te : TE} {σ : L2.St} {H : Hp} {xs : List V} (h : EvL te σ H xs) : EvL (tRevL K te) σ H xs.reverse := fun H1 e Q q =>
  h H1 e _ fun p H2 _ e2 hp => ⟨p, xs, rfl, sq_of hp, fun r hr => q r _ (fresh_back e2 hr) (e2.trans (Ex.new hr)) upd_same⟩
theorem okW_rev {ws : List Wd} (h : OkW ws) : OkW ws.reverse := fun n hn => h n (List.mem_reverse.mp hn)
theorem vW_rev {ws : List Wd} : (vW ws).reverse = vW ws.reverse := by unfold vW; rw [List.map_reverse]
section
variable {P : Program} {w : World} {K : PySem.W.Frag} {mg : Str → Option Value} {base : Heap}
/-! ### _law_bent -/
abbrev sBt : Stmt := top 47
abbrev nBt : List Str := ["_law_pen_here", "_law_words", "_law_way", "_law_at", "_law_word"]
def spBt (K : PySem.W.Frag) : Sp := fun vs H Q _ => ∃ (p l a : Addr) (cells : List Int) (m : Nat) (ws : List Wd), vs = [.ref p, .ref a] ∧ PenAt H p l cells m ∧ m + 3 ≤ 50000 ∧ cells.length ≤ 63 ∧ H a = some (.lst (vW ws)) ∧ a ≠ p ∧ OkW ws ∧ 0 < ws.length ∧ ws.length ≤ 1400 ∧
  ∀ (q : Addr) (ss : List Str) (ws' : List Wd) (H' : Hp), Laid ss ws' → ws'.length ≤ ws.length + 2 → PenAt H' p l cells (m + 3) → Keep p H H' → H' q = some (.lst (ss.map V.str)) → Q (.ref q) H'
theorem scBt : FnScope nBt ["_law_pen_here", "_law_words"] (defScope sBt) := ⟨rfl, rfl, rfl, by decide +kernel, rfl, by decide +kernel, by decide +kernel⟩
theorem ok_Bt {f fD fP : Addr} {fd fdD fdP : FuncData} (F : Fun K "_law_bent" "_law_bent" sBt f fd) (T : GlbS mg) (TT : GlbT mg)
    (GD : FnOk P w K mg base CX0 1 fD fdD ["_law_pen_here", "_law_many"] spDraw) (kD : PySem.W.keepIn K (.ref fD) = true) (bD : Binds K fdD ["_law_pen_here", "_law_many"] []) (gD : mg "_law_draw" = some (.ref fD))
    (GP : FnOk P w K mg base CX0 2 fP fdP ["_law_pen_here", "_law_some"] spPick) (kP : PySem.W.keepIn K (.ref fP) = true) (bP : Binds K fdP ["_law_pen_here", "_law_some"] []) (gP : mg "_law_pick" = some (.ref fP)) :
    FnOk P w K mg base CX0 3 f fd ["_law_pen_here", "_law_words"] (spBt K) := by
  refine F.ok scBt (fun vs H Q E h => ?_) (fun cdv A outer s H vs Q E hr h => ?_)
  · obtain ⟨p, l, a, cells, m, ws, rfl, _⟩ := h
    rfl
  · have r1 := hr.mono (show 1 ≤ 2 by decide)
    obtain ⟨p, l, a, cells, m, ws, rfl, hP, hm, h63, hA, hap, ok, h0, hl, k⟩ := h
    refine ⟨_, pss_cons (ps_par (i := 2) (j := 3) rfl scBt.nd rfl rfl (by decide) rfl rfl (pa_cons (pe_call GD r1 (by rfl) gD kD bD .nil pass0 (pa_cons (pv 0) (pa_cons pe_int pa_nil))) (pa_cons (pe_call GD r1 (by rfl) gD kD bD .nil pass0 (pa_cons (pv 0) (pa_cons (pe_op op_add (pe_callB call_len_seq (by rfl) T.len PySem.boot_len (pa_cons (pv 1) pa_nil)) pe_int) pa_nil))) pa_nil)) rfl)
      (pss_cons (ps_set (i := 4) scBt.nd rfl (.inl rfl) (pe_call GP hr (by rfl) gP kP bP .nil pass0 (pa_cons (pv 0) (pa_cons (pe_lst (pa_cons pe_str (pa_cons pe_str (pa_cons pe_str (pa_cons pe_str (pa_cons pe_str (pa_cons pe_str (pa_cons pe_str (pa_cons pe_str
          (pa_cons (pe_callTy call_str_int (by rfl) TT.str (by decide +kernel) (pa_cons (pe_op op_pow pe_int pe_int) pa_nil)) (pa_cons (pe_op op_mulS pe_str pe_int) (pa_cons (pe_op op_mulS pe_str pe_int) (pa_cons pe_str (pa_cons pe_str (pa_cons pe_str pa_nil))))))))))))))) pa_nil))))
      (pss_cons (ps_if (pt_cmpR op_lt (pv 2) pe_int (nomark _)) (pss_one (ps_ret (pe_op op_cat (pe_op op_cat (pe_slice sl_list (pv 1) po_none (po_some (pv 3))) (pe_lst (pa_cons (pv 4) pa_nil))) (pe_slice sl_list (pv 1) (po_some (pv 3)) po_none)))) pss_nil)
      (pss_cons (ps_if (pt_cmpR op_eq (pv 2) pe_int (nomark _)) (pss_one (ps_ret (pe_op op_cat (pe_op op_cat (pe_slice sl_list (pv 1) po_none (po_some (pv 3))) (pe_lst (pa_cons (pv 4) pa_nil))) (pe_slice sl_list (pv 1) (po_some (pe_op op_add (pv 3) pe_int)) po_none)))) pss_nil)
      (pss_cons (ps_if (PW.pt (pw_and (pt_cmpR op_eq (pv 2) pe_int (nomark _)) (pw_and1 (pt_cmpR op_gt (pe_callB call_len_seq (by rfl) T.len PySem.boot_len (pa_cons (pv 1) pa_nil)) pe_int (nomark _)))))
        (pss_one (ps_ret (pe_op op_cat (pe_slice sl_list (pv 1) po_none (po_some (pv 3))) (pe_slice sl_list (pv 1) (po_some (pe_op op_add (pv 3) pe_int)) po_none)))) pss_nil)
      (pss_cons (ps_if (pt_cmpR op_eq (pv 2) pe_int (nomark _)) (pss_one (ps_ret (pe_op op_cat (pe_op op_cat (pe_slice sl_list (pv 1) po_none (po_some (pv 3))) (pe_revL (pe_slice sl_list (pv 1) (po_some (pv 3)) (po_some (pe_op op_add (pv 3) pe_int))))) (pe_slice sl_list (pv 1) (po_some (pe_op op_add (pv 3) pe_int)) po_none)))) pss_nil)
      (pss_one (ps_ret (pe_op op_cat (pe_op op_cat (pe_slice sl_list (pv 1) po_none (po_some (pv 3))) (pe_slice sl_list (pv 1) (po_some (pv 3)) (po_some (pe_op op_add (pv 3) pe_int)))) (pe_slice sl_list (pv 1) (po_some (pv 3)) po_none))))))))), ?_⟩
    have kr := Keep.of_ex (p := p) (Ex.refl H)
    refine q_par (cons_i (w_draw (many := 6) (H := H) rfl (fun _ _ => ev_c) (by decide) (by decide) h63 m H kr hP (by omega) _ fun v H1 hv hP1 k1 => ?_))
    obtain ⟨d, rfl, hd⟩ := hv
    refine cons_i (w_draw (many := (ws.length : Int) + 1) (H := H) rfl (fun H' k' => ev_op (x := .int (ws.length : Int)) (ev_is (lenE (ev_var rfl) (sq_of (k' _ _ hA hap))) (by rw [vW_len])) ev_c rv_I0) (by omega) (by omega) h63 (m + 1) H1 k1 hP1 (by omega) _ fun v H2 hv hP2 k2 => ?_)
    obtain ⟨e, rfl, he⟩ := hv
    refine ⟨_, _, rfl, ?_⟩
    show tSeq _ _ _ [some (.ref p), some (.ref a), some (.int (d : Int)), some (.int (e : Int)), none] H2
    refine q_asgR (w_pickV (H := H2) (xs := xsB.map fun x => V.str (raw x)) rfl (fun H' => ea_cons (ev_is ev_c (congrArg V.str (by decide +kernel))) (ea_cons (ev_is ev_c (congrArg V.str (by decide +kernel))) (ea_cons (ev_is ev_c (congrArg V.str (by decide +kernel))) (ea_cons (ev_is ev_c (congrArg V.str (by decide +kernel)))
      (ea_cons (ev_is ev_c (congrArg V.str (by decide +kernel))) (ea_cons (ev_is ev_c (congrArg V.str (by decide +kernel))) (ea_cons (ev_is ev_c (congrArg V.str (by decide +kernel))) (ea_cons (ev_is ev_c (congrArg V.str (by decide +kernel)))
      (ea_cons (ev_cb (ea_cons (ev_op (x := .int 10) (y := .int 30) (z := .int ((10 ^ 30 : Nat) : Int)) ev_c ev_c fun H1 _ Q q => ⟨10, 30, rfl, rfl, ⟨by decide, by decide, by decide⟩, q H1 (Ex.refl H1)⟩) ea_nil) fun H1 _ Q q => ⟨_, rfl, by decide +kernel, q H1 (Ex.refl H1)⟩)
      (ea_cons (ev_op (x := .str "9") (y := .int 60) ev_c ev_c fun H1 _ Q q => ⟨"9", 60, rfl, rfl, ⟨by decide +kernel, fun _ _ => by decide +kernel, fun _ _ => by decide +kernel⟩, by rw [show Txt.mul "9" 60 = raw (some (.num (10 ^ 60 - 1))) by decide +kernel]; exact q H1 (Ex.refl H1)⟩)
      (ea_cons (ev_op (x := .str "0") (y := .int 7) ev_c ev_c fun H1 _ Q q => ⟨"0", 7, rfl, rfl, ⟨by decide +kernel, fun _ _ => by decide +kernel, fun _ _ => by decide +kernel⟩, by rw [show Txt.mul "0" 7 = raw (some (.bad 4)) by decide +kernel]; exact q H1 (Ex.refl H1)⟩)
      (ea_cons (ev_is ev_c (congrArg V.str (by decide +kernel))) (ea_cons (ev_is ev_c (congrArg V.str (by decide +kernel))) (ea_cons (ev_is ev_c (congrArg V.str (by decide +kernel))) ea_nil)))))))))))))) (by decide) (by decide) h63 (m + 2) H2 (Keep.of_ex (Ex.refl H2)) hP2 (by omega) _ fun v H3 hv hP3 k3 => ?_)
    obtain ⟨x, hx, rfl⟩ := List.mem_map.mp hv
    have okx := xsB_ok x hx
    have ux := unr_len x
    have kp : Keep p H H3 := (k1.trans k2).trans k3
    have hA3 : SqL K H3 a (vW ws) := sq_of (kp _ _ hA hap)
    have he2 : e ≤ ws.length := by omega
    have fin : ∀ {te : TE} {D : Ends} {ss : List Str} {ws' : List Wd} {H' : Hp}, D.rt = Q → Ex H3 H' → Laid ss ws' → ws'.length ≤ ws.length + 2 → EvL te [some (.ref p), some (.ref a), some (.int (d : Int)), some (.int (e : Int)), some (.str (raw x))] H' (ss.map V.str) → tRet te D [some (.ref p), some (.ref a), some (.int (d : Int)), some (.int (e : Int)), some (.str (raw x))] H' := fun {te D ss ws' H'} hD e' hL hn h =>
      s_retR (by rw [hD]; exact h H' (Ex.refl _) _ fun q H'' hq e'' hq'' => k q ss ws' H'' hL hn (hP3.mono (e'.trans e'') (Nat.le_refl _)) (kp.trans (Keep.of_ex (e'.trans e''))) hq'')
    have to : ∀ {H' : Hp}, Ex H3 H' → EvL (tSl (rSlL K) (tVar 1) tNoPart (tPart (tVar 3))) [some (.ref p), some (.ref a), some (.int (d : Int)), some (.int (e : Int)), some (.str (raw x))] H' (vW (ws.take e)) := fun e' => by
      have := el_sl (K := K) (σ := [some (.ref p), some (.ref a), some (.int (d : Int)), some (.int (e : Int)), some (.str (raw x))]) (te := tVar 1) (tl := tNoPart) (th := tPart (tVar 3)) (lo := none) (hi := some (e : Int)) (ev_var rfl) eo_none (eo_some (ev_var rfl)) (ex_l e' hA3)
      rwa [cut_to (by rw [vW_len]; exact he2), vW_take] at this
    have fr : ∀ {H' : Hp}, Ex H3 H' → EvL (tSl (rSlL K) (tVar 1) (tPart (tVar 3)) tNoPart) [some (.ref p), some (.ref a), some (.int (d : Int)), some (.int (e : Int)), some (.str (raw x))] H' (vW (ws.drop e)) := fun e' => by
      have := el_sl (K := K) (σ := [some (.ref p), some (.ref a), some (.int (d : Int)), some (.int (e : Int)), some (.str (raw x))]) (te := tVar 1) (tl := tPart (tVar 3)) (th := tNoPart) (lo := some (e : Int)) (hi := none) (ev_var rfl) (eo_some (ev_var rfl)) eo_none (ex_l e' hA3)
      rwa [cut_fromA, vW_drop] at this
    have frk : ∀ {c : Nat} {H' : Hp}, Ex H3 H' → EvL (tSl (rSlL K) (tVar 1) (tPart (tOp (rI0 fun i j => .int (i + j)) (tVar 3) (tC (.int (c : Int))))) tNoPart) [some (.ref p), some (.ref a), some (.int (d : Int)), some (.int (e : Int)), some (.str (raw x))] H' (vW (ws.drop (e + c))) := fun {c H'} e' => by
      have := el_sl (K := K) (σ := [some (.ref p), some (.ref a), some (.int (d : Int)), some (.int (e : Int)), some (.str (raw x))]) (te := tVar 1) (tl := tPart (tOp (rI0 fun i j => .int (i + j)) (tVar 3) (tC (.int (c : Int))))) (th := tNoPart) (lo := some ((e + c : Nat) : Int)) (hi := none) (ev_var rfl) (eo_some (ev_op (ev_var rfl) ev_c rv_I0)) eo_none (ex_l e' hA3)
      rwa [cut_fromA, vW_drop] at this
    have mid : ∀ {c : Nat} {H' : Hp}, Ex H3 H' → EvL (tSl (rSlL K) (tVar 1) (tPart (tVar 3)) (tPart (tOp (rI0 fun i j => .int (i + j)) (tVar 3) (tC (.int (c : Int)))))) [some (.ref p), some (.ref a), some (.int (d : Int)), some (.int (e : Int)), some (.str (raw x))] H' (vW ((ws.drop e).take c)) := fun {c H'} e' => by
      have := el_sl (K := K) (σ := [some (.ref p), some (.ref a), some (.int (d : Int)), some (.int (e : Int)), some (.str (raw x))]) (te := tVar 1) (tl := tPart (tVar 3)) (th := tPart (tOp (rI0 fun i j => .int (i + j)) (tVar 3) (tC (.int (c : Int))))) (lo := some (e : Int)) (hi := some ((e + c : Nat) : Int)) (ev_var rfl) (eo_some (ev_var rfl)) (eo_some (ev_op (ev_var rfl) ev_c rv_I0)) (ex_l e' hA3)
      rwa [cut_within (by omega), vW_drop, vW_take, show e + c - e = c by omega] at this
    have one : ∀ {H' : Hp}, EvL (tLst (tCons (tVar 4) tNil)) [some (.ref p), some (.ref a), some (.int (d : Int)), some (.int (e : Int)), some (.str (raw x))] H' [.str (raw x)] := el_lst (ea_cons (ev_var rfl) ea_nil) (show 1 ≤ 100000 by decide)
    have l1 : (ws.take e).length = e := by rw [List.length_take]; omega
    refine q_when (et_test (ev_op (ev_var rfl) ev_c rv_I0)) (fun hb H4 e4 => ?_) (fun hb H4 e4 => ?_)
    · have L := el_cat (el_cat (to e4) one (by rw [vW_len, l1]; show e + 1 ≤ _; omega)) (fr e4) (by rw [List.length_append, vW_len, vW_len, l1, List.length_drop]; show e + 1 + _ ≤ _; omega)
      rw [vW_one] at L
      exact fin rfl e4 (laid_one (okW_take ok) (okW_drop ok) okx (by rw [l1, List.length_drop]; omega)) (by rw [List.length_append, List.length_append, l1, List.length_drop]; omega) L
    refine q_when (et_test (ev_op (ev_var rfl) ev_c (rv_eq rfl))) (fun hb2 H5 e5 => ?_) (fun hb2 H5 e5 => ?_)
    · have E5 := e4.trans e5
      have L := el_cat (el_cat (to E5) one (by rw [vW_len, l1]; show e + 1 ≤ _; omega)) (frk (c := 1) E5) (by rw [List.length_append, vW_len, vW_len, l1, List.length_drop]; show e + 1 + _ ≤ _; omega)
      rw [vW_one] at L
      exact fin rfl E5 (laid_one (okW_take ok) (okW_drop ok) okx (by rw [l1, List.length_drop]; omega)) (by rw [List.length_append, List.length_append, l1, List.length_drop]; omega) L
    refine q_when (b := decide (V.int (d : Int) = V.int 3) && decide (1 < ws.length)) (et_and (et_test (ev_op (ev_var rfl) ev_c (rv_eq rfl))) fun _ => et_is (et_test (ev_op (lenE (ev_var rfl) (ex_l (e4.trans e5) hA3)) ev_c rv_I0)) (by rw [vW_len]; exact decide_eq_decide.mpr (by omega))) (fun hb3 H6 e6 => ?_) (fun hb3 H6 e6 => ?_)
    · have E6 := (e4.trans e5).trans e6
      have g1 : 1 < ws.length := of_decide_eq_true (Bool.and_eq_true_iff.mp hb3).2
      have L := el_cat (to E6) (frk (c := 1) E6) (by rw [vW_len, vW_len, l1, List.length_drop]; omega)
      rw [← vW_app, vW_strs] at L
      exact fin rfl E6 (laid_plain (fun z => by have := congrArg List.length z; rw [List.length_append, l1, List.length_drop] at this; have : e + (ws.length - (e + 1)) = 0 := this; omega) (okW_app (okW_take ok) (okW_drop ok)) (by rw [List.length_append, l1, List.length_drop]; omega)) (by rw [List.length_append, l1, List.length_drop]; omega) L
    refine q_when (et_test (ev_op (ev_var rfl) ev_c (rv_eq rfl))) (fun hb4 H7 e7 => ?_) (fun hb4 H7 e7 => ?_)
    · have E7 := ((e4.trans e5).trans e6).trans e7
      have rv := el_revL (K := K) (mid (c := 2) E7)
      rw [vW_rev] at rv
      have lm : ((ws.drop e).take 2).reverse.length = min 2 (ws.length - e) := by rw [List.length_reverse, List.length_take, List.length_drop]
      have L := el_cat (el_cat (to E7) rv (by rw [vW_len, vW_len, l1, lm]; omega)) (frk (c := 2) E7) (by rw [List.length_append, vW_len, vW_len, vW_len, l1, lm, List.length_drop]; omega)
      rw [← vW_app, ← vW_app, vW_strs] at L
      have ll : (ws.take e ++ ((ws.drop e).take 2).reverse ++ ws.drop (e + 2)).length = ws.length := by
        rw [List.length_append, List.length_append, l1, lm, List.length_drop]
        omega
      exact fin rfl E7 (laid_plain (fun z => by rw [z] at ll; have : 0 = ws.length := ll; omega) (okW_app (okW_app (okW_take ok) (okW_rev (okW_take (okW_drop ok)))) (okW_drop ok)) (by omega)) (by omega) L
    · have E7 := ((e4.trans e5).trans e6).trans e7
      have lm : ((ws.drop e).take 1).length = min 1 (ws.length - e) := by rw [List.length_take, List.length_drop]
      have L := el_cat (el_cat (to E7) (mid (c := 1) E7) (by rw [vW_len, vW_len, l1, lm]; omega)) (fr E7) (by rw [List.length_append, vW_len, vW_len, vW_len, l1, lm, List.length_drop]; omega)
      rw [← vW_app, ← vW_app, vW_strs] at L
      have ll : (ws.take e ++ (ws.drop e).take 1 ++ ws.drop e).length ≤ ws.length + 1 ∧ ws.length ≤ (ws.take e ++ (ws.drop e).take 1 ++ ws.drop e).length := by
        rw [List.length_append, List.length_append, l1, lm, List.length_drop]
        omega
      exact fin rfl E7 (laid_plain (fun z => by rw [z] at ll; have : ws.length ≤ 0 := ll.2; omega) (okW_app (okW_app (okW_take ok) (okW_take (okW_drop ok))) (okW_drop ok)) (by omega)) (by omega) L
end
end K07
namespace K07
open PySem L2 Evl Gr ClX
/-- one, and nought behind it -/
def stp (n : Nat) : List Int := (List.range n).map fun i => if i = 0 then 1 else 0
theorem stp_len {n : Nat} : (stp n).length = n := by unfold stp; rw [List.length_map, List.length_range]
section
variable {K : PySem.W.Frag} {σ : L2.St} {H : Hp}
theorem EvP.tupL {te tb : TE} {x : Int} {g : List Int} (h : Ev te σ H (.int x)) (h' : ∀ H1, Ex H H1 → EvL tb σ H1 (vI g)) : EvP K (tCons (tTup (tCons te tNil)) (tCons tb tNil)) σ H [x] g := fun H1 e Q q =>
  eu_tup (σ := σ) (H := H) (ea_cons h ea_nil) (Nat.le_of_ble_eq_true rfl) H1 e _ fun p H2 _ e2 h2 => h' H2 (e.trans e2) H2 (Ex.refl H2) _ fun r H3 _ e3 h3 =>
    q p r H3 (e2.trans e3) (.inr (st_of (e3 _ _ h2))) (.inl (sq_of h3))
end
section
variable {P : Program} {w : World} {K : PySem.W.Frag} {mg : Str → Option Value} {base : Heap}
/-! ### Growth.steps -/
def spSteps (K : PySem.W.Frag) (C : Addr) : Sp := fun vs H Q _ => ∃ m : Nat, vs = [.int (m : Int)] ∧ 0 < m ∧ m ≤ 2000 ∧ RetG K C (val [0] (stp m)) H Q
theorem scSteps : FnScope ["many", "at"] ["many"] (defScope (sGr 19)) := ⟨rfl, rfl, rfl, by decide +kernel, rfl, by decide +kernel, by decide +kernel⟩
theorem ok_Steps {C f fI fZ : Addr} {mc : Value} {fd fdI fdZ : FuncData} (F : Fun K "steps" "Growth.steps" (sGr 19) f fd) (range : mg "range" = none) (N : GName K mg C mc) (M : Mk K C fI)
    (GI : FnOk P w K mg base CX0 4 fI fdI ["self", "told", "gains"] (spInit K C)) (bI : Binds K fdI ["self", "told", "gains"] [])
    (GZ : FnOk P w K mg base CX0 1 fZ fdZ ["value"] (spIsInt K)) (kZ : PySem.W.keepIn K (.ref fZ) = true) (bZ : Binds K fdZ ["value"] []) (gZ : mg "is_integer" = some (.ref fZ)) :
    FnOk P w K mg base CX0 6 f fd ["many"] (spSteps K C) := by
  obtain ⟨mu, cm⟩ := N.most
  refine F.ok scSteps (fun vs H Q E h => ?_) (fun cdv A outer s H vs Q E hr h => ?_)
  · obtain ⟨x, rfl, _⟩ := h
    rfl
  · obtain ⟨m, rfl, m0, m1, k⟩ := h
    refine ⟨_, pss_cons (ps_if (PW.pt (pw_or (pt_not (pt_val (pe_call GZ (hr.mono (by decide)) (by rfl) gZ kZ bZ .nil pass0 (pa_cons (pv 0) pa_nil)))) (pw_or1 (pt_not (pt_chain op_le op_le pe_int (pv 0) (pe_cval (pe_glob (v := .ref C) rfl N.g rfl))))))) (pss_one ps_no) pss_nil)
      (pss_one (ps_ret (pe_make M GI hr (by rfl) N.g bI .nil pass0 (pa_cons (pe_tup (pa_cons pe_int pa_nil)) (pa_cons (pe_lc (own := [("at", 1)]) (g := gName 1) rfl scSteps.nd (pi_range1 (by rfl) range (pa_cons (pv 0) pa_nil)) (blkOk_by (own := [("at", 1)]) (N := ["many", "at"]) (sc := defScope (sGr 19)) (by decide +kernel))
        (fun _ _ _ _ _ => pg_name (i := 1) scSteps.nd rfl (Or.inl rfl)) (fun _ _ _ _ _ => pts_nil) (fun _ _ _ _ _ => pe_ifExp (pt_cmpR op_eq (pv 1) pe_int (nomark _)) pe_int pe_int)) pa_nil))))), ?_⟩
    refine q_when (b := false) (et_is (et_or (et_not (et_B (ev_call (z := .bl true) (ea_cons (ev_var rfl) ea_nil) (spv_isInt (.base (.int _)) kit_int_int kit_int_bool)))) (fun _ => et_not (et_test (ev_chain ev_c (ev_var rfl) (ev_cval ev_c N.rd cm))))) (by
      rw [decide_eq_true (by omega : (1 : Int) ≤ (m : Int)), decide_eq_true (by omega : (m : Int) ≤ 2000)]
      rfl)) (fun hb => absurd hb (by decide)) (fun _ H1 e1 => ?_)
    have c1 : ∀ H2, Ex H1 H2 → EvL (tLc (iRng1 (tCons (tVar 0) tNil)) (gName 1) tYes (tIf (tTest (tOp rEq (tVar 1) (tC (.int 0)))) (tC (.int 1)) (tC (.int 0))) [1]) [some (.int (m : Int)), none] H2 (vI (stp m)) := fun H2 _ => by
      have z := el_lcR1 (σ := [some (.int (m : Int)), none]) (H := H2) (t := tYes) (te := tIf (tTest (tOp rEq (tVar 1) (tC (.int 0)))) (tC (.int 1)) (tC (.int 0))) (ta := tCons (tVar 0) tNil) (j := 1) (vs := [1]) (n := (m : Int)) (fun _ => true) (fun i => V.int (if i = 0 then 1 else 0))
        (ea_cons (ev_var rfl) ea_nil) (by omega) (fun _ => rfl) (fun i H1 _ _ => et_none) (fun i H3 _ _ _ => by
          by_cases h : i = 0
          · subst h
            exact ev_if (b := true) (et_is (et_test (ev_op (ev_var rfl) ev_c (rv_eq rfl))) (by rw [vint_inj]; rfl)) (fun _ => ev_c) (fun hb => absurd hb (by decide))
          · rw [if_neg h]
            exact ev_if (b := false) (et_is (et_test (ev_op (ev_var rfl) ev_c (rv_eq rfl))) (by rw [vint_inj, decide_eq_false (by omega)])) (fun hb => absurd hb (by decide)) (fun _ => ev_c))
      rw [given_all, Int.toNat_natCast] at z
      have e : vI (stp m) = (List.range m).map fun i => V.int (if i = 0 then 1 else 0) := by
        unfold vI stp
        rw [List.map_map]
        rfl
      rw [e]
      exact z
    refine eg_make (K := K) (C := C) (σ := [some (.int (m : Int)), none]) (H := H1) (t := [0]) (g := stp m) (f := val [0] (stp m)) (EvP.tupL ev_c c1) Nat.one_pos (Nat.le_of_ble_eq_true rfl) (by rw [stp_len]; exact m0) (by rw [stp_len]; exact m1)
      (fun i hi => by
        have z : i = 0 := by
          have : i < 1 := hi
          omega
        subst z
        exact Int.le_refl 0) (fun i hi => by
        rw [stp_len] at hi
        have e : at' (stp m) i = if i = 0 then 1 else 0 := at_map_range hi
        rw [e]
        by_cases h : i = 0
        · rw [if_pos h]; decide
        · rw [if_neg h]; decide) (fun n => rfl) H1 (Ex.refl H1) _ fun o H2 ho e2 gr => k o H2 (fresh_back e1 ho) (e1.trans e2) gr
end
end K07
namespace Gr
theorem told_short {t g t' g' : List Int} (t0 : 0 < t.length) (g0 : 0 < g.length) (nf : NF t' g') (e : ∀ n, val t' g' n = val t g n) : t'.length ≤ t.length ∧ g'.length ≤ g.length := by
  have dv : g'.length ∣ g.length := nf_dvd nf e (perT_val t0 (Nat.dvd_refl _))
  refine ⟨?_, Nat.le_of_dvd g0 dv⟩
  rcases Nat.lt_or_ge t.length t'.length with hl | hl
  · exfalso
    rcases nf.few with z | z
    · omega
    · apply z
      have a : rise t' g' (t'.length - 2) = at' t' (t'.length - 1) - at' t' (t'.length - 2) := by
        unfold rise
        rw [show t'.length - 2 + 1 = t'.length - 1 by omega, val_lt (by omega), val_lt (by omega)]
      obtain ⟨c, hc⟩ := dv
      have g1 := nf.gains
      have c0 : 0 < c := Nat.pos_of_ne_zero fun z => by
        rw [z, Nat.mul_zero] at hc
        omega
      have b : rise t' g' (t'.length - 2 + g.length) = lst g' := by
        rw [rise_ge nf.told (by omega), show t'.length - 2 + g.length - (t'.length - 1) = g.length - 1 by omega]
        have : g.length - 1 = g'.length - 1 + (c - 1) * g'.length := by
          obtain ⟨d, rfl⟩ : ∃ d, c = d + 1 := ⟨c - 1, by omega⟩
          rw [hc, Nat.mul_comm, Nat.succ_mul, Nat.add_sub_cancel]
          omega
        rw [this, dif_pd.mul, dif_lt (by omega)]
        rfl
      have p : rise t g (t'.length - 2 + g.length) = rise t g (t'.length - 2) := rise_pd t0 (Nat.dvd_refl _) (by omega)
      have re : ∀ n, rise t' g' n = rise t g n := fun n => by unfold rise; rw [e, e]
      rw [← a, ← b, re, re]
      exact p.symm
  · exact hl
end Gr
namespace K07
open PySem L2 Evl Gr ClX OwX OpX StX LamX EXC ClK
/-- the words of a growth's parts -/
def mkW (t g : List Nat) : List Wd := t.map Wd.num ++ (.thn :: g.map Wd.num)
theorem nums_app (l : List Nat) (r : List Wd) : nums (l.map Wd.num ++ r) = l ++ nums r := by
  induction l with
  | nil => rfl
  | cons n l ih => exact congrArg (n :: ·) ih
theorem told_mk {t g : List Nat} : told (mkW t g) = t := by
  unfold told mkW
  rw [nums_app]
  show t ++ [] = t
  rw [List.append_nil]
theorem gains_mk {t g : List Nat} : gainsW (mkW t g) = g := by
  have h : nums (mkW t g) = t := told_mk
  unfold gainsW
  rw [h]
  unfold mkW
  rw [List.drop_append, List.drop_eq_nil_of_le (by rw [List.length_map]; omega), List.nil_append, List.length_map, show t.length + 1 - t.length = 1 by omega]
  show nums (g.map Wd.num) = g
  have := nums_app g []
  rw [List.append_nil] at this
  rw [this]
  show g ++ [] = g
  rw [List.append_nil]
theorem mk_len {t g : List Nat} : (mkW t g).length = t.length + 1 + g.length := by
  unfold mkW
  rw [List.length_append, List.length_cons, List.length_map, List.length_map]
  omega
theorem due_mk {t g : List Nat} (t0 : 0 < t.length) (g0 : 0 < g.length) : due (mkW t g) = none := by
  have h1 : nums (mkW t g) = t := told_mk
  have h2 := gains_mk (t := t) (g := g)
  unfold due
  rw [h1, h2, if_neg (by omega), if_neg, if_neg]
  · rw [mk_len]
    omega
  · rw [Classical.not_not]
    unfold mkW
    rw [List.getElem?_append_right (by rw [List.length_map]; exact Nat.le_refl _), List.length_map, Nat.sub_self]
    rfl
theorem okW_mk {t g : List Nat} (ht : ∀ n ∈ t, n < 10 ^ 60) (hg : ∀ n ∈ g, n < 10 ^ 60) : OkW (mkW t g) := fun n hn => by
  unfold mkW at hn
  rcases List.mem_append.mp hn with h | h
  · obtain ⟨m, hm, e⟩ := List.mem_map.mp h
    cases e
    exact ht _ hm
  · rcases List.mem_cons.mp h with h | h
    · cases h
    · obtain ⟨m, hm, e⟩ := List.mem_map.mp h
      cases e
      exact hg _ hm
theorem nats_of {t : List Int} (h : Pos t) : ∃ l : List Nat, t = zI l := ⟨t.map Int.toNat, by
  unfold zI
  rw [List.map_map]
  refine List.ext_getElem (by rw [List.length_map]) fun i h1 h2 => ?_
  rw [List.getElem_map]
  have := h i h1
  unfold at' at this
  rw [List.getD_eq_getElem?_getD, List.getElem?_eq_getElem h1] at this
  have z : (0 : Int) ≤ t[i] := this
  show t[i] = ((t[i].toNat : Nat) : Int)
  omega⟩
theorem nats_lt {l : List Nat} {b : Nat} (h : ∀ i, i < (zI l).length → at' (zI l) i < (b : Int)) : ∀ n ∈ l, n < b := fun n hn => by
  obtain ⟨i, hi, rfl⟩ := List.getElem_of_mem hn
  have := h i (by rw [zI_len]; exact hi)
  unfold at' zI at this
  rw [List.getD_eq_getElem?_getD, List.getElem?_map, List.getElem?_eq_getElem hi] at this
  have z : ((l[i] : Nat) : Int) < (b : Int) := this
  omega
theorem str_mk {t g : List Nat} (t0 : 0 < t.length) (g0 : 0 < g.length) : strG (zI t) (zI g) = pg (mkW t g) := by
  have := str_pg (due_mk t0 g0)
  rwa [told_mk, gains_mk] at this
section
variable {K : PySem.W.Frag} {σ : L2.St} {H : Hp} {ta tb te tl : TE}
abbrev rJoin (K : PySem.W.Frag) : V → List V → Hp → VK → Prop := fun x xs H Q => ∃ a p, ∃ ys : List Str, x = .str a ∧ xs = [.ref p] ∧ (SqL K H p (ys.map V.str) ∨ SqT K H p (ys.map V.str)) ∧ (ys.map (·.length)).sum + ys.length * a.length ≤ 16777216 ∧ Q (.str (Txt.join a ys)) H
abbrev rSplit : V → List V → Hp → VK → Prop := fun x xs H Q => ∃ a b, x = .str a ∧ xs = [.str b] ∧ (b.length == 0) = false ∧ a.length + 2 ≤ sizeLine ∧ rNewStrs (Txt.split a b) H Q
abbrev rStrI : List V → Hp → VK → Prop := fun xs H Q => ∃ i : Int, xs = [.int i] ∧ i.natAbs.log2 < 1920 ∧ Q (.str (toString i)) H
theorem ev_join {ss : List Str} (h : EvL te σ H (ss.map V.str)) (hn : ss.length ≤ 2000) (hl : ∀ s ∈ ss, s.length ≤ 60) : Ev (tM1 (rJoin K) (tC (.str " ")) te) σ H (.str (Txt.join " " ss)) := fun H1 e Q q =>
  ⟨⟨_, rfl⟩, h H1 e _ fun a H2 _ e2 hx => ⟨" ", a, ss, rfl, rfl, .inl (sq_of hx), by
    have := sum_le hl
    have one : (" " : Str).length = 1 := by decide +kernel
    rw [one]
    omega, q H2 e2⟩⟩
theorem ev_joinW {ws : List Wd} (h : EvL te σ H (vW ws)) (ok : OkW ws) (hn : ws.length ≤ 2000) : Ev (tM1 (rJoin K) (tC (.str " ")) te) σ H (.str (pg ws)) := by
  rw [vW_strs] at h
  exact ev_join h (by rw [List.length_map]; exact hn) (okW_len ok)
theorem el_split {ws : List Wd} (h : Ev te σ H (.str (pg ws))) (hn : ws ≠ []) (ok : OkW ws) (hl : ws.length ≤ 1500) : EvL (tM1 rSplit te (tC (.str " "))) σ H (vW ws) := fun H1 e Q q =>
  h H1 e _ fun H2 e2 => ⟨⟨_, rfl⟩, pg ws, " ", rfl, rfl, by decide +kernel, by
    have := pg_len ok
    exact sz_of (n := (pg ws).length + 2) (by omega), by
    rw [split_pg hn]
    exact fun p hp => q p _ (fresh_back e2 hp) (e2.trans (Ex.new hp)) (by rw [upd_same, vW_strs])⟩
theorem el_texts {l : List Nat} {a : Addr} {j : Nat} (h : Ev tl σ H (.ref a)) (hs : Sq K H a (vN l)) (hz : l.length ≤ 2000) (hl : ∀ n ∈ l, n < 10 ^ 60) (hw : ∀ x, wipe ((wipe σ [j]).set j (some x)) [j] = wipe σ [j]) (hj : ∀ x, ((wipe σ [j]).set j (some x))[j]? = some (some x)) :
    EvL (tLc (iQ K tl) (gName j) tYes (tCB rStrI (tCons (tVar j) tNil)) [j]) σ H (vW (l.map Wd.num)) := by
  have c := el_lcQ (K := K) (σ := σ) (H := H) (te := tCB rStrI (tCons (tVar j) tNil)) (tl := tl) (j := j) (vs := [j]) (fun i => V.str (tx ((l.getD i 0 : Nat) : Int))) h hs (by rw [vI_len, zI_len]; omega) hw
    (fun i x H1 e hx => by
      have hi : i < l.length := by
        have := (List.getElem?_eq_some_iff.mp hx).1
        rwa [vI_len, zI_len] at this
      rw [vI_get (by rw [zI_len]; exact hi)] at hx
      obtain rfl := Option.some.inj hx
      have e2 : at' (zI l) i = ((l.getD i 0 : Nat) : Int) := by
        unfold at' zI
        rw [List.getD_eq_getElem?_getD, List.getElem?_map, List.getD_eq_getElem?_getD, List.getElem?_eq_getElem hi]
        rfl
      rw [e2]
      have b : l.getD i 0 < 10 ^ 60 := by
        rw [List.getD_eq_getElem?_getD, List.getElem?_eq_getElem hi]
        exact hl _ (List.getElem_mem hi)
      exact ev_cb (ea_cons (ev_var (hj _)) ea_nil) fun H2 _ Q q => ⟨_, rfl, log_small (by omega) (by
        have : ((10 ^ 60 : Nat) : Int) = (10 : Int) ^ 60 := by decide
        omega), q H2 (Ex.refl H2)⟩)
  have g : (List.range (vN l).length).map (fun i => V.str (tx ((l.getD i 0 : Nat) : Int))) = vW (l.map Wd.num) := by
    unfold vW
    rw [List.map_map]
    refine List.ext_getElem (by rw [List.length_map, List.length_map, List.length_range, vI_len, zI_len]) fun i h1 h2 => ?_
    rw [List.length_map] at h2
    rw [List.getElem_map, List.getElem_map, List.getElem_range, List.getD_eq_getElem?_getD, List.getElem?_eq_getElem h2]
    rfl
  rw [g] at c
  exact c
theorem vW_mk {t g : List Nat} : vW (t.map Wd.num) ++ [V.str "then"] ++ vW (g.map Wd.num) = vW (mkW t g) := by
  unfold mkW
  rw [vW_app, List.append_assoc]
  rfl
/-- ' '.join([..] + ['then'] + [..]) -/
theorem ev_page {t g : List Nat} {tx tg : TE} (h1 : EvL tx σ H (vW (t.map Wd.num))) (h2 : EvL tg σ H (vW (g.map Wd.num))) (ok : OkW (mkW t g)) (hn : (mkW t g).length ≤ 2000) :
    Ev (tM1 (rJoin K) (tC (.str " ")) (tOp rCat (tOp rCat tx (tLst (tCons (tC (.str "then")) tNil))) tg)) σ H (.str (pg (mkW t g))) := by
  have l := mk_len (t := t) (g := g)
  have L := el_cat (el_cat h1 (el_lst (ta := tCons (tC (.str "then")) tNil) (vs := [V.str "then"]) (ea_cons ev_c ea_nil) (by decide)) (by rw [vW_len, List.length_map]; show t.length + 1 ≤ _; omega)) h2 (by rw [List.length_append, vW_len, vW_len, List.length_map, List.length_map]; show t.length + 1 + g.length ≤ _; omega)
  rw [vW_mk] at L
  exact ev_joinW L ok hn
end
end K07
namespace K07
open PySem L2 Evl Gr ClX OwX OpX StX StM LamX EXC ClK
theorem pen_ext {H H' : Hp} {p l : Addr} {cells : List Int} {m : Nat} (h : PenAt H p l cells m) (e : ExtN H H') : PenAt H' p l cells m := by
  obtain ⟨k, r, h1, h2, h3⟩ := h
  exact ⟨k, r, e _ _ h1 (fun ps z => by cases z), e _ _ h2 (fun ps z => by cases z), h3⟩
theorem tabs_keep {T : List (Addr × Str)} {H H' : Hp} {p l : Addr} {cells : List Int} {m : Nat} (h : Tabs T H) (hP : PenAt H p l cells m) (k : Keep p H H') : Tabs T H' := fun q hq => by
  obtain ⟨_, _, hp, _⟩ := hP
  obtain ⟨ps, h1, h2, h3⟩ := h q hq
  refine ⟨ps, k _ _ h1 (fun z => by rw [z, hp] at h1; cases h1), h2, fun pos cv hc => ?_⟩
  obtain ⟨c, e1, e2⟩ := h3 pos cv hc
  exact ⟨c, e1, k _ _ e2 (fun z => by rw [z, hp] at e2; unfold CodeO at e2; cases e2)⟩
theorem tyx_ext {K : PySem.W.Frag} {H H' : Hp} {x : V} {t : Value} (e : ExtN H H') (h : TyX K H x t) : TyX K H' x t := by
  have n : ∀ {b : Addr} {o : HO}, H b = some o → (∀ ps, o ≠ .tbl ps) → H' b = some o := fun h1 h2 => e _ _ h1 h2
  cases h with
  | base b =>
    refine .base ?_
    cases b with
    | non => exact .non
    | bl b => exact .bl b
    | int i => exact .int i
    | str x => exact .str x
    | flt x => exact .flt x
    | lst q => exact .lst (n q (fun ps z => by cases z))
    | frz q => exact .frz (n q (fun ps z => by cases z))
    | tup q => exact .tup (n q (fun ps z => by cases z))
    | dK q => exact .dK (n q (fun ps z => by cases z))
    | dT q => exact .dT (n q (fun ps z => by cases z))
    | ins q a b c d f => exact .ins (n q (fun ps z => by cases z)) a b c d f
  | byt b => exact .byt b
  | set q => exact .set (n q (fun ps z => by cases z))
  | kList q c => exact .kList q c
  | kTuple q c => exact .kTuple q c
  | kDict q c => exact .kDict q c
  | fTuple q => exact .fTuple (n q (fun ps z => by cases z))
  | fDict q => exact .fDict (n q (fun ps z => by cases z))
section
variable {K : PySem.W.Frag} {C : Addr} {σ : L2.St} {H : Hp} {ta : TA} {tb te tl : TE}
theorem or_no {t u : TT} {Q : Bool → Hp → Prop} (h : EvT t σ H false) (k : ∀ H1, Ex H H1 → u σ H1 Q) : tOr t u σ H Q := h H (Ex.refl H) _ fun H1 e => iteF (k H1 e)
/-- not _law_one_right(..): never so -/
theorem not_right {T : List (Addr × Str)} {ws : List Wd} {Q : Bool → Hp → Prop} (h : EvA ta σ H [.str (pg ws)]) (hn : ws ≠ []) (ok : OkW ws) (hl : ws.length ≤ 1500) (hT : Tabs T H) (k : ∀ H1, ExtN H H1 → Tabs T H1 → Q false H1) : tNot (tB (tCall (spRt T) [] E0 ta)) σ H Q :=
  h H (Ex.refl H) _ fun H1 e1 => ⟨ws, rfl, hn, ok, hl, hT.ext e1, fun H2 e2 T2 => ⟨true, rfl, k H2 ((ExtN.of e1).trans e2) T2⟩⟩
theorem mk_ne {t g : List Nat} : mkW t g ≠ [] := fun z => by
  have := congrArg List.length z
  rw [mk_len] at this
  have : t.length + 1 + g.length = 0 := this
  omega
theorem er_read {cT : Addr} {t g : List Nat} (h : EvA ta σ H [.str (pg (mkW t g))]) (ok : OkW (mkW t g)) (hl : (mkW t g).length ≤ 1500) (nf : NF (zI t) (zI g)) : EvR K C (tCMeth C (spRd K C cT) E0 (tC (.ref C)) ta) σ H (val (zI t) (zI g)) := fun H1 e Q q => by
  have t0 : 0 < t.length := by have := nf.told; rwa [zI_len] at this
  have g0 : 0 < g.length := by have := nf.gains; rwa [zI_len] at this
  have hd := due_mk t0 g0
  refine ⟨rfl, h H1 e _ fun H2 e2 => .inl ⟨mkW t g, rfl, mk_ne, ok, hl, fun i z => ?_, fun _ z => ?_, fun _ _ o H3 ho e3 hG => ?_⟩⟩
  · rw [hd] at z
    cases z
  · rw [told_mk, gains_mk] at z
    exact absurd nf z
  · rw [told_mk, gains_mk] at hG
    exact q o H3 (e2.trans e3) ⟨_, _, hG, pos_z t, fun n => rfl⟩
theorem er_steps {m : Nat} (h0 : 0 < m) (h1 : m ≤ 2000) : EvR K C (tSMeth C (spSteps K C) E0 (tC (.ref C)) (tCons (tC (.int (m : Int))) tNil)) σ H (val [0] (stp m)) := fun H1 e Q q => ⟨rfl, m, rfl, h0, h1, fun o H2 _ e2 gr => q o H2 e2 gr⟩
/-- the words of a growth -/
theorem gr_words {o : Addr} {t g : List Int} {A : Int} (h : GrF K C H o (val t g)) (t0 : 0 < t.length) (g0 : 0 < g.length) (hA : ∀ n, n < t.length → val t g n < 10 ^ 60) :
    ∃ tn gn : List Nat, GrAt K C H o (zI tn) (zI gn) ∧ NF (zI tn) (zI gn) ∧ tn.length ≤ t.length ∧ gn.length ≤ g.length ∧ (∀ n ∈ tn, n < 10 ^ 60) ∧ (∀ n ∈ gn, n < 10 ^ 60) ∧ ∀ n, val (zI tn) (zI gn) n = val t g n := by
  obtain ⟨t', g', hG, pt, hv⟩ := h
  have hG2 := hG
  obtain ⟨_, _, _, _, _, _, _, _, nf, _, _, sm⟩ := hG2
  obtain ⟨l1, l2⟩ := told_short t0 g0 nf hv
  obtain ⟨tn, rfl⟩ := nats_of pt
  obtain ⟨gn, rfl⟩ := nats_of (t := g') fun i hi => (sm i hi).1
  have e : (10 : Int) ^ 60 = ((10 ^ 60 : Nat) : Int) := by decide
  refine ⟨tn, gn, hG, nf, by rwa [zI_len] at l1, by rwa [zI_len] at l2, nats_lt fun i hi => ?_, nats_lt fun i hi => ?_, hv⟩
  · have a := hv i
    rw [val_lt hi] at a
    rw [a, ← e]
    exact hA i (by omega)
  · exact Int.lt_of_le_of_lt (sm i hi).2 (by decide)
/-- str of a growth -/
theorem ev_strG {X : Cx} {o : Addr} {tn gn : List Nat} (ht : Ev te σ H (.ref o)) (hG : GrAt X.K C H o (zI tn) (zI gn)) (hb : ∀ n ∈ tn, n < 10 ^ 60) (nf : NF (zI tn) (zI gn)) :
    Ev (tCB (fun xs H Q => ∃ a, xs = [V.ref a] ∧ InsC X H a C ∧ spStr X.K C [.ref a] H (fun v H' => ∃ y, v = .str y ∧ Q v H') E0) (tCons te tNil)) σ H (.str (pg (mkW tn gn))) := by
  have t0 : 0 < tn.length := by have := nf.told; rwa [zI_len] at this
  have g0 : 0 < gn.length := by have := nf.gains; rwa [zI_len] at this
  have bnd : ∀ i, i < (zI tn).length → at' (zI tn) i < 10 ^ 60 := fun i hi => Int.lt_of_le_of_lt (small_z hb i hi).2 (by decide)
  refine ev_cb (ea_cons ht ea_nil) fun H1 e1 Q q => ⟨o, rfl, gr_ins (C := C) (f := val (zI tn) (zI gn)) ⟨_, _, hG.mono e1, pos_z tn, fun n => rfl⟩, o, zI tn, zI gn, rfl, hG.mono e1, pos_z tn, bnd, fun H2 e2 => ⟨_, rfl, ?_⟩⟩
  rw [str_mk t0 g0]
  exact q H2 e2
theorem ev_joinP {a : Addr} {ws : List Wd} (h : Ev te σ H (.ref a)) (hs : SqL K H a (vW ws)) (ok : OkW ws) (hn : ws.length ≤ 2000) : Ev (tM1 (rJoin K) (tC (.str " ")) te) σ H (.str (pg ws)) := fun H1 e Q q =>
  ⟨⟨_, rfl⟩, h H1 e _ fun H2 e2 => ⟨" ", a, ws.map Wd.t, rfl, rfl, .inl (by rw [← vW_strs]; exact ex_l (e.trans e2) hs), by
    have := sum_w ok
    have one : (" " : Str).length = 1 := by decide +kernel
    rw [one, List.length_map]
    omega, q H2 e2⟩⟩
theorem evp1_lst {t : List Int} (ha : EvL te σ H (vI t)) : EvP1 K (tCons te tNil) σ H t := fun H1 e Q q => ha H1 e _ fun a H2 _ e2 h2 => q a H2 e2 (.inl (sq_of h2))
/-- one of some things that are no texts -/
theorem odd_pick {p l : Addr} {ns : List Int} {m : Nat} {tmk : TE} {f : Nat → Int} (hi : σ[1]? = some (some (.ref p))) (hP : PenAt H p l ns m) (hm : m ≤ 50000) (h63 : ns.length ≤ 63) (G : GCls K C) (I : GIsi K C) (noStr : PySem.W.kitOne K (.ref C) (.type "str") = some false)
    (hmk : ∀ H1, EvG K C tmk σ H1 f) {Q : VK} (k : ∀ x ty H', TyX K H' x ty → PySem.W.kitOne K ty (.type "str") = some false → PenAt H' p l ns (m + 1) → Keep p H H' → Q x H') :
    tCall spPick [] E0 (tCons (tVar 1) (tCons (tLst (tCons (tC .non) (tCons (tC (.int 0)) (tCons (tC (.bl true)) (tCons (tTup (tCons (tC (.str "0 then 0")) tNil)) (tCons (tLst (tCons (tC (.str "0")) tNil)) (tCons tDNewK (tCons tmk tNil)))))))) tNil)) σ H Q := by
  have hp : ∃ o, H p = some o := by
    obtain ⟨_, _, h, _⟩ := hP
    exact ⟨_, h⟩
  obtain ⟨op, hp⟩ := hp
  refine ⟨_, hi, lst_i (cons_i (c_i (cons_i (c_i (cons_i (c_i (cons_i (tup_i (cons_i (c_i ⟨by show 1 ≤ sizeLine; decide, fun a1 h1 => cons_i (lst_i (cons_i (c_i ⟨by show 1 ≤ sizeLine; decide, fun a2 h2 => cons_i (fun a3 h3 => cons_i (hmk _ _ (Ex.refl _) _ fun o H4 ho e4 gr => ?_))⟩)))⟩))))))))))⟩
  have E1 := Ex.new (o := .tup [V.str "0 then 0"]) h1
  have m1 : upd H a1 (.tup [V.str "0 then 0"]) a1 = some (.tup [V.str "0 then 0"]) := upd_same
  generalize upd H a1 (.tup [V.str "0 then 0"]) = H1 at h2 h3 ho e4 E1 m1
  have E2 := Ex.new (o := .lst [V.str "0"]) h2
  have m2 : upd H1 a2 (.lst [V.str "0"]) a2 = some (.lst [V.str "0"]) := upd_same
  generalize upd H1 a2 (.lst [V.str "0"]) = H2 at h3 ho e4 E2 m2
  have E3 := Ex.new (o := .dK []) h3
  have m3 : upd H2 a3 (.dK []) a3 = some (.dK []) := upd_same
  generalize upd H2 a3 (.dK []) = H3 at ho e4 E3 m3
  refine ⟨by show 7 ≤ sizeLine; decide, fun b hb => ?_⟩
  have E5 := Ex.new (o := .lst [V.non, .int 0, .bl true, .ref a1, .ref a2, .ref a3, .ref o]) hb
  have m5 : upd H4 b (.lst [V.non, .int 0, .bl true, .ref a1, .ref a2, .ref a3, .ref o]) b = some (.lst [V.non, .int 0, .bl true, .ref a1, .ref a2, .ref a3, .ref o]) := upd_same
  have gr5 := gr.mono E5
  have n5 : b ≠ p := fun z => by
    rw [z, e4 _ _ (E3 _ _ (E2 _ _ (E1 _ _ hp)))] at hb
    cases hb
  refine ⟨p, l, b, ns, m, _, rfl, hP.mono ((E1.trans E2).trans ((E3.trans e4).trans E5)) (Nat.le_refl m), hm, h63, m5, n5, show 0 < 7 by decide, show 7 ≤ 1000000 by decide, fun i x H6 hx hP6 k6 => ?_⟩
  have kp := (Keep.of_ex (p := p) ((E1.trans E2).trans ((E3.trans e4).trans E5))).trans k6
  have n1 : a1 ≠ p := fun z => by rw [z, hp] at h1; cases h1
  have n2 : a2 ≠ p := fun z => by rw [z, E1 _ _ hp] at h2; cases h2
  have n3 : a3 ≠ p := fun z => by rw [z, E2 _ _ (E1 _ _ hp)] at h3; cases h3
  have n4 : o ≠ p := fun z => by rw [z, E3 _ _ (E2 _ _ (E1 _ _ hp))] at ho; cases ho
  have kT : ∀ {a : String}, kitB a "str" = some false → PySem.W.kitOne K (.type a) (.type "str") = some false := fun h => kit_ty h
  match i, hx with
  | 0, hx => cases hx; exact k _ _ H6 (.base .non) (kT (by decide +kernel)) hP6 kp
  | 1, hx => cases hx; exact k _ _ H6 (.base (.int 0)) (kT (by decide +kernel)) hP6 kp
  | 2, hx => cases hx; exact k _ _ H6 (.base (.bl true)) (kT (by decide +kernel)) hP6 kp
  | 3, hx => cases hx; exact k _ _ H6 (.base (.tup (k6 _ _ (E5 _ _ (e4 _ _ (E3 _ _ (E2 _ _ m1)))) n1))) (kT (by decide +kernel)) hP6 kp
  | 4, hx => cases hx; exact k _ _ H6 (.base (.lst (k6 _ _ (E5 _ _ (e4 _ _ (E3 _ _ m2))) n2))) (kT (by decide +kernel)) hP6 kp
  | 5, hx => cases hx; exact k _ _ H6 (.base (.dK (k6 _ _ (E5 _ _ (e4 _ _ m3)) n3))) (kT (by decide +kernel)) hP6 kp
  | 6, hx =>
    cases hx
    obtain ⟨t, g, ⟨dx, x1, x2, x3, q, _⟩, _⟩ := gr5
    exact k _ _ H6 (.base (.ins (k6 _ _ q n4) G.cls I.ca I.cn I.ct I.cm)) noStr hP6 kp
  | i + 7, hx => cases hx
end
/-- the pages that are told -/
def somes : List (List Wd) := [[.bad 0], [.num 0], [.thn, .num 3], [.num 0, .thn], [.num 0, .thn, .num 3], [.num 0, .num 3, .thn, .num 3], [.num 0, .thn, .num 3, .num 3], [.num 0, .thn, .num 3, .bad 0], [.num 0, .thn, .num 3, .thn], [.num 0, .bad 0, .thn, .num 3], [.bad 6], [.num 0, .thn, .num 0]]
theorem somes_ok : ∀ ws ∈ somes, ws ≠ [] ∧ OkW ws ∧ ws.length ≤ 1500 := fun ws hw => by
  unfold somes at hw
  simp only [List.mem_cons, List.not_mem_nil, or_false] at hw
  have small : ∀ {ws : List Wd}, (ws.all fun w => match w with | .num n => decide (n < 10 ^ 60) | _ => true) = true → OkW ws := fun h n hn => of_decide_eq_true (List.all_eq_true.mp h _ hn)
  rcases hw with rfl | rfl | rfl | rfl | rfl | rfl | rfl | rfl | rfl | rfl | rfl | rfl <;> exact ⟨by decide, small (by decide +kernel), by decide⟩
end K07
namespace K07
open PySem L2 Evl Gr ClX OwX OpX StX StM LamX EXC ClK
abbrev sLw : Stmt := top 48
abbrev nLw : List Str := ["_law_script", "_law_pen_here", "_law_turn_so", "_law_plain_here", "_law_made", "_law_page", "_law_raw", "_law_words", "_law_lap_so", "_law_some", "_law_wide", "_law_odd", "_law_value_here", "_law_gain"]
abbrev qLw : Str := ("law" : Str) ++ ".<locals>." ++ "<lambda>"
def spLw (K : PySem.W.Frag) (T : List (Addr × Str)) : Sp := fun vs H Q _ => ∃ (a : Addr) (ns : List Int), vs = [.ref a] ∧ SqL K H a (vI ns) ∧ ns.length ≤ 63 ∧ Tabs T H ∧ ∀ H', Q (.bl true) H'
theorem scLw : FnScope nLw ["_law_script"] (defScope sLw) := ⟨rfl, rfl, rfl, by decide +kernel, rfl, by decide +kernel, by decide +kernel⟩
theorem q_ifE {c : TT} {tu tz : TS} {D : Ends} {σ : L2.St} {H : Hp} (h : c σ H fun b H1 => if b = true then tu { D with nx := tz D } σ H1 else tz D σ H1) : tSeq (tIfS c tu tNext) tz D σ H := h
theorem s_ifE {c : TT} {tu : TS} {D : Ends} {σ : L2.St} {H : Hp} (h : c σ H fun b H1 => if b = true then tu D σ H1 else D.nx σ H1) : tIfS c tu tNext D σ H := h
theorem and_E {ta tb : TE} {σ : L2.St} {H : Hp} {Q : VK} (h : ta σ H fun x H1 => ∃ c, x = .bl c ∧ if c = true then tb σ H1 Q else Q (.bl false) H1) : tAndV ta tb σ H Q := h
theorem test_i {te : TE} {σ : L2.St} {H : Hp} {Q : Bool → Hp → Prop} (h : te σ H fun x H' => ∃ k, x = .bl k ∧ Q k H') : tTest te σ H Q := h
theorem or_E {t u : TT} {σ : L2.St} {H : Hp} {Q : Bool → Hp → Prop} (h : t σ H fun c H1 => if c = true then Q true H1 else u σ H1 Q) : tOr t u σ H Q := h
section
variable {P : Program} {w : World} {K : PySem.W.Frag} {mg : Str → Option Value} {base : Heap}
theorem ok_Lw {f c Pc fH C cT fG pG fE fS B cG cN cM fI T0 pSt fSt : Addr} {mc : Value} {fd fdH fdG fdI : FuncData} {T : List (Addr × Str)} (F : FunC K "law" "law" sLw f fd c) (TB : TabB base mg c Pc) (hT : (Pc, qLw) ∈ T) (hu : ∀ p ∈ T, p.1 = Pc → p.2 = qLw)
    (TT : GlbT mg) (TS : GlbS mg) (N : GName K mg C mc) (G : GCls K C) (I : GIsi K C) (noStr : PySem.W.kitOne K (.ref C) (.type "str") = some false) (HK : HdK K mg B cG cN cT cM) (FH : Fun K "_law_heard" "_law_heard" sHd fH fdH) (bH : Binds K fdH ["_law_ask"] []) (gH : mg "_law_heard" = some (.ref fH))
    (RK : RdK P w K mg base C cT fG pG mc fdG) (NE : GNe K C fE) (GE : FnR P w K mg base CX0 1 fE (spGEq K C)) (SI : StrIn K C fS) (GS : FnR P w K mg base CX0 1 fS (spStr K C)) (M : Mk K C fI)
    (GI : FnOk P w K mg base CX0 4 fI fdI ["self", "told", "gains"] (spInit K C)) (bI : Binds K fdI ["self", "told", "gains"] []) (bI1 : Binds K fdI ["self", "told", "gains"] [.ref T0]) (hT0 : ∀ H, Sq K H T0 (vI [0]))
    (SSp : SMet K C mc "steps" pSt fSt) (GSp : FnR P w K mg base CX0 6 fSt (spSteps K C))
    (LPe : Gfn P w K mg base 1 "_law_pen" ["_law_script"] (spPen K)) (LD : Gfn P w K mg base 1 "_law_draw" ["_law_pen_here", "_law_many"] spDraw) (LPk : Gfn P w K mg base 2 "_law_pick" ["_law_pen_here", "_law_some"] spPick) (LPl : Gfn P w K mg base 3 "_law_plain" ["_law_pen_here", "_law_is_rising"] (spPlain K))
    (LB : Gfn P w K mg base 3 "_law_bent" ["_law_pen_here", "_law_words"] (spBt K)) (LR : Gfn P w K mg base 9 "_law_one_right" ["_law_page"] (spRt T)) :
    FnOk P w K mg base CX0 10 f fd ["_law_script"] (spLw K T) := by
  obtain ⟨fP, fdP, GP, kP, bP, gP⟩ := LPe
  obtain ⟨fD, fdD, GD, kD, bD, gD⟩ := LD
  obtain ⟨fK, fdK, GK, kK, bK, gK⟩ := LPk
  obtain ⟨fL, fdL, GL, kL, bL, gL⟩ := LPl
  obtain ⟨fB, fdB, GB, kB, bB, gB⟩ := LB
  obtain ⟨fR, fdR, GR, kR, bR, gR⟩ := LR
  refine F.ok scLw (fun vs H Q E h => ?_) (fun A outer s H vs Q E hr h => ?_)
  · obtain ⟨a, ns, rfl, _⟩ := h
    rfl
  · obtain ⟨a, ns, rfl, hS, h63, tabs, k⟩ := h
    have r5 := hr.mono (show 5 ≤ 9 by decide)
    have r6 := hr.mono (show 6 ≤ 9 by decide)
    have r8 := hr.mono (show 8 ≤ 9 by decide)
    have r3 := hr.mono (show 3 ≤ 9 by decide)
    have r2 := hr.mono (show 2 ≤ 9 by decide)
    have r1 := hr.mono (show 1 ≤ 9 by decide)
    refine ⟨_, pss_cons (ps_set (i := 1) scLw.nd rfl (.inl rfl) (pe_call GP r1 (by rfl) gP kP bP .nil pass0 (pa_cons (pv 0) pa_nil)))
      (pss_cons (ps_for PassesOwn.never rfl (pi_range1 (by rfl) TS.range (pa_cons pe_int pa_nil)) (pg_name (i := 2) scLw.nd rfl (.inl rfl))
        (pss_cons (ps_set (i := 3) scLw.nd rfl (.inl rfl) (pe_call GL r3 (by rfl) gL kL bL .nil pass0 (pa_cons (pv 1) (pa_cons (pe_cmpR op_eq (pe_call GD r1 (by rfl) gD kD bD .nil pass0 (pa_cons (pv 1) (pa_cons pe_int pa_nil))) pe_int (nomark _)) pa_nil))))
        (pss_cons (ps_set (i := 4) scLw.nd rfl (.inl rfl) (pe_make M GI r5 (by rfl) N.g bI .nil pass0 (pa_cons (pe_ix ix_seq (pv 3) pe_int (fun _ _ => rfl)) (pa_cons (pe_ix ix_seq (pv 3) pe_int (fun _ _ => rfl)) pa_nil))))
        (pss_cons (ps_set (i := 5) scLw.nd rfl (.inl rfl) (pe_join pe_str (pe_op op_cat (pe_op op_cat
            (pe_lc (own := [("_law_value_here", 12)]) (g := gName 12) rfl scLw.nd (pi_seq (pe_fld (pv 4) rfl)) (blkOk_by (own := [("_law_value_here", 12)]) (N := nLw) (sc := defScope sLw) (by decide +kernel))
              (fun _ _ _ _ _ => pg_name (i := 12) scLw.nd rfl (Or.inl rfl)) (fun _ _ _ _ _ => pts_nil) (fun _ _ _ _ _ => pe_callTy call_str_int (by rfl) TT.str (by decide +kernel) (pa_cons (pv 12) pa_nil)))
            (pe_lst (pa_cons pe_str pa_nil)))
            (pe_lc (own := [("_law_gain", 13)]) (g := gName 13) rfl scLw.nd (pi_seq (pe_fld (pv 4) rfl)) (blkOk_by (own := [("_law_gain", 13)]) (N := nLw) (sc := defScope sLw) (by decide +kernel))
              (fun _ _ _ _ _ => pg_name (i := 13) scLw.nd rfl (Or.inl rfl)) (fun _ _ _ _ _ => pts_nil) (fun _ _ _ _ _ => pe_callTy call_str_int (by rfl) TT.str (by decide +kernel) (pa_cons (pv 13) pa_nil))))))
        (pss_cons (ps_set (i := 6) scLw.nd rfl (.inl rfl) (pe_join pe_str (pe_op op_cat (pe_op op_cat
            (pe_lc (own := [("_law_value_here", 12)]) (g := gName 12) rfl scLw.nd (pi_seq (pe_ix ix_seq (pv 3) pe_int (fun _ _ => rfl))) (blkOk_by (own := [("_law_value_here", 12)]) (N := nLw) (sc := defScope sLw) (by decide +kernel))
              (fun _ _ _ _ _ => pg_name (i := 12) scLw.nd rfl (Or.inl rfl)) (fun _ _ _ _ _ => pts_nil) (fun _ _ _ _ _ => pe_callTy call_str_int (by rfl) TT.str (by decide +kernel) (pa_cons (pv 12) pa_nil)))
            (pe_lst (pa_cons pe_str pa_nil)))
            (pe_lc (own := [("_law_gain", 13)]) (g := gName 13) rfl scLw.nd (pi_seq (pe_ix ix_seq (pv 3) pe_int (fun _ _ => rfl))) (blkOk_by (own := [("_law_gain", 13)]) (N := nLw) (sc := defScope sLw) (by decide +kernel))
              (fun _ _ _ _ _ => pg_name (i := 13) scLw.nd rfl (Or.inl rfl)) (fun _ _ _ _ _ => pts_nil) (fun _ _ _ _ _ => pe_callTy call_str_int (by rfl) TT.str (by decide +kernel) (pa_cons (pv 13) pa_nil))))))
        (pss_cons (ps_if (PW.pt (pw_or (pt_cmpR op_ne (pe_callTy (call_strI (E := E0) SI GS r3 pass0) (by rfl) TT.str (by decide +kernel) (pa_cons (pv 4) pa_nil)) (pv 5) (nomark _))
          (pw_or (pt_cmpR (op_neO (E := E0) NE.has NE.ne NE.ob GE r2 pass0) (pe_cmeth (E := E0) (pe_glob (v := .ref C) (by rfl) N.g (by rfl)) N.rd RK.c (fnRX RK.ok RK.b) r6 (passN rfl rfl) (pa_cons (pv 5) pa_nil)) (pv 4) (nomark _))
          (pw_or (pt_not (pt_val (pe_call GR hr (by rfl) gR kR bR .nil pass0 (pa_cons (pv 5) pa_nil)))) (pw_or1 (pt_not (pt_val (pe_call GR hr (by rfl) gR kR bR .nil pass0 (pa_cons (pv 6) pa_nil))))))))) (pss_one ps_no) pss_nil)
        (pss_cons (ps_set (i := 7) scLw.nd rfl (.inl rfl) (pe_split (pv 5) pe_str))
        (pss_one (ps_for PassesOwn.never rfl (pi_range1 (by rfl) TS.range (pa_cons pe_int pa_nil)) (pg_name (i := 8) scLw.nd rfl (.inl rfl))
          (pss_cons (ps_set (i := 7) scLw.nd rfl (.inl rfl) (pe_split (pe_join pe_str (pe_call GB r3 (by rfl) gB kB bB .nil pass0 (pa_cons (pv 1) (pa_cons (pv 7) pa_nil)))) pe_str))
          (pss_one (ps_if (pt_not (pt_val (pe_call GR hr (by rfl) gR kR bR .nil pass0 (pa_cons (pe_join pe_str (pv 7)) pa_nil)))) (pss_one ps_no) pss_nil))))))))))))
      (pss_cons (ps_set (i := 9) scLw.nd rfl (.inl rfl) (pe_lst (pa_cons pe_str (pa_cons pe_str (pa_cons pe_str (pa_cons pe_str (pa_cons pe_str (pa_cons pe_str (pa_cons pe_str (pa_cons pe_str (pa_cons pe_str (pa_cons pe_str (pa_cons pe_str (pa_cons pe_str pa_nil))))))))))))))
      (pss_cons (ps_if (pt_cmpR (op_neD hr.units) (pe_lc (own := [("_law_page", 5)]) (g := gName 5) rfl scLw.nd (pi_list (pv 9)) (blkOk_by (own := [("_law_page", 5)]) (N := nLw) (sc := defScope sLw) (by decide +kernel))
              (fun _ _ _ _ _ => pg_name (i := 5) scLw.nd rfl (Or.inl rfl)) (fun _ _ _ _ _ => pts_one (pt_not (pt_val (pe_call GR hr (by rfl) gR kR bR .nil pass0 (pa_cons (pv 5) pa_nil))))) (fun _ _ _ _ _ => pv 5)) (pe_lst pa_nil) (nomark _)) (pss_one ps_no) pss_nil)
      (pss_cons (ps_asg (pe_tup (pa_cons (pe_call GK r2 (by rfl) gK kK bK .nil pass0 (pa_cons (pv 1) (pa_cons (pe_lst (pa_cons pe_non (pa_cons pe_int (pa_cons pe_bl (pa_cons (pe_tup (pa_cons pe_str pa_nil)) (pa_cons (pe_lst (pa_cons pe_str pa_nil)) (pa_cons pe_dnewK (pa_cons
            (pe_make M GI r5 (by rfl) N.g bI1 (dvs := [.ref T0]) (.cons rfl .nil) pass0 (pa_cons (pe_lst (pa_cons pe_int pa_nil)) pa_nil)) pa_nil)))))))) pa_nil)))
          (pa_cons (pe_callTy (call_strI (E := E0) SI GS r3 pass0) (by rfl) TT.str (by decide +kernel) (pa_cons (pe_smeth (pe_glob (v := .ref C) (by rfl) N.g (by rfl)) N.rd SSp GSp r6 pass0 (pa_cons pe_int pa_nil)) pa_nil)) pa_nil)))
        (pg_tup rfl (pgs_cons (pg_name (i := 11) scLw.nd rfl (.inr rfl)) (pgs_cons (pg_name (i := 10) scLw.nd rfl (.inl rfl)) pgs_nil))))
      (pss_one (ps_ret (pe_and (pe_cmpR (op_eqD hr.units) (pe_heard (X := (cxOf CX0 P w K mg base nLw "law" (defScope sLw) f (.ref c) A outer s H E).nox) (T := T) (j := 11) (by rfl) gH FH bH HK N RK TB rfl hT hu r8 (lamS_by (sc := defScope sLw) (by decide +kernel)) rfl (fun _ _ _ _ _ _ => rfl) rfl (.inr (.inr rfl)) rfl (fun _ => ⟨_, rfl⟩) (by decide) (by decide))
          (pe_tup (pa_cons pe_str (pa_cons pe_str (pa_cons pe_str pa_nil)))) (nomark _))
        (pe_one (pe_cmpR (op_eqO (E := E0) (op := .Eq) (fun _ _ => rfl) NE.has GE r1 pass0) (pe_cmeth (E := E0) (pe_glob (v := .ref C) (by rfl) N.g (by rfl)) N.rd RK.c (fnRX RK.ok RK.b) r6 (passN rfl rfl) (pa_cons (pv 10) pa_nil)) (pe_smeth (pe_glob (v := .ref C) (by rfl) N.g (by rfl)) N.rd SSp GSp r6 pass0 (pa_cons pe_int pa_nil)) (nomark _)))))))))), ?_⟩
    refine ⟨_, rfl, a, ns, rfl, hS, h63, fun p l H1 _ _ e1 hP => ?_⟩
    have T1 := tabs.ext e1
    refine ⟨8, rfl, by decide, by decide, for_range (lo := 0) (n := 8) (fun i σ' H' => (∃ x2 x3 x4 x5 x6 x7 x8 : Option V, σ' = [some (.ref a), some (.ref p), x2, x3, x4, x5, x6, x7, x8, none, none, none, none, none]) ∧ PenAt H' p l ns (30 * i) ∧ Tabs T H') ⟨⟨none, none, none, none, none, none, none, rfl⟩, hP, T1⟩ ?_ ?_⟩
    · rintro i σ' H2 hi ⟨⟨x2, x3, x4, x5, x6, x7, x8, rfl⟩, P2, T2⟩
      show tSeq _ _ _ [some (.ref a), some (.ref p), some (.int (0 + (i : Int))), x3, x4, x5, x6, x7, x8, none, none, none, none, none] H2
      refine q_asgR ⟨_, rfl, w_draw (p := p) (l := l) (cells := ns) (H := H2) (many := 2) rfl (fun _ _ => ev_c) (by decide) (by decide) h63 (30 * i) H2 (Keep.of_ex (Ex.refl H2)) P2 (by omega) _ fun v H3 hv P3 k3 => ?_⟩
      obtain ⟨d, rfl, _⟩ := hv
      refine ⟨rfl, p, l, ns, 30 * i + 1, _, rfl, P3, by omega, h63, fun t g x H4 k4 P4 N4 A4 g4 bg bt => ?_⟩
      have T4 := tabs_keep (tabs_keep T2 P2 k3) P3 k4
      have dr := PlB.drawn (K := K) (a := x) ⟨A4, g4, bg, bt⟩
      have A4' := A4
      obtain ⟨_, _, _, _, _, t0, t1, g0, g1, pt, lo⟩ := A4'
      obtain ⟨tr, rfl⟩ := nats_of pt
      obtain ⟨gr, rfl⟩ := nats_of (t := g) fun n hn => (lo n hn).1
      have t5 : tr.length ≤ 5 := by
        obtain ⟨_, _, _, _, _, h⟩ := N4
        rwa [zI_len] at h
      have t0' : 0 < tr.length := by rwa [zI_len] at t0
      have g0' : 0 < gr.length := by rwa [zI_len] at g0
      have g4' : gr.length ≤ 4 := by rwa [zI_len] at g4
      show tSeq _ _ _ [some (.ref a), some (.ref p), some (.int (0 + (i : Int))), some (.ref x), x4, x5, x6, x7, x8, none, none, none, none, none] H4
      refine q_asgR ((er_plain rfl A4) H4 (Ex.refl H4) _ fun o H5 ho e5 g5 => ?_)
      obtain ⟨tn, gn, hG, nf, lt, lg, btn, bgn, hv⟩ := gr_words (A := 0) g5 t0 g0 fun n hn => by
        have a := dr.le n
        rw [zI_len] at hn
        exact Int.lt_of_le_of_lt (show _ ≤ (6000000000 : Int) by omega) (by decide)
      rw [zI_len] at lt lg
      have okn := okW_mk btn bgn
      have okr : OkW (mkW tr gr) := okW_mk (nats_lt fun n hn => Int.lt_of_le_of_lt (bt n hn) (by decide)) (nats_lt fun n hn => Int.lt_of_le_of_lt (bg n hn) (by decide))
      have ln := mk_len (t := tn) (g := gn)
      have lr := mk_len (t := tr) (g := gr)
      have hG2 := hG
      obtain ⟨dx, p1, q1, r1, h1, h2, h3, h4, nf', t2, g2, sm⟩ := hG2
      show tSeq _ _ _ [some (.ref a), some (.ref p), some (.int (0 + (i : Int))), some (.ref x), some (.ref o), x5, x6, x7, x8, none, none, none, none, none] H5
      refine q_asg (ev_page (t := tn) (g := gn) (el_texts (ev_fld (ev_var rfl) h1 G.cls G.told rfl) (.inr h2) (by omega) btn (fun _ => rfl) (fun _ => rfl)) (el_texts (ev_fld (ev_var rfl) h1 G.cls G.gains rfl) (.inr h3) (by omega) bgn (fun _ => rfl) (fun _ => rfl)) okn (by omega)) fun H6 e6 => ?_
      obtain ⟨xp, xq, n1, n2, n3, _⟩ := N4
      have E6 := e5.trans e6
      refine q_asg (ev_page (t := tr) (g := gr) (el_texts (ev_op (ev_var rfl) ev_c (rv_ix (.inr (st_of (E6 _ _ n1))) rfl)) (.inl (sq_of (E6 _ _ n2))) (by omega) (fun n hn => okr n (List.mem_append_left _ (List.mem_map.mpr ⟨n, hn, rfl⟩))) (fun _ => rfl) (fun _ => rfl))
        (el_texts (ev_op (ev_var rfl) ev_c (rv_ix (.inr (st_of (E6 _ _ n1))) rfl)) (.inl (sq_of (E6 _ _ n3))) (by omega) (fun n hn => okr n (List.mem_append_right _ (List.mem_cons_of_mem _ (List.mem_map.mpr ⟨n, hn, rfl⟩)))) (fun _ => rfl) (fun _ => rfl)) okr (by omega)) fun H7 e7 => ?_
      have G7 := hG.mono (e6.trans e7)
      have T7 := T4.ext (E6.trans e7)
      have P7 := P4.mono (E6.trans e7) (Nat.le_refl _)
      show tSeq _ _ _ [some (.ref a), some (.ref p), some (.int (0 + (i : Int))), some (.ref x), some (.ref o), some (.str (pg (mkW tn gn))), some (.str (pg (mkW tr gr))), x7, x8, none, none, none, none, none] H7
      refine q_ifE (or_no (et_is (et_test (ev_op (ev_strG (ev_var rfl) G7 btn nf) (ev_var rfl) (rv_ne rfl))) (by rw [decide_eq_true rfl]; rfl)) fun H8 e8 => or_no (et_test (ev_neR (er_read (ea_cons (ev_var rfl) ea_nil) okn (by omega) nf) (er_var rfl ⟨_, _, G7.mono e8, pos_z tn, fun n => rfl⟩) NE.nf)) fun H9 e9 => or_E ?_)
      refine not_right (ws := mkW tn gn) (ea_cons (ev_var rfl) ea_nil) mk_ne okn (by omega) (T7.ext (e8.trans e9)) fun H10 e10 T10 => iteF (not_right (ws := mkW tr gr) (ea_cons (ev_var rfl) ea_nil) mk_ne okr (by omega) T10 fun H11 e11 T11 => iteF ?_)
      have P11 : PenAt H11 p l ns (30 * i + 1 + 13) := pen_ext (P7.mono (e8.trans e9) (Nat.le_refl _)) (e10.trans e11)
      refine q_asgR (el_split (ws := mkW tn gn) (ev_var rfl) mk_ne okn (by omega) H11 (Ex.refl H11) _ fun b H12 hb e12 hbl => ?_)
      have nb : b ≠ p := fun z => by
        obtain ⟨_, _, hp, _⟩ := P11
        rw [z, hp] at hb
        cases hb
      refine ⟨3, rfl, by decide, by decide, for_range (lo := 0) (n := 3) (fun j σ' H' => (∃ (y8 : Option V) (b : Addr) (ws : List Wd), σ' = [some (.ref a), some (.ref p), some (.int (0 + (i : Int))), some (.ref x), some (.ref o), some (.str (pg (mkW tn gn))), some (.str (pg (mkW tr gr))), some (.ref b), y8, none, none, none, none, none] ∧
        H' b = some (.lst (vW ws)) ∧ b ≠ p ∧ ws ≠ [] ∧ OkW ws ∧ ws.length ≤ 20 + 2 * j) ∧ PenAt H' p l ns (30 * i + 14 + 3 * j) ∧ Tabs T H') ⟨⟨x8, b, mkW tn gn, rfl, hbl, nb, mk_ne, okn, by omega⟩, P11.mono e12 (by omega), T11.ext e12⟩ ?_ ?_⟩
      · rintro j σ' H13 hj ⟨⟨y8, b, ws, rfl, hbl, nb, wn, wok, wl⟩, P13, T13⟩
        show tSeq _ _ _ [some (.ref a), some (.ref p), some (.int (0 + (i : Int))), some (.ref x), some (.ref o), some (.str (pg (mkW tn gn))), some (.str (pg (mkW tr gr))), some (.ref b), some (.int (0 + (j : Int))), none, none, none, none, none] H13
        refine q_asgR ⟨⟨_, rfl⟩, _, rfl, _, rfl, p, l, b, ns, 30 * i + 14 + 3 * j, ws, rfl, P13, by omega, h63, hbl, nb, wok, List.length_pos_iff.mpr wn, by omega, fun q ss ws' H14 laid hl' P14 k14 hq => ⟨" ", q, ss, rfl, rfl, .inl (sq_of hq), ?_, ⟨_, rfl⟩, Txt.join " " ss, " ", rfl, rfl, by decide +kernel, ?_, ?_⟩⟩
        · have h1 := sum_le laid.len
          have h2 := laid.n
          have one : (" " : Str).length = 1 := by decide +kernel
          rw [one]
          omega
        · rw [laid.eq]
          have := pg_len laid.ok
          exact sz_of (n := (pg ws').length + 2) (by omega)
        · rw [laid.eq, split_pg laid.ne]
          intro b' hb'
          have e15 := Ex.new (o := .lst ((ws'.map Wd.t).map V.str)) hb'
          have hbl' : upd H14 b' (.lst ((ws'.map Wd.t).map V.str)) b' = some (.lst (vW ws')) := by rw [upd_same, vW_strs]
          have nb' : b' ≠ p := fun z => by
            obtain ⟨_, _, hp, _⟩ := P14
            rw [z, hp] at hb'
            cases hb'
          generalize upd H14 b' (.lst ((ws'.map Wd.t).map V.str)) = H15 at e15 hbl' ⊢
          have T15 := (tabs_keep T13 P13 k14).ext e15
          have P15 := P14.mono e15 (Nat.le_refl _)
          refine s_ifE (not_right (ws := ws') (ea_cons (ev_joinP (ev_var rfl) (sq_of hbl') laid.ok (by omega)) ea_nil) laid.ne laid.ok (by omega) T15 fun H16 e16 T16 => iteF ?_)
          exact ⟨⟨_, b', ws', rfl, e16 _ _ hbl' (fun ps z => by cases z), nb', laid.ne, laid.ok, by omega⟩, pen_ext (P15.mono (Ex.refl _) (by omega)) e16, T16⟩
      · rintro σ' H13 ⟨⟨y8, b, ws, rfl, _⟩, P13, T13⟩
        exact ⟨⟨_, _, _, _, _, _, _, rfl⟩, P13.mono (Ex.refl _) (by omega), T13⟩
    · rintro σ' H3 ⟨⟨x2, x3, x4, x5, x6, x7, x8, rfl⟩, P3, T3⟩
      show tSeq _ _ _ [some (.ref a), some (.ref p), x2, x3, x4, x5, x6, x7, x8, none, none, none, none, none] H3
      have ps : EvA (tCons (tC (.str "")) (tCons (tC (.str "0")) (tCons (tC (.str "then 3")) (tCons (tC (.str "0 then")) (tCons (tC (.str "0 then 3")) (tCons (tC (.str "0 3 then 3")) (tCons (tC (.str "0 then 3 3")) (tCons (tC (.str "0 then 3 ")) (tCons (tC (.str "0 then 3 then")) (tCons (tC (.str "0  then 3")) (tCons (tC (.str "-")) (tCons (tC (.str "0 then 0")) tNil))))))))))))
          [some (.ref a), some (.ref p), x2, x3, x4, x5, x6, x7, x8, none, none, none, none, none] H3 (somes.map fun ws => V.str (pg ws)) :=
        ea_cons (ev_is ev_c (congrArg V.str (by decide +kernel))) (ea_cons (ev_is ev_c (congrArg V.str (by decide +kernel))) (ea_cons (ev_is ev_c (congrArg V.str (by decide +kernel))) (ea_cons (ev_is ev_c (congrArg V.str (by decide +kernel))) (ea_cons (ev_is ev_c (congrArg V.str (by decide +kernel))) (ea_cons (ev_is ev_c (congrArg V.str (by decide +kernel)))
          (ea_cons (ev_is ev_c (congrArg V.str (by decide +kernel))) (ea_cons (ev_is ev_c (congrArg V.str (by decide +kernel))) (ea_cons (ev_is ev_c (congrArg V.str (by decide +kernel))) (ea_cons (ev_is ev_c (congrArg V.str (by decide +kernel))) (ea_cons (ev_is ev_c (congrArg V.str (by decide +kernel))) (ea_cons (ev_is ev_c (congrArg V.str (by decide +kernel))) ea_nil)))))))))))
      refine q_asgR (el_lst ps (by decide +kernel) H3 (Ex.refl H3) _ fun b H4 _ e4 hb => ?_)
      have P4 := P3.mono e4 (Nat.le_refl _)
      have T4 := T3.ext e4
      show tSeq _ _ _ [some (.ref a), some (.ref p), x2, x3, x4, x5, x6, x7, x8, some (.ref b), none, none, none, none] H4
      refine q_ifE (test_i (op_i ⟨_, rfl, b, rfl, ⟨_, sq_of hb⟩, fun Dl hD => lc_list (xs := somes.map fun ws => V.str (pg ws)) (fun n H' => H' Dl = some (.lst []) ∧ H' b = some (.lst (somes.map fun ws => V.str (pg ws))) ∧ PenAt H' p l ns (30 * 8) ∧ Tabs T H')
        ⟨upd_same, Ex.new hD _ _ hb, P4.mono (Ex.new hD) (Nat.le_refl _), T4.ext (Ex.new hD)⟩ (fun n H' _ q => sq_of q.2.1) (fun n x H' hx q => ⟨rfl, ?_⟩) (fun H5 q => ?_)⟩))
      · rw [List.getElem?_map] at hx
        cases e : somes[n]? with
        | none => rw [e] at hx; cases hx
        | some ws =>
          rw [e] at hx
          obtain rfl := Option.some.inj hx
          obtain ⟨q1, q2, q3, q4⟩ := q
          obtain ⟨wn, wok, wl⟩ := somes_ok ws (List.mem_of_getElem? e)
          exact not_right (ws := ws) (ea_cons (ev_var rfl) ea_nil) wn wok wl q4 fun H6 e6 T6 => iteF ⟨e6 _ _ q1 (fun ps z => by cases z), e6 _ _ q2 (fun ps z => by cases z), pen_ext q3 e6, T6⟩
      · obtain ⟨q1, q2, P5, T5⟩ := q
        refine el_nilI H5 (Ex.refl H5) _ fun r H6 hr e6 h6 => ⟨.list [], .list [], .lst (sq_of (e6 _ _ q1)) .nil, .lst (sq_of h6) .nil, shaped_nil, shaped_nil, _, rfl, ?_⟩
        rw [show (!PyData.eqv (.list []) (.list [])) = false by decide +kernel]
        refine iteF ?_
        have P6 := P5.mono e6 (Nat.le_refl _)
        have T6 := T5.ext e6
        refine q_asgG (tup_i (cons_i (odd_pick (f := val [0] [0]) rfl P6 (by decide) h63 G I noStr (fun H' => eg_make1 (t := [0]) (g := [0]) (evp1_lst (el_lst (ta := tCons (tC (.int 0)) tNil) (vs := vI [0]) (ea_cons ev_c ea_nil) (by show 1 ≤ 100000; decide))) hT0 (by decide) (by decide) (by decide) (by decide)
          (fun n hn => by
            have : n = 0 := by
              have : n < 1 := hn
              omega
            subst this
            exact Int.le_refl 0) (fun n hn => by
            have : n = 0 := by
              have : n < 1 := hn
              omega
            subst this
            exact ⟨Int.le_refl 0, by decide⟩) fun _ => rfl) fun x ty H7 xty kt P7 k7 => ?_)))
        have T7 := tabs_keep T6 P6 k7
        refine cons_i (cons_i (er_steps (m := 900) (by decide) (by decide) H7 (Ex.refl H7) _ fun o H8 e8 gr => ?_))
        obtain ⟨tn, gn, hG, nf, lt, lg, btn, bgn, hv⟩ := gr_words (A := 0) gr (by decide) (by rw [stp_len]; decide) fun n hn => by
          rw [val_lt hn]
          have : n = 0 := by
            have : n < 1 := hn
            omega
          subst this
          show (0 : Int) < _
          decide
        rw [stp_len] at lg
        have lt1 : tn.length ≤ 1 := lt
        have okn := okW_mk btn bgn
        have ln := mk_len (t := tn) (g := gn)
        have t0 : 0 < tn.length := by have := nf.told; rwa [zI_len] at this
        have g0 : 0 < gn.length := by have := nf.gains; rwa [zI_len] at this
        refine ⟨o, rfl, gr_ins (C := C) (f := val (zI tn) (zI gn)) ⟨_, _, hG, pos_z tn, fun n => rfl⟩, o, zI tn, zI gn, rfl, hG, pos_z tn, fun n hn => Int.lt_of_le_of_lt (small_z btn n hn).2 (by decide), fun H9 e9 => ⟨_, rfl, ?_⟩⟩
        rw [str_mk t0 g0]
        refine ⟨by show 2 ≤ sizeLine; decide, fun tl htl => ⟨tl, _, rfl, st_of upd_same, rfl, _, _, rfl, _, _, rfl, rfl, ?_⟩⟩
        have e10 := Ex.new (o := .tup [x, .str (pg (mkW tn gn))]) htl
        generalize upd H9 tl (.tup [x, .str (pg (mkW tn gn))]) = H10 at e10 ⊢
        have E10 := (e8.trans e9).trans e10
        show tRet _ _ [some (.ref a), some (.ref p), x2, x3, x4, x5, x6, x7, x8, some (.ref b), some (.str (pg (mkW tn gn))), some x, none, none] H10
        refine s_retR (and_E (op_i ⟨T7.ext E10, fun H11 e11 T11 => lam_odd (ev_var rfl) (tyx_ext e11 (tyx_mono E10 xty)) kt fun l H12 e12 hl => ?_⟩))
        refine etu_strs (ys := heardV 0) (ea_cons ev_c (ea_cons ev_c (ea_cons ev_c ea_nil))) (show 3 ≤ 100 by decide) H12 (Ex.refl H12) _ fun r H13 e13 hr => ⟨.tuple ((["text", "0", tx ((0 : Nat) : Int)] : List Str).map PyData.str), .tuple ((["text", "0", tx ((0 : Nat) : Int)] : List Str).map PyData.str),
          .tup (st_of (e13 _ _ hl)) (dpAll_strs (["text", "0", tx ((0 : Nat) : Int)] : List Str)), .tup hr (dpAll_strs (["text", "0", tx ((0 : Nat) : Int)] : List Str)), shaped_tstrs _ (heard_ok 0), shaped_tstrs _ (heard_ok 0), true, by rw [eqv_tstrs, decide_eq_true rfl], iteT ?_⟩
        exact ev_eqR ((er_read (ea_cons (ev_var rfl) ea_nil) okn (by omega) nf).is hv) (er_steps (by decide) (by decide)) NE.nf H13 (Ex.refl H13) _ fun H14 _ => k H14
end
end K07
namespace K07
open PySem L2 Evl Gr ClX OwX OpX StX StM LamX EXC ClK
/-- a def of the text named x, its full name y, where it stands -/
structure FQ (K : PySem.W.Frag) (x y : Str) (st : Stmt) (f : Addr) : Prop where
  l : ∃ (oc : Value) (od : Option Addr) (kV doc pm : Value) (an : Option Addr) (cdv ct : Value) (osl : Array (Option Value)),
    K.lookup f = some ⟨oc, od, .func (PySem.W.fnOf x y (defArgs st) (defBody st) (defScope st) .none kV doc pm an cdv ct), osl⟩ ∧ PySem.W.codeIn K cdv y = true
  k : PySem.W.keepIn K (.ref f) = true
theorem FQ.fn {K : PySem.W.Frag} {x y : Str} {st : Stmt} {f : Addr} (h : FQ K x y st f) : ∃ fd, Fun K x y st f fd := by
  obtain ⟨oc, od, kV, doc, pm, an, cdv, ct, osl, h1, h2⟩ := h.l
  exact ⟨_, fun_mk h1 h2 h.k⟩
/-- .. with its code object at c, the table of which is at P -/
structure FC (K : PySem.W.Frag) (x : Str) (st : Stmt) (f c P : Addr) : Prop where
  l : ∃ (oc : Value) (od : Option Addr) (kV doc pm : Value) (an : Option Addr) (ct : Value) (osl : Array (Option Value)),
    K.lookup f = some ⟨oc, od, .func (PySem.W.fnOf x x (defArgs st) (defBody st) (defScope st) .none kV doc pm an (.ref c) ct), osl⟩ ∧ PySem.W.codeIn K (.ref c) x = true
  k : PySem.W.keepIn K (.ref f) = true
  t : ∃ (e : Value) (dd : Option Addr) (vs : Array Value) (sl : Array (Option Value)), K.lookup c = some ⟨e, dd, .fields vs, sl⟩ ∧ vs[11]? = some (.ref P)
theorem FC.fn {K : PySem.W.Frag} {x : Str} {st : Stmt} {f c P : Addr} (h : FC K x st f c P) : ∃ (kV doc pm : Value) (an : Option Addr) (ct : Value), FunC K x x st f (PySem.W.fnOf x x (defArgs st) (defBody st) (defScope st) .none kV doc pm an (.ref c) ct) c := by
  obtain ⟨oc, od, kV, doc, pm, an, ct, osl, h1, h2⟩ := h.l
  exact ⟨kV, doc, pm, an, ct, ⟨oc, od, kV, doc, pm, an, ct, osl, rfl, h1, h2⟩, h.k⟩
theorem FC.tab {K : PySem.W.Frag} {x : Str} {st : Stmt} {f c P : Addr} (h : FC K x st f c P) (a : PySem.W.nsIn K mainGlobals x = some (some (.ref f))) : PySem.W.tabIn K x = some (c, P) := by
  obtain ⟨oc, od, kV, doc, pm, an, ct, osl, h1, h2⟩ := h.l
  obtain ⟨e, dd, vs, sl, h3, h4⟩ := h.t
  unfold PySem.W.tabIn
  rw [a]
  show (match K.lookup f with
    | some ⟨_, _, .func fd, _⟩ => _
    | _ => none) = _
  rw [h1]
  show (match K.lookup c with
    | some ⟨_, _, .fields vs, _⟩ => _
    | _ => none) = _
  rw [h3]
  show (match (vs[11]? : Option Value) with
    | some (.ref P) => some (c, P)
    | _ => none) = _
  rw [h4]
theorem noTab {K : PySem.W.Frag} {h : Heap} {P : Addr} (X : K.In h) (n : PySem.W.noTabs K = true) (e : h.get? P = some { cls := .none, data := .fields #[] }) : K.lookup P = none := by
  cases z : K.lookup P with
  | none => rfl
  | some o =>
    have e2 := X _ _ z
    rw [e] at e2
    cases e2
    have h2 := List.all_eq_true.mp n (P, _) (PySem.W.mem_of_lookupK z)
    exact absurd (show false = true from h2) Bool.false_ne_true
/-- .. with defaults -/
structure FW (K : PySem.W.Frag) (x y : Str) (st : Stmt) (dvs : List V) (f : Addr) : Prop where
  l : ∃ (oc : Value) (od : Option Addr) (dV kV doc pm : Value) (an : Option Addr) (cdv ct : Value) (osl : Array (Option Value)),
    K.lookup f = some ⟨oc, od, .func (PySem.W.fnOf x y (defArgs st) (defBody st) (defScope st) dV kV doc pm an cdv ct), osl⟩ ∧ PySem.W.codeIn K cdv y = true ∧ DflV K dV dvs
  k : PySem.W.keepIn K (.ref f) = true
theorem FW.fn {K : PySem.W.Frag} {x y : Str} {st : Stmt} {dvs : List V} {f : Addr} (h : FW K x y st dvs f) : ∃ fd, FunD K x y (defArgs st) (defBody st) (defScope st) dvs [] f fd := by
  obtain ⟨oc, od, dV, kV, doc, pm, an, cdv, ct, osl, h1, h2, h3⟩ := h.l
  exact ⟨_, ⟨⟨oc, od, dV, kV, doc, pm, an, cdv, ct, osl, rfl, h1, h2, h3, .inl rfl⟩, h.k⟩⟩
theorem kit_self {K : PySem.W.Frag} {C : Addr} : PySem.W.kitOne K (.ref C) (.ref C) = some true := by
  unfold PySem.W.kitOne
  rw [if_pos (by simp)]
theorem kit_sub {K : PySem.W.Frag} {C : Addr} {t : String} {b : Bool} (m : PySem.W.kitMeta t = true) (h : PySem.W.subIn K (.ref C) (.type t) = some b) : PySem.W.kitOne K (.ref C) (.type t) = some b := by
  unfold PySem.W.kitOne PySem.W.kitCls
  rw [if_neg (by simp)]
  show (if PySem.W.kitMeta t = true then PySem.W.subIn K (.ref C) (.type t) else none) = some b
  rw [if_pos m]
  exact h
theorem all_mk {l : PySem.W.OpenLaw} {w : World} {K : PySem.W.Frag} {h : Heap} {mg : Str → Option Value} {fa fInt fZ fLp fSp fNf fRi fWo fNo fAp fNu fPe fDr fPi fPl fHd fLn fDu fNm fBt fRt cRt PRt fLa cLa PLa mEq mSr mSt mRd mIn C T0 pSt pRd B cG cN cT cM fT : Addr} {mc : Value} (X : K.In h) (G : h.Ns mainGlobals mg) (hfa : mg "law" = some (.ref fa)) (hTab : ∀ x, x ∈ (["law", "_law_one_right"] : List Str) → ∀ c P, PySem.W.tabIn K x = some (c, P) → PySem.W.CodeHd h c P ∧ h.get? P = some { cls := .none, data := .fields #[] })
    (aInt : PySem.W.nsIn K mainGlobals "is_integer" = some (some (.ref fInt))) (hInt : FQ K "is_integer" "is_integer" (top 3) fInt)
    (aZ : PySem.W.nsIn K mainGlobals "is_from_zero" = some (some (.ref fZ))) (hZ : FQ K "is_from_zero" "is_from_zero" (top 5) fZ)
    (aLp : PySem.W.nsIn K mainGlobals "least_period" = some (some (.ref fLp))) (hLp : FQ K "least_period" "least_period" (top 14) fLp)
    (aSp : PySem.W.nsIn K mainGlobals "spare_told" = some (some (.ref fSp))) (hSp : FQ K "spare_told" "spare_told" (top 15) fSp)
    (aNf : PySem.W.nsIn K mainGlobals "normal_form" = some (some (.ref fNf))) (hNf : FQ K "normal_form" "normal_form" (top 16) fNf)
    (aRi : PySem.W.nsIn K mainGlobals "rises_of" = some (some (.ref fRi))) (hRi : FQ K "rises_of" "rises_of" (top 17) fRi)
    (aWo : PySem.W.nsIn K mainGlobals "words_of" = some (some (.ref fWo))) (hWo : FQ K "words_of" "words_of" (top 29) fWo)
    (aNo : PySem.W.nsIn K mainGlobals "number_of" = some (some (.ref fNo))) (hNo : FQ K "number_of" "number_of" (top 30) fNo)
    (aAp : PySem.W.nsIn K mainGlobals "are_parts" = some (some (.ref fAp))) (hAp : FQ K "are_parts" "are_parts" (top 32) fAp)
    (aNu : PySem.W.nsIn K mainGlobals "numbers_from" = some (some (.ref fNu))) (hNu : FQ K "numbers_from" "numbers_from" (top 33) fNu)
    (aPe : PySem.W.nsIn K mainGlobals "_law_pen" = some (some (.ref fPe))) (hPe : FQ K "_law_pen" "_law_pen" (top 36) fPe)
    (aDr : PySem.W.nsIn K mainGlobals "_law_draw" = some (some (.ref fDr))) (hDr : FQ K "_law_draw" "_law_draw" (top 37) fDr)
    (aPi : PySem.W.nsIn K mainGlobals "_law_pick" = some (some (.ref fPi))) (hPi : FQ K "_law_pick" "_law_pick" (top 38) fPi)
    (aPl : PySem.W.nsIn K mainGlobals "_law_plain" = some (some (.ref fPl))) (hPl : FQ K "_law_plain" "_law_plain" (top 39) fPl)
    (aHd : PySem.W.nsIn K mainGlobals "_law_heard" = some (some (.ref fHd))) (hHd : FQ K "_law_heard" "_law_heard" (top 42) fHd)
    (aLn : PySem.W.nsIn K mainGlobals "_law_is_number" = some (some (.ref fLn))) (hLn : FQ K "_law_is_number" "_law_is_number" (top 43) fLn)
    (aDu : PySem.W.nsIn K mainGlobals "_law_due" = some (some (.ref fDu))) (hDu : FQ K "_law_due" "_law_due" (top 44) fDu)
    (aNm : PySem.W.nsIn K mainGlobals "_law_is_normal" = some (some (.ref fNm))) (hNm : FQ K "_law_is_normal" "_law_is_normal" (top 45) fNm)
    (aBt : PySem.W.nsIn K mainGlobals "_law_bent" = some (some (.ref fBt))) (hBt : FQ K "_law_bent" "_law_bent" (top 47) fBt)
    (aRt : PySem.W.nsIn K mainGlobals "_law_one_right" = some (some (.ref fRt))) (hRt : FC K "_law_one_right" (top 46) fRt cRt PRt)
    (aLa : PySem.W.nsIn K mainGlobals "law" = some (some (.ref fLa))) (hLa : FC K "law" (top 48) fLa cLa PLa)
    (nPP : PRt ≠ PLa) (hNT : PySem.W.noTabs K = true)
    (aC : PySem.W.nsIn K mainGlobals "Growth" = some (some (.ref C))) (rd : PySem.W.readsIn K C mc = true) (ga : PySem.W.specialIn K (.ref C) "__getattribute__" = some (some (.builtin "type.__getattribute__"))) (most : ∃ t, PySem.W.findCls K (.ref C) mc "MOST" = some (.val (.int 2000 t)))
    (cls : Cls K C) (nt : NoAttr K C "told") (ng : NoAttr K C "gains") (nr : NoAttr K C "rises") (makes : PySem.W.makesIn K C = true) (kC : PySem.W.keepIn K (.ref C) = true) (aIn : PySem.W.findIn K (.ref C) "__init__" = some (some (.ref mIn))) (tIn : PySem.W.isFn K (.ref mIn) = true) (hIn : FW K "__init__" "Growth.__init__" (sGr 1) [.ref T0] mIn)
    (hT0 : ∃ (o : Obj) (its : Array Value) (n : Nat), K.lookup T0 = some o ∧ o.cls = .type "tuple" ∧ o.data = .seq its n ∧ its.size ≤ sizeLine ∧ Vals [.int 0] its.toList)
    (aEq : PySem.W.findIn K (.ref C) "__eq__" = some (some (.ref mEq))) (tEq : PySem.W.isFn K (.ref mEq) = true) (hEq : FQ K "__eq__" "Growth.__eq__" (sGr 2) mEq)
    (aSr : PySem.W.findIn K (.ref C) "__str__" = some (some (.ref mSr))) (tSr : PySem.W.isFn K (.ref mSr) = true) (hSr : FQ K "__str__" "Growth.__str__" (sGr 21) mSr)
    (sSt : SMet K C mc "steps" pSt mSt) (hSt : FQ K "steps" "Growth.steps" (sGr 19) mSt) (sRd : CMet K C mc "read" pRd mRd) (hRd : FQ K "read" "Growth.read" (sGr 22) mRd)
    (ne : PySem.W.findIn K (.ref C) "__ne__" = some (some (.builtin "object.__ne__"))) (nf : PySem.W.notFirst K C (.ref C) = true) (noInt : PySem.W.subIn K (.ref C) (.type "int") = some false) (noBool : PySem.W.subIn K (.ref C) (.type "bool") = some false) (noStr : PySem.W.subIn K (.ref C) (.type "str") = some false)
    (ob : PySem.W.mroIn K C (.type "object") = some true)
    (cc : PySem.W.findIn K (.ref C) "__class__" = some (some (.builtin "object.__class__"))) (cs : PySem.W.specialIn K (.builtin "object.__class__") "__get__" = some (some (.builtin "getset_descriptor.__get__"))) (ct : PySem.W.takesIn K (.builtin "object.__class__") = some true)
    (gB : PySem.W.nsIn K mainGlobals "PostError" = some (some (.ref B))) (bB : PySem.W.subIn K (.ref B) (.type "BaseException") = some true) (dB : PySem.W.hasDictIn K B = true) (tyB : PySem.W.typeIn K (.ref B) = some (.type "type"))
    (xG : CB K "BadGrowth" cG B) (xN : CB K "BadNumber" cN B) (xT : CF K "BadText" "BadText.__init__" (sCls 10) cT fT B) (aM : PySem.W.nsIn K mainGlobals "TooMany" = some (some (.ref cM))) (xl : PySem.W.findIn K (.ref cT) "line" = some none) (xw : PySem.W.findIn K (.ref cT) "word" = some none) (nGB : cG ≠ B) (nNB : cN ≠ B) (nGT : cG ≠ cT) (nNT : cN ≠ cT)
    (z_isinstance : PySem.W.nsIn K mainGlobals "isinstance" = some none)
    (z_int : PySem.W.nsIn K mainGlobals "int" = some none)
    (z_bool : PySem.W.nsIn K mainGlobals "bool" = some none)
    (z_str : PySem.W.nsIn K mainGlobals "str" = some none)
    (z_len : PySem.W.nsIn K mainGlobals "len" = some none)
    (z_abs : PySem.W.nsIn K mainGlobals "abs" = some none)
    (z_list : PySem.W.nsIn K mainGlobals "list" = some none)
    (z_range : PySem.W.nsIn K mainGlobals "range" = some none)
    (z_tuple : PySem.W.nsIn K mainGlobals "tuple" = some none)
    (z_all : PySem.W.nsIn K mainGlobals "all" = some none)
    (z_repr : PySem.W.nsIn K mainGlobals "repr" = some none)
    : LawAtS l w K CX0 10 63 "_law_script" mg fa h := by
  have eLa := hfa.symm.trans (PySem.W.mg_of X G aLa)
  cases eLa
  have gInt := PySem.W.mg_of X G aInt
  obtain ⟨dInt, FInt⟩ := hInt.fn
  have bInt : Binds K dInt ["value"] [] := FInt.binds fun _ _ _ _ _ _ us hl => match us, hl with | [_], _ => rfl
  have gZ := PySem.W.mg_of X G aZ
  obtain ⟨dZ, FZ⟩ := hZ.fn
  have bZ : Binds K dZ ["value"] [] := FZ.binds fun _ _ _ _ _ _ us hl => match us, hl with | [_], _ => rfl
  have gLp := PySem.W.mg_of X G aLp
  obtain ⟨dLp, FLp⟩ := hLp.fn
  have bLp : Binds K dLp ["gains"] [] := FLp.binds fun _ _ _ _ _ _ us hl => match us, hl with | [_], _ => rfl
  have gSp := PySem.W.mg_of X G aSp
  obtain ⟨dSp, FSp⟩ := hSp.fn
  have bSp : Binds K dSp ["told", "gains"] [] := FSp.binds fun _ _ _ _ _ _ us hl => match us, hl with | [_, _], _ => rfl
  have gNf := PySem.W.mg_of X G aNf
  obtain ⟨dNf, FNf⟩ := hNf.fn
  have bNf : Binds K dNf ["told", "gains"] [] := FNf.binds fun _ _ _ _ _ _ us hl => match us, hl with | [_, _], _ => rfl
  have gRi := PySem.W.mg_of X G aRi
  obtain ⟨dRi, FRi⟩ := hRi.fn
  have bRi : Binds K dRi ["gains"] [] := FRi.binds fun _ _ _ _ _ _ us hl => match us, hl with | [_], _ => rfl
  have gWo := PySem.W.mg_of X G aWo
  obtain ⟨dWo, FWo⟩ := hWo.fn
  have bWo : Binds K dWo ["text"] [] := FWo.binds fun _ _ _ _ _ _ us hl => match us, hl with | [_], _ => rfl
  have gNo := PySem.W.mg_of X G aNo
  obtain ⟨dNo, FNo⟩ := hNo.fn
  have bNo : Binds K dNo ["word"] [] := FNo.binds fun _ _ _ _ _ _ us hl => match us, hl with | [_], _ => rfl
  have gAp := PySem.W.mg_of X G aAp
  obtain ⟨dAp, FAp⟩ := hAp.fn
  have bAp : Binds K dAp ["values", "most"] [] := FAp.binds fun _ _ _ _ _ _ us hl => match us, hl with | [_, _], _ => rfl
  have gNu := PySem.W.mg_of X G aNu
  obtain ⟨dNu, FNu⟩ := hNu.fn
  have bNu : Binds K dNu ["words", "begin", "most"] [] := FNu.binds fun _ _ _ _ _ _ us hl => match us, hl with | [_, _, _], _ => rfl
  have gPe := PySem.W.mg_of X G aPe
  obtain ⟨dPe, FPe⟩ := hPe.fn
  have bPe : Binds K dPe ["_law_script"] [] := FPe.binds fun _ _ _ _ _ _ us hl => match us, hl with | [_], _ => rfl
  have gDr := PySem.W.mg_of X G aDr
  obtain ⟨dDr, FDr⟩ := hDr.fn
  have bDr : Binds K dDr ["_law_pen_here", "_law_many"] [] := FDr.binds fun _ _ _ _ _ _ us hl => match us, hl with | [_, _], _ => rfl
  have gPi := PySem.W.mg_of X G aPi
  obtain ⟨dPi, FPi⟩ := hPi.fn
  have bPi : Binds K dPi ["_law_pen_here", "_law_some"] [] := FPi.binds fun _ _ _ _ _ _ us hl => match us, hl with | [_, _], _ => rfl
  have gPl := PySem.W.mg_of X G aPl
  obtain ⟨dPl, FPl⟩ := hPl.fn
  have bPl : Binds K dPl ["_law_pen_here", "_law_is_rising"] [] := FPl.binds fun _ _ _ _ _ _ us hl => match us, hl with | [_, _], _ => rfl
  have gHd := PySem.W.mg_of X G aHd
  obtain ⟨dHd, FHd⟩ := hHd.fn
  have bHd : Binds K dHd ["_law_ask"] [] := FHd.binds fun _ _ _ _ _ _ us hl => match us, hl with | [_], _ => rfl
  have gLn := PySem.W.mg_of X G aLn
  obtain ⟨dLn, FLn⟩ := hLn.fn
  have bLn : Binds K dLn ["_law_word"] [] := FLn.binds fun _ _ _ _ _ _ us hl => match us, hl with | [_], _ => rfl
  have gDu := PySem.W.mg_of X G aDu
  obtain ⟨dDu, FDu⟩ := hDu.fn
  have bDu : Binds K dDu ["_law_words"] [] := FDu.binds fun _ _ _ _ _ _ us hl => match us, hl with | [_], _ => rfl
  have gNm := PySem.W.mg_of X G aNm
  obtain ⟨dNm, FNm⟩ := hNm.fn
  have bNm : Binds K dNm ["_law_words"] [] := FNm.binds fun _ _ _ _ _ _ us hl => match us, hl with | [_], _ => rfl
  have gBt := PySem.W.mg_of X G aBt
  obtain ⟨dBt, FBt⟩ := hBt.fn
  have bBt : Binds K dBt ["_law_pen_here", "_law_words"] [] := FBt.binds fun _ _ _ _ _ _ us hl => match us, hl with | [_, _], _ => rfl
  have gRt := PySem.W.mg_of X G aRt
  obtain ⟨kVRt, docRt, pmRt, anRt, ctRt, FRt⟩ := hRt.fn
  obtain ⟨CRt, ERt⟩ := hTab "_law_one_right" (by decide) _ _ (hRt.tab aRt)
  have gLa := PySem.W.mg_of X G aLa
  obtain ⟨kVLa, docLa, pmLa, anLa, ctLa, FLa⟩ := hLa.fn
  obtain ⟨CLa, ELa⟩ := hTab "law" (by decide) _ _ (hLa.tab aLa)
  have bRt : Binds K _ ["_law_page"] [] := FRt.fn.binds fun _ _ _ _ _ _ us hl => match us, hl with | [_], _ => rfl
  obtain ⟨eEq, MEq⟩ := hEq.fn
  have cEq : Binds K eEq ["self", "other"] [] := MEq.binds fun _ _ _ _ _ _ us hl => match us, hl with | [_, _], _ => rfl
  obtain ⟨eSr, MSr⟩ := hSr.fn
  have cSr : Binds K eSr ["self"] [] := MSr.binds fun _ _ _ _ _ _ us hl => match us, hl with | [_], _ => rfl
  obtain ⟨eSt, MSt⟩ := hSt.fn
  have cSt : Binds K eSt ["many"] [] := MSt.binds fun _ _ _ _ _ _ us hl => match us, hl with | [_], _ => rfl
  obtain ⟨eRd, MRd⟩ := hRd.fn
  have cRd : Binds K eRd ["cls", "text"] [] := MRd.binds fun _ _ _ _ _ _ us hl => match us, hl with | [_, _], _ => rfl
  have kRd : KBn K eRd ["cls", "text"] 1 ["text"] (fun us ws => us ++ ws) (fun vs zs => vs ++ zs) := MRd.kb 1 (fun us ws => us ++ ws) (fun r s => r.append s) fun _ _ _ _ _ _ us ws l1 l2 => match us, l1, ws, l2 with | [_], _, [_], _ => rfl
  obtain ⟨eIn, MIn⟩ := hIn.fn
  obtain ⟨dT, FT⟩ := xT.fn
  have bT : Binds K dT ["self", "line", "word"] [] := FT.binds fun _ _ _ _ _ _ us hl => match us, hl with | [_, _, _], _ => rfl
  have cIn : Binds K eIn ["self", "told", "gains"] [] := by
    obtain ⟨ds, v0, b0⟩ := MIn.binds1 (ps := ["self", "told", "gains"]) 3 1 (List.cons_ne_nil _ _) rfl fun _ _ _ _ _ _ _ us its l1 l2 => match us, l1, its, l2 with | [_, _, _], _, [_], _ => ⟨_, rfl, rfl⟩
    cases v0
    exact b0
  obtain ⟨dsI, vIn, cIn1⟩ := MIn.binds1 (ps := ["self", "told", "gains"]) 2 0 (List.cons_ne_nil _ _) rfl fun _ _ _ _ _ _ _ us its l1 l2 => match us, l1, its, l2 with | [_, _], _, [_], _ => ⟨_, rfl, rfl⟩
  have m_isinstance := PySem.W.mg_none_of X G z_isinstance
  have m_int := PySem.W.mg_none_of X G z_int
  have m_bool := PySem.W.mg_none_of X G z_bool
  have m_str := PySem.W.mg_none_of X G z_str
  have m_len := PySem.W.mg_none_of X G z_len
  have m_abs := PySem.W.mg_none_of X G z_abs
  have m_list := PySem.W.mg_none_of X G z_list
  have m_range := PySem.W.mg_none_of X G z_range
  have m_tuple := PySem.W.mg_none_of X G z_tuple
  have m_all := PySem.W.mg_none_of X G z_all
  have m_repr := PySem.W.mg_none_of X G z_repr
  have TT : GlbT mg := ⟨m_isinstance, m_int, m_bool, m_str, m_len⟩
  have TS : GlbS mg := ⟨m_len, m_range, m_tuple, m_list⟩
  have TG : Glb mg := ⟨m_int, m_abs, m_len, m_list⟩
  have N : GName K mg C mc := ⟨PySem.W.mg_of X G aC, ⟨rd, ga⟩, most.imp' (fun t => .int 2000 t) fun t e => ⟨e, ⟨t, rfl⟩⟩⟩
  have GC : GCls K C := ⟨cls, nt, ng, nr⟩
  have GI : GIsi K C := ⟨cc, cs, ct, ob, kit_self, kit_sub (by decide +kernel) noInt, kit_sub (by decide +kernel) noBool⟩
  have nS : PySem.W.kitOne K (.ref C) (.type "str") = some false := kit_sub (by decide +kernel) noStr
  have M : Mk K C mIn := ⟨makes, aIn, tIn, kC⟩
  have NE : GNe K C mEq := ⟨⟨aEq, tEq⟩, ne, ob, nf⟩
  have hT : ∀ H, Sq K H T0 (vI [0]) := fun H => .inr (.inr hT0)
  have CGK : CG K := ⟨cs, ct⟩
  have HK : HdK K mg B cG cN cT cM := ⟨PySem.W.mg_of X G gB, PySem.W.mg_of X G xG.aC, PySem.W.mg_of X G xN.aC, PySem.W.mg_of X G xT.b.aC, PySem.W.mg_of X G aM, m_isinstance, m_repr, xT.b.caught bB dB tyB, (xT.b.kit xG nGB).trans (by rw [decide_eq_false nGT]), (xT.b.kit xN nNB).trans (by rw [decide_eq_false nNT]), kit_self, xT.b.xc CGK, xw, xl⟩
  refine ⟨PySem.W.fnOf "law" "law" (defArgs sLw) (defBody sLw) (defScope sLw) .none kVLa docLa pmLa anLa (.ref cLa) ctLa, [(cRt, PRt), (cLa, PLa)], spLw K [(PRt, qRt), (PLa, qLw)], ?_, ?_, ?_, fun s v => .of_eq rfl, ?_, fun base _ _ TB => ?_⟩
  · intro p hp
    simp only [List.mem_cons, List.not_mem_nil, or_false] at hp
    rcases hp with rfl | rfl
    · exact ERt
    · exact ELa
  · intro p hp
    simp only [List.mem_cons, List.not_mem_nil, or_false] at hp
    rcases hp with rfl | rfl
    · exact noTab X hNT ERt
    · exact noTab X hNT ELa
  · intro p hp
    simp only [List.mem_cons, List.not_mem_nil, or_false] at hp
    rcases hp with rfl | rfl
    · exact CRt
    · exact CLa
  · intro H a ns hl _ hH hS
    refine ⟨a, ns, rfl, hS, hl, fun p hp => ?_, fun _ => rfl⟩
    simp only [List.mem_cons, List.not_mem_nil, or_false] at hp
    rcases hp with rfl | rfl
    · exact .nil (hH _ (List.mem_cons_self ..))
    · exact .nil (hH _ (List.mem_cons_of_mem _ (List.mem_cons_self ..)))
  have TBr := TB (cRt, PRt) (List.mem_cons_self ..)
  have TBl := TB (cLa, PLa) (List.mem_cons_of_mem _ (List.mem_cons_self ..))
  have uR : ∀ p ∈ [(PRt, qRt), (PLa, qLw)], p.1 = PRt → p.2 = qRt := fun p hp e => by
    simp only [List.mem_cons, List.not_mem_nil, or_false] at hp
    rcases hp with rfl | rfl
    · rfl
    · exact absurd e.symm nPP
  have uL : ∀ p ∈ [(PRt, qRt), (PLa, qLw)], p.1 = PLa → p.2 = qLw := fun p hp e => by
    simp only [List.mem_cons, List.not_mem_nil, or_false] at hp
    rcases hp with rfl | rfl
    · exact absurd e nPP
    · rfl
  have oInt : FnOk l.prog w K mg base CX0 1 fInt dInt ["value"] (spIsInt K) := ok_isInt FInt TT
  have oZ : FnOk l.prog w K mg base CX0 2 fZ dZ ["value"] (spFrom0 K) := ok_from0 FZ TT FInt bInt gInt
  have oNf : FnOk l.prog w K mg base CX0 2 fNf dNf ["told", "gains"] (spNF K) := ok_NF FNf TS FLp bLp gLp FSp bSp gSp
  have oRi : FnOk l.prog w K mg base CX0 1 fRi dRi ["gains"] (spRis K) := ok_Ris FRi TS
  have oAp : FnOk l.prog w K mg base CX0 3 fAp dAp ["values", "most"] (spParts K) := ok_Parts (fI := fInt) (fdI := dInt) FAp TS TT m_all oZ hZ.k bZ gZ
  have oIn : FnOk l.prog w K mg base CX0 4 mIn eIn ["self", "told", "gains"] (spInit K C) := ok_Init MIn N GC oAp hAp.k bAp gAp oNf hNf.k bNf gNf oRi hRi.k bRi gRi
  have oSt : FnOk l.prog w K mg base CX0 6 mSt eSt ["many"] (spSteps K C) := ok_Steps MSt m_range N M oIn cIn oInt hInt.k bInt gInt
  have oEq : FnOk l.prog w K mg base CX0 1 mEq eEq ["self", "other"] (spGEq K C) := ok_GEq MEq N GC GI TT
  have oSr : FnOk l.prog w K mg base CX0 1 mSr eSr ["self"] (spStr K C) := ok_Str MSr GC TT
  have GB : GBad l.prog w K mg base cT fT dT := ⟨xT.b.ox, xT.a1, xT.t1, ok_I2 xT FT ⟨rfl, rfl, rfl, by decide +kernel, rfl, by decide +kernel, by decide +kernel⟩ rfl rfl rfl rfl (by decide +kernel) (by decide +kernel) (by decide +kernel) (by decide +kernel) xl xw, bT, PySem.W.mg_of X G xT.b.aC⟩
  have oWo : FnOk l.prog w K mg base (L2.CX l.prog w) 3 fWo dWo ["text"] (spWo K cT) := ok_Wo FWo TT GB
  have oNo : FnOk l.prog w K mg base CX0 1 fNo dNo ["word"] spNo := ok_No FNo TT
  have oNu : FnOk l.prog w K mg base CX0 2 fNu dNu ["words", "begin", "most"] (spNf K) := ok_Nf FNu oNo hNo.k bNo gNo
  have oRd : FnOk l.prog w K mg base (L2.CX l.prog w) 6 mRd eRd ["cls", "text"] (spRd K C cT) := okE (fdI := eIn) MRd TS TT N GC M GB oWo hWo.k bWo gWo oNu hNu.k bNu gNu (fnR0 oIn cIn)
  have RK : RdK l.prog w K mg base C cT mRd pRd mc eRd := ⟨sRd, oRd, cRd, kRd⟩
  have oDr : FnOk l.prog w K mg base CX0 1 fDr dDr ["_law_pen_here", "_law_many"] spDraw := ok_draw FDr TG
  have oPi : FnOk l.prog w K mg base CX0 2 fPi dPi ["_law_pen_here", "_law_some"] spPick := ok_pick FPi TG FDr bDr gDr
  have oPl : FnOk l.prog w K mg base CX0 3 fPl dPl ["_law_pen_here", "_law_is_rising"] (spPlain K) := ok_Plain FPl m_range oDr hDr.k bDr gDr oPi hPi.k bPi gPi
  have oPe : FnOk l.prog w K mg base CX0 1 fPe dPe ["_law_script"] (spPen K) := ok_pen FPe TG
  have oLn : FnOk l.prog w K mg base CX0 1 fLn dLn ["_law_word"] spIn := ok_In FLn TT
  have oDu : FnOk l.prog w K mg base CX0 2 fDu dDu ["_law_words"] (spDue K) := ok_Due FDu TS oLn hLn.k bLn gLn
  have oNm : FnOk l.prog w K mg base CX0 1 fNm dNm ["_law_words"] (spNrm K) := ok_Nrm FNm TS TT
  have oBt : FnOk l.prog w K mg base CX0 3 fBt dBt ["_law_pen_here", "_law_words"] (spBt K) := ok_Bt FBt TS TT oDr hDr.k bDr gDr oPi hPi.k bPi gPi
  have rEq := fnR0 oEq cEq
  have rSr := fnR0 oSr cSr
  have rSt := fnR0 oSt cSt
  have SI : StrIn K C mSr := ⟨aSr, tSr⟩
  have oRt := ok_Rt (T := [(PRt, qRt), (PLa, qLw)]) FRt TBr (List.mem_cons_self ..) uR TT TS N GC HK FHd bHd gHd oDu hDu.k bDu gDu oNm hNm.k bNm gNm RK NE rEq SI rSr
  rcases vIn with _ | ⟨r, r0⟩
  cases r0
  cases r
  exact ok_Lw (T := [(PRt, qRt), (PLa, qLw)]) FLa TBl (List.mem_cons_of_mem _ (List.mem_cons_self ..)) uL TT TS N GC GI nS HK FHd bHd gHd RK NE rEq SI rSr M oIn cIn cIn1 hT sSt rSt ⟨_, _, oPe, hPe.k, bPe, gPe⟩ ⟨_, _, oDr, hDr.k, bDr, gDr⟩ ⟨_, _, oPi, hPi.k, bPi, gPi⟩ ⟨_, _, oPl, hPl.k, bPl, gPl⟩ ⟨_, _, oBt, hBt.k, bBt, gBt⟩ ⟨_, _, oRt, hRt.k, bRt, gRt⟩
end K07
namespace LamX
open PySem PySem.Spec PyProof.Rows L2
/-- the walk where two defs of the text make code objects: what stands at their tables is told -/
theorem walk_two {l : PySem.W.OpenLaw} {n k : Nat} {q : Program} {loose : List Str} {XP : (Str → Option Value) → Heap → Prop} {YP : World → Heap → Prop} {d : DefRec} {K : Params → PySem.W.Frag} {CX : World → CXT} {x : Str} {xs : List Str}
    (hn : l.most = some n) (hn2 : n ≤ sizeLine) (hdf : d.params.defaults = []) (hr : Room k callerA) (hrec : ∀ y ∈ xs, ((recsOf q).any fun e => e.name == y) = true) (hY : ∀ (w : World) (h : Heap), YP w h → (K w.params).In h)
    (F : ∀ (w : World) (mg : Str → Option Value) (fa : Addr) (h : Heap), YP w h → (K w.params).In h → h.Ns mainGlobals mg → mg d.name = some (.ref fa) → (∀ y, y ∈ xs → ∀ c P, PySem.W.tabIn (K w.params) y = some (c, P) → PySem.W.CodeHd h c P ∧ h.get? P = some { cls := .none, data := .fields #[] }) → LawAtS l w (K w.params) (CX w) k n x mg fa h)
    (hCX : ∀ (w : World) (H : Hp) (s : Shared) (e : Value) (s' : Shared), CX w [] H s (fun _ _ _ => False) e s' → False) :
    PySem.W.WalkO q loose XP YP l.row.toRowW d [] (fun f vs => PySem.call f vs) := by
  refine Att.attach_callB hn hdf fun w s₀ s₁ mg mb fa o pm cd doc a vs ns G Y ho hd hcd hmg hobj hints hlen hbits hg => ?_
  have KX := hY w _ Y
  obtain ⟨fd, cs, sp, hT, nT, C, hb, hsp, hF⟩ := F w mg fa _ Y KX G.T.g hmg fun y hy c P ht => by
    cases z : (recsOf q).find? (fun e => e.name == y) with
    | none =>
      obtain ⟨dL, hm, hn1⟩ := List.any_eq_true.mp (hrec y hy)
      exact absurd hn1 (List.find?_eq_none.mp z dL hm)
    | some dL => exact PySem.W.tab_of G.T KX z ht
  exact law_callTs KX G.T.g G.T.b G.T.builtins G.T.nolimit hg hT nT C G.T.bmain hobj hints (Nat.le_trans hlen hn2) hr hF hb (fun H hH hS => hsp H a ns hlen hbits hH hS) fun H e s' => hCX w H s₁ e s'
end LamX
open PySem PySem.W PyProof.Rows
set_option maxRecDepth 100000 in
set_option maxHeartbeats 0 in
theorem PySem.Challenge.cw_layerpost_k07_texts_of_growths_holds : PySem.Challenge.rw_layerpost_k07_texts_of_growths.Holds := by
  w_on; o_law; k_head; (case hw => w_witness2)
  k_fill
  refine LamX.walk_two (l := PySem.Challenge.rw_layerpost_k07_texts_of_growths) (n := 63) (k := 10) (x := "_law_script") (xs := ["law", "_law_one_right"]) (CX := fun _ => L2.CX0) rfl (by decide) rfl ⟨rfl, by decide, by decide⟩ ?R (fun w h Y => PySem.W.km_in_of Y) ?F (fun _ _ _ _ _ z => z)
  case R =>
    intro y hy
    simp only [List.mem_cons, List.not_mem_nil, or_false] at hy
    rcases hy with rfl | rfl <;> decide +kernel
  case F =>
    intro w mg fa h _ KX G hmg hTab
    refine' K07.all_mk KX G hmg hTab ?qaInt ?qhInt ?qaZ ?qhZ ?qaLp ?qhLp ?qaSp ?qhSp ?qaNf ?qhNf ?qaRi ?qhRi ?qaWo ?qhWo ?qaNo ?qhNo ?qaAp ?qhAp ?qaNu ?qhNu ?qaPe ?qhPe ?qaDr ?qhDr ?qaPi ?qhPi ?qaPl ?qhPl ?qaHd ?qhHd ?qaLn ?qhLn ?qaDu ?qhDu ?qaNm ?qhNm ?qaBt ?qhBt ?qaRt ?qhRt ?qaLa ?qhLa ?qnPP ?qhNT ?qaC ?qrd ?qga ?qmost ?qcls ?qnt ?qng ?qnr ?qmakes ?qkC ?qaIn ?qtIn ?qhIn ?qhT0 ?qaEq ?qtEq ?qhEq ?qaSr ?qtSr ?qhSr ?qsSt ?qhSt ?qsRd ?qhRd ?qne ?qnf ?qnoInt ?qnoBool ?qnoStr ?qob ?qcc ?qcs ?qct ?qgB ?qbB ?qdB ?qtyB ?qxG ?qxN ?qxT ?qaM ?qxl ?qxw ?qnGB ?qnNB ?qnGT ?qnNT ?qzisinstance ?qzint ?qzbool ?qzstr ?qzlen ?qzabs ?qzlist ?qzrange ?qztuple ?qzall ?qzrepr
    (case qaInt => k_is)
    (case qhInt => exact ⟨⟨_, _, _, _, _, _, _, _, _, by k_is, by k_is⟩, by k_is⟩)
    (case qaZ => k_is)
    (case qhZ => exact ⟨⟨_, _, _, _, _, _, _, _, _, by k_is, by k_is⟩, by k_is⟩)
    (case qaLp => k_is)
    (case qhLp => exact ⟨⟨_, _, _, _, _, _, _, _, _, by k_is, by k_is⟩, by k_is⟩)
    (case qaSp => k_is)
    (case qhSp => exact ⟨⟨_, _, _, _, _, _, _, _, _, by k_is, by k_is⟩, by k_is⟩)
    (case qaNf => k_is)
    (case qhNf => exact ⟨⟨_, _, _, _, _, _, _, _, _, by k_is, by k_is⟩, by k_is⟩)
    (case qaRi => k_is)
    (case qhRi => exact ⟨⟨_, _, _, _, _, _, _, _, _, by k_is, by k_is⟩, by k_is⟩)
    (case qaWo => k_is)
    (case qhWo => exact ⟨⟨_, _, _, _, _, _, _, _, _, by k_is, by k_is⟩, by k_is⟩)
    (case qaNo => k_is)
    (case qhNo => exact ⟨⟨_, _, _, _, _, _, _, _, _, by k_is, by k_is⟩, by k_is⟩)
    (case qaAp => k_is)
    (case qhAp => exact ⟨⟨_, _, _, _, _, _, _, _, _, by k_is, by k_is⟩, by k_is⟩)
    (case qaNu => k_is)
    (case qhNu => exact ⟨⟨_, _, _, _, _, _, _, _, _, by k_is, by k_is⟩, by k_is⟩)
    (case qaPe => k_is)
    (case qhPe => exact ⟨⟨_, _, _, _, _, _, _, _, _, by k_is, by k_is⟩, by k_is⟩)
    (case qaDr => k_is)
    (case qhDr => exact ⟨⟨_, _, _, _, _, _, _, _, _, by k_is, by k_is⟩, by k_is⟩)
    (case qaPi => k_is)
    (case qhPi => exact ⟨⟨_, _, _, _, _, _, _, _, _, by k_is, by k_is⟩, by k_is⟩)
    (case qaPl => k_is)
    (case qhPl => exact ⟨⟨_, _, _, _, _, _, _, _, _, by k_is, by k_is⟩, by k_is⟩)
    (case qaHd => k_is)
    (case qhHd => exact ⟨⟨_, _, _, _, _, _, _, _, _, by k_is, by k_is⟩, by k_is⟩)
    (case qaLn => k_is)
    (case qhLn => exact ⟨⟨_, _, _, _, _, _, _, _, _, by k_is, by k_is⟩, by k_is⟩)
    (case qaDu => k_is)
    (case qhDu => exact ⟨⟨_, _, _, _, _, _, _, _, _, by k_is, by k_is⟩, by k_is⟩)
    (case qaNm => k_is)
    (case qhNm => exact ⟨⟨_, _, _, _, _, _, _, _, _, by k_is, by k_is⟩, by k_is⟩)
    (case qaBt => k_is)
    (case qhBt => exact ⟨⟨_, _, _, _, _, _, _, _, _, by k_is, by k_is⟩, by k_is⟩)
    (case qaRt => k_is)
    (case qhRt => exact ⟨⟨_, _, _, _, _, _, _, _, by k_is, by k_is⟩, by k_is, ⟨_, _, _, _, by k_is, rfl⟩⟩)
    (case qaLa => k_is)
    (case qhLa => exact ⟨⟨_, _, _, _, _, _, _, _, by k_is, by k_is⟩, by k_is, ⟨_, _, _, _, by k_is, rfl⟩⟩)
    (case qnPP => decide +kernel)
    (case qhNT => kernel_rfl)
    (case qaC => k_is)
    (case qrd => exact (show PySem.W.readsIn _ _ (.type "type") = true by k_is))
    (case qga => k_is)
    (case qmost => exact ⟨_, by k_is⟩)
    (case qcls => exact ⟨by k_is, by k_is, by k_is, by k_is⟩)
    (case qnt => exact (by unfold L2.NoAttr; k_is))
    (case qng => exact (by unfold L2.NoAttr; k_is))
    (case qnr => exact (by unfold L2.NoAttr; k_is))
    (case qmakes => k_is)
    (case qkC => k_is)
    (case qaIn => k_is)
    (case qtIn => k_is)
    (case qhIn => exact ⟨⟨_, _, _, _, _, _, _, _, _, _, by k_is, by k_is, .inr ⟨by simp, _, _, _, _, rfl, by k_is, rfl, .cons rfl .nil⟩⟩, by k_is⟩)
    (case qhT0 => exact ⟨_, _, _, by k_is, rfl, rfl, by decide, .cons ⟨_, rfl⟩ .nil⟩)
    (case qaEq => k_is)
    (case qtEq => k_is)
    (case qhEq => exact ⟨⟨_, _, _, _, _, _, _, _, _, by k_is, by k_is⟩, by k_is⟩)
    (case qaSr => k_is)
    (case qtSr => k_is)
    (case qhSr => exact ⟨⟨_, _, _, _, _, _, _, _, _, by k_is, by k_is⟩, by k_is⟩)
    (case qsSt => exact ⟨by k_is, ⟨_, by k_is⟩, by k_is⟩)
    (case qhSt => exact ⟨⟨_, _, _, _, _, _, _, _, _, by k_is, by k_is⟩, by k_is⟩)
    (case qsRd => exact ⟨by k_is, ⟨_, by k_is⟩, by k_is⟩)
    (case qhRd => exact ⟨⟨_, _, _, _, _, _, _, _, _, by k_is, by k_is⟩, by k_is⟩)
    (case qne => k_is)
    (case qnf => k_is)
    (case qnoInt => k_is)
    (case qnoBool => k_is)
    (case qnoStr => k_is)
    (case qob => k_is)
    (case qcc => k_is)
    (case qcs => k_is)
    (case qct => k_is)
    (case qgB => k_is)
    (case qbB => k_is)
    (case qdB => k_is)
    (case qtyB => k_is)
    (case qxG => exact ⟨by k_is, ⟨_, _, _, _, _, _, _, _, _, _, _, _, _, _, by k_is⟩, by k_is, by k_is, by k_is, by k_is, by k_is, by k_is⟩)
    (case qxN => exact ⟨by k_is, ⟨_, _, _, _, _, _, _, _, _, _, _, _, _, _, by k_is⟩, by k_is, by k_is, by k_is, by k_is, by k_is, by k_is⟩)
    (case qxT => exact ⟨⟨by k_is, ⟨_, _, _, _, _, _, _, _, _, _, _, _, _, _, by k_is⟩, by k_is, by k_is, by k_is, by k_is, by k_is, by k_is⟩, by k_is, ⟨_, _, _, _, _, _, _, _, _, by k_is, by k_is⟩, by k_is, by k_is⟩)
    (case qaM => k_is)
    (case qxl => k_is)
    (case qxw => k_is)
    (case qnGB => decide +kernel)
    (case qnNB => decide +kernel)
    (case qnGT => decide +kernel)
    (case qnNT => decide +kernel)
    (case qzisinstance => k_is)
    (case qzint => k_is)
    (case qzbool => k_is)
    (case qzstr => k_is)
    (case qzlen => k_is)
    (case qzabs => k_is)
    (case qzlist => k_is)
    (case qzrange => k_is)
    (case qztuple => k_is)
    (case qzall => k_is)
    (case qzrepr => k_is)
