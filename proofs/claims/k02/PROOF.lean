import PyProof.Rows.All
import Wide.All
import OpenK.AllK
import Wide.FinOn
import HandS.ForMost
import HandS.ClsMeth
import HandS.Star
import HandS.SlotsOwn
import HandS.OwnEq
import HandS.Defaults
import HandS.RaiseMore
import HandS.Codes
import KE.KCallOwn
import HandS.Evl
import HandS.Wide
import HandS.IsInst
import HandS.StrMore
import HandS.TupAny
import HandS.Conv
import HandS.Walk
import HandS.Gcd
import KE.KMathGC
import PyProof.AssignAttr
import KE.KOpsOwn
import HandS.Text
import HandS.Style
import HandS.Iter
import PyProof.ReprRoads
import HandS.Lambda
import HandS.EndTab
import KE.KNest
import HandS.ForExc
import HandS.ExcInit
import HandS.ExcValue
import HandS.ExcField
import KE.KExcIs
import HandS.ExcIs
import HandS.WordsExc
import KE.GoesMore
import KE.GoesEnum
import HandS.Deep
import HandS.TupMul
import HandS.MakeKw
import HandS.Dict
import HandS.MakeKwOnly
import PyProof.P3Eq
import PySem.Challenge.RW_layerpost_k02_growths_refused
set_option Elab.async false
set_option linter.all false
set_option maxRecDepth 100000
set_option maxHeartbeats 8000000
/-! a static method called off its class -/
namespace StM
open PySem PySem.Spec PyProof.Rows L2 ClX
/-- C.m is a staticmethod: its record at p, its def at g -/
structure SMet (K : PySem.W.Frag) (C : Addr) (mc : Value) (m : Str) (p g : Addr) : Prop where
  at_ : PySem.W.findCls K (.ref C) mc m = some (.get (.builtin "staticmethod.__get__") (.ref p) .none (.ref C))
  rc : ∃ rest, PySem.W.recIn K p "staticmethod" = some (.ref g :: rest)
  kp : PySem.W.keepIn K (.ref g) = true
/-- e.m(..), e the class at C -/
def tSMeth (C : Addr) (sp : Sp) (E : XK) (ta : TE) (t : TA) : TE := fun σ H Q => ta σ H fun x H1 => x = .ref C ∧ t σ H1 fun vs H2 => sp vs H2 Q E
section
variable {X : Cx} {CX : CXT} {k : Nat} {C p g : Addr} {mc : Value} {sp : Sp} {E : XK} {o e : Expr} {es : List Expr} {m : Str} {pos apos : Pos} {ta : TE} {t : TA} {pl : Sem Bool}
theorem pe_smeth (he : PE X o ta) (r : CRead X.K C mc) (c : SMet X.K C mc m p g) (F : FnR X.prog X.w X.K X.mg X.base CX k g sp) (hr : Room k X.A) (hx : Passes CX X E) (ha : PA X (e :: es) t)
    (hst : starEach (e :: es) X.env = (false, eval e X.env) :: starEach es X.env := by rfl) (hpl : (backTo pos (starEach es X.env)).any (·.1) = false := by rfl)
    (ht : eval (.Call (.Attribute o m apos) (e :: es) [] pos) X.env = (do
      let ov ← eval o X.env
      standAt apos.atName
      let (f, first) ← holding [ov] (getMethod ov m pl)
      callWith pos f first (backTo pos (starEach (e :: es) X.env)) (backToKw pos (keywordEach [] X.env))) := by rfl) :
    PE X (.Call (.Attribute o m apos) (e :: es) [] pos) (tSMeth C sp E ta t) := by
  refine ⟨fun pins s σ H Q I h => ?_⟩
  refine PySem.W.methodCall_KW (pl := pl) (thn (he.run pins s σ H _ I h) fun u s1 ⟨x, H1, I1, rx, ex, q⟩ => ?_) ht
  subst ex
  obtain rfl : u = Value.ref C := rx
  obtain ⟨rest, hp⟩ := c.rc
  refine PySem.W.method_cls I1.kIn r.ga (PySem.W.cls_bind I1.kIn r.rd c.at_ ?_)
  refine wpAny_call (PySem.W.sm_get (s := { s1 with toks := s1.toks + 1 }) I1.kIn hp (PySem.W.handed_on rfl ?_))
  have I2 : Inv X pins σ H1 { s1 with toks := s1.toks + 1 } := I1.tok _
  refine PySem.W.callWith_K (h₀ := X.base) I2.ok.mod.kin c.kp (thn (ha.run pos pins _ σ H1 _ I2 q) fun us s3 ⟨vs, H2, I3, rv, q2⟩ => ⟨I3.kIn, ?_⟩) hst hpl
  exact wpAny_call (run_fnR (us := us) (vs := vs) F hr hx I3 rv q2)
end
end StM
/-! str of an own instance; str of an int or a text; C.m() of a static method; o.m(k = v) -/
namespace OwX
open PySem PySem.Spec PyProof.Rows L2 ClX StX
/-- a class's own __str__ -/
structure StrIn (K : PySem.W.Frag) (C g : Addr) : Prop where
  there : PySem.W.findIn K (.ref C) "__str__" = some (some (.ref g))
  isDef : PySem.W.isFn K (.ref g) = true
section
variable {X : Cx} {CX : CXT} {n : Nat} {C g : Addr} {sp : Sp} {E : XK}
theorem call_strI (c : StrIn X.K C g) (F : FnR X.prog X.w X.K X.mg X.base CX n g sp) (hr : Room (n + 2) X.A) (hx : Passes CX X E) :
    CallR X (.type "str") (fun xs H Q => ∃ a, xs = [.ref a] ∧ InsC X H a C ∧ sp [.ref a] H (fun v H' => ∃ y, v = .str y ∧ Q v H') E) := by
  intro pins s σ H xs us Q I r h
  obtain ⟨a, rfl, ha, q⟩ := h
  obtain ⟨u, rfl, ru⟩ := vals1 r
  cases (show u = Value.ref a from ru)
  obtain ⟨ox, od, J, _⟩ := insC_at I ha
  refine PySem.W.kso_call hr.in1.in1.units0 I.kIn J c.there c.isDef ?_
  refine wpAny_mono (wpAny_call (SlX.run_at (us := [.ref a]) (ws := [.ref a]) F hr.in1.in1 I.env0.in1.in1 hx I (.cons rfl .nil) q)) (fun v s' back => ?_) fun _ _ z => z
  obtain ⟨v', H', I', rv, y, ey, qy⟩ := back
  subst ey
  obtain ⟨t, et⟩ := (show ∃ t, v = Value.str y t from rv)
  subst et
  exact ⟨.str y, H', I', ⟨t, rfl⟩, qy⟩
/-- of an int that is not too long, and of a text -/
theorem call_strV : CallR X (.type "str") (fun xs H Q => (∃ i, xs = [.int i] ∧ i.natAbs.log2 < 1920 ∧ Q (.str (toString i)) H) ∨ ∃ a, xs = [.str a] ∧ Q (.str a) H) := fun pins s σ H xs us Q I r h =>
  h.elim (fun hi => call_str_int pins s σ H xs us Q I r hi) fun ha => SkE.call_str_str pins s σ H xs us Q I r ha
end
section
variable {X : Cx} {k : Nat} {C p f : Addr} {mc : Value} {fd : FuncData} {ps ks : List Str} {sp : Sp} {o : Expr} {m : Str} {pos apos : Pos} {ta : TE} {tk : TA} {pl : Sem Bool} {kws : List Keyword} {g : List Value → List Value → List Value} {gV : List V → List V → List V}
/-- o.m(k = v, ..), keywords alone -/
theorem pe_methKw (he : PE X o ta) (c : Cls X.K C) (hm : Meth X.K C m f) (F : FnOk X.prog X.w X.K X.mg X.base CX0 k f fd ps sp) (hr : Room k X.A) (hb : KBn X.K fd ps 1 ks g gV) (hkw : PK X kws tk)
    (some_ : (backToKw pos (keywordEach kws X.env)).all (·.1.isSome) = true := by rfl) (names : (backToKw pos (keywordEach kws X.env)).filterMap (·.1) = ks := by rfl)
    (none_ : ((backTo pos (starEach [] X.env)).any (·.1) || (backToKw pos (keywordEach kws X.env)).any (·.1.isNone)) = false := by rfl)
    (form : eval (.Call (.Attribute o m apos) [] kws pos) X.env = (do let ov ← eval o X.env; standAt apos.atName; let (f, first) ← holding [ov] (getMethod ov m pl); callWith pos f first (backTo pos (starEach [] X.env)) (backToKw pos (keywordEach kws X.env))) := by rfl) :
    PE X (.Call (.Attribute o m apos) [] kws pos) (fun σ H Q => ta σ H fun x H1 => ∃ a dx fs, x = .ref a ∧ H1 a = some (.ins C dx fs) ∧ fs.lookup m = none ∧ tk σ H1 fun zs H2 => zs.length = ks.length ∧ sp (gV [.ref a] zs) H2 Q E0) := by
  refine ⟨fun pins s σ H Q I h => PySem.W.methodCall_KW (pl := pl) (thn (he.run pins s σ H _ I h) fun u s1 ⟨x, H1, J, rx, a, dx, fs, ex, ea, l, q⟩ => ?_) form⟩
  subst ex
  cases (show u = Value.ref a from rx)
  refine getmeth_ok J ea c hm l (PySem.W.callWith_KW0 (first := [.ref a]) (h₀ := X.base) J.ok.mod.kin hm.kp some_ ?_ none_)
  refine thn (hkw.run pos pins s1 σ H1 _ J q) fun ws s2 ⟨zs, H2, J2, rz, l2, q2⟩ => ⟨J2.kIn, ?_⟩
  rw [names]
  exact run_fnN (us := [.ref a]) (vs := [.ref a]) F hr hb pass0 J2 (.cons rfl .nil) rz rfl l2 q2
end
end OwX
namespace K02
open PySem L2 Evl
def top (i : Nat) : Stmt := PySem.Challenge.pw_layerpost_k02_growths_refused.main.body.getD i (.Pass ⟨0, 0, 0, 0⟩)
abbrev sPen : Stmt := top 40
abbrev sDraw : Stmt := top 41
abbrev sPick : Stmt := top 42
/-! ### the pen: a list of the cells, the place, the rest -/
def PenAt (H : Hp) (p l : Addr) (cells : List Int) (m : Nat) : Prop :=
  ∃ (k : Nat) (r : Int), H p = some (.lst [.ref l, .int (k : Int), .int r]) ∧ H l = some (.lst (cells.map V.int)) ∧ k ≤ m
/-- all but p is as it was -/
def Keep (p : Addr) (H H' : Hp) : Prop := ∀ b o, H b = some o → b ≠ p → H' b = some o
theorem Keep.of_ex {p : Addr} {H H' : Hp} (e : Ex H H') : Keep p H H' := fun b o h _ => e b o h
theorem Keep.trans {p : Addr} {H H1 H2 : Hp} (a : Keep p H H1) (b : Keep p H1 H2) : Keep p H H2 := fun c o h n => b c o (a c o h n) n
theorem Keep.upd {p : Addr} {H : Hp} {o : HO} : Keep p H (upd H p o) := fun b u h n => by rw [upd_ne n]; exact h
theorem PenAt.mono {H H' : Hp} {p l : Addr} {cells : List Int} {m n : Nat} (h : PenAt H p l cells m) (e : Ex H H') (hm : m ≤ n) : PenAt H' p l cells n := by
  obtain ⟨k, r, h1, h2, h3⟩ := h
  exact ⟨k, r, e _ _ h1, e _ _ h2, by omega⟩
theorem PenAt.ne {H : Hp} {p l : Addr} {cells : List Int} {m : Nat} (h : PenAt H p l cells m) : l ≠ p := by
  obtain ⟨k, r, h1, h2, _⟩ := h
  refine ne_of h2 h1 ?_
  intro z
  have z2 := HO.lst.inj z
  cases cells with
  | nil => exact absurd z2 (by simp)
  | cons c cs => exact absurd (List.cons.inj z2).1 (by intro q; cases q)
structure Glb (mg : Str → Option Value) : Prop where
  int : mg "int" = none
  abs : mg "abs" = none
  len : mg "len" = none
  list : mg "list" = none
def spDraw : Sp := fun vs H Q _ => ∃ (p l : Addr) (cells : List Int) (m : Nat) (many : Int), vs = [.ref p, .int many] ∧ PenAt H p l cells m ∧ m ≤ 50000 ∧ cells.length ≤ 63 ∧ 0 < many ∧ many ≤ 1000000000 ∧
  ∀ d H', 0 ≤ d → d < many → PenAt H' p l cells (m + 1) → Keep p H H' → Q (.int d) H'
theorem scDraw : FnScope ["_law_pen_here", "_law_many", "_law_digit", "_law_lap", "_law_cell", "_law_great", "_law_mixed"] ["_law_pen_here", "_law_many"] (defScope sDraw) := ⟨rfl, rfl, rfl, by decide +kernel, rfl, by decide +kernel, by decide +kernel⟩
theorem rc_int {i : Int} {H : Hp} : RC (fun xs H Q => (∃ i, xs = [V.int i] ∧ Q (.int i) H) ∨ ∃ k, xs = [V.bl k] ∧ Q (.int (if k then 1 else 0)) H) [.int i] H (.int i) := fun H1 _ _ q => .inl ⟨i, rfl, q H1 (Ex.refl H1)⟩
theorem rc_intB {b : Bool} {H : Hp} : RC (fun xs H Q => (∃ i, xs = [V.int i] ∧ Q (.int i) H) ∨ ∃ k, xs = [V.bl k] ∧ Q (.int (if k then 1 else 0)) H) [.bl b] H (.int (if b then 1 else 0)) := fun H1 _ _ q => .inr ⟨b, rfl, q H1 (Ex.refl H1)⟩
theorem rc_abs {i : Int} {H : Hp} : RC (fun xs H Q => ∃ i, xs = [V.int i] ∧ Q (.int (if i < 0 then -i else i)) H) [.int i] H (.int (if i < 0 then -i else i)) := fun H1 _ _ q => ⟨i, rfl, q H1 (Ex.refl H1)⟩
theorem rc_len {K : PySem.W.Frag} {p : Addr} {xs : List V} {H : Hp} (h : SqL K H p xs) : RC (fun xs H Q => ∃ p ys, xs = [V.ref p] ∧ (SqL K H p ys ∨ SqT K H p ys) ∧ Q (.int ys.length) H) [.ref p] H (.int (xs.length : Int)) := fun H1 e _ q => ⟨p, xs, rfl, .inl (ex_l e h), q H1 (Ex.refl H1)⟩
theorem dpAll_ints {K : PySem.W.Frag} {H : Hp} : ∀ (ns : List Int), DpAll K H (ns.map V.int) (ns.map PyData.int)
  | [] => .nil
  | n :: ns => .cons (.int n) (dpAll_ints ns)
section
variable {P : Program} {w : World} {K : PySem.W.Frag} {mg : Str → Option Value} {base : Heap}
theorem shaped_nil : SeqAt.shaped (.list []) = true := by decide +kernel
theorem canLay_ints : ∀ (ns : List Int), PyData.canLayAll0 (ns.map PyData.int) = true
  | [] => by simp [PyData.canLayAll0]
  | n :: ns => by simp [PyData.canLayAll0, PyData.canLay0, canLay_ints ns]
theorem depth_ints : ∀ (ns : List Int), PyData.depthAll (ns.map PyData.int) = 0
  | [] => rfl
  | n :: ns => by simp [PyData.depthAll, PyData.depth, depth_ints ns]
theorem shaped_ints (ns : List Int) : SeqAt.shaped (.list (ns.map PyData.int)) = true := by
  unfold SeqAt.shaped
  simp [PyData.canLay0, canLay_ints, PyData.depth, depth_ints]
/-- xs != [], xs a list of ints -/
theorem ev_neNil {σ : L2.St} {H : Hp} {ta : TE} {l : Addr} {cells : List Int} (ha : Ev ta σ H (.ref l)) (h : SqL K H l (cells.map V.int)) :
    ∃ b : Bool, Ev (tOp (rNeD K) ta (tLst tNil)) σ H (.bl b) ∧ (b = true → cells ≠ []) := by
  refine ⟨!(PyData.eqv (.list (cells.map PyData.int)) (.list [])), ev_opL (xs := []) ha (el_lst ea_nil (by decide)) (fun p H1 h1 e => ?_), ?_⟩
  · exact fun H2 e2 Q q => ⟨_, _, .lst (ex_l (e.trans e2) h) (dpAll_ints cells), .lst (sq_of (e2 _ _ h1)) .nil, shaped_ints cells, shaped_nil, q H2 (Ex.refl H2)⟩
  · intro hb hc
    subst hc
    exact absurd hb (by decide +kernel)
end
end K02
namespace L2
open PySem PySem.Spec PyProof.Rows
section
variable {X : Cx} {k : Nat} {f : Addr} {fd : FuncData} {ps ks : List Str} {sp : Sp} {x : Str} {p pos : Pos} {kws : List Keyword} {tk : TA} {g : List Value → List Value → List Value} {gV : List V → List V → List V}
/-- f(k = v, ..), keywords alone -/
theorem pe_callK0 (F : FnOk X.prog X.w X.K X.mg X.base CX0 k f fd ps sp) (hr : Room k X.A) (hg : Gl X x) (hm : X.mg x = some (.ref f)) (hk : PySem.W.keepIn X.K (.ref f) = true) (hb : KBn X.K fd ps 0 ks g gV) (hkw : PK X kws tk)
    (hall : (backToKw pos (keywordEach kws X.env)).all (·.1.isSome) = true := by rfl) (hks : (backToKw pos (keywordEach kws X.env)).filterMap (·.1) = ks := by rfl) (hdb : (x == ("__debug__" : Str)) = false := by decide)
    (hpl : ((backTo pos (starEach [] X.env)).any (·.1) || (backToKw pos (keywordEach kws X.env)).any (·.1.isNone)) = false := by rfl) :
    PE X (.Call (.Name x p) [] kws pos) (tCallN 0 ks.length sp gV E0 tNil tk) := by
  refine ⟨fun pins s σ H Q I h => ?_⟩
  refine wpAny_Call_Name_kw (ld_glob I hg hm ?_ hdb)
  refine PySem.W.callWith_KW0 (h₀ := X.base) I.ok.mod.kin hk hall ?_ hpl
  refine thn (hkw.run pos pins s σ H _ I h) fun ws s2 ⟨zs, H2, I2, rz, l1, l2, q2⟩ => ⟨I2.kIn, ?_⟩
  rw [hks]
  exact run_fnN (us := []) (vs := []) F hr hb pass0 I2 .nil rz rfl l2 q2
/-- how a def without defaults binds keywords alone -/
theorem Fun.kb {K : PySem.W.Frag} {x qual : Str} {st : Stmt} {f : Addr} {fd : FuncData} {ps ks : List Str} (F : Fun K x qual st f fd) (n : Nat) (g : {α : Type} → List α → List α → List α)
    (hrel : ∀ {vs zs : List V} {us ws : List Value}, Vals vs us → Vals zs ws → Vals (g vs zs) (g us ws))
    (h : ∀ (kV doc pm : Value) (an : Option Addr) (cdv ct : Value) (us ws : List Value), us.length = n → ws.length = ks.length → bindArgs (PySem.W.fnOf x qual (defArgs st) (defBody st) (defScope st) .none kV doc pm an cdv ct) ⟨us, ks.zip ws⟩ = pure (ps.zip (g us ws))) :
    KBn K fd ps n ks (fun us ws => g us ws) (fun vs zs => g vs zs) := by
  obtain ⟨oc, od, kV, doc, pm, an, cdv, ct, osl, rfl, lk, hcd⟩ := F.ex
  exact ⟨fun s us ws _ l1 l2 => .of_eq (h kV doc pm an cdv ct us ws l1 l2), fun r1 r2 => hrel r1 r2⟩
end
end L2
namespace K02
open PySem L2 Evl
abbrev sIsInt : Stmt := top 3
abbrev sWithin : Stmt := top 4
abbrev sFrom0 : Stmt := top 5
structure GlbT (mg : Str → Option Value) : Prop where
  inst : mg "isinstance" = none
  int : mg "int" = none
  bool : mg "bool" = none
  str : mg "str" = none
  len : mg "len" = none
theorem tyx_mono {K : PySem.W.Frag} {H H' : Hp} {x : V} {t : Value} (e : Ex H H') (h : TyX K H x t) : TyX K H' x t := by
  cases h with
  | base b =>
    refine .base ?_
    cases b with
    | non => exact .non
    | bl b => exact .bl b
    | int i => exact .int i
    | str x => exact .str x
    | flt x => exact .flt x
    | lst q => exact .lst (e _ _ q)
    | frz q => exact .frz (e _ _ q)
    | tup q => exact .tup (e _ _ q)
    | dK q => exact .dK (e _ _ q)
    | dT q => exact .dT (e _ _ q)
    | ins q a b c d f => exact .ins (e _ _ q) a b c d f
  | byt b => exact .byt b
  | set q => exact .set (e _ _ q)
  | kList q c => exact .kList q c
  | kTuple q c => exact .kTuple q c
  | kDict q c => exact .kDict q c
  | fTuple q => exact .fTuple (e _ _ q)
  | fDict q => exact .fDict (e _ _ q)
theorem rc_isi {K : PySem.W.Frag} {H : Hp} {x : V} {a b : String} {r : Bool} (h : TyX K H x (.type a)) (hk : kitB a b = some r) : RC (rIsi K) [x, .ty b] H (.bl r) := fun H1 e _ q => ⟨x, .ty b, .type a, .type b, r, rfl, .ty b, tyx_mono e h, kit_ty hk, q H1 (Ex.refl H1)⟩
section
variable {P : Program} {w : World} {K : PySem.W.Frag} {mg : Str → Option Value} {base : Heap}
/-! ### is_integer -/
def spIsInt (K : PySem.W.Frag) : Sp := fun vs H Q _ => ∃ (x : V) (T : String) (a b : Bool), vs = [x] ∧ TyX K H x (.type T) ∧ kitB T "int" = some a ∧ kitB T "bool" = some b ∧ RetV (.bl (a && !b)) H Q
theorem scIsInt : FnScope ["value"] ["value"] (defScope sIsInt) := ⟨rfl, rfl, rfl, by decide +kernel, rfl, by decide +kernel, by decide +kernel⟩
theorem ok_isInt {f : Addr} {fd : FuncData} (F : Fun K "is_integer" "is_integer" sIsInt f fd) (T : GlbT mg) : FnOk P w K mg base CX0 1 f fd ["value"] (spIsInt K) := by
  refine F.ok scIsInt (fun vs H Q E h => ?_) (fun cdv A outer s H vs Q E hr h => ?_)
  · obtain ⟨x, t, a, b, rfl, _⟩ := h
    rfl
  · obtain ⟨x, t, a, b, rfl, ht, ha, hb, k⟩ := h
    refine ⟨_, pss_one (ps_ret (pe_and (pe_callB call_isi (by rfl) T.inst (by decide +kernel) (pa_cons (pv 0) (pa_cons (pe_bltn (v := .ty "int") (by rfl) T.int (by decide +kernel) rfl) pa_nil)))
      (pe_one (pe_not (pe_callB call_isi (by rfl) T.inst (by decide +kernel) (pa_cons (pv 0) (pa_cons (pe_bltn (v := .ty "bool") (by rfl) T.bool (by decide +kernel) rfl) pa_nil))))))), ?_⟩
    exact s_ret (ev_andV (ev_cb (ea_cons (ev_var rfl) (ea_cons ev_c ea_nil)) (rc_isi ht ha)) fun _ => ev_notV (ev_cb (ea_cons (ev_var rfl) (ea_cons ev_c ea_nil)) (rc_isi ht hb))) k
/-! ### is_within -/
def spWithin (K : PySem.W.Frag) : Sp := fun vs H Q _ => (∃ i lo hi : Int, vs = [.int i, .int lo, .int hi] ∧ RetV (.bl (decide (lo ≤ i) && decide (i ≤ hi))) H Q) ∨
  ∃ (x y z : V) (T : String) (a b : Bool), vs = [x, y, z] ∧ TyX K H x (.type T) ∧ kitB T "int" = some a ∧ kitB T "bool" = some b ∧ (a && !b) = false ∧ RetV (.bl false) H Q
theorem scWithin : FnScope ["value", "least", "most"] ["value", "least", "most"] (defScope sWithin) := ⟨rfl, rfl, rfl, by decide +kernel, rfl, by decide +kernel, by decide +kernel⟩
theorem spv_isInt {H : Hp} {x : V} {t : String} {a b : Bool} (ht : TyX K H x (.type t)) (ha : kitB t "int" = some a) (hb : kitB t "bool" = some b) : SpV (spIsInt K) [x] H (.bl (a && !b)) := fun H1 e Q q E => ⟨x, t, a, b, rfl, tyx_mono e ht, ha, hb, q⟩
theorem kit_int_int : kitB "int" "int" = some true := by decide +kernel
theorem kit_int_bool : kitB "int" "bool" = some false := by decide +kernel
theorem ev_chain {σ : L2.St} {H : Hp} {ta tb tc : TE} {i j l : Int} {f g : Int → Int → Bool} (ha : Ev ta σ H (.int i)) (hb : Ev tb σ H (.int j)) (hc : Ev tc σ H (.int l)) :
    Ev (tChain (rI0 fun i j => .bl (f i j)) (rI0 fun i j => .bl (g i j)) ta tb tc) σ H (.bl (f i j && g j l)) := fun H1 e Q q =>
  ha H1 e _ fun H2 e2 => hb H2 (e.trans e2) _ fun H3 e3 => ⟨i, j, rfl, rfl, f i j, rfl, by
    cases h : f i j with
    | true =>
      simp only [h, Bool.true_and] at q
      exact hc H3 ((e.trans e2).trans e3) _ fun H4 e4 => ⟨j, l, rfl, rfl, q H4 ((e2.trans e3).trans e4)⟩
    | false =>
      simp only [h, Bool.false_and] at q
      exact q H3 (e2.trans e3)⟩
theorem ok_within {f fI : Addr} {fd fdI : FuncData} (F : Fun K "is_within" "is_within" sWithin f fd) (T : GlbT mg) (FI : Fun K "is_integer" "is_integer" sIsInt fI fdI) (bI : Binds K fdI ["value"] []) (gI : mg "is_integer" = some (.ref fI)) :
    FnOk P w K mg base CX0 2 f fd ["value", "least", "most"] (spWithin K) := by
  have GI : FnOk P w K mg base CX0 1 fI fdI ["value"] (spIsInt K) := ok_isInt FI T
  refine F.ok scWithin (fun vs H Q E h => ?_) (fun cdv A outer s H vs Q E hr h => ?_)
  · rcases h with ⟨i, lo, hi, rfl, _⟩ | ⟨x, y, z, t, a, b, rfl, _⟩ <;> rfl
  · have body : ∀ {x y z : V}, vs = [x, y, z] → ∀ {r : Bool}, Ev (tAndV (tCall (spIsInt K) [] E0 (tCons (tVar 0) tNil)) (tChain (rI0 fun i j => .bl (decide (i ≤ j))) (rI0 fun i j => .bl (decide (i ≤ j))) (tVar 1) (tVar 0) (tVar 2))) [some x, some y, some z] H (.bl r) → RetV (.bl r) H Q →
        ∃ t, PSs (cxOf CX0 P w K mg base ["value", "least", "most"] "is_within" (defScope sWithin) f cdv A outer s H E).nox (defBody sWithin) t ∧ t { nx := fun _ H' => Q .non H', rt := Q } (start ["value", "least", "most"] vs) H := by
      rintro x y z rfl r ev k
      exact ⟨_, pss_one (ps_ret (pe_and (pe_call GI hr (by rfl) gI FI.kp bI .nil pass0 (pa_cons (pv 0) pa_nil)) (pe_one (pe_chain op_le op_le (pv 1) (pv 0) (pv 2))))), s_ret ev k⟩
    rcases h with ⟨i, lo, hi, rfl, k⟩ | ⟨x, y, z, t, a, b, rfl, ht, ha, hb, hn, k⟩
    · refine body rfl (ev_andV (a := true) (ev_call (z := .bl true) (ea_cons (ev_var rfl) ea_nil) (spv_isInt (.base (.int i)) kit_int_int kit_int_bool)) fun _ => ev_chain (ev_var rfl) (ev_var rfl) (ev_var rfl)) k
    · refine body rfl (r := false) (ev_andV (a := false) (b := false) (ev_call (ea_cons (ev_var rfl) ea_nil) (by have q := spv_isInt ht ha hb; rw [hn] at q; exact q)) fun z => absurd z (by decide)) k
/-! ### is_from_zero -/
def spFrom0 (K : PySem.W.Frag) : Sp := fun vs H Q _ => (∃ i : Int, vs = [.int i] ∧ RetV (.bl (decide (0 ≤ i))) H Q) ∨
  ∃ (x : V) (T : String) (a b : Bool), vs = [x] ∧ TyX K H x (.type T) ∧ kitB T "int" = some a ∧ kitB T "bool" = some b ∧ (a && !b) = false ∧ RetV (.bl false) H Q
theorem scFrom0 : FnScope ["value"] ["value"] (defScope sFrom0) := ⟨rfl, rfl, rfl, by decide +kernel, rfl, by decide +kernel, by decide +kernel⟩
theorem ok_from0 {f fI : Addr} {fd fdI : FuncData} (F : Fun K "is_from_zero" "is_from_zero" sFrom0 f fd) (T : GlbT mg) (FI : Fun K "is_integer" "is_integer" sIsInt fI fdI) (bI : Binds K fdI ["value"] []) (gI : mg "is_integer" = some (.ref fI)) :
    FnOk P w K mg base CX0 2 f fd ["value"] (spFrom0 K) := by
  have GI : FnOk P w K mg base CX0 1 fI fdI ["value"] (spIsInt K) := ok_isInt FI T
  refine F.ok scFrom0 (fun vs H Q E h => ?_) (fun cdv A outer s H vs Q E hr h => ?_)
  · rcases h with ⟨i, rfl, _⟩ | ⟨x, t, a, b, rfl, _⟩ <;> rfl
  · rcases h with ⟨i, rfl, k⟩ | ⟨x, t, a, b, rfl, ht, ha, hb, hn, k⟩
    all_goals refine ⟨_, pss_one (ps_ret (pe_and (pe_call GI hr (by rfl) gI FI.kp bI .nil pass0 (pa_cons (pv 0) pa_nil)) (pe_one (pe_cmpR op_ge (pv 0) pe_int (nomark _))))), ?_⟩
    · refine s_ret (ev_is (ev_andV (a := true) (ev_call (z := .bl true) (ea_cons (ev_var rfl) ea_nil) (spv_isInt (.base (.int i)) kit_int_int kit_int_bool)) fun _ => ev_op (ev_var rfl) ev_c rv_I0) (by rfl)) k
    · refine s_ret (ev_andV (a := false) (b := false) (ev_call (ea_cons (ev_var rfl) ea_nil) (by have q := spv_isInt ht ha hb; rw [hn] at q; exact q)) fun z => absurd z (by decide)) k
end
end K02
/-! sequences that come round: periods, borders of a row, the least period, the normal form of a growth -/
namespace Gr
/-! ### periods of a sequence -/
def Pd {α : Type} (d : Nat → α) (q : Nat) : Prop := ∀ k, d (k + q) = d k
section
variable {α : Type} {d : Nat → α} {p q n : Nat}
theorem Pd.zero : Pd d 0 := fun _ => rfl
theorem Pd.mul (h : Pd d q) : ∀ j k, d (k + j * q) = d k
  | 0, k => by rw [Nat.zero_mul, Nat.add_zero]
  | j + 1, k => by rw [Nat.succ_mul, ← Nat.add_assoc, h, Pd.mul h j]
theorem Pd.mod (h : Pd d q) (k : Nat) : d (k % q) = d k := by
  have e := Nat.mod_add_div k q
  rw [Nat.mul_comm] at e
  have := Pd.mul h (k / q) (k % q)
  rw [e] at this
  exact this.symm
theorem Pd.sub (hp : Pd d p) (hq : Pd d q) (h : p ≤ q) : Pd d (q - p) := fun k => by
  have e : k + (q - p) + p = k + q := by omega
  rw [← hp (k + (q - p)), e, hq]
theorem Pd.rem (hp : Pd d p) (hq : Pd d q) : Pd d (q % p) := fun k => by
  have e : k + q % p + q / p * p = k + q := by
    have := Nat.mod_add_div q p
    rw [Nat.mul_comm] at this
    omega
  rw [← Pd.mul hp (q / p) (k + q % p), e, hq]
theorem Pd.gcd : ∀ (p q : Nat), Pd d p → Pd d q → Pd d (Nat.gcd p q) := by
  intro p
  induction p using Nat.strongRecOn with
  | ind p ih =>
    intro q hp hq
    rcases Nat.eq_zero_or_pos p with h | h
    · rw [h, Nat.gcd_zero_left]
      exact hq
    · rw [Nat.gcd_rec]
      exact ih (q % p) (Nat.mod_lt _ h) p (hp.rem hq) hp
/-- the least one -/
structure Least (d : Nat → α) (p : Nat) : Prop where
  pos : 0 < p
  pd : Pd d p
  le : ∀ q, 0 < q → Pd d q → p ≤ q
end
/-! ### rows -/
def at' (g : List Int) (i : Nat) : Int := g.getD i 0
/-- the row, again and again -/
def dif (g : List Int) (k : Nat) : Int := at' g (k % g.length)
/-- within the row what stands p further on is the same -/
def Per (g : List Int) (p : Nat) : Prop := ∀ i, i + p < g.length → at' g (i + p) = at' g i
section
variable {g : List Int} {p q : Nat}
theorem dif_pd : Pd (dif g) g.length := fun k => by unfold dif; rw [Nat.add_mod_right]
theorem dif_lt {k : Nat} (h : k < g.length) : dif g k = at' g k := by unfold dif; rw [Nat.mod_eq_of_lt h]
theorem Pd.per (h : Pd (dif g) p) : Per g p := fun i hi => by
  have := h i
  rwa [dif_lt hi, dif_lt (by omega)] at this
theorem Per.mul (h : Per g p) : ∀ j i, i + j * p < g.length → at' g (i + j * p) = at' g i
  | 0, i, _ => by rw [Nat.zero_mul, Nat.add_zero]
  | j + 1, i, hi => by
    rw [Nat.succ_mul, ← Nat.add_assoc] at hi ⊢
    rw [h _ hi, Per.mul h j i (by omega)]
theorem Per.pd (h : Per g p) (hp : 0 < p) (hd : p ∣ g.length) (hn : 0 < g.length) : Pd (dif g) p := fun k => by
  obtain ⟨c, hc⟩ := hd
  have hr : k % g.length < g.length := Nat.mod_lt _ hn
  unfold dif
  rw [Nat.add_mod]
  generalize k % g.length = r at hr
  have hpn : p ≤ g.length := by
    rcases c with _ | c
    · rw [Nat.mul_zero] at hc; omega
    · rw [hc]; exact Nat.le_mul_of_pos_right p (Nat.succ_pos c)
  rcases Nat.lt_or_ge p g.length with h1 | h1
  · rw [Nat.mod_eq_of_lt h1]
    rcases Nat.lt_or_ge (r + p) g.length with h2 | h2
    · rw [Nat.mod_eq_of_lt h2]
      exact h r h2
    · rw [Nat.mod_eq_sub_mod h2, Nat.mod_eq_of_lt (by omega)]
      rcases c with _ | c
      · rw [Nat.mul_zero] at hc; omega
      have e : r + p - g.length + c * p = r := by
        have : p * (c + 1) = c * p + p := by rw [Nat.mul_comm, Nat.succ_mul]
        omega
      have z := h.mul c (r + p - g.length) (by rw [e]; exact hr)
      rw [e] at z
      exact z.symm
  · have e : p = g.length := Nat.le_antisymm hpn h1
    rw [e, Nat.mod_self, Nat.add_zero, Nat.mod_eq_of_lt hr]
end
/-! ### borders: the longest one of each beginning -/
/-- w signs at the end of the first m are the first w -/
def Bd (g : List Int) (m w : Nat) : Prop := w < m ∧ ∀ i, i < w → at' g (m - w + i) = at' g i
structure Lb (g : List Int) (m w : Nat) : Prop where
  bd : Bd g m w
  top : ∀ v, Bd g m v → v ≤ w
section
variable {g : List Int} {m w v : Nat}
theorem bd_zero (h : 0 < m) : Bd g m 0 := ⟨h, fun i hi => absurd hi (Nat.not_lt_zero i)⟩
theorem lb_one : Lb g 1 0 := ⟨bd_zero Nat.one_pos, fun v h => by have := h.1; omega⟩
theorem bd_succ : Bd g (m + 1) (v + 1) ↔ Bd g m v ∧ at' g m = at' g v := by
  constructor
  · rintro ⟨h, a⟩
    have hv : v < m := by omega
    refine ⟨⟨hv, fun i hi => ?_⟩, ?_⟩
    · have := a i (by omega)
      rwa [show m + 1 - (v + 1) + i = m - v + i by omega] at this
    · have := a v (by omega)
      rwa [show m + 1 - (v + 1) + v = m by omega] at this
  · rintro ⟨⟨h, a⟩, e⟩
    refine ⟨by omega, fun i hi => ?_⟩
    rw [show m + 1 - (v + 1) + i = m - v + i by omega]
    rcases Nat.lt_or_ge i v with h1 | h1
    · exact a i h1
    · have : i = v := by omega
      subst this
      rw [show m - i + i = m by omega]
      exact e
/-- a border of a border, and the other way round -/
theorem bd_trans (h : Bd g m w) (h2 : Bd g w v) : Bd g m v := by
  refine ⟨Nat.lt_trans h2.1 h.1, fun i hi => ?_⟩
  have := h.2 (w - v + i) (by have := h2.1; omega)
  rw [show m - w + (w - v + i) = m - v + i by have := h.1; have := h2.1; omega] at this
  rw [this]
  exact h2.2 i hi
theorem bd_down (h : Bd g m w) (h2 : Bd g m v) (hv : v < w) : Bd g w v := by
  refine ⟨hv, fun i hi => ?_⟩
  have a := h.2 (w - v + i) (by omega)
  rw [show m - w + (w - v + i) = m - v + i by have := h.1; omega] at a
  rw [← a]
  exact h2.2 i hi
/-- what the search for the next border keeps: a border, and none that goes on is longer -/
def Srch (g : List Int) (m w : Nat) : Prop := Bd g m w ∧ ∀ v, Bd g m v → at' g m = at' g v → v ≤ w
theorem srch_start (h : Lb g m w) : Srch g m w := ⟨h.bd, fun v b _ => h.top v b⟩
theorem srch_step (h : Srch g m w) (hw : 0 < w) (hne : at' g m ≠ at' g w) {w' : Nat} (b : Lb g w w') : Srch g m w' ∧ w' < w :=
  ⟨⟨bd_trans h.1 b.bd, fun v hv e => by
    have h1 := h.2 v hv e
    have h2 : v ≠ w := fun z => hne (z ▸ e)
    exact b.top v (bd_down h.1 hv (by omega))⟩, b.bd.1⟩
theorem srch_yes (h : Srch g m w) (e : at' g m = at' g w) : Lb g (m + 1) (w + 1) := by
  refine ⟨bd_succ.mpr ⟨h.1, e⟩, fun v hv => ?_⟩
  rcases v with _ | v
  · exact Nat.zero_le _
  · obtain ⟨a, b⟩ := bd_succ.mp hv
    exact Nat.succ_le_succ (h.2 v a b)
theorem srch_no (h : Srch g m 0) (e : at' g m ≠ at' g 0) : Lb g (m + 1) 0 := by
  refine ⟨bd_zero (Nat.succ_pos m), fun v hv => ?_⟩
  rcases v with _ | v
  · exact Nat.le_refl _
  · obtain ⟨a, b⟩ := bd_succ.mp hv
    have : v = 0 := Nat.le_zero.mp (h.2 v a b)
    subst this
    exact absurd b e
end
/-! ### the least period of a row, by its longest border -/
section
variable {g : List Int} {b : Nat}
theorem Per.bd {p : Nat} (h : Per g p) (hp : 0 < p) (hn : p ≤ g.length) : Bd g g.length (g.length - p) := by
  refine ⟨by omega, fun i hi => ?_⟩
  have := h i (by omega)
  rw [show g.length - (g.length - p) + i = i + p by omega]
  exact this
theorem Bd.per (h : Bd g g.length b) : Per g (g.length - b) := fun i hi => by
  have := h.2 i (by have := h.1; omega)
  rwa [Nat.add_comm] at this
theorem least_of (hn : 0 < g.length) (h : Lb g g.length b) : Least (dif g) (if g.length % (g.length - b) = 0 then g.length - b else g.length) := by
  have hb := h.bd.1
  have hq : 0 < g.length - b := by omega
  have per := h.bd.per
  have top : ∀ p, 0 < p → p ≤ g.length → Per g p → g.length - b ≤ p := fun p hp hpn pp => by
    have := h.top _ (pp.bd hp hpn)
    omega
  -- each period of the endless row has a divisor of the length below it that is one too
  have down : ∀ q, 0 < q → Pd (dif g) q → ∃ c, 0 < c ∧ c ∣ g.length ∧ c ≤ q ∧ c ≤ g.length ∧ Pd (dif g) c := fun q hq0 hqd =>
    ⟨Nat.gcd q g.length, Nat.gcd_pos_of_pos_left _ hq0, Nat.gcd_dvd_right _ _, Nat.gcd_le_left _ hq0, Nat.gcd_le_right _ hn, Pd.gcd q g.length hqd dif_pd⟩
  by_cases e : g.length % (g.length - b) = 0
  · rw [if_pos e]
    refine ⟨hq, per.pd hq (Nat.dvd_of_mod_eq_zero e) hn, fun q hq0 hqd => ?_⟩
    obtain ⟨c, c0, _, cq, cn, cd⟩ := down q hq0 hqd
    exact Nat.le_trans (top c c0 cn cd.per) cq
  · rw [if_neg e]
    refine ⟨hn, dif_pd, fun q hq0 hqd => ?_⟩
    obtain ⟨c, c0, cv, cq, cn, cd⟩ := down q hq0 hqd
    rcases Nat.lt_or_ge c g.length with h1 | h1
    · exfalso
      have h2 : g.length - b ≤ c := top c c0 cn cd.per
      obtain ⟨z, hz⟩ := cv
      have h3 : c + c ≤ g.length := by
        rcases z with _ | _ | z
        · rw [Nat.mul_zero] at hz; omega
        · rw [Nat.mul_one] at hz; omega
        · rw [hz, show z + 1 + 1 = z + 2 from rfl, Nat.mul_add, Nat.mul_two]; omega
      have pd : Pd (dif g) (g.length - b) := fun k => by
        have r : k % c < c := Nat.mod_lt _ c0
        have a : dif g (k % c) = dif g k := cd.mod k
        have a2 : dif g (k + (g.length - b)) = dif g (k % c + (g.length - b)) := by
          have e1 := Nat.mod_add_div k c
          rw [Nat.mul_comm] at e1
          have := cd.mul (k / c) (k % c + (g.length - b))
          rw [show k % c + (g.length - b) + k / c * c = k + (g.length - b) by omega] at this
          exact this
        rw [a2, ← a, dif_lt (by omega), dif_lt (by omega)]
        exact per _ (by omega)
      have q2 := Pd.gcd (g.length - b) g.length pd dif_pd
      have g0 : 0 < Nat.gcd (g.length - b) g.length := Nat.gcd_pos_of_pos_left _ hq
      have l1 := top _ g0 (Nat.gcd_le_right _ hn) q2.per
      have l2 := Nat.gcd_le_left (g.length) hq
      have e2 : Nat.gcd (g.length - b) g.length = g.length - b := Nat.le_antisymm l2 l1
      exact e (Nat.mod_eq_zero_of_dvd (e2 ▸ Nat.gcd_dvd_right (g.length - b) g.length))
    · exact Nat.le_trans h1 cq
end
end Gr
namespace Gr
/-! ### sums of beginnings -/
def acc (d : Nat → Int) : Nat → Int
  | 0 => 0
  | n + 1 => acc d n + d n
theorem acc_add (d : Nat → Int) (m : Nat) : ∀ n, acc d (m + n) = acc d m + acc (fun k => d (m + k)) n
  | 0 => by rw [Nat.add_zero]; exact (Int.add_zero _).symm
  | n + 1 => by
    rw [← Nat.add_assoc]
    show acc d (m + n) + d (m + n) = acc d m + (acc _ n + d (m + n))
    rw [acc_add d m n, Int.add_assoc]
theorem acc_congr {d e : Nat → Int} : ∀ n, (∀ k, k < n → d k = e k) → acc d n = acc e n
  | 0, _ => rfl
  | n + 1, h => by
    show acc d n + d n = acc e n + e n
    rw [acc_congr n fun k hk => h k (by omega), h n (Nat.lt_succ_self n)]
theorem acc_mul {d : Nat → Int} {p : Nat} (h : Pd d p) : ∀ j r, acc d (j * p + r) = j * acc d p + acc d r
  | 0, r => by rw [Nat.zero_mul, Nat.zero_add]; show acc d r = ((0 : Nat) : Int) * _ + _; rw [Int.natCast_zero, Int.zero_mul, Int.zero_add]
  | j + 1, r => by
    rw [Nat.succ_mul, show j * p + p + r = p + (j * p + r) by omega, acc_add]
    rw [acc_congr (e := d) (j * p + r) fun k _ => by rw [Nat.add_comm p k]; exact h k]
    rw [acc_mul h j r]
    rw [show ((j + 1 : Nat) : Int) = (j : Int) + 1 from rfl, Int.add_mul, Int.one_mul]
    omega
/-! ### growths -/
/-- the last one of a row -/
def lst (t : List Int) : Int := at' t (t.length - 1)
/-- the value at a number, by told values and gains -/
def val (t g : List Int) (n : Nat) : Int := if n < t.length then at' t n else lst t + acc (dif g) (n - t.length + 1)
section
variable {t t' g g' : List Int} {n : Nat}
theorem val_lt (h : n < t.length) : val t g n = at' t n := if_pos h
/-- from the last told value on -/
theorem val_ge (h0 : 0 < t.length) (k : Nat) : val t g (t.length - 1 + k) = lst t + acc (dif g) k := by
  unfold val
  rcases Nat.eq_zero_or_pos k with h | h
  · subst h
    rw [if_pos (by omega)]
    show at' t (t.length - 1 + 0) = lst t + 0
    rw [Int.add_zero]
    rfl
  · rw [if_neg (by omega), show t.length - 1 + k - t.length + 1 = k by omega]
theorem val_step (h0 : 0 < t.length) (k : Nat) : val t g (t.length - 1 + k + 1) - val t g (t.length - 1 + k) = dif g k := by
  rw [Nat.add_assoc, val_ge h0, val_ge h0]
  show lst t + (acc (dif g) k + dif g k) - (lst t + acc (dif g) k) = dif g k
  omega
/-- the rounds taken at once -/
theorem val_far (h0 : 0 < t.length) (hn : t.length ≤ n) : val t g n = lst t + ((n - t.length + 1) / g.length : Nat) * acc (dif g) g.length + acc (dif g) ((n - t.length + 1) % g.length) := by
  unfold val
  rw [if_neg (by omega)]
  have e := Nat.mod_add_div (n - t.length + 1) g.length
  rw [Nat.mul_comm, Nat.add_comm] at e
  rw [← e, acc_mul dif_pd, e, Int.add_assoc]
/-- the normal form -/
structure NF (t g : List Int) : Prop where
  told : 0 < t.length
  gains : 0 < g.length
  least : Least (dif g) g.length
  few : t.length = 1 ∨ at' t (t.length - 1) - at' t (t.length - 2) ≠ lst g
/-- by how much the values rise -/
def rise (t g : List Int) (n : Nat) : Int := val t g (n + 1) - val t g n
theorem rise_ge (h0 : 0 < t.length) (h : t.length - 1 ≤ n) : rise t g n = dif g (n - (t.length - 1)) := by
  have := val_step (g := g) h0 (n - (t.length - 1))
  rwa [show t.length - 1 + (n - (t.length - 1)) = n by omega] at this
/-- the number of gains is the least number by which the rises come round at last -/
theorem least_end (h : NF t g) {q : Nat} (hq : 0 < q) {m : Nat} (hm : ∀ n, m ≤ n → rise t g (n + q) = rise t g n) : g.length ≤ q := by
  refine h.least.le q hq fun k => ?_
  have a := hm (t.length - 1 + (k + m * g.length)) (by have : m ≤ m * g.length := Nat.le_mul_of_pos_right m h.gains; omega)
  rw [rise_ge h.told (by omega), rise_ge h.told (by omega)] at a
  rw [show t.length - 1 + (k + m * g.length) + q - (t.length - 1) = k + q + m * g.length by omega, show t.length - 1 + (k + m * g.length) - (t.length - 1) = k + m * g.length by omega] at a
  rwa [dif_pd.mul, dif_pd.mul] at a
theorem end_pd (h : NF t g) (n : Nat) (hn : t.length - 1 ≤ n) : rise t g (n + g.length) = rise t g n := by
  rw [rise_ge h.told (by omega), rise_ge h.told hn, show n + g.length - (t.length - 1) = n - (t.length - 1) + g.length by omega]
  exact dif_pd _
theorem at_eq_of {a b : List Int} (hl : a.length = b.length) (h : ∀ i, i < a.length → at' a i = at' b i) : a = b := by
  refine List.ext_getElem? fun i => ?_
  rcases Nat.lt_or_ge i a.length with h1 | h1
  · have := h i h1
    unfold at' at this
    rw [List.getD_eq_getElem?_getD, List.getD_eq_getElem?_getD] at this
    rw [List.getElem?_eq_getElem h1, List.getElem?_eq_getElem (hl ▸ h1)] at this ⊢
    exact congrArg some this
  · rw [List.getElem?_eq_none h1, List.getElem?_eq_none (hl ▸ h1)]
theorem told_le (h : NF t g) (h' : NF t' g') (e : ∀ n, val t g n = val t' g' n) (eg : g.length = g'.length) : t'.length ≤ t.length := by
  rcases Nat.lt_or_ge t.length t'.length with hl | hl
  · exfalso
    have re : ∀ n, rise t g n = rise t' g' n := fun n => by unfold rise; rw [e, e]
    rcases h'.few with z | z
    · have := h.told; omega
    · apply z
      have t0 := h.told
      have a : rise t' g' (t'.length - 2) = at' t' (t'.length - 1) - at' t' (t'.length - 2) := by
        unfold rise
        rw [show t'.length - 2 + 1 = t'.length - 1 by omega, val_lt (by omega), val_lt (by omega)]
      have b : rise t' g' (t'.length - 2 + g.length) = lst g' := by
        have g0 := h.gains
        rw [rise_ge h'.told (by omega), show t'.length - 2 + g.length - (t'.length - 1) = g'.length - 1 by omega, dif_lt (by omega)]
        rfl
      rw [← a, ← b, ← re, ← re]
      exact (end_pd h _ (by omega)).symm
  · exact hl
/-- one normal form -/
theorem nf_one (h : NF t g) (h' : NF t' g') (e : ∀ n, val t g n = val t' g' n) : t = t' ∧ g = g' := by
  have re : ∀ n, rise t g n = rise t' g' n := fun n => by unfold rise; rw [e, e]
  have l1 : g.length ≤ g'.length := least_end h h'.gains (m := t'.length - 1) fun n hn => by rw [re, re]; exact end_pd h' n hn
  have l2 : g'.length ≤ g.length := least_end h' h.gains (m := t.length - 1) fun n hn => by rw [← re, ← re]; exact end_pd h n hn
  have eg : g.length = g'.length := Nat.le_antisymm l1 l2
  have et : t.length = t'.length := Nat.le_antisymm (told_le h' h (fun n => (e n).symm) eg.symm) (told_le h h' e eg)
  refine ⟨at_eq_of et fun i hi => ?_, at_eq_of eg fun i hi => ?_⟩
  · have := e i
    rwa [val_lt hi, val_lt (et ▸ hi)] at this
  · have a := rise_ge (g := g) h.told (n := t.length - 1 + i) (by omega)
    have b := rise_ge (g := g') h'.told (n := t.length - 1 + i) (by omega)
    rw [re, b, show t.length - 1 + i - (t.length - 1) = i by omega, show t.length - 1 + i - (t'.length - 1) = i by omega, dif_lt hi, dif_lt (eg ▸ hi)] at a
    exact a.symm
end
/-! ### told values that the gains give anyway -/
section
variable {t g : List Int} {s : Nat}
/-- the gain that would be i steps ahead of the first one -/
def back (g : List Int) (s : Nat) : Int := at' g (g.length - 1 - s % g.length)
/-- the last s told values are those that the gains give -/
def Spr (t g : List Int) (s : Nat) : Prop := s < t.length ∧ ∀ i, i < s → at' t (t.length - 1 - i) - at' t (t.length - 1 - i - 1) = back g i
theorem spr_zero (h : 0 < t.length) : Spr t g 0 := ⟨h, fun i hi => absurd hi (Nat.not_lt_zero i)⟩
theorem spr_step (h : Spr t g s) (hs : s < t.length - 1) (e : at' t (t.length - 1 - s) - at' t (t.length - 1 - s - 1) = back g s) : Spr t g (s + 1) :=
  ⟨by omega, fun i hi => by
    rcases Nat.lt_or_ge i s with z | z
    · exact h.2 i z
    · rw [show i = s by omega]
      exact e⟩
/-- told values and gains without the last s told values -/
def cutT (t : List Int) (s : Nat) : List Int := t.take (t.length - s)
def cutG (g : List Int) (s : Nat) : List Int := g.drop (g.length - s % g.length) ++ g.take (g.length - s % g.length)
theorem cutT_len (hs : s < t.length) : (cutT t s).length = t.length - s := by
  unfold cutT
  rw [List.length_take]
  omega
theorem cutG_len : (cutG g s).length = g.length := by
  unfold cutG
  rw [List.length_append, List.length_drop, List.length_take]
  omega
theorem at_take {l : List Int} {n i : Nat} (h : i < n) : at' (l.take n) i = at' l i := by
  unfold at'
  rw [List.getD_eq_getElem?_getD, List.getD_eq_getElem?_getD, List.getElem?_take_of_lt h]
theorem at_drop {l : List Int} {n i : Nat} : at' (l.drop n) i = at' l (n + i) := by
  unfold at'
  rw [List.getD_eq_getElem?_getD, List.getD_eq_getElem?_getD, List.getElem?_drop]
theorem at_app {a b : List Int} {i : Nat} : at' (a ++ b) i = if i < a.length then at' a i else at' b (i - a.length) := by
  unfold at'
  rw [List.getD_eq_getElem?_getD, List.getD_eq_getElem?_getD, List.getD_eq_getElem?_getD]
  by_cases h : i < a.length
  · rw [if_pos h, List.getElem?_append_left h]
  · rw [if_neg h, List.getElem?_append_right (by omega)]
/-- the gains turned: each one s places later -/
theorem dif_cut (hg : 0 < g.length) (k : Nat) : dif (cutG g s) (k + s) = dif g k := by
  have hr : s % g.length < g.length := Nat.mod_lt _ hg
  have hk : k % g.length < g.length := Nat.mod_lt _ hg
  unfold dif
  rw [cutG_len, Nat.add_mod]
  unfold cutG
  generalize s % g.length = r at hr ⊢
  generalize k % g.length = q at hk ⊢
  rw [at_app, List.length_drop, show g.length - (g.length - r) = r by omega]
  rcases Nat.lt_or_ge (q + r) g.length with h | h
  · rw [Nat.mod_eq_of_lt h, if_neg (by omega), at_take (by omega), show q + r - r = q by omega]
  · rw [Nat.mod_eq_sub_mod h, Nat.mod_eq_of_lt (by omega), if_pos (by omega), at_drop, show g.length - r + (q + r - g.length) = q by omega]
theorem dif_cut' (hg : 0 < g.length) {k : Nat} (h : s ≤ k) : dif (cutG g s) k = dif g (k - s) := by
  have := dif_cut (s := s) hg (k - s)
  rwa [show k - s + s = k by omega] at this
/-- the gain i places ahead of the first one, told of the turned ones -/
theorem back_cut (hg : 0 < g.length) {i : Nat} (hi : i < s) : dif (cutG g s) (s - 1 - i) = back g i := by
  have p := (dif_pd (g := cutG g s)).mul (i + 1) (s - 1 - i)
  rw [cutG_len] at p
  rw [← p, dif_cut' hg (by have : i + 1 ≤ (i + 1) * g.length := Nat.le_mul_of_pos_right _ hg; omega)]
  unfold dif back
  congr 1
  have hr : i % g.length < g.length := Nat.mod_lt _ hg
  have e := Nat.mod_add_div i g.length
  generalize i % g.length = r at hr e ⊢
  generalize i / g.length = c at e
  have e3 : (i + 1) * g.length = i * g.length + g.length := by rw [Nat.add_mul, Nat.one_mul]
  have e5 : c * g.length = g.length * c := Nat.mul_comm _ _
  have i0 : i ≤ i * g.length := Nat.le_mul_of_pos_right _ hg
  have cl : c ≤ i := by
    have := Nat.le_mul_of_pos_left c hg
    omega
  -- the number of whole rounds left
  have e4 : s - 1 - i + (i + 1) * g.length - s = g.length - 1 - r + (i - c) * g.length := by
    have : (i - c) * g.length = i * g.length - c * g.length := Nat.sub_mul _ _ _
    have le2 : c * g.length ≤ i * g.length := Nat.mul_le_mul_right _ cl
    omega
  rw [e4, Nat.add_mul_mod_self_right, Nat.mod_eq_of_lt (by omega)]
theorem back_zero (hg : 0 < g.length) : back g 0 = lst g := by
  unfold back lst
  rw [Nat.zero_mod, Nat.sub_zero]
/-- what stands s places ahead of the last told value, by the gains -/
theorem spr_told (h : Spr t g s) : ∀ i, i ≤ s → at' t (t.length - 1 - s + i) = lst (cutT t s) + acc (fun k => back g (s - 1 - k)) i
  | 0, _ => by
    have := h.1
    show _ = lst (cutT t s) + 0
    unfold lst
    rw [cutT_len h.1, Int.add_zero]
    unfold cutT
    rw [at_take (by omega), Nat.add_zero, show t.length - s - 1 = t.length - 1 - s by omega]
  | i + 1, hi => by
    have h1 := h.1
    have a := spr_told h i (by omega)
    have b := h.2 (s - 1 - i) (by omega)
    rw [show t.length - 1 - (s - 1 - i) = t.length - 1 - s + (i + 1) by omega, show t.length - 1 - s + (i + 1) - 1 = t.length - 1 - s + i by omega, a] at b
    show _ = lst (cutT t s) + (acc _ i + back g (s - 1 - i))
    omega
/-- the same values -/
theorem val_cut (hg : 0 < g.length) (h : Spr t g s) (n : Nat) : val (cutT t s) (cutG g s) n = val t g n := by
  have h1 := h.1
  have len := cutT_len (t := t) h1
  rcases Nat.lt_or_ge n (t.length - s) with a | a
  · rw [val_lt (by omega), val_lt (by omega)]
    unfold cutT
    rw [at_take a]
  · obtain ⟨k, rfl⟩ : ∃ k, n = t.length - s - 1 + k := ⟨n - (t.length - s - 1), by omega⟩
    have v := val_ge (g := cutG g s) (t := cutT t s) (by omega) k
    rw [len] at v
    rw [v]
    have b : ∀ i, i < s → dif (cutG g s) i = back g (s - 1 - i) := fun i hi => by
      have := back_cut (g := g) (s := s) hg (i := s - 1 - i) (by omega)
      rwa [show s - 1 - (s - 1 - i) = i by omega] at this
    rcases Nat.lt_or_ge k (s + 1) with c | c
    · rw [val_lt (by omega), show t.length - s - 1 + k = t.length - 1 - s + k by omega, spr_told h k (by omega), acc_congr k fun i hi => b i (by omega)]
    · obtain ⟨j, rfl⟩ : ∃ j, k = s + j := ⟨k - s, by omega⟩
      rw [acc_add, acc_congr s b, acc_congr (e := dif g) j fun i _ => by rw [Nat.add_comm s i]; exact dif_cut hg i]
      have l := spr_told h s (Nat.le_refl s)
      rw [show t.length - 1 - s + s = t.length - 1 by omega] at l
      rw [show t.length - s - 1 + (s + j) = t.length - 1 + j by omega, val_ge (by omega)]
      unfold lst at l ⊢
      rw [l]
      omega
theorem least_cut (hg : 0 < g.length) (h : Least (dif g) g.length) : Least (dif (cutG g s)) (cutG g s).length := by
  refine ⟨by rw [cutG_len]; exact hg, dif_pd, fun q hq hp => ?_⟩
  rw [cutG_len]
  refine h.le q hq fun k => ?_
  have := hp (k + s)
  rw [show k + s + q = k + q + s by omega, dif_cut hg, dif_cut hg] at this
  exact this
/-- the search of told values has come to its end: the normal form -/
theorem nf_cut (hg : 0 < g.length) (l : Least (dif g) g.length) (h : Spr t g s) (e : s = t.length - 1 ∨ at' t (t.length - 1 - s) - at' t (t.length - 1 - s - 1) ≠ back g s) : NF (cutT t s) (cutG g s) := by
  have h1 := h.1
  have len := cutT_len (t := t) h1
  refine ⟨by omega, by rw [cutG_len]; exact hg, least_cut hg l, ?_⟩
  rcases e with e | e
  · left
    omega
  · by_cases z : t.length - s = 1
    · left
      omega
    · right
      rw [len]
      unfold cutT
      rw [at_take (by omega), at_take (by omega), show t.length - s - 1 = t.length - 1 - s by omega, show t.length - s - 2 = t.length - 1 - s - 1 by omega]
      have q : lst (cutG g s) = back g s := by
        have a := back_cut (g := g) (s := s + 1) hg (i := s) (Nat.lt_succ_self s)
        have r : dif (cutG g (s + 1)) (s + 1 - 1 - s) = dif (cutG g s) (g.length - 1) := by
          rw [show s + 1 - 1 - s = 0 by omega]
          have p := (dif_pd (g := cutG g (s + 1))).mul (s + 1) 0
          rw [cutG_len] at p
          have m : s + 1 ≤ (s + 1) * g.length := Nat.le_mul_of_pos_right _ hg
          rw [← p, dif_cut' hg (by omega)]
          have p2 := (dif_pd (g := cutG g s)).mul s (g.length - 1)
          rw [cutG_len] at p2
          have m2 : s ≤ s * g.length := Nat.le_mul_of_pos_right _ hg
          have e3 : (s + 1) * g.length = s * g.length + g.length := by rw [Nat.add_mul, Nat.one_mul]
          rw [← p2, dif_cut' hg (by omega)]
          congr 1
          omega
        rw [r, dif_lt (by rw [cutG_len]; omega)] at a
        unfold lst
        rw [cutG_len]
        exact a
      rw [q]
      exact e
end
end Gr
namespace Gr
/-! ### told values and gains of a sequence that rises in rounds at last -/
section
variable {f : Nat → Int} {b l : Nat}
def pT (f : Nat → Int) (b : Nat) : List Int := (List.range b).map f
def pG (f : Nat → Int) (b l : Nat) : List Int := (List.range l).map fun k => f (b + k) - f (b + k - 1)
theorem pT_len : (pT f b).length = b := by unfold pT; rw [List.length_map, List.length_range]
theorem pG_len : (pG f b l).length = l := by unfold pG; rw [List.length_map, List.length_range]
theorem at_map_range {h : Nat → Int} {n i : Nat} (hi : i < n) : at' ((List.range n).map h) i = h i := by
  unfold at'
  rw [List.getD_eq_getElem?_getD, List.getElem?_map, List.getElem?_range hi]
  rfl
theorem val_parted (hb : 0 < b) (hl : 0 < l) (h : ∀ n, b - 1 ≤ n → f (n + l + 1) - f (n + l) = f (n + 1) - f n) (n : Nat) : val (pT f b) (pG f b l) n = f n := by
  have lt := pT_len (f := f) (b := b)
  have lg := pG_len (f := f) (b := b) (l := l)
  rcases Nat.lt_or_ge n b with a | a
  · rw [val_lt (by omega)]
    exact at_map_range a
  · obtain ⟨k, rfl⟩ : ∃ k, n = b - 1 + k := ⟨n - (b - 1), by omega⟩
    have v := val_ge (t := pT f b) (g := pG f b l) (by omega) k
    rw [lt] at v
    rw [v]
    have d : ∀ i, dif (pG f b l) i = f (b - 1 + i + 1) - f (b - 1 + i) := fun i => by
      unfold dif
      rw [lg]
      have hi : i % l < l := Nat.mod_lt _ hl
      have e : at' (pG f b l) (i % l) = f (b + i % l) - f (b + i % l - 1) := at_map_range hi
      rw [e, show b + i % l = b - 1 + i % l + 1 by omega, Nat.add_sub_cancel]
      have p : Pd (fun i => f (b - 1 + i + 1) - f (b - 1 + i)) l := fun i => by
        have := h (b - 1 + i) (by omega)
        rw [show b - 1 + i + l = b - 1 + (i + l) by omega] at this
        exact this
      exact p.mod i
    have la : lst (pT f b) = f (b - 1) := by
      unfold lst
      rw [lt]
      exact at_map_range (by omega)
    rw [la]
    clear v
    induction k with
    | zero => show f (b - 1) + 0 = f (b - 1 + 0); rw [Int.add_zero, Nat.add_zero]
    | succ k ih =>
      show f (b - 1) + (acc _ k + dif (pG f b l) k) = f (b - 1 + (k + 1))
      have ih' : f (b - 1) + acc (dif (pG f b l)) k = f (b - 1 + k) := by
        rcases Nat.lt_or_ge (b - 1 + k) b with c | c
        · have : k = 0 := by omega
          subst this
          show f (b - 1) + 0 = f (b - 1 + 0)
          rw [Int.add_zero, Nat.add_zero]
        · exact ih c
      rw [d k, ← Int.add_assoc, ih', ← Nat.add_assoc]
      omega
end
/-! ### sums -/
section
variable {t g t' g' : List Int}
/-- rises of a growth come round behind its told values, by each number of which its gains are a divisor -/
theorem rise_pd (h0 : 0 < t.length) {l n : Nat} (hd : g.length ∣ l) (hn : t.length - 1 ≤ n) : val t g (n + l + 1) - val t g (n + l) = val t g (n + 1) - val t g n := by
  have a := rise_ge (g := g) h0 (n := n + l) (by omega)
  have b := rise_ge (g := g) h0 hn
  unfold rise at a b
  rw [a, b, show n + l - (t.length - 1) = n - (t.length - 1) + l by omega]
  obtain ⟨c, rfl⟩ := hd
  rw [Nat.mul_comm]
  exact dif_pd.mul c _
theorem val_sum (h0 : 0 < t.length) (h0' : 0 < t'.length) {b l : Nat} (hb : t.length ≤ b) (hb' : t'.length ≤ b) (hl : 0 < l) (hd : g.length ∣ l) (hd' : g'.length ∣ l) (n : Nat) :
    val (pT (fun n => val t g n + val t' g' n) b) (pG (fun n => val t g n + val t' g' n) b l) n = val t g n + val t' g' n := by
  refine val_parted (by omega) hl (fun n hn => ?_) n
  have a := rise_pd (g := g) h0 (l := l) (n := n) hd (by omega)
  have c := rise_pd (g := g') h0' (l := l) (n := n) hd' (by omega)
  omega
/-! ### each value so many times -/
def sc (k : Int) (l : List Int) : List Int := l.map fun x => k * x
theorem sc_len {k : Int} {l : List Int} : (sc k l).length = l.length := List.length_map _
theorem sc_at {k : Int} {l : List Int} {i : Nat} : at' (sc k l) i = k * at' l i := by
  unfold at' sc
  rw [List.getD_eq_getElem?_getD, List.getD_eq_getElem?_getD, List.getElem?_map]
  cases l[i]? with
  | none => show (0 : Int) = k * 0; rw [Int.mul_zero]
  | some x => rfl
theorem acc_sc {k : Int} {d : Nat → Int} : ∀ n, acc (fun i => k * d i) n = k * acc d n
  | 0 => (Int.mul_zero k).symm
  | n + 1 => by
    show acc _ n + k * d n = k * (acc d n + d n)
    rw [acc_sc n, Int.mul_add]
theorem val_sc {k : Int} {n : Nat} : val (sc k t) (sc k g) n = k * val t g n := by
  have d : dif (sc k g) = fun i => k * dif g i := funext fun i => by unfold dif; rw [sc_len, sc_at]
  unfold val
  rw [sc_len]
  by_cases h : n < t.length
  · rw [if_pos h, if_pos h, sc_at]
  · rw [if_neg h, if_neg h, d, acc_sc, Int.mul_add]
    unfold lst
    rw [sc_len, sc_at]
/-! ### begun later -/
/-- the gains turned the other way -/
def rot (g : List Int) (r : Nat) : List Int := g.drop r ++ g.take r
theorem rot_len {r : Nat} (h : r ≤ g.length) : (rot g r).length = g.length := by
  unfold rot
  rw [List.length_append, List.length_drop, List.length_take]
  omega
theorem dif_rot {r : Nat} (h : r < g.length) (k : Nat) : dif (rot g r) k = dif g (k + r) := by
  unfold dif
  rw [rot_len (Nat.le_of_lt h), Nat.add_mod, Nat.mod_eq_of_lt h]
  have hk : k % g.length < g.length := Nat.mod_lt _ (by omega)
  generalize k % g.length = q at hk ⊢
  unfold rot
  rw [at_app, List.length_drop]
  rcases Nat.lt_or_ge (q + r) g.length with c | c
  · rw [Nat.mod_eq_of_lt c, if_pos (by omega), at_drop, Nat.add_comm]
  · rw [Nat.mod_eq_sub_mod c, Nat.mod_eq_of_lt (by omega), if_neg (by omega), at_take (by omega)]
    congr 1
    omega
/-- still within the told values -/
theorem val_shift1 {m : Nat} (hm : m < t.length) (n : Nat) : val (t.drop m) g n = val t g (n + m) := by
  have l : (t.drop m).length = t.length - m := List.length_drop
  rcases Nat.lt_or_ge n (t.length - m) with a | a
  · rw [val_lt (by omega), val_lt (by omega), at_drop, Nat.add_comm]
  · obtain ⟨k, rfl⟩ : ∃ k, n = t.length - m - 1 + k := ⟨n - (t.length - m - 1), by omega⟩
    have v := val_ge (t := t.drop m) (g := g) (by omega) k
    rw [l] at v
    rw [v, show t.length - m - 1 + k + m = t.length - 1 + k by omega, val_ge (by omega)]
    unfold lst
    rw [l, at_drop, show m + (t.length - m - 1) = t.length - 1 by omega]
/-- behind them -/
theorem val_shift2 {m : Nat} (h0 : 0 < t.length) (hg : 0 < g.length) (hm : t.length ≤ m) (n : Nat) : val [val t g m] (rot g ((m - t.length + 1) % g.length)) n = val t g (n + m) := by
  have hr : (m - t.length + 1) % g.length < g.length := Nat.mod_lt _ hg
  have v := val_ge (t := [val t g m]) (g := rot g ((m - t.length + 1) % g.length)) Nat.one_pos n
  rw [show [val t g m].length - 1 + n = n from Nat.zero_add n] at v
  rw [v, show n + m = t.length - 1 + (m - t.length + 1 + n) by omega, val_ge h0, acc_add]
  have e : lst [val t g m] = lst t + acc (dif g) (m - t.length + 1) := by
    show val t g m = _
    have := val_ge (g := g) h0 (m - t.length + 1)
    rwa [show t.length - 1 + (m - t.length + 1) = m by omega] at this
  rw [e, Int.add_assoc]
  congr 2
  refine acc_congr n fun k _ => ?_
  rw [dif_rot hr]
  have p := (dif_pd (g := g)).mul ((m - t.length + 1) / g.length) (k + (m - t.length + 1) % g.length)
  have q := Nat.mod_add_div (m - t.length + 1) g.length
  rw [Nat.mul_comm] at q
  rw [← p]
  congr 1
  omega
end
end Gr
namespace K02
open PySem L2 Evl Gr
abbrev sLP : Stmt := top 14
/-- a list or a tuple -/
def Sq (K : PySem.W.Frag) (H : Hp) (a : Addr) (xs : List V) : Prop := SqL K H a xs ∨ SqT K H a xs
theorem Sq.mono {K : PySem.W.Frag} {H H' : Hp} {a : Addr} {xs : List V} (e : Ex H H') (h : Sq K H a xs) : Sq K H' a xs := h.elim (fun h => .inl (ex_l e h)) fun h => .inr (ex_t e h)
def vI (g : List Int) : List V := g.map V.int
theorem vI_len {g : List Int} : (vI g).length = g.length := List.length_map _
theorem vI_get {g : List Int} {i : Nat} (h : i < g.length) : (vI g)[i]? = some (V.int (at' g i)) := by
  unfold vI at'
  rw [List.getElem?_map, List.getD_eq_getElem?_getD, List.getElem?_eq_getElem h]
  rfl
theorem rv_ix {K : PySem.W.Frag} {H : Hp} {p : Addr} {xs : List V} {i : Int} {v : V} (h : Sq K H p xs) (ha : atI xs i = some v) : RV (rIx K) (.ref p) (.int i) H v := fun H1 e Q q => by
  rcases h with h | h
  · exact .inl ⟨p, xs, i, v, rfl, rfl, ex_l e h, ha, q H1 (Ex.refl H1)⟩
  · exact .inr (.inl ⟨p, xs, i, v, rfl, rfl, ex_t e h, ha, q H1 (Ex.refl H1)⟩)
theorem rc_lenQ {K : PySem.W.Frag} {p : Addr} {xs : List V} {H : Hp} (h : Sq K H p xs) : RC (fun xs H Q => ∃ p ys, xs = [V.ref p] ∧ (SqL K H p ys ∨ SqT K H p ys) ∧ Q (.int ys.length) H) [.ref p] H (.int (xs.length : Int)) := fun H1 e _ q => ⟨p, xs, rfl, h.mono e, q H1 (Ex.refl H1)⟩
theorem st_asI {K : PySem.W.Frag} {H : Hp} {a : Addr} {g : List Int} (h : H a = some (.lst (vI g))) : Sq K H a (vI g) := .inl (sq_of h)
theorem atI_vI {g : List Int} {i : Nat} (h : i < g.length) : atI (vI g) (i : Int) = some (V.int (at' g i)) := atI_nat (vI_get h)
theorem atI_vlast {g : List Int} (h : 0 < g.length) : atI (vI g) (-1) = some (V.int (at' g (g.length - 1))) := by
  have e : ixN (vI g).length (-1) = some (g.length - 1) := by
    unfold ixN
    rw [vI_len, if_neg (by decide), if_pos (by omega)]
    congr 1
    omega
  unfold atI
  rw [e]
  exact vI_get (by omega)
theorem vI_app {g : List Int} {x : Int} : vI g ++ [V.int x] = vI (g ++ [x]) := by unfold vI; rw [List.map_append]; rfl
theorem vint_inj {x y : Int} : decide (V.int x = V.int y) = decide (x = y) := by
  by_cases h : x = y
  · rw [decide_eq_true h, decide_eq_true (congrArg V.int h)]
  · rw [decide_eq_false h, decide_eq_false fun z => h (V.int.inj z)]
/-- the longest borders of the beginnings -/
def Bs (g bs : List Int) : Prop := ∀ j, j < bs.length → ∃ w : Nat, at' bs j = (w : Int) ∧ Lb g (j + 1) w
theorem Bs.add {g bs : List Int} {w : Nat} (h : Bs g bs) (l : Lb g (bs.length + 1) w) : Bs g (bs ++ [(w : Int)]) := fun j hj => by
  rw [List.length_append] at hj
  have hj' : j < bs.length + 1 := hj
  rcases Nat.lt_or_ge j bs.length with z | z
  · rw [at_app, if_pos z]
    exact h j z
  · have e : j = bs.length := by omega
    subst e
    rw [at_app, if_neg (Nat.lt_irrefl _), Nat.sub_self]
    exact ⟨w, rfl, l⟩
structure GlbS (mg : Str → Option Value) : Prop where
  len : mg "len" = none
  range : mg "range" = none
  tuple : mg "tuple" = none
  list : mg "list" = none
section
variable {P : Program} {w : World} {K : PySem.W.Frag} {mg : Str → Option Value} {base : Heap}
/-! ### least_period -/
def spLP (K : PySem.W.Frag) : Sp := fun vs H Q _ => ∃ (a : Addr) (g : List Int), vs = [.ref a] ∧ Sq K H a (vI g) ∧ 0 < g.length ∧ g.length ≤ 4000 ∧
  ∀ p : Nat, Least (dif g) p → p ≤ g.length → p ∣ g.length → RetV (.int (p : Int)) H Q
theorem scLP : FnScope ["gains", "borders", "at", "width", "period"] ["gains"] (defScope sLP) := ⟨rfl, rfl, rfl, by decide +kernel, rfl, by decide +kernel, by decide +kernel⟩
theorem ok_LP {f : Addr} {fd : FuncData} (F : Fun K "least_period" "least_period" sLP f fd) (T : GlbS mg) : FnOk P w K mg base CX0 1 f fd ["gains"] (spLP K) := by
  refine F.ok scLP (fun vs H Q E h => ?_) (fun cdv A outer s H vs Q E hr h => ?_)
  · obtain ⟨a, g, rfl, _⟩ := h
    rfl
  · obtain ⟨a, g, rfl, hS, g0, g1, k⟩ := h
    refine ⟨_, pss_cons (ps_set (i := 1) scLP.nd rfl (.inl rfl) (pe_lst (pa_cons pe_int pa_nil)))
      (pss_cons (ps_for PassesOwn.never rfl (pi_range2 (by rfl) T.range (pa_cons pe_int (pa_cons (pe_callB call_len_seq (by rfl) T.len PySem.boot_len (pa_cons (pv 0) pa_nil)) pa_nil))) (pg_name (i := 2) scLP.nd rfl (.inl rfl))
        (pss_cons (ps_set (i := 3) scLP.nd rfl (.inl rfl) (pe_ix ix_list (pv 1) (pe_op op_sub (pv 2) pe_int) (fun _ _ => rfl)))
        (pss_cut (ps_while PassesOwn.never (PW.pt (pw_and (pt_cmpR op_gt (pv 3) pe_int (nomark _)) (pw_and1 (pt_cmpR op_ne (pe_ix ix_seq (pv 0) (pv 2) (fun _ _ => rfl)) (pe_ix ix_seq (pv 0) (pv 3) (fun _ _ => rfl)) (nomark _)))))
          (pss_one (ps_set (i := 3) scLP.nd rfl (.inl rfl) (pe_ix ix_list (pv 1) (pe_op op_sub (pv 3) pe_int) (fun _ _ => rfl)))))
        (pss_cut (ps_if (pt_cmpR op_eq (pe_ix ix_seq (pv 0) (pv 2) (fun _ _ => rfl)) (pe_ix ix_seq (pv 0) (pv 3) (fun _ _ => rfl)) (nomark _)) (pss_one (ps_aug (i := 3) scLP.nd rfl (.inl rfl) pe_int ip_add)) pss_nil)
        (pss_one (ps_expr (pe_bm PySem.F.plainAttrs_list PySem.F.slot_list_append PySem.F.type_list_append mt_append (pv 1) (pa_cons (pv 3) pa_nil))))))))
      (pss_cons (ps_set (i := 4) scLP.nd rfl (.inl rfl) (pe_op op_sub (pe_callB call_len_seq (by rfl) T.len PySem.boot_len (pa_cons (pv 0) pa_nil)) (pe_ix ix_list (pv 1) (pe_un un_neg pe_int) (fun _ _ => rfl))))
      (pss_cons (ps_if (pt_cmpR op_eq (pe_op op_mod (pe_callB call_len_seq (by rfl) T.len PySem.boot_len (pa_cons (pv 0) pa_nil)) (pv 4)) pe_int (nomark _)) (pss_one (ps_ret (pv 4))) pss_nil)
      (pss_one (ps_ret (pe_callB call_len_seq (by rfl) T.len PySem.boot_len (pa_cons (pv 0) pa_nil))))))), ?_⟩
    have hB : ∀ {H' : Hp}, Ex H H' → Sq K H' a (vI g) := fun e => hS.mono e
    refine q_asgL (xs := vI [0]) (el_lst (ea_cons ev_c ea_nil) (Nat.le_of_ble_eq_true rfl)) fun b H1 hb e1 h1 => ?_
    -- the loop over the places
    refine q_forR2 (lo := 1) (n := (g.length : Int)) (ea_cons ev_c (ea_cons (ev_is (ev_cb (ea_cons (ev_var rfl) ea_nil) (rc_lenQ (hB e1))) (by rw [vI_len])) ea_nil)) (by omega)
      (fun i σ' H' => ∃ (bs : List Int) (x2 x3 : Option V), σ' = [some (.ref a), some (.ref b), x2, x3, none] ∧ H' b = some (.lst (vI bs)) ∧ Ex H H' ∧ bs.length = i + 1 ∧ Bs g bs)
      (fun H2 e2 => ⟨[0], _, _, rfl, e2 _ _ h1, e1.trans e2, rfl, fun j hj => by
        have hj' : j < 1 := hj
        have z : j = 0 := by omega
        subst z
        exact ⟨0, rfl, lb_one⟩⟩) ?_ ?_
    · rintro i σ' H2 hi ⟨bs, x2, x3, rfl, hb2, e2, hl, hbs⟩
      obtain ⟨w0, hw0, lb0⟩ := hbs i (by omega)
      have hi1 : i + 1 < g.length := by omega
      have ei : (1 : Int) + (i : Int) = ((i + 1 : Nat) : Int) := by omega
      show tSeq _ _ _ _ _
      refine q_asg (v := .int (w0 : Int)) (ev_op (y := .int (i : Int)) (ev_var rfl) (ev_is (ev_op (ev_var rfl) ev_c rv_I0) (by congr 1; omega)) (rv_ixL (sq_of hb2) (by rw [atI_vI (by omega), hw0]))) fun H3 e3 => ?_
      have hb3 := e3 _ _ hb2
      have E3 := e2.trans e3
      have gat : ∀ {σ'' : L2.St} {H' : Hp} {t : TE} {m : Nat}, Ex H H' → m < g.length → σ''[0]? = some (some (.ref a)) → Ev t σ'' H' (.int (m : Int)) → Ev (tOp (rIx K) (tVar 0) t) σ'' H' (.int (at' g m)) := fun e hm h0 ht => ev_op (ev_var h0) ht (rv_ix (hB e) (atI_vI hm))
      -- the search
      refine q_cut (M := fun σ' H' => ∃ w : Nat, σ' = [some (.ref a), some (.ref b), some (.int ((i + 1 : Nat) : Int)), some (.int (w : Int)), none] ∧ H' b = some (.lst (vI bs)) ∧ Ex H H' ∧ Srch g (i + 1) w ∧ (w = 0 ∨ at' g (i + 1) = at' g w)) ?_ ?_
      · refine s_while (fun m σ' H' => σ' = [some (.ref a), some (.ref b), some (.int ((i + 1 : Nat) : Int)), some (.int (m : Int)), none] ∧ H' b = some (.lst (vI bs)) ∧ Ex H H' ∧ Srch g (i + 1) m) w0 ⟨by rw [← ei]; rfl, hb3, E3, srch_start lb0⟩ ?_
        rintro m σ' H4 ⟨rfl, hb4, E4, sr⟩
        have hm := sr.1.1
        refine ⟨_, et_and (et_test (ev_op (ev_var rfl) ev_c rv_I0)) (fun _ => et_test (ev_op (gat E4 hi1 rfl (ev_var rfl)) (gat E4 (by omega) rfl (ev_var rfl)) (rv_ne rfl))), fun ht H5 e5 => ?_, fun ht H5 e5 => ?_⟩
        · obtain ⟨t1, t2⟩ := Bool.and_eq_true_iff.mp ht
          have m0 : 0 < m := by have := of_decide_eq_true t1; omega
          have ne : at' g (i + 1) ≠ at' g m := fun z => by rw [vint_inj, decide_eq_true z] at t2; exact absurd t2 (by decide)
          obtain ⟨w1, hw1, lb1⟩ := hbs (m - 1) (by omega)
          rw [show m - 1 + 1 = m by omega] at lb1
          have st := srch_step sr m0 ne lb1
          refine ⟨fun σ' H' => σ' = [some (.ref a), some (.ref b), some (.int ((i + 1 : Nat) : Int)), some (.int (w1 : Int)), none] ∧ H' b = some (.lst (vI bs)) ∧ Ex H H', fun σ2 H6 h6 => ⟨w1, st.2, h6.1, h6.2.1, h6.2.2, st.1⟩, ?_⟩
          exact s_asg (v := .int (w1 : Int)) (ev_op (y := .int ((m - 1 : Nat) : Int)) (ev_var rfl) (ev_is (ev_op (ev_var rfl) ev_c rv_I0) (by congr 1; omega)) (rv_ixL (sq_of (e5 _ _ hb4)) (by rw [atI_vI (by omega), hw1]))) fun H6 e6 => ⟨rfl, e6 _ _ (e5 _ _ hb4), (E4.trans e5).trans e6⟩
        · refine ⟨m, rfl, e5 _ _ hb4, E4.trans e5, sr, ?_⟩
          rcases Nat.eq_zero_or_pos m with z | z
          · exact .inl z
          · right
            rw [decide_eq_true (by omega : ((m : Int) > 0)), Bool.true_and, vint_inj] at ht
            by_cases q : at' g (i + 1) = at' g m
            · exact q
            · rw [decide_eq_false q] at ht
              exact absurd ht (by decide)
      rintro σ' H4 ⟨w, rfl, hb4, E4, sr, fin⟩
      have hw := sr.1.1
      -- one more, if the signs are the same
      refine q_cut (M := fun σ' H' => ∃ v : Nat, σ' = [some (.ref a), some (.ref b), some (.int ((i + 1 : Nat) : Int)), some (.int (v : Int)), none] ∧ H' b = some (.lst (vI bs)) ∧ Ex H H' ∧ Lb g (i + 2) v) ?_ ?_
      · refine s_when (et_test (ev_op (gat E4 hi1 rfl (ev_var rfl)) (gat E4 (by omega) rfl (ev_var rfl)) (rv_eq rfl))) (fun ht H5 e5 => ?_) (fun ht H5 e5 => ?_)
        · rw [vint_inj] at ht
          refine s_aug (f := fun x y => x + y) (a := (w : Int)) (b := 1) rfl ev_c fun H6 e6 => ⟨w + 1, rfl, e6 _ _ (e5 _ _ hb4), (E4.trans e5).trans e6, srch_yes sr (of_decide_eq_true ht)⟩
        · rw [vint_inj] at ht
          have ne := of_decide_eq_false ht
          have w0 : w = 0 := fin.elim id fun z => absurd z ne
          subst w0
          exact ⟨0, rfl, e5 _ _ hb4, E4.trans e5, srch_no sr ne⟩
      rintro σ' H5 ⟨v, rfl, hb5, E5, lb⟩
      refine s_app hb5 (ev_var rfl) (ev_var rfl) (by rw [vI_len]; omega) fun H6 e6 => ?_
      have hbn : H b = none := hb
      refine ⟨bs ++ [(v : Int)], _, _, rfl, ?_, (E5.trans e6).mut hbn, by rw [List.length_append, hl]; rfl, hbs.add (by rw [hl]; exact lb)⟩
      rw [upd_same, vI_app]
    · rintro σ' H2 ⟨bs, x2, x3, rfl, hb2, E2, hl, hbs⟩
      have hl' : bs.length = g.length := by rw [hl]; omega
      obtain ⟨w, hw, lb⟩ := hbs (g.length - 1) (by omega)
      rw [show g.length - 1 + 1 = g.length by omega] at lb
      have hwl := lb.bd.1
      have key := least_of g0 lb
      have ln : ∀ {σ'' : L2.St} {H' : Hp}, Ex H H' → σ''[0]? = some (some (.ref a)) → Ev (tCB (fun xs H Q => ∃ p ys, xs = [V.ref p] ∧ (SqL K H p ys ∨ SqT K H p ys) ∧ Q (.int ys.length) H) (tCons (tVar 0) tNil)) σ'' H' (.int (g.length : Int)) := fun e h0 => ev_is (ev_cb (ea_cons (ev_var h0) ea_nil) (rc_lenQ (hB e))) (by rw [vI_len])
      refine q_asg (v := .int ((g.length - w : Nat) : Int)) (ev_is (ev_op (ln E2 rfl) (ev_op (ev_var rfl) (ev_un ev_c ru_neg) (rv_ixL (sq_of hb2) (by rw [atI_vlast (by omega), hl', hw]))) rv_I0) (by congr 1; omega)) fun H3 e3 => ?_
      have E3 := E2.trans e3
      refine q_when (et_test (ev_op (ev_op (ln E3 rfl) (ev_var rfl) (rv_I (by omega))) ev_c (rv_eq rfl))) (fun ht H4 e4 => ?_) (fun ht H4 e4 => ?_)
      · rw [vint_inj] at ht
        have z := of_decide_eq_true ht
        have z' : g.length % (g.length - w) = 0 := by omega
        rw [if_pos z'] at key
        exact s_ret (ev_var rfl) fun H5 e5 => k _ key (by omega) (Nat.dvd_of_mod_eq_zero z') H5 ((E3.trans e4).trans e5)
      · rw [vint_inj] at ht
        have z := of_decide_eq_false ht
        have z' : ¬ g.length % (g.length - w) = 0 := by omega
        rw [if_neg z'] at key
        exact s_ret (ln (E3.trans e4) rfl) fun H5 e5 => k _ key (Nat.le_refl _) (Nat.dvd_refl _) H5 ((E3.trans e4).trans e5)
end
end K02
namespace K02
open PySem L2 Evl Gr
abbrev sST : Stmt := top 15
theorem atI_neg {g : List Int} {r : Nat} (h : r < g.length) : atI (vI g) (-1 - (r : Int)) = some (V.int (at' g (g.length - 1 - r))) := by
  have e : ixN (vI g).length (-1 - (r : Int)) = some (g.length - 1 - r) := by
    unfold ixN
    rw [vI_len, if_neg (by omega), if_pos (by omega)]
    congr 1
    omega
  unfold atI
  rw [e]
  exact vI_get (by omega)
section
variable {P : Program} {w : World} {K : PySem.W.Frag} {mg : Str → Option Value} {base : Heap}
/-! ### spare_told -/
def spST (K : PySem.W.Frag) : Sp := fun vs H Q _ => ∃ (a b : Addr) (t g : List Int), vs = [.ref a, .ref b] ∧ Sq K H a (vI t) ∧ Sq K H b (vI g) ∧ 0 < t.length ∧ t.length ≤ 4000 ∧ 0 < g.length ∧ g.length ≤ 4000 ∧
  ∀ s : Nat, Spr t g s → (s = t.length - 1 ∨ at' t (t.length - 1 - s) - at' t (t.length - 1 - s - 1) ≠ back g s) → RetV (.int (s : Int)) H Q
theorem scST : FnScope ["told", "gains", "spare", "last"] ["told", "gains"] (defScope sST) := ⟨rfl, rfl, rfl, by decide +kernel, rfl, by decide +kernel, by decide +kernel⟩
theorem ok_ST {f : Addr} {fd : FuncData} (F : Fun K "spare_told" "spare_told" sST f fd) (T : GlbS mg) : FnOk P w K mg base CX0 1 f fd ["told", "gains"] (spST K) := by
  refine F.ok scST (fun vs H Q E h => ?_) (fun cdv A outer s H vs Q E hr h => ?_)
  · obtain ⟨a, b, t, g, rfl, _⟩ := h
    rfl
  · obtain ⟨a, b, t, g, rfl, hT, hG, t0, t1, g0, g1, k⟩ := h
    refine ⟨_, pss_cons (ps_set (i := 2) scST.nd rfl (.inl rfl) pe_int)
      (pss_cons (ps_set (i := 3) scST.nd rfl (.inl rfl) (pe_op op_sub (pe_callB call_len_seq (by rfl) T.len PySem.boot_len (pa_cons (pv 0) pa_nil)) pe_int))
      (pss_cons (ps_while PassesOwn.never (PW.pt (pw_and (pt_cmpR op_lt (pv 2) (pv 3) (nomark _)) (pw_and1 (pt_cmpR op_eq
          (pe_op op_sub (pe_ix ix_seq (pv 0) (pe_op op_sub (pv 3) (pv 2)) (fun _ _ => rfl)) (pe_ix ix_seq (pv 0) (pe_op op_sub (pe_op op_sub (pv 3) (pv 2)) pe_int) (fun _ _ => rfl)))
          (pe_ix ix_seq (pv 1) (pe_op op_sub (pe_un un_neg pe_int) (pe_op op_mod (pv 2) (pe_callB call_len_seq (by rfl) T.len PySem.boot_len (pa_cons (pv 1) pa_nil)))) (fun _ _ => rfl)) (nomark _)))))
        (pss_one (ps_aug (i := 2) scST.nd rfl (.inl rfl) pe_int ip_add)))
      (pss_one (ps_ret (pv 2))))), ?_⟩
    refine q_asg ev_c fun H1 e1 => ?_
    refine q_asg (v := .int ((t.length - 1 : Nat) : Int)) (ev_is (ev_op (ev_cb (ea_cons (ev_var rfl) ea_nil) (rc_lenQ (hT.mono e1))) ev_c rv_I0) (by rw [vI_len]; congr 1; omega)) fun H2 e2 => ?_
    refine q_while (fun m σ' H' => ∃ s : Nat, m = t.length - s ∧ σ' = [some (.ref a), some (.ref b), some (.int (s : Int)), some (.int ((t.length - 1 : Nat) : Int))] ∧ Ex H H' ∧ Spr t g s) t.length ⟨0, rfl, rfl, e1.trans e2, spr_zero t0⟩ ?_
    rintro m σ' H3 ⟨s, rfl, rfl, E3, sp⟩
    have hs := sp.1
    have hr : s % g.length < g.length := Nat.mod_lt _ g0
    have lnG : Ev (tCB (fun xs H Q => ∃ p ys, xs = [V.ref p] ∧ (SqL K H p ys ∨ SqT K H p ys) ∧ Q (.int ys.length) H) (tCons (tVar 1) tNil)) [some (.ref a), some (.ref b), some (.int (s : Int)), some (.int ((t.length - 1 : Nat) : Int))] H3 (.int (g.length : Int)) :=
      ev_is (ev_cb (ea_cons (ev_var rfl) ea_nil) (rc_lenQ (hG.mono E3))) (by rw [vI_len])
    refine ⟨_, et_and (et_test (ev_op (ev_var rfl) (ev_var rfl) rv_I0)) (fun hlt => et_test (ev_op
      (ev_op (ev_op (y := .int ((t.length - 1 - s : Nat) : Int)) (ev_var rfl) (ev_is (ev_op (ev_var rfl) (ev_var rfl) rv_I0) (by congr 1; omega)) (rv_ix (hT.mono E3) (atI_vI (by omega))))
        (ev_op (y := .int ((t.length - 1 - s - 1 : Nat) : Int)) (ev_var rfl) (ev_is (ev_op (ev_op (ev_var rfl) (ev_var rfl) rv_I0) ev_c rv_I0) (by have := of_decide_eq_true hlt; congr 1; omega)) (rv_ix (hT.mono E3) (atI_vI (by omega)))) rv_I0)
      (ev_op (y := .int (-1 - ((s % g.length : Nat) : Int))) (ev_var rfl) (ev_is (ev_op (ev_un ev_c ru_neg) (ev_op (ev_var rfl) lnG (rv_I (by omega))) rv_I0) (by congr 1)) (rv_ix (hG.mono E3) (atI_neg hr))) (rv_eq rfl))), fun ht H4 e4 => ?_, fun ht H4 e4 => ?_⟩
    · obtain ⟨h1, h2⟩ := Bool.and_eq_true_iff.mp ht
      rw [vint_inj] at h2
      have h1' := of_decide_eq_true h1
      have h2' := of_decide_eq_true h2
      refine ⟨fun σ' H' => σ' = [some (.ref a), some (.ref b), some (.int ((s + 1 : Nat) : Int)), some (.int ((t.length - 1 : Nat) : Int))] ∧ Ex H H', fun σ2 H5 h5 => ⟨t.length - (s + 1), by omega, s + 1, rfl, h5.1, h5.2, spr_step sp (by omega) h2'⟩, ?_⟩
      exact s_aug (f := fun x y => x + y) (a := (s : Int)) (b := 1) rfl ev_c fun H5 e5 => ⟨rfl, (E3.trans e4).trans e5⟩
    · refine s_ret (ev_var rfl) fun H5 e5 => k s sp ?_ H5 ((E3.trans e4).trans e5)
      rcases Nat.lt_or_ge s (t.length - 1) with z | z
      · right
        rw [decide_eq_true (by omega : ((s : Int) < ((t.length - 1 : Nat) : Int))), Bool.true_and, vint_inj] at ht
        exact of_decide_eq_false ht
      · left
        omega
end
end K02
namespace Gr
theorem dif_take {g : List Int} {p : Nat} (h : Pd (dif g) p) (hp : 0 < p) (hn : p ≤ g.length) : dif (g.take p) = dif g := funext fun k => by
  have e : (g.take p).length = p := by rw [List.length_take]; omega
  have hk : k % p < p := Nat.mod_lt _ hp
  show at' (g.take p) (k % (g.take p).length) = dif g k
  rw [e, at_take hk, ← dif_lt (g := g) (k := k % p) (by omega)]
  exact h.mod k
theorem ex_least {α : Type} {d : Nat → α} : ∀ p, 0 < p → Pd d p → ∃ q, Least d q := by
  intro p
  induction p using Nat.strongRecOn with
  | ind p ih =>
    intro hp h
    by_cases e : ∃ q, q < p ∧ 0 < q ∧ Pd d q
    · obtain ⟨q, h1, h2, h3⟩ := e
      exact ih q h1 h2 h3
    · refine ⟨p, hp, h, fun q h2 h3 => ?_⟩
      rcases Nat.lt_or_ge q p with h1 | h1
      · exact absurd ⟨q, h1, h2, h3⟩ e
      · exact h1
theorem Least.one {α : Type} {d : Nat → α} {p q : Nat} (h : Least d p) (h' : Least d q) : p = q := Nat.le_antisymm (h.le q h'.pos h'.pd) (h'.le p h.pos h.pd)
theorem Least.dvd {g : List Int} {p : Nat} (h : Least (dif g) p) (hn : 0 < g.length) : p ∣ g.length ∧ p ≤ g.length := by
  have a := Pd.gcd p g.length h.pd dif_pd
  have b := h.le _ (Nat.gcd_pos_of_pos_left _ h.pos) a
  have c : Nat.gcd p g.length = p := Nat.le_antisymm (Nat.gcd_le_left _ h.pos) b
  exact ⟨c ▸ Nat.gcd_dvd_right p g.length, h.le _ hn dif_pd⟩
theorem val_congr {t g g' : List Int} (h : dif g = dif g') (n : Nat) : val t g n = val t g' n := by unfold val; rw [h]
end Gr
namespace K02
open PySem L2 Evl Gr
/-! ### tuples that may be new ones or not -/
def EvTu (K : PySem.W.Frag) (te : TE) (σ : L2.St) (H : Hp) (xs : List V) : Prop := ∀ H1, Ex H H1 → ∀ Q : VK, (∀ p H2, Ex H1 H2 → SqT K H2 p xs → Q (.ref p) H2) → te σ H1 Q
section
variable {K : PySem.W.Frag} {σ : L2.St} {H : Hp} {te ta tb : TE} {tl th : TO} {a : Addr} {xs ys : List V} {lo hi : Option Int}
theorem cutV_all {n : Nat} (h1 : HT.sIx xs.length 0 lo = 0) (h2 : HT.sIx xs.length xs.length hi = xs.length) : cutV xs lo hi = xs := by
  unfold cutV
  rw [h1, h2, List.drop_zero, Nat.sub_zero, List.take_length]
theorem etu_cut (h : Ev te σ H (.ref a)) (h1 : EvO tl σ H lo) (h2 : EvO th σ H hi) (hs : SqT K H a xs) : EvTu K (tSl (rSlA K) te tl th) σ H (cutV xs lo hi) := fun H1 e Q q =>
  h H1 e _ fun H2 e2 => h1 H2 (e.trans e2) _ fun H3 e3 => h2 H3 ((e.trans e2).trans e3) _ fun H4 e4 =>
    ⟨a, xs, rfl, ex_t (((e.trans e2).trans e3).trans e4) hs, fun z => q a H4 ((e2.trans e3).trans e4) (by rw [cutV_all (n := 0) z.1 z.2]; exact ex_t (((e.trans e2).trans e3).trans e4) hs),
      fun _ p hp => q p _ (((e2.trans e3).trans e4).trans (Ex.new hp)) (st_of upd_same)⟩
theorem etu_cat (h1 : EvTu K ta σ H xs) (h2 : EvTu K tb σ H ys) (hz : xs.length + ys.length ≤ 100000) : EvTu K (tOp (rCatA K) ta tb) σ H (xs ++ ys) := fun H1 e Q q =>
  h1 H1 e _ fun p H2 e2 hp => h2 H2 (e.trans e2) _ fun r H3 e3 hr =>
    ⟨p, r, xs, ys, rfl, rfl, ex_t e3 hp, hr, sz_of hz, fun z => q r H3 (e2.trans e3) (by rw [z]; exact hr), fun _ z => q p H3 (e2.trans e3) (by rw [z, List.append_nil]; exact ex_t e3 hp),
      fun _ _ b hb => q b _ ((e2.trans e3).trans (Ex.new hb)) (st_of upd_same)⟩
/-- a cut of a list or a tuple -/
def rSlQ (K : PySem.W.Frag) : V → Option Int → Option Int → Hp → VK → Prop := fun x lo hi H Q => rSlL K x lo hi H Q ∨ rSlA K x lo hi H Q
theorem sl_seq {X : Cx} : SlR X (rSlQ X.K) := sl_list.or sl_tupA
/-- tuple(s[lo:hi]) -/
theorem etu_of (h : Ev te σ H (.ref a)) (h1 : EvO tl σ H lo) (h2 : EvO th σ H hi) (hs : Sq K H a xs) : EvTu K (tThen (tSl (rSlQ K) te tl th) (kTup K)) σ H (cutV xs lo hi) := fun H1 e Q q =>
  h H1 e _ fun H2 e2 => h1 H2 (e.trans e2) _ fun H3 e3 => h2 H3 ((e.trans e2).trans e3) _ fun H4 e4 => by
    have E := ((e.trans e2).trans e3).trans e4
    have E1 := (e2.trans e3).trans e4
    rcases hs.mono E with z | z
    · exact .inl ⟨a, xs, rfl, z, fun p hp => .inl ⟨p, _, rfl, sq_of upd_same, fun r hr => q r _ ((E1.trans (Ex.new hp)).trans (Ex.new hr)) (st_of upd_same)⟩⟩
    · exact .inr ⟨a, xs, rfl, z, fun c => .inr ⟨a, _, rfl, z, q a H4 E1 (by rw [cutV_all (n := 0) c.1 c.2]; exact z)⟩, fun _ p hp => .inr ⟨p, _, rfl, st_of upd_same, q p _ (E1.trans (Ex.new hp)) (st_of upd_same)⟩⟩
theorem q_asgT {i : Nat} {tz : TS} {D : Ends} (h : EvTu K te σ H xs) (k : ∀ p H1, Ex H H1 → SqT K H1 p xs → tz D (σ.set i (some (.ref p))) H1) : tSeq (tAsg te (gName i)) tz D σ H := h H (Ex.refl H) _ fun p H1 e s => k p H1 e s
end
theorem cut_take {g : List Int} {n : Nat} (h : n ≤ g.length) : cutV (vI g) none (some (n : Int)) = vI (g.take n) := by
  unfold cutV vI
  rw [show HT.sIx (g.map V.int).length 0 none = 0 from rfl, HT.sIx_nat, List.drop_zero, Nat.sub_zero, List.length_map, Nat.min_eq_left h, List.map_take]
theorem cut_drop {g : List Int} {n : Nat} (h : n ≤ g.length) : cutV (vI g) (some (n : Int)) none = vI (g.drop n) := by
  unfold cutV vI
  rw [HT.sIx_none, HT.sIx_nat, List.length_map, Nat.min_eq_left h, List.take_of_length_le (by rw [List.length_drop, List.length_map]; exact Nat.le_refl _), List.map_drop]
abbrev sNF : Stmt := top 16
section
variable {P : Program} {w : World} {K : PySem.W.Frag} {mg : Str → Option Value} {base : Heap}
/-! ### normal_form -/
/-- a pair of the told values and gains of a normal form -/
def RetNF (K : PySem.W.Frag) (t g : List Int) (H : Hp) (Q : VK) : Prop := ∀ r p q t' g' H', Ex H H' → SqT K H' r [.ref p, .ref q] → SqT K H' p (vI t') → SqT K H' q (vI g') → NF t' g' → (∀ n, val t' g' n = val t g n) →
  t'.length ≤ t.length → g'.length ≤ g.length → Q (.ref r) H'
def spNF (K : PySem.W.Frag) : Sp := fun vs H Q _ => ∃ (a b : Addr) (t g : List Int), vs = [.ref a, .ref b] ∧ Sq K H a (vI t) ∧ Sq K H b (vI g) ∧ 0 < t.length ∧ t.length ≤ 4000 ∧ 0 < g.length ∧ g.length ≤ 4000 ∧ RetNF K t g H Q
theorem scNF : FnScope ["told", "gains", "few", "spare", "cut"] ["told", "gains"] (defScope sNF) := ⟨rfl, rfl, rfl, by decide +kernel, rfl, by decide +kernel, by decide +kernel⟩
theorem ok_NF {f fL fS : Addr} {fd fdL fdS : FuncData} (F : Fun K "normal_form" "normal_form" sNF f fd) (T : GlbS mg)
    (FL : Fun K "least_period" "least_period" sLP fL fdL) (bL : Binds K fdL ["gains"] []) (gL : mg "least_period" = some (.ref fL))
    (FS : Fun K "spare_told" "spare_told" sST fS fdS) (bS : Binds K fdS ["told", "gains"] []) (gS : mg "spare_told" = some (.ref fS)) : FnOk P w K mg base CX0 2 f fd ["told", "gains"] (spNF K) := by
  have GL : FnOk P w K mg base CX0 1 fL fdL ["gains"] (spLP K) := ok_LP FL T
  have GS : FnOk P w K mg base CX0 1 fS fdS ["told", "gains"] (spST K) := ok_ST FS T
  refine F.ok scNF (fun vs H Q E h => ?_) (fun cdv A outer s H vs Q E hr h => ?_)
  · obtain ⟨a, b, t, g, rfl, _⟩ := h
    rfl
  · obtain ⟨a, b, t, g, rfl, hT, hG, t0, t1, g0, g1, k⟩ := h
    refine ⟨_, pss_cons (ps_set (i := 2) scNF.nd rfl (.inl rfl) (pe_tupleOf (by rfl) T.tuple (pe_slice sl_seq (pv 1) po_none (po_some (pe_call GL hr (by rfl) gL FL.kp bL .nil pass0 (pa_cons (pv 1) pa_nil))))))
      (pss_cons (ps_set (i := 3) scNF.nd rfl (.inl rfl) (pe_call GS hr (by rfl) gS FS.kp bS .nil pass0 (pa_cons (pv 0) (pa_cons (pv 2) pa_nil))))
      (pss_cons (ps_set (i := 4) scNF.nd rfl (.inl rfl) (pe_op op_sub (pe_callB call_len_seq (by rfl) T.len PySem.boot_len (pa_cons (pv 2) pa_nil)) (pe_op op_mod (pv 3) (pe_callB call_len_seq (by rfl) T.len PySem.boot_len (pa_cons (pv 2) pa_nil)))))
      (pss_one (ps_ret (pe_tup (pa_cons (pe_tupleOf (by rfl) T.tuple (pe_slice sl_seq (pv 0) po_none (po_some (pe_op op_sub (pe_callB call_len_seq (by rfl) T.len PySem.boot_len (pa_cons (pv 0) pa_nil)) (pv 3)))))
        (pa_cons (pe_op op_catA (pe_slice sl_tupA (pv 2) (po_some (pv 4)) po_none) (pe_slice sl_tupA (pv 2) po_none (po_some (pv 4)))) pa_nil))))))), ?_⟩
    obtain ⟨p, lp⟩ := ex_least g.length g0 (dif_pd (g := g))
    obtain ⟨pd, pn⟩ := lp.dvd g0
    have fl : (g.take p).length = p := by rw [List.length_take]; omega
    have l00 : 0 < p := lp.pos
    have fd' : dif (g.take p) = dif g := dif_take lp.pd lp.pos pn
    refine q_asgT (xs := vI (g.take p)) (by
      have z := etu_of (K := K) (σ := [some (.ref a), some (.ref b), none, none, none]) (H := H) (te := tVar 1) (tl := tNoPart) (th := tPart (tCall (spLP K) [] E0 (tCons (tVar 1) tNil))) (a := b) (xs := vI g) (lo := none) (hi := some (p : Int))
        (ev_var rfl) eo_none (eo_some (ev_call (ea_cons (ev_var rfl) ea_nil) (fun H1 e Q q E => ⟨b, g, rfl, hG.mono e, g0, g1, fun p' l' _ _ => by rw [l'.one lp]; exact q⟩))) hG
      rw [cut_take pn] at z
      exact z) fun c H1 e1 hF => ?_
    refine ⟨_, rfl, _, rfl, a, c, t, g.take p, rfl, hT.mono e1, .inr hF, t0, t1, by omega, by omega, fun s sp fin H2 e2 => ?_⟩
    have l0 : 0 < p := lp.pos
    have hr2 : s % p < p := Nat.mod_lt _ l0
    have hF2 := ex_t e2 hF
    have ln : ∀ {σ'' : L2.St} {H' : Hp}, SqT K H' c (vI (g.take p)) → σ''[2]? = some (some (.ref c)) → Ev (tCB (fun xs H Q => ∃ p ys, xs = [V.ref p] ∧ (SqL K H p ys ∨ SqT K H p ys) ∧ Q (.int ys.length) H) (tCons (tVar 2) tNil)) σ'' H' (.int (p : Int)) := fun e h0 => ev_is (ev_cb (ea_cons (ev_var h0) ea_nil) (rc_lenQ (.inr e))) (by rw [vI_len, fl])
    show tSeq _ _ _ _ _
    refine q_asg (v := .int ((p - s % p : Nat) : Int)) (ev_is (ev_op (ln hF2 rfl) (ev_op (ev_var rfl) (ln hF2 rfl) (rv_I (by omega))) rv_I0) (by congr 1; omega)) fun H3 e3 => ?_
    have E3 := (e1.trans e2).trans e3
    have hF3 := ex_t e3 hF2
    have hs := sp.1
    have c1 : EvTu K (tThen (tSl (rSlQ K) (tVar 0) tNoPart (tPart (tOp (rI0 fun i j => .int (i - j)) (tCB (fun xs H Q => ∃ p ys, xs = [V.ref p] ∧ (SqL K H p ys ∨ SqT K H p ys) ∧ Q (.int ys.length) H) (tCons (tVar 0) tNil)) (tVar 3)))) (kTup K))
        [some (.ref a), some (.ref b), some (.ref c), some (.int (s : Int)), some (.int ((p - s % p : Nat) : Int))] H3 (vI (cutT t s)) := by
      have z := etu_of (K := K) (σ := [some (.ref a), some (.ref b), some (.ref c), some (.int (s : Int)), some (.int ((p - s % p : Nat) : Int))]) (H := H3) (te := tVar 0) (tl := tNoPart)
        (th := tPart (tOp (rI0 fun i j => .int (i - j)) (tCB (fun xs H Q => ∃ p ys, xs = [V.ref p] ∧ (SqL K H p ys ∨ SqT K H p ys) ∧ Q (.int ys.length) H) (tCons (tVar 0) tNil)) (tVar 3))) (a := a) (xs := vI t) (lo := none) (hi := some ((t.length - s : Nat) : Int))
        (ev_var rfl) eo_none (eo_some (ev_is (ev_op (ev_cb (ea_cons (ev_var rfl) ea_nil) (rc_lenQ (hT.mono E3))) (ev_var rfl) rv_I0) (by rw [vI_len]; congr 1; omega))) (hT.mono E3)
      rw [cut_take (by omega)] at z
      exact z
    refine c1 H3 (Ex.refl H3) _ fun u H4 e4 hu => ?_
    have hF4 := ex_t e4 hF3
    have c2 := etu_cat (K := K) (σ := [some (.ref a), some (.ref b), some (.ref c), some (.int (s : Int)), some (.int ((p - s % p : Nat) : Int))]) (H := H4)
      (etu_cut (te := tVar 2) (tl := tPart (tVar 4)) (th := tNoPart) (lo := some ((p - s % p : Nat) : Int)) (hi := none) (ev_var rfl) (eo_some (ev_var rfl)) eo_none hF4)
      (etu_cut (te := tVar 2) (tl := tNoPart) (th := tPart (tVar 4)) (lo := none) (hi := some ((p - s % p : Nat) : Int)) (ev_var rfl) eo_none (eo_some (ev_var rfl)) hF4)
      (by
        have z1 := cutV_length (vI (g.take p)) (some ((p - s % p : Nat) : Int)) none
        have z2 := cutV_length (vI (g.take p)) none (some ((p - s % p : Nat) : Int))
        rw [vI_len, fl] at z1 z2
        omega)
    rw [cut_take (by omega), cut_drop (by omega)] at c2
    refine c2 H4 (Ex.refl H4) _ fun v H5 e5 hv => ?_
    refine ⟨by show 2 ≤ sizeLine; decide, fun r hr => ?_⟩
    have e6 := Ex.new (H := H5) (o := .tup [.ref u, .ref v]) hr
    have gl : 0 < (g.take p).length := by omega
    have ll : Least (dif (g.take p)) (g.take p).length := by rw [fd', fl]; exact lp
    refine k r u v (cutT t s) (cutG (g.take p) s) _ (((E3.trans e4).trans e5).trans e6) (st_of upd_same) (ex_t e6 (ex_t e5 hu)) ?_ (nf_cut gl ll sp fin) (fun n => (val_cut gl sp n).trans (val_congr fd' n)) (by rw [cutT_len hs]; omega) (by rw [cutG_len]; omega)
    have e7 : cutG (g.take p) s = (g.take p).drop (p - s % p) ++ (g.take p).take (p - s % p) := by unfold cutG; rw [fl]
    rw [e7]
    unfold vI at hv ⊢
    rw [List.map_append]
    exact ex_t e6 hv
end
end K02
namespace Gr
/-- the sums of the first gains, from none of them to all -/
def ris (g : List Int) : List Int := (List.range (g.length + 1)).map (acc (dif g))
theorem ris_len {g : List Int} : (ris g).length = g.length + 1 := by unfold ris; rw [List.length_map, List.length_range]
theorem ris_at {g : List Int} {i : Nat} (h : i ≤ g.length) : at' (ris g) i = acc (dif g) i := at_map_range (by omega)
def pre (d : Nat → Int) (n : Nat) : List Int := (List.range (n + 1)).map (acc d)
theorem pre_len {d : Nat → Int} {n : Nat} : (pre d n).length = n + 1 := by unfold pre; rw [List.length_map, List.length_range]
theorem pre_succ {d : Nat → Int} {n : Nat} : pre d (n + 1) = pre d n ++ [acc d n + d n] := by
  unfold pre
  rw [List.range_succ, List.map_append]
  rfl
theorem pre_last {d : Nat → Int} {n : Nat} : at' (pre d n) ((pre d n).length - 1) = acc d n := by
  rw [pre_len]
  exact at_map_range (by omega)
/-- gains whose sum is not great -/
def Small (g : List Int) : Prop := ∀ i, i < g.length → 0 ≤ at' g i ∧ at' g i ≤ 4000000000000000
theorem acc_small {g : List Int} (h : Small g) (hg : 0 < g.length) : ∀ n, 0 ≤ acc (dif g) n ∧ acc (dif g) n ≤ 4000000000000000 * (n : Int)
  | 0 => ⟨Int.le_refl _, by show (0 : Int) ≤ _; omega⟩
  | n + 1 => by
    have a := acc_small h hg n
    have b := h (n % g.length) (Nat.mod_lt _ hg)
    show 0 ≤ acc (dif g) n + dif g n ∧ acc (dif g) n + dif g n ≤ _
    have e : dif g n = at' g (n % g.length) := rfl
    omega
end Gr
namespace K02
open PySem L2 Evl Gr
abbrev sRis : Stmt := top 17
abbrev sVal : Stmt := top 18
/-! ### growths as they stand in the heap -/
structure GCls (K : PySem.W.Frag) (C : Addr) : Prop where
  cls : Cls K C
  told : NoAttr K C "told"
  gains : NoAttr K C "gains"
  rises : NoAttr K C "rises"
def GrAt (K : PySem.W.Frag) (C : Addr) (H : Hp) (o : Addr) (t g : List Int) : Prop := ∃ dx p q r, H o = some (.ins C dx [("told", .ref p), ("gains", .ref q), ("rises", .ref r)]) ∧ SqT K H p (vI t) ∧ SqT K H q (vI g) ∧ SqT K H r (vI (ris g)) ∧
  NF t g ∧ t.length ≤ 2000 ∧ g.length ≤ 2000 ∧ Small g
theorem GrAt.mono {K : PySem.W.Frag} {C : Addr} {H H' : Hp} {o : Addr} {t g : List Int} (e : Ex H H') (h : GrAt K C H o t g) : GrAt K C H' o t g := by
  obtain ⟨dx, p, q, r, h1, h2, h3, h4, h5⟩ := h
  exact ⟨dx, p, q, r, e _ _ h1, ex_t e h2, ex_t e h3, ex_t e h4, h5⟩
theorem ev_fld {K : PySem.W.Frag} {σ : L2.St} {H : Hp} {ta : TE} {o C dx : Addr} {fs : List (Str × V)} {v : V} {f : Str} (ha : Ev ta σ H (.ref o)) (ho : H o = some (.ins C dx fs)) (c : Cls K C) (n : NoAttr K C f) (hf : fs.lookup f = some v) :
    Ev (tFld K ta f) σ H v := fun H1 e Q q => ha H1 e _ fun H2 e2 => ⟨o, C, dx, fs, v, rfl, e2 _ _ (e _ _ ho), c, n, hf, q H2 e2⟩
section
variable {P : Program} {w : World} {K : PySem.W.Frag} {mg : Str → Option Value} {base : Heap}
/-! ### rises_of -/
def spRis (K : PySem.W.Frag) : Sp := fun vs H Q _ => ∃ (a : Addr) (g : List Int), vs = [.ref a] ∧ SqT K H a (vI g) ∧ g.length ≤ 4000 ∧ ∀ p H', Ex H H' → SqT K H' p (vI (ris g)) → Q (.ref p) H'
theorem scRis : FnScope ["gains", "rises", "gain"] ["gains"] (defScope sRis) := ⟨rfl, rfl, rfl, by decide +kernel, rfl, by decide +kernel, by decide +kernel⟩
theorem ok_Ris {f : Addr} {fd : FuncData} (F : Fun K "rises_of" "rises_of" sRis f fd) (T : GlbS mg) : FnOk P w K mg base CX0 1 f fd ["gains"] (spRis K) := by
  refine F.ok scRis (fun vs H Q E h => ?_) (fun cdv A outer s H vs Q E hr h => ?_)
  · obtain ⟨a, g, rfl, _⟩ := h
    rfl
  · obtain ⟨a, g, rfl, hG, g1, k⟩ := h
    refine ⟨_, pss_cons (ps_set (i := 1) scRis.nd rfl (.inl rfl) (pe_lst (pa_cons pe_int pa_nil)))
      (pss_cons (ps_for PassesOwn.never rfl (pi_tup (pv 0)) (pg_name (i := 2) scRis.nd rfl (.inl rfl))
        (pss_one (ps_expr (pe_bm PySem.F.plainAttrs_list PySem.F.slot_list_append PySem.F.type_list_append mt_append (pv 1) (pa_cons (pe_op op_add (pe_ix ix_list (pv 1) (pe_un un_neg pe_int) (fun _ _ => rfl)) (pv 2)) pa_nil)))))
      (pss_one (ps_ret (pe_tupleOf (by rfl) T.tuple (pv 1))))), ?_⟩
    refine q_asgL (xs := vI [0]) (el_lst (ea_cons ev_c ea_nil) (Nat.le_of_ble_eq_true rfl)) fun b H1 hb e1 h1 => ?_
    refine q_forT (xs := vI g) (ev_var rfl) (ex_t e1 hG) (fun i σ' H' => (∃ x, σ' = [some (.ref a), some (.ref b), x]) ∧ H' b = some (.lst (vI (pre (dif g) i))) ∧ Ex H H') (fun H2 e2 => ⟨⟨_, rfl⟩, e2 _ _ h1, e1.trans e2⟩) (fun i σ' H' _ z => ex_t z.2.2 hG) ?_ ?_
    · rintro i x σ' H2 hx ⟨⟨x2, rfl⟩, h2, e2⟩
      have hi : i < g.length := by
        have := (List.getElem?_eq_some_iff.mp hx).1
        rwa [vI_len] at this
      rw [vI_get hi] at hx
      obtain rfl := Option.some.inj hx
      show tDrop _ _ _ _
      refine s_app h2 (ev_var rfl) (v := .int (acc (dif g) i + dif g i)) (ev_op (ev_op (ev_var rfl) (ev_un ev_c ru_neg) (rv_ixL (sq_of h2) (by rw [atI_vlast (by rw [pre_len]; omega), pre_last]))) (ev_is (ev_var rfl) (by rw [dif_lt hi])) rv_I0) (by rw [vI_len, pre_len]; omega) fun H3 e3 => ?_
      exact ⟨⟨_, rfl⟩, by rw [upd_same, vI_app, pre_succ], (e2.trans e3).mut hb⟩
    · rintro σ' H2 ⟨⟨x2, rfl⟩, h2, e2⟩
      rw [vI_len] at h2
      refine ⟨_, rfl, .inl ⟨b, _, rfl, sq_of h2, fun q hq => k q _ (e2.trans (Ex.new hq)) (st_of upd_same)⟩⟩
/-! ### value_at -/
/-- i, j = divmod(a, b) -/
theorem q_divmod {σ : L2.St} {H : Hp} {ta : TA} {a b : Int} {i j : Nat} {tz : TS} {D : Ends} (h : EvA ta σ H [.int a, .int b]) (hc : CDiv a b) (k : ∀ H1, Ex H H1 → tz D ((σ.set i (some (.int (a / b)))).set j (some (.int (a % b)))) H1) :
    tSeq (tAsg (tCB (fun xs H Q => ∃ i j, xs = [V.int i, V.int j] ∧ CDiv i j ∧ ∀ p, H p = none → Q (.ref p) (upd H p (.tup [.int (i / j), .int (i % j)]))) ta) (gTup K 2 (gCons (gName i) (gCons (gName j) gNil)))) tz D σ H :=
  h H (Ex.refl H) _ fun H2 e2 => ⟨a, b, rfl, hc, fun p hp => ⟨p, _, rfl, st_of upd_same, rfl, _, _, rfl, _, _, rfl, rfl, k _ (e2.trans (Ex.new hp))⟩⟩
structure GlbV (mg : Str → Option Value) : Prop where
  divmod : mg "divmod" = none
  max : mg "max" = none
  zip : mg "zip" = none
theorem spv_val_far {t g : List Int} {n : Nat} (h0 : 0 < t.length) (hn : t.length ≤ n) : val t g n = at' t (t.length - 1) + ((n - t.length + 1) / g.length : Nat) * acc (dif g) g.length + acc (dif g) ((n - t.length + 1) % g.length) := val_far h0 hn
def spVal (K : PySem.W.Frag) (C : Addr) : Sp := fun vs H Q _ => ∃ (o : Addr) (n : Nat) (t g : List Int), vs = [.ref o, .int (n : Int)] ∧ GrAt K C H o t g ∧ RetV (.int (val t g n)) H Q
theorem scVal : FnScope ["one", "n", "rounds", "rest"] ["one", "n"] (defScope sVal) := ⟨rfl, rfl, rfl, by decide +kernel, rfl, by decide +kernel, by decide +kernel⟩
theorem ok_Val {C f : Addr} {fd : FuncData} (F : Fun K "value_at" "value_at" sVal f fd) (T : GlbS mg) (DV : GlbV mg) (G : GCls K C) : FnOk P w K mg base CX0 1 f fd ["one", "n"] (spVal K C) := by
  refine F.ok scVal (fun vs H Q E h => ?_) (fun cdv A outer s H vs Q E hr h => ?_)
  · obtain ⟨o, n, t, g, rfl, _⟩ := h
    rfl
  · obtain ⟨o, n, t, g, rfl, hO, k⟩ := h
    refine ⟨_, pss_cons (ps_if (pt_cmpR op_lt (pv 1) (pe_callB call_len_seq (by rfl) T.len PySem.boot_len (pa_cons (pe_fld (pv 0) rfl) pa_nil)) (nomark _)) (pss_one (ps_ret (pe_ix ix_seq (pe_fld (pv 0) rfl) (pv 1) (fun _ _ => rfl)))) pss_nil)
      (pss_cons (ps_asg (pe_callB call_divmod (by rfl) DV.divmod (by decide +kernel) (pa_cons (pe_op op_add (pe_op op_sub (pv 1) (pe_callB call_len_seq (by rfl) T.len PySem.boot_len (pa_cons (pe_fld (pv 0) rfl) pa_nil))) pe_int) (pa_cons (pe_callB call_len_seq (by rfl) T.len PySem.boot_len (pa_cons (pe_fld (pv 0) rfl) pa_nil)) pa_nil)))
        (pg_tup rfl (pgs_cons (pg_name (i := 2) scVal.nd rfl (.inl rfl)) (pgs_cons (pg_name (i := 3) scVal.nd rfl (.inl rfl)) pgs_nil))))
      (pss_one (ps_ret (pe_op op_add (pe_op op_add (pe_ix ix_seq (pe_fld (pv 0) rfl) (pe_un un_neg pe_int) (fun _ _ => rfl)) (pe_op op_mul (pv 2) (pe_ix ix_seq (pe_fld (pv 0) rfl) (pe_un un_neg pe_int) (fun _ _ => rfl)))) (pe_ix ix_seq (pe_fld (pv 0) rfl) (pv 3) (fun _ _ => rfl)))))), ?_⟩
    obtain ⟨dx, p, q, r, h1, h2, h3, h4, nf, t2, g2, sm⟩ := hO
    have t0 := nf.told
    have g0 := nf.gains
    have fT : ∀ {σ'' : L2.St} {H' : Hp}, Ex H H' → σ''[0]? = some (some (.ref o)) → Ev (tFld K (tVar 0) "told") σ'' H' (.ref p) := fun e h0 => ev_fld (ev_var h0) (e _ _ h1) G.cls G.told rfl
    have fG : ∀ {σ'' : L2.St} {H' : Hp}, Ex H H' → σ''[0]? = some (some (.ref o)) → Ev (tFld K (tVar 0) "gains") σ'' H' (.ref q) := fun e h0 => ev_fld (ev_var h0) (e _ _ h1) G.cls G.gains rfl
    have fR : ∀ {σ'' : L2.St} {H' : Hp}, Ex H H' → σ''[0]? = some (some (.ref o)) → Ev (tFld K (tVar 0) "rises") σ'' H' (.ref r) := fun e h0 => ev_fld (ev_var h0) (e _ _ h1) G.cls G.rises rfl
    have lT : ∀ {σ'' : L2.St} {H' : Hp}, Ex H H' → σ''[0]? = some (some (.ref o)) → Ev (tCB (fun xs H Q => ∃ p ys, xs = [V.ref p] ∧ (SqL K H p ys ∨ SqT K H p ys) ∧ Q (.int ys.length) H) (tCons (tFld K (tVar 0) "told") tNil)) σ'' H' (.int (t.length : Int)) :=
      fun e h0 => ev_is (ev_cb (ea_cons (fT e h0) ea_nil) (rc_lenQ (.inr (ex_t e h2)))) (by rw [vI_len])
    have lG : ∀ {σ'' : L2.St} {H' : Hp}, Ex H H' → σ''[0]? = some (some (.ref o)) → Ev (tCB (fun xs H Q => ∃ p ys, xs = [V.ref p] ∧ (SqL K H p ys ∨ SqT K H p ys) ∧ Q (.int ys.length) H) (tCons (tFld K (tVar 0) "gains") tNil)) σ'' H' (.int (g.length : Int)) :=
      fun e h0 => ev_is (ev_cb (ea_cons (fG e h0) ea_nil) (rc_lenQ (.inr (ex_t e h3)))) (by rw [vI_len])
    refine q_when (et_test (ev_op (ev_var rfl) (lT (Ex.refl H) rfl) rv_I0)) (fun ht H1 e1 => ?_) (fun ht H1 e1 => ?_)
    · have hn : n < t.length := by have := of_decide_eq_true ht; omega
      refine s_ret (v := .int (val t g n)) (ev_op (fT e1 rfl) (ev_var rfl) (rv_ix (.inr (ex_t e1 h2)) (by rw [atI_vI hn, val_lt hn]))) fun H2 e2 => k H2 (e1.trans e2)
    · have hn : t.length ≤ n := by have := of_decide_eq_false ht; omega
      obtain ⟨m, hm⟩ : ∃ m, m = n - t.length + 1 := ⟨_, rfl⟩
      have hr2 : m % g.length < g.length := Nat.mod_lt _ g0
      have ea : EvA (tCons (tOp (rI0 fun i j => .int (i + j)) (tOp (rI0 fun i j => .int (i - j)) (tVar 1) (tCB (fun xs H Q => ∃ p ys, xs = [V.ref p] ∧ (SqL K H p ys ∨ SqT K H p ys) ∧ Q (.int ys.length) H) (tCons (tFld K (tVar 0) "told") tNil))) (tC (.int 1)))
          (tCons (tCB (fun xs H Q => ∃ p ys, xs = [V.ref p] ∧ (SqL K H p ys ∨ SqT K H p ys) ∧ Q (.int ys.length) H) (tCons (tFld K (tVar 0) "gains") tNil)) tNil)) [some (.ref o), some (.int (n : Int)), none, none] H1 [.int (m : Int), .int (g.length : Int)] :=
        ea_cons (ev_is (ev_op (ev_op (ev_var rfl) (lT e1 rfl) rv_I0) ev_c rv_I0) (by congr 1; omega)) (ea_cons (lG e1 rfl) ea_nil)
      refine q_divmod ea ⟨by omega, by omega⟩ fun H3 e2 => ?_
      have e3 := e1.trans e2
      show tRet _ _ _ _
      have S := acc_small sm g0 g.length
      refine s_ret (v := .int (val t g n)) (ev_is (ev_op (ev_op (ev_op (fT e3 rfl) (ev_un ev_c ru_neg) (rv_ix (.inr (ex_t e3 h2)) (atI_vlast t0)))
        (ev_op (y := .int (acc (dif g) g.length)) (ev_var rfl) (ev_op (fR e3 rfl) (ev_un ev_c ru_neg) (rv_ix (.inr (ex_t e3 h4)) (by rw [atI_vlast (by rw [ris_len]; omega), ris_len, Nat.add_sub_cancel, ris_at (Nat.le_refl _)]))) (rv_I (.inr ⟨by omega, by omega⟩))) rv_I0)
        (ev_op (y := .int ((m % g.length : Nat) : Int)) (z := .int (acc (dif g) (m % g.length))) (fR e3 rfl) (ev_var rfl) (rv_ix (.inr (ex_t e3 h4)) (by rw [atI_vI (by rw [ris_len]; omega), ris_at (by omega)]))) rv_I0) ?_) fun H4 e4 => k H4 (e3.trans e4)
      rw [spv_val_far t0 hn, ← hm]
      rfl
end
end K02
namespace Gr
theorem pT_at {f : Nat → Int} {n i : Nat} (h : i < n) : at' (pT f n) i = f i := at_map_range h
theorem pT_succ {f : Nat → Int} {n : Nat} : pT f (n + 1) = pT f n ++ [f n] := by
  unfold pT
  rw [List.range_succ, List.map_append]
  rfl
theorem pT_take {t g : List Int} {n : Nat} (h : n ≤ t.length) : t.take n = pT (val t g) n := by
  refine at_eq_of (by rw [pT_len, List.length_take]; omega) fun i hi => ?_
  rw [List.length_take] at hi
  rw [at_take (by omega), pT_at (by omega), val_lt (by omega)]
theorem val_next {t g : List Int} {n : Nat} (h0 : 0 < t.length) (h : t.length ≤ n) : val t g n = val t g (n - 1) + dif g (n - t.length) := by
  have := val_step (g := g) h0 (n - t.length)
  rw [show t.length - 1 + (n - t.length) + 1 = n by omega, show t.length - 1 + (n - t.length) = n - 1 by omega] at this
  omega
end Gr
namespace K02
open PySem L2 Evl Gr
abbrev sFirst : Stmt := top 19
section
variable {K : PySem.W.Frag} {σ : L2.St} {H : Hp} {te : TE} {xs : List V}
/-- list(t), t a tuple that may be a new one -/
theorem el_ofT (h : EvTu K te σ H xs) : EvL (tCB (rListS K) (tCons te tNil)) σ H xs := fun H1 e Q q =>
  h H1 e _ fun p H2 e2 hp => ⟨p, xs, rfl, .inr hp, fun l hl => q l _ (fresh_back e2 hl) (e2.trans (Ex.new hl)) upd_same⟩
end
section
variable {P : Program} {w : World} {K : PySem.W.Frag} {mg : Str → Option Value} {base : Heap}
/-! ### first_values -/
def spFirst (K : PySem.W.Frag) (C : Addr) : Sp := fun vs H Q _ => ∃ (o : Addr) (m : Nat) (t g : List Int), vs = [.ref o, .int (m : Int)] ∧ GrAt K C H o t g ∧ m ≤ 10000 ∧ ∀ p H', H p = none → Ex H H' → H' p = some (.lst (vI (pT (val t g) m))) → Q (.ref p) H'
theorem scFirst : FnScope ["one", "many", "values", "at"] ["one", "many"] (defScope sFirst) := ⟨rfl, rfl, rfl, by decide +kernel, rfl, by decide +kernel, by decide +kernel⟩
theorem ok_First {C f : Addr} {fd : FuncData} (F : Fun K "first_values" "first_values" sFirst f fd) (T : GlbS mg) (G : GCls K C) : FnOk P w K mg base CX0 1 f fd ["one", "many"] (spFirst K C) := by
  refine F.ok scFirst (fun vs H Q E h => ?_) (fun cdv A outer s H vs Q E hr h => ?_)
  · obtain ⟨o, n, t, g, rfl, _⟩ := h
    rfl
  · obtain ⟨o, m, t, g, rfl, hO, hm, k⟩ := h
    refine ⟨_, pss_cons (ps_set (i := 2) scFirst.nd rfl (.inl rfl) (pe_callTy call_list_of (by rfl) T.list (by decide +kernel) (pa_cons (pe_slice sl_tupA (pe_fld (pv 0) rfl) po_none (po_some (pv 1))) pa_nil)))
      (pss_cons (ps_set (i := 3) scFirst.nd rfl (.inl rfl) pe_int)
      (pss_cons (ps_while PassesOwn.never (pt_cmpR op_lt (pe_callB call_len_seq (by rfl) T.len PySem.boot_len (pa_cons (pv 2) pa_nil)) (pv 1) (nomark _))
        (pss_cons (ps_expr (pe_bm PySem.F.plainAttrs_list PySem.F.slot_list_append PySem.F.type_list_append mt_append (pv 2) (pa_cons (pe_op op_add (pe_ix ix_list (pv 2) (pe_un un_neg pe_int) (fun _ _ => rfl)) (pe_ix ix_seq (pe_fld (pv 0) rfl) (pv 3) (fun _ _ => rfl))) pa_nil)))
        (pss_cons (ps_aug (i := 3) scFirst.nd rfl (.inl rfl) pe_int ip_add)
        (pss_one (ps_if (pt_cmpR op_eq (pv 3) (pe_callB call_len_seq (by rfl) T.len PySem.boot_len (pa_cons (pe_fld (pv 0) rfl) pa_nil)) (nomark _)) (pss_one (ps_set (i := 3) scFirst.nd rfl (.inl rfl) pe_int)) pss_nil)))))
      (pss_one (ps_ret (pv 2))))), ?_⟩
    obtain ⟨dx, p, q, r, h1, h2, h3, h4, nf, t2, g2, sm⟩ := hO
    have t0 := nf.told
    have g0 := nf.gains
    have fT : ∀ {σ'' : L2.St} {H' : Hp}, Ex H H' → σ''[0]? = some (some (.ref o)) → Ev (tFld K (tVar 0) "told") σ'' H' (.ref p) := fun e h0 => ev_fld (ev_var h0) (e _ _ h1) G.cls G.told rfl
    have fG : ∀ {σ'' : L2.St} {H' : Hp}, Ex H H' → σ''[0]? = some (some (.ref o)) → Ev (tFld K (tVar 0) "gains") σ'' H' (.ref q) := fun e h0 => ev_fld (ev_var h0) (e _ _ h1) G.cls G.gains rfl
    have lG : ∀ {σ'' : L2.St} {H' : Hp}, Ex H H' → σ''[0]? = some (some (.ref o)) → Ev (tCB (fun xs H Q => ∃ p ys, xs = [V.ref p] ∧ (SqL K H p ys ∨ SqT K H p ys) ∧ Q (.int ys.length) H) (tCons (tFld K (tVar 0) "gains") tNil)) σ'' H' (.int (g.length : Int)) :=
      fun e h0 => ev_is (ev_cb (ea_cons (fG e h0) ea_nil) (rc_lenQ (.inr (ex_t e h3)))) (by rw [vI_len])
    obtain ⟨n0, hn0⟩ : ∃ n0, n0 = min m t.length := ⟨_, rfl⟩
    have c1 : EvL (tCB (rListS K) (tCons (tSl (rSlA K) (tFld K (tVar 0) "told") tNoPart (tPart (tVar 1))) tNil)) [some (.ref o), some (.int (m : Int)), none, none] H (vI (pT (val t g) n0)) := by
      have z := etu_cut (K := K) (σ := [some (.ref o), some (.int (m : Int)), none, none]) (H := H) (te := tFld K (tVar 0) "told") (tl := tNoPart) (th := tPart (tVar 1)) (lo := none) (hi := some (m : Int)) (fT (Ex.refl H) rfl) eo_none (eo_some (ev_var rfl)) h2
      have e : cutV (vI t) none (some (m : Int)) = vI (pT (val t g) n0) := by
        rcases Nat.lt_or_ge t.length m with c | c
        · have e1 : cutV (vI t) none (some (m : Int)) = vI t := cutV_all (n := 0) rfl (by rw [HT.sIx_nat, vI_len]; omega)
          rw [e1, show n0 = t.length by omega, ← pT_take (g := g) (Nat.le_refl _), List.take_length]
        · rw [cut_take c, show n0 = m by omega, pT_take (g := g) c]
      rw [e] at z
      exact el_ofT z
    refine q_asgL c1 fun b H1 hb e1 hb1 => ?_
    refine q_asg ev_c fun H2 e2 => ?_
    refine q_while (fun u σ' H' => ∃ n : Nat, u = m - n ∧ n ≤ m ∧ (n < m → t.length ≤ n) ∧ 0 < n + 1 ∧ σ' = [some (.ref o), some (.int (m : Int)), some (.ref b), some (.int (((n - t.length) % g.length : Nat) : Int))] ∧ H' b = some (.lst (vI (pT (val t g) n))) ∧ Ex H H') (m - n0)
      ⟨n0, rfl, by omega, fun _ => by omega, by omega, by rw [show n0 - t.length = 0 by omega, Nat.zero_mod]; rfl, e2 _ _ hb1, e1.trans e2⟩ ?_
    rintro u σ' H3 ⟨n, rfl, nm, nt, _, rfl, hb3, E3⟩
    refine ⟨_, et_test (ev_op (ev_is (ev_cb (ea_cons (ev_var rfl) ea_nil) (rc_len (sq_of hb3))) (by rw [vI_len, pT_len])) (ev_var rfl) rv_I0), fun ht H4 e4 => ?_, fun ht H4 e4 => ?_⟩
    · have hlt : n < m := by have := of_decide_eq_true ht; omega
      have hT := nt hlt
      have hr2 : (n - t.length) % g.length < g.length := Nat.mod_lt _ g0
      have hb4 := e4 _ _ hb3
      have E4 := E3.trans e4
      refine ⟨fun σ' H' => σ' = [some (.ref o), some (.int (m : Int)), some (.ref b), some (.int (((n + 1 - t.length) % g.length : Nat) : Int))] ∧ H' b = some (.lst (vI (pT (val t g) (n + 1)))) ∧ Ex H H',
        fun σ2 H5 h5 => ⟨m - (n + 1), by omega, n + 1, rfl, by omega, fun _ => by omega, by omega, h5.1, h5.2.1, h5.2.2⟩, ?_⟩
      refine q_app hb4 (ev_var rfl) (v := .int (val t g n)) (ev_is (ev_op (ev_op (ev_var rfl) (ev_un ev_c ru_neg) (rv_ixL (sq_of hb4) (by rw [atI_vlast (by rw [pT_len]; omega), pT_len, pT_at (by omega)])))
        (ev_op (fG E4 rfl) (ev_var rfl) (rv_ix (.inr (ex_t E4 h3)) (atI_vI hr2))) rv_I0) (by rw [val_next t0 hT]; rfl)) (by rw [vI_len, pT_len]; omega) fun H5 e5 => ?_
      have E5 : Ex H (upd H5 b (.lst (vI (pT (val t g) n) ++ [.int (val t g n)]))) := (E4.trans e5).mut hb
      have hb5 : (upd H5 b (.lst (vI (pT (val t g) n) ++ [.int (val t g n)]))) b = some (.lst (vI (pT (val t g) (n + 1)))) := by rw [upd_same, vI_app, pT_succ]
      generalize upd H5 b (.lst (vI (pT (val t g) n) ++ [.int (val t g n)])) = H6 at E5 hb5 ⊢
      refine q_aug (f := fun x y => x + y) (a := (((n - t.length) % g.length : Nat) : Int)) (b := 1) rfl ev_c fun H7 e7 => ?_
      have E7 := E5.trans e7
      have hb7 := e7 _ _ hb5
      have e8 : n + 1 - t.length = n - t.length + 1 := by omega
      refine s_when (et_test (ev_op (ev_var rfl) (lG E7 rfl) (rv_eq rfl))) (fun hq H8 e8' => ?_) (fun hq H8 e8' => ?_)
      · rw [vint_inj] at hq
        have hq' := of_decide_eq_true hq
        refine s_asg ev_c fun H9 e9 => ⟨?_, e9 _ _ (e8' _ _ hb7), (E7.trans e8').trans e9⟩
        have z : (n + 1 - t.length) % g.length = 0 := by
          rw [e8, Nat.add_mod]
          rcases Nat.eq_or_lt_of_le g0 with c | c
          · rw [← c, Nat.mod_one]
          · rw [Nat.mod_eq_of_lt c, show (n - t.length) % g.length + 1 = g.length by omega, Nat.mod_self]
        rw [z]
        rfl
      · rw [vint_inj] at hq
        have hq' := of_decide_eq_false hq
        refine ⟨?_, e8' _ _ hb7, E7.trans e8'⟩
        have z : (n + 1 - t.length) % g.length = (n - t.length) % g.length + 1 := by
          rw [e8, Nat.add_mod]
          rcases Nat.eq_or_lt_of_le g0 with c | c
          · rw [← c, Nat.mod_one] at hq' ⊢
            omega
          · rw [Nat.mod_eq_of_lt c, Nat.mod_eq_of_lt (by omega)]
        rw [z]
        rfl
    · have hge : n = m := by have := of_decide_eq_false ht; omega
      subst hge
      exact s_ret (ev_var rfl) fun H5 e5 => k b H5 hb ((E3.trans e4).trans e5) (e5 _ _ (e4 _ _ hb3))
end
end K02
namespace K02
open PySem L2 Evl Gr
abbrev sPart : Stmt := top 20
abbrev sBegin : Stmt := top 23
abbrev sShift : Stmt := top 21
section
variable {σ : L2.St} {H : Hp} {te : TE} {t : TT}
/-- [e for j in range(a, b) if t] -/
theorem el_lcR2 {ta : TA} {j : Nat} {vs : List Nat} {lo n : Int} (f : Nat → Bool) (v : Nat → V) (h : EvA ta σ H [.int lo, .int n]) (hn : 0 ≤ lo ∧ lo ≤ n ∧ n ≤ 40000) (hw : ∀ x, wipe ((wipe σ vs).set j (some x)) vs = wipe σ vs)
    (ht : ∀ (i : Nat) H1, Ex H H1 → lo + (i : Int) < n → EvT t ((wipe σ vs).set j (some (.int (lo + (i : Int))))) H1 (f i)) (he : ∀ (i : Nat) H1, Ex H H1 → lo + (i : Int) < n → f i = true → Ev te ((wipe σ vs).set j (some (.int (lo + (i : Int))))) H1 (v i)) :
    EvL (tLc (iRng2 ta) (gName j) t te vs) σ H (given (n - lo).toNat f v) := fun H0 e Q q => h H0 e _ fun H1 e1 => ⟨lo, n, rfl, ⟨by omega, by omega, by omega, by omega⟩, fun Dl hD =>
  lc_range (lo := lo) (n := (n - lo).toNat) (Cw H1 f v Dl) ⟨hD, Ex.new hD, upd_same⟩ (fun i H' hi p =>
    ⟨hw _, cw_turn p (by omega) (ht i H1 (e.trans e1) (by omega)) (fun hf => he i H1 (e.trans e1) (by omega) hf)⟩) (fun H' p => q Dl H' (fresh_back e1 p.1) (e1.trans p.2.1) p.2.2)⟩
theorem given_all {n : Nat} {v : Nat → V} : given n (fun _ => true) v = (List.range n).map v := by
  unfold given
  rw [List.filter_eq_self.mpr fun _ _ => rfl]
theorem et_none : EvT (fun σ H Q => Q true H) σ H true := fun H1 _ _ q => q H1 (Ex.refl H1)
end
section
variable {P : Program} {w : World} {K : PySem.W.Frag} {mg : Str → Option Value} {base : Heap}
/-! ### begin_of_both -/
def spBegin (K : PySem.W.Frag) (C : Addr) : Sp := fun vs H Q _ => ∃ (o u : Addr) (t g t' g' : List Int), vs = [.ref o, .ref u] ∧ GrAt K C H o t g ∧ GrAt K C H u t' g' ∧ RetV (.int ((max t.length t'.length : Nat) : Int)) H Q
theorem scBegin : FnScope ["one", "other"] ["one", "other"] (defScope sBegin) := ⟨rfl, rfl, rfl, by decide +kernel, rfl, by decide +kernel, by decide +kernel⟩
theorem ev_lenF {σ : L2.St} {H : Hp} {ta : TE} {o C dx p : Addr} {fs : List (Str × V)} {f : Str} {g : List Int} (ha : Ev ta σ H (.ref o)) (ho : H o = some (.ins C dx fs)) (c : Cls K C) (n : NoAttr K C f) (hf : fs.lookup f = some (.ref p)) (hp : SqT K H p (vI g)) :
    Ev (tCB (fun xs H Q => ∃ p ys, xs = [V.ref p] ∧ (SqL K H p ys ∨ SqT K H p ys) ∧ Q (.int ys.length) H) (tCons (tFld K ta f) tNil)) σ H (.int (g.length : Int)) :=
  ev_is (ev_cb (ea_cons (ev_fld ha ho c n hf) ea_nil) (rc_lenQ (.inr hp))) (by rw [vI_len])
theorem ok_Begin {C f : Addr} {fd : FuncData} (F : Fun K "begin_of_both" "begin_of_both" sBegin f fd) (T : GlbS mg) (DV : GlbV mg) (G : GCls K C) : FnOk P w K mg base CX0 1 f fd ["one", "other"] (spBegin K C) := by
  refine F.ok scBegin (fun vs H Q E h => ?_) (fun cdv A outer s H vs Q E hr h => ?_)
  · obtain ⟨o, u, t, g, t', g', rfl, _⟩ := h
    rfl
  · obtain ⟨o, u, t, g, t', g', rfl, hO, hU, k⟩ := h
    refine ⟨_, pss_one (ps_ret (pe_callB (call_max2 rfl) (by rfl) DV.max (by decide +kernel) (pa_cons (pe_callB call_len_seq (by rfl) T.len PySem.boot_len (pa_cons (pe_fld (pv 0) rfl) pa_nil)) (pa_cons (pe_callB call_len_seq (by rfl) T.len PySem.boot_len (pa_cons (pe_fld (pv 1) rfl) pa_nil)) pa_nil)))), ?_⟩
    obtain ⟨dx, p, q, r, h1, h2, h3, h4, nf, t2, g2, sm⟩ := hO
    obtain ⟨dx', p', q', r', h1', h2', h3', h4', nf', t2', g2', sm'⟩ := hU
    refine s_ret (ev_is (ev_max2 (ev_lenF (ev_var rfl) h1 G.cls G.told rfl h2) (ev_lenF (ev_var rfl) h1' G.cls G.told rfl h2')) ?_) k
    by_cases c : (t'.length : Int) > (t.length : Int)
    · rw [if_pos c]; congr 1; omega
    · rw [if_neg c]; congr 1; omega
/-! ### parted -/
def spPart (K : PySem.W.Frag) : Sp := fun vs H Q _ => ∃ (a : Addr) (b l : Nat) (f : Nat → Int), vs = [.ref a, .int (b : Int)] ∧ SqL K H a (vI (pT f (b + l))) ∧ 0 < b ∧ b + l ≤ 20000 ∧
  ∀ r p q H', Ex H H' → SqT K H' r [.ref p, .ref q] → SqL K H' p (vI (pT f b)) → SqL K H' q (vI (pG f b l)) → Q (.ref r) H'
theorem scPart : FnScope ["values", "many", "gains", "at"] ["values", "many"] (defScope sPart) := ⟨rfl, rfl, rfl, by decide +kernel, rfl, by decide +kernel, by decide +kernel⟩
theorem ok_Part {f : Addr} {fd : FuncData} (F : Fun K "parted" "parted" sPart f fd) (T : GlbS mg) : FnOk P w K mg base CX0 1 f fd ["values", "many"] (spPart K) := by
  refine F.ok scPart (fun vs H Q E h => ?_) (fun cdv A outer s H vs Q E hr h => ?_)
  · obtain ⟨a, b, l, f, rfl, _⟩ := h
    rfl
  · obtain ⟨a, b, l, f, rfl, hA, b0, bl, k⟩ := h
    refine ⟨_, pss_cons (ps_setLc (i := 2) (own := [("at", 3)]) (g := gName 3) rfl scPart.nd rfl (by rfl) (by rfl) (pi_range2 (by rfl) T.range (pa_cons (pv 1) (pa_cons (pe_callB call_len_seq (by rfl) T.len PySem.boot_len (pa_cons (pv 0) pa_nil)) pa_nil))) (blkOk_by (own := [("at", 3)]) (N := ["values", "many", "gains", "at"]) (sc := defScope sPart) (by decide +kernel))
        (fun _ _ _ _ _ => pg_name (i := 3) scPart.nd rfl (Or.inl rfl)) (fun _ _ _ _ _ => pts_nil) (fun _ _ _ _ _ => pe_op op_sub (pe_ix (show IxR _ (rIxL K) from ix_list) (pv 0) (pv 3) (fun _ _ => rfl)) (pe_ix (show IxR _ (rIxL K) from ix_list) (pv 0) (pe_op op_sub (pv 3) pe_int) (fun _ _ => rfl))))
      (pss_one (ps_ret (pe_tup (pa_cons (pe_slice sl_list (pv 0) po_none (po_some (pv 1))) (pa_cons (pv 2) pa_nil))))), ?_⟩
    have c1 : EvL (tLc (iRng2 (tCons (tVar 1) (tCons (tCB (fun xs H Q => ∃ p ys, xs = [V.ref p] ∧ (SqL K H p ys ∨ SqT K H p ys) ∧ Q (.int ys.length) H) (tCons (tVar 0) tNil)) tNil))) (gName 3) tYes
        (tOp (rI0 fun i j => .int (i - j)) (tOp (rIxL K) (tVar 0) (tVar 3)) (tOp (rIxL K) (tVar 0) (tOp (rI0 fun i j => .int (i - j)) (tVar 3) (tC (.int 1))))) [3]) [some (.ref a), some (.int (b : Int)), none, none] H (vI (pG f b l)) := by
      have z := el_lcR2 (σ := [some (.ref a), some (.int (b : Int)), none, none]) (H := H) (t := tYes) (te := tOp (rI0 fun i j => .int (i - j)) (tOp (rIxL K) (tVar 0) (tVar 3)) (tOp (rIxL K) (tVar 0) (tOp (rI0 fun i j => .int (i - j)) (tVar 3) (tC (.int 1))))) (j := 3) (vs := [3]) (lo := (b : Int)) (n := ((b + l : Nat) : Int))
        (fun _ => true) (fun i => V.int (f (b + i) - f (b + i - 1))) (ta := tCons (tVar 1) (tCons (tCB (fun xs H Q => ∃ p ys, xs = [V.ref p] ∧ (SqL K H p ys ∨ SqT K H p ys) ∧ Q (.int ys.length) H) (tCons (tVar 0) tNil)) tNil))
        (ea_cons (ev_var rfl) (ea_cons (ev_is (ev_cb (ea_cons (ev_var rfl) ea_nil) (rc_lenQ (.inl hA))) (by rw [vI_len, pT_len])) ea_nil)) (by omega) (fun _ => rfl) (fun i H1 e1 hi => et_none) (fun i H1 e1 hi _ => ?_)
      · rw [given_all, show (((b + l : Nat) : Int) - (b : Int)).toNat = l by omega] at z
        have e : vI (pG f b l) = (List.range l).map fun i => V.int (f (b + i) - f (b + i - 1)) := by unfold vI pG; rw [List.map_map]; rfl
        rw [e]
        exact z
      · have hA1 := ex_l e1 hA
        exact ev_op (ev_op (y := .int ((b + i : Nat) : Int)) (ev_var rfl) (ev_is (ev_var rfl) (by congr 1)) (rv_ixL hA1 (by rw [atI_vI (by rw [pT_len]; omega), pT_at (by omega)])))
          (ev_op (y := .int ((b + i - 1 : Nat) : Int)) (ev_var rfl) (ev_is (ev_op (ev_var rfl) ev_c rv_I0) (by congr 1; omega)) (rv_ixL hA1 (by rw [atI_vI (by rw [pT_len]; omega), pT_at (by omega)]))) rv_I0
    refine q_asgL c1 fun q H1 hq e1 h1 => ?_
    have c2 := el_sl (K := K) (σ := [some (.ref a), some (.int (b : Int)), some (.ref q), none]) (H := H1) (te := tVar 0) (tl := tNoPart) (th := tPart (tVar 1)) (lo := none) (hi := some (b : Int)) (ev_var rfl) eo_none (eo_some (ev_var rfl)) (ex_l e1 hA)
    rw [cut_take (by rw [pT_len]; omega)] at c2
    refine c2 H1 (Ex.refl H1) _ fun p H2 hp e2 h2 => ?_
    refine ⟨_, rfl, by show 2 ≤ sizeLine; decide, fun r hr => ?_⟩
    have e3 := Ex.new (H := H2) (o := .tup [.ref p, .ref q]) hr
    refine k r p q _ ((e1.trans e2).trans e3) (st_of upd_same) ?_ (sq_of (e3 _ _ (e2 _ _ h1)))
    have e4 : (pT f (b + l)).take b = pT f b := at_eq_of (by rw [List.length_take, pT_len, pT_len]; omega) fun i hi => by
      rw [List.length_take, pT_len] at hi
      rw [at_take (by omega), pT_at (by omega), pT_at (by omega)]
    rw [e4] at h2
    exact sq_of (e3 _ _ h2)
end
end K02
namespace Gr
theorem small_rot {g : List Int} {r : Nat} (h : Small g) (hr : r < g.length) : Small (rot g r) := fun i hi => by
  rw [rot_len (by omega)] at hi
  rw [← dif_lt (g := rot g r) (by rw [rot_len (by omega)]; exact hi), dif_rot hr]
  exact h _ (Nat.mod_lt _ (by omega))
theorem rot_zero {g : List Int} : rot g 0 = g := by unfold rot; rw [List.drop_zero, List.take_zero, List.append_nil]
end Gr
namespace K02
open PySem L2 Evl Gr
section
variable {P : Program} {w : World} {K : PySem.W.Frag} {mg : Str → Option Value} {base : Heap}
/-! ### shifted_parts -/
def spShift (K : PySem.W.Frag) (C : Addr) : Sp := fun vs H Q _ => ∃ (o : Addr) (m : Nat) (t g : List Int), vs = [.ref o, .int (m : Int)] ∧ GrAt K C H o t g ∧
  ∀ r p q t' g' H', Ex H H' → SqT K H' r [.ref p, .ref q] → SqL K H' p (vI t') → SqT K H' q (vI g') → 0 < t'.length → t'.length ≤ 2000 → g'.length = g.length → Small g' → (∀ n, val t' g' n = val t g (n + m)) →
    (∀ i, i < t'.length → ∃ n, at' t' i = val t g n) → Q (.ref r) H'
theorem scShift : FnScope ["one", "many", "values", "beyond"] ["one", "many"] (defScope sShift) := ⟨rfl, rfl, rfl, by decide +kernel, rfl, by decide +kernel, by decide +kernel⟩
theorem ok_Shift {C f fV : Addr} {fd fdV : FuncData} (F : Fun K "shifted_parts" "shifted_parts" sShift f fd) (T : GlbS mg) (DV : GlbV mg) (G : GCls K C)
    (FV : Fun K "value_at" "value_at" sVal fV fdV) (bV : Binds K fdV ["one", "n"] []) (gV : mg "value_at" = some (.ref fV)) : FnOk P w K mg base CX0 2 f fd ["one", "many"] (spShift K C) := by
  have GV : FnOk P w K mg base CX0 1 fV fdV ["one", "n"] (spVal K C) := ok_Val FV T DV G
  refine F.ok scShift (fun vs H Q E h => ?_) (fun cdv A outer s H vs Q E hr h => ?_)
  · obtain ⟨o, m, t, g, rfl, _⟩ := h
    rfl
  · obtain ⟨o, m, t, g, rfl, hO, k⟩ := h
    refine ⟨_, pss_cons (ps_set (i := 2) scShift.nd rfl (.inl rfl) (pe_lst (pa_cons (pe_call GV hr (by rfl) gV FV.kp bV .nil pass0 (pa_cons (pv 0) (pa_cons (pv 1) pa_nil))) pa_nil)))
      (pss_cut (ps_if (pt_cmpR op_lt (pv 1) (pe_callB call_len_seq (by rfl) T.len PySem.boot_len (pa_cons (pe_fld (pv 0) rfl) pa_nil)) (nomark _)) (pss_one (ps_set (i := 2) scShift.nd rfl (.inl rfl) (pe_callTy call_list_of (by rfl) T.list (by decide +kernel) (pa_cons (pe_slice sl_tupA (pe_fld (pv 0) rfl) (po_some (pv 1)) po_none) pa_nil)))) pss_nil)
      (pss_cons (ps_set (i := 3) scShift.nd rfl (.inl rfl) (pe_op op_mod (pe_callB (call_max2 rfl) (by rfl) DV.max (by decide +kernel) (pa_cons pe_int (pa_cons (pe_op op_add (pe_op op_sub (pv 1) (pe_callB call_len_seq (by rfl) T.len PySem.boot_len (pa_cons (pe_fld (pv 0) rfl) pa_nil))) pe_int) pa_nil)))
        (pe_callB call_len_seq (by rfl) T.len PySem.boot_len (pa_cons (pe_fld (pv 0) rfl) pa_nil))))
      (pss_one (ps_ret (pe_tup (pa_cons (pv 2) (pa_cons (pe_op op_catA (pe_slice sl_tupA (pe_fld (pv 0) rfl) (po_some (pv 3)) po_none) (pe_slice sl_tupA (pe_fld (pv 0) rfl) po_none (po_some (pv 3)))) pa_nil))))))), ?_⟩
    have hO0 := hO
    obtain ⟨dx, p, q, r, h1, h2, h3, h4, nf, t2, g2, sm⟩ := hO
    have t0 := nf.told
    have g0 := nf.gains
    have lT : ∀ {σ'' : L2.St} {H' : Hp}, Ex H H' → σ''[0]? = some (some (.ref o)) → Ev (tCB (fun xs H Q => ∃ p ys, xs = [V.ref p] ∧ (SqL K H p ys ∨ SqT K H p ys) ∧ Q (.int ys.length) H) (tCons (tFld K (tVar 0) "told") tNil)) σ'' H' (.int (t.length : Int)) :=
      fun e h0 => ev_lenF (ev_var h0) (e _ _ h1) G.cls G.told rfl (ex_t e h2)
    have lG : ∀ {σ'' : L2.St} {H' : Hp}, Ex H H' → σ''[0]? = some (some (.ref o)) → Ev (tCB (fun xs H Q => ∃ p ys, xs = [V.ref p] ∧ (SqL K H p ys ∨ SqT K H p ys) ∧ Q (.int ys.length) H) (tCons (tFld K (tVar 0) "gains") tNil)) σ'' H' (.int (g.length : Int)) :=
      fun e h0 => ev_lenF (ev_var h0) (e _ _ h1) G.cls G.gains rfl (ex_t e h3)
    refine q_asgL (xs := vI [val t g m]) (el_lst (ea_cons (ev_call (ea_cons (ev_var rfl) (ea_cons (ev_var rfl) ea_nil)) (fun H1 e Q q E => ⟨o, m, t, g, rfl, hO0.mono e, q⟩)) ea_nil) (Nat.le_of_ble_eq_true rfl)) fun b H1 hb e1 hb1 => ?_
    refine q_cut (M := fun σ' H' => ∃ c t', σ' = [some (.ref o), some (.int (m : Int)), some (.ref c), none] ∧ SqL K H' c (vI t') ∧ Ex H H' ∧ t' = (if m < t.length then t.drop m else [val t g m])) ?_ ?_
    · refine s_when (et_test (ev_op (ev_var rfl) (lT e1 rfl) rv_I0)) (fun ht H2 e2 => ?_) (fun ht H2 e2 => ?_)
      · have hlt : m < t.length := by have := of_decide_eq_true ht; omega
        have z := etu_cut (K := K) (σ := [some (.ref o), some (.int (m : Int)), some (.ref b), none]) (H := H2) (te := tFld K (tVar 0) "told") (tl := tPart (tVar 1)) (th := tNoPart) (lo := some (m : Int)) (hi := none) (ev_fld (ev_var rfl) (e2 _ _ (e1 _ _ h1)) G.cls G.told rfl) (eo_some (ev_var rfl)) eo_none (ex_t (e1.trans e2) h2)
        rw [cut_drop (by omega)] at z
        exact s_asgL (el_ofT z) fun c H3 _ e3 h3' => ⟨c, t.drop m, rfl, sq_of h3', (e1.trans e2).trans e3, by rw [if_pos hlt]⟩
      · have hge : ¬ m < t.length := by have := of_decide_eq_false ht; omega
        exact ⟨b, [val t g m], rfl, sq_of (e2 _ _ hb1), e1.trans e2, by rw [if_neg hge]⟩
    rintro σ' H2 ⟨c, t', rfl, hc, E2, ht'⟩
    obtain ⟨u, hu⟩ : ∃ u : Nat, u = (if m < t.length then 0 else m - t.length + 1) := ⟨_, rfl⟩
    have hr2 : u % g.length < g.length := Nat.mod_lt _ g0
    have emax : (if ((m : Int) - (t.length : Int) + 1 > 0) then ((m : Int) - (t.length : Int) + 1) else 0) = (u : Int) := by
      by_cases z : m < t.length
      · rw [if_pos z] at hu
        rw [if_neg (by omega)]
        omega
      · rw [if_neg z] at hu
        rw [if_pos (by omega)]
        omega
    refine q_asg (v := .int ((u % g.length : Nat) : Int)) (ev_is (ev_op (ev_is (ev_max2 ev_c (ev_op (ev_op (ev_var rfl) (lT E2 rfl) rv_I0) ev_c rv_I0)) (by rw [emax])) (lG E2 rfl) (rv_I (by omega))) (by rfl)) fun H3 e3 => ?_
    have E3 := E2.trans e3
    have hG3 := ex_t E3 h3
    have c2 := etu_cat (K := K) (σ := [some (.ref o), some (.int (m : Int)), some (.ref c), some (.int ((u % g.length : Nat) : Int))]) (H := H3)
      (etu_cut (te := tFld K (tVar 0) "gains") (tl := tPart (tVar 3)) (th := tNoPart) (lo := some ((u % g.length : Nat) : Int)) (hi := none) (ev_fld (ev_var rfl) (E3 _ _ h1) G.cls G.gains rfl) (eo_some (ev_var rfl)) eo_none hG3)
      (etu_cut (te := tFld K (tVar 0) "gains") (tl := tNoPart) (th := tPart (tVar 3)) (lo := none) (hi := some ((u % g.length : Nat) : Int)) (ev_fld (ev_var rfl) (E3 _ _ h1) G.cls G.gains rfl) eo_none (eo_some (ev_var rfl)) hG3)
      (by
        have z1 := cutV_length (vI g) (some ((u % g.length : Nat) : Int)) none
        have z2 := cutV_length (vI g) none (some ((u % g.length : Nat) : Int))
        rw [vI_len] at z1 z2
        omega)
    rw [cut_take (by omega), cut_drop (by omega)] at c2
    refine ⟨_, rfl, ?_⟩
    refine c2 H3 (Ex.refl H3) _ fun v H4 e4 hv => ?_
    refine ⟨by show 2 ≤ sizeLine; decide, fun x hx => ?_⟩
    have e5 := Ex.new (H := H4) (o := .tup [.ref c, .ref v]) hx
    refine k x c v t' (rot g (u % g.length)) _ ((E3.trans e4).trans e5) (st_of upd_same) (ex_l e5 (ex_l e4 (ex_l e3 hc))) ?_ ?_ ?_ (rot_len (by omega)) (small_rot sm hr2) (fun n => ?_) (fun i hi => ?_)
    · have e6 : vI (rot g (u % g.length)) = vI (g.drop (u % g.length)) ++ vI (g.take (u % g.length)) := by unfold vI rot; rw [List.map_append]
      rw [e6]
      exact ex_t e5 hv
    · rw [ht']
      by_cases z : m < t.length
      · rw [if_pos z, List.length_drop]; omega
      · rw [if_neg z]; exact Nat.one_pos
    · rw [ht']
      by_cases z : m < t.length
      · rw [if_pos z, List.length_drop]; omega
      · rw [if_neg z]; show 1 ≤ 2000; decide
    · rw [ht', hu]
      by_cases z : m < t.length
      · rw [if_pos z, if_pos z, Nat.zero_mod, rot_zero]
        exact val_shift1 z n
      · rw [if_neg z, if_neg z]
        exact val_shift2 t0 g0 (by omega) n
    · rw [ht'] at hi ⊢
      by_cases z : m < t.length
      · rw [if_pos z] at hi ⊢
        rw [List.length_drop] at hi
        exact ⟨m + i, by rw [at_drop, val_lt (by omega)]⟩
      · rw [if_neg z] at hi ⊢
        have : i = 0 := by
          have : i < 1 := hi
          omega
        subst this
        exact ⟨m, rfl⟩
end
end K02
namespace L2
open PySem PySem.Spec PyProof.Rows
section
variable {X : Cx}
def rLcm : List V → Hp → VK → Prop := fun vs H Q => ∃ a b : Nat, vs = [.int (a : Int), .int (b : Int)] ∧ a < 2 ^ 64 ∧ b < 2 ^ 64 ∧ Q (.int ((Nat.lcm a b : Nat) : Int)) H
theorem cr_lcm : CallR X (.builtin "math.lcm") rLcm := by
  intro pins s σ H vs us Q I r h
  obtain ⟨a, b, rfl, ha, hb, q⟩ := h
  obtain ⟨t, u, rfl⟩ := Vals.int2 r
  exact PySem.W.mc_lcm (by simpa using ha) (by simpa using hb) fun _ => ⟨.int _, H, I.tok _, ⟨_, rfl⟩, by simpa using q⟩
/-- a statement that is not come to -/
def tNo : TS := fun _ _ _ => False
theorem ps_no {st : Stmt} : PS X st tNo := ⟨fun _ _ _ _ _ _ h => h.elim⟩
end
end L2
namespace K02
open PySem L2 Evl Gr
abbrev sCommon : Stmt := top 22
abbrev sSum : Stmt := top 24
section
variable {K : PySem.W.Frag} {σ : L2.St} {H : Hp} {te : TE}
/-- [e for i, j in zip(x, y)] -/
theorem el_lcZ {ta : TA} {i j : Nat} {vs : List Nat} {xs ys : List V} (v : Nat → V) (h : ∀ H1, Ex H H1 → ∀ Q : List V → Hp → Prop, (∀ a b H2, Ex H1 H2 → SqL K H2 a xs → SqL K H2 b ys → Q [.ref a, .ref b] H2) → ta σ H1 Q)
    (hl : xs.length = ys.length) (hz : xs.length ≤ 40000) (hw : ∀ x y, wipe (((wipe σ vs).set i (some x)).set j (some y)) vs = wipe σ vs)
    (he : ∀ (k : Nat) x y H1, Ex H H1 → xs[k]? = some x → ys[k]? = some y → Ev te (((wipe σ vs).set i (some x)).set j (some y)) H1 (v k)) :
    EvL (tLc (iZip K ta) (gTup K 2 (gCons (gName i) (gCons (gName j) gNil))) tYes te vs) σ H ((List.range xs.length).map v) := fun H0 e Q q => h H0 e _ fun a b H1 e1 ha hb =>
  ⟨a, b, xs, ys, rfl, ha, hb, fun Dl hD => lc_it (n := xs.length) (walk_zip (xs := xs) (ys := ys) (by omega)) (Cw H1 (fun _ => true) v Dl) ⟨hD, Ex.new hD, upd_same⟩ (fun _ H' _ p => ⟨ex_l p.2.1 ha, ex_l p.2.1 hb⟩)
    (fun k x H' H'' hk p y => by
      obtain ⟨T, x1, y1, rfl, hT, rfl, hx, hy⟩ := y
      have e2 := Ex.new (H := H') (o := .tup [x1, y1]) hT
      have p' : Cw H1 (fun _ => true) v Dl k (upd H' T (.tup [x1, y1])) := ⟨p.1, p.2.1.trans e2, e2 _ _ p.2.2⟩
      exact ⟨T, _, rfl, st_of upd_same, rfl, _, _, rfl, _, _, rfl, rfl, hw _ _, cw_turn p' (by omega) et_none (fun _ => he k x1 y1 H1 (e.trans e1) hx hy)⟩)
    (fun H' p => q Dl H' (fresh_back e1 p.1) (e1.trans p.2.1) (by rw [← given_all]; exact p.2.2))⟩
end
section
variable {P : Program} {w : World} {K : PySem.W.Frag} {mg : Str → Option Value} {base : Heap}
/-! ### common_length -/
structure GlbL (mg : Str → Option Value) : Prop where
  lcm : mg "lcm" = some (.builtin "math.lcm")
  most : ∃ t, mg "MOST_PARTS" = some (.int 2000 t)
def spCommon (K : PySem.W.Frag) (C : Addr) : Sp := fun vs H Q _ => ∃ (o u : Addr) (t g t' g' : List Int), vs = [.ref o, .ref u] ∧ GrAt K C H o t g ∧ GrAt K C H u t' g' ∧ Nat.lcm g.length g'.length ≤ 2000 ∧ RetV (.int ((Nat.lcm g.length g'.length : Nat) : Int)) H Q
theorem scCommon : FnScope ["one", "other", "length"] ["one", "other"] (defScope sCommon) := ⟨rfl, rfl, rfl, by decide +kernel, rfl, by decide +kernel, by decide +kernel⟩
theorem ok_Common {C f : Addr} {fd : FuncData} (F : Fun K "common_length" "common_length" sCommon f fd) (T : GlbS mg) (L : GlbL mg) (G : GCls K C) : FnOk P w K mg base CX0 1 f fd ["one", "other"] (spCommon K C) := by
  obtain ⟨mt, gm⟩ := L.most
  refine F.ok scCommon (fun vs H Q E h => ?_) (fun cdv A outer s H vs Q E hr h => ?_)
  · obtain ⟨o, u, t, g, t', g', rfl, _⟩ := h
    rfl
  · obtain ⟨o, u, t, g, t', g', rfl, hO, hU, hl, k⟩ := h
    refine ⟨_, pss_cons (ps_set (i := 2) scCommon.nd rfl (.inl rfl) (pe_callBfun cr_lcm (by rfl) L.lcm (pa_cons (pe_callB call_len_seq (by rfl) T.len PySem.boot_len (pa_cons (pe_fld (pv 0) rfl) pa_nil)) (pa_cons (pe_callB call_len_seq (by rfl) T.len PySem.boot_len (pa_cons (pe_fld (pv 1) rfl) pa_nil)) pa_nil))))
      (pss_cons (ps_if (pt_cmpR op_gt (pv 2) (pe_glob (v := .int 2000) rfl gm ⟨_, rfl⟩) (nomark _)) (pss_one ps_no) pss_nil)
      (pss_one (ps_ret (pv 2)))), ?_⟩
    obtain ⟨dx, p, q, r, h1, h2, h3, h4, nf, t2, g2, sm⟩ := hO
    obtain ⟨dx', p', q', r', h1', h2', h3', h4', nf', t2', g2', sm'⟩ := hU
    refine q_asg (ev_cb (ea_cons (ev_lenF (ev_var rfl) h1 G.cls G.gains rfl h3) (ea_cons (ev_lenF (ev_var rfl) h1' G.cls G.gains rfl h3') ea_nil)) (fun H1 e Q q => ⟨_, _, rfl, by omega, by omega, q H1 (Ex.refl H1)⟩)) fun H1 e1 => ?_
    refine q_when (et_test (ev_op (ev_var rfl) ev_c rv_I0)) (fun ht H2 e2 => ?_) (fun ht H2 e2 => ?_)
    · have := of_decide_eq_true ht
      omega
    · exact s_ret (ev_var rfl) fun H3 e3 => k H3 ((e1.trans e2).trans e3)
/-! ### summed_parts -/
def spSum (K : PySem.W.Frag) (C : Addr) : Sp := fun vs H Q _ => ∃ (o u : Addr) (t g t' g' : List Int), vs = [.ref o, .ref u] ∧ GrAt K C H o t g ∧ GrAt K C H u t' g' ∧ Nat.lcm g.length g'.length ≤ 2000 ∧
  ∀ r p q b l H', Ex H H' → SqT K H' r [.ref p, .ref q] → SqL K H' p (vI (pT (fun n => val t g n + val t' g' n) b)) → SqL K H' q (vI (pG (fun n => val t g n + val t' g' n) b l)) → 0 < b → b ≤ 2000 → 0 < l → l ≤ 2000 →
    (∀ n, val (pT (fun n => val t g n + val t' g' n) b) (pG (fun n => val t g n + val t' g' n) b l) n = val t g n + val t' g' n) → Q (.ref r) H'
theorem scSum : FnScope ["one", "other", "begin", "many", "values", "left", "right"] ["one", "other"] (defScope sSum) := ⟨rfl, rfl, rfl, by decide +kernel, rfl, by decide +kernel, by decide +kernel⟩
theorem ok_Sum {C f fB fC fF fP : Addr} {fd fdB fdC fdF fdP : FuncData} (F : Fun K "summed_parts" "summed_parts" sSum f fd) (T : GlbS mg) (DV : GlbV mg) (L : GlbL mg) (G : GCls K C)
    (FB : Fun K "begin_of_both" "begin_of_both" sBegin fB fdB) (bB : Binds K fdB ["one", "other"] []) (gB : mg "begin_of_both" = some (.ref fB))
    (FC : Fun K "common_length" "common_length" sCommon fC fdC) (bC : Binds K fdC ["one", "other"] []) (gC : mg "common_length" = some (.ref fC))
    (FF : Fun K "first_values" "first_values" sFirst fF fdF) (bF : Binds K fdF ["one", "many"] []) (gF : mg "first_values" = some (.ref fF))
    (FP : Fun K "parted" "parted" sPart fP fdP) (bP : Binds K fdP ["values", "many"] []) (gP : mg "parted" = some (.ref fP)) : FnOk P w K mg base CX0 2 f fd ["one", "other"] (spSum K C) := by
  have GB : FnOk P w K mg base CX0 1 fB fdB ["one", "other"] (spBegin K C) := ok_Begin FB T DV G
  have GC : FnOk P w K mg base CX0 1 fC fdC ["one", "other"] (spCommon K C) := ok_Common FC T L G
  have GF : FnOk P w K mg base CX0 1 fF fdF ["one", "many"] (spFirst K C) := ok_First FF T G
  have GP : FnOk P w K mg base CX0 1 fP fdP ["values", "many"] (spPart K) := ok_Part FP T
  refine F.ok scSum (fun vs H Q E h => ?_) (fun cdv A outer s H vs Q E hr h => ?_)
  · obtain ⟨o, u, t, g, t', g', rfl, _⟩ := h
    rfl
  · obtain ⟨o, u, t, g, t', g', rfl, hO, hU, hl, k⟩ := h
    refine ⟨_, pss_cons (ps_set (i := 2) scSum.nd rfl (.inl rfl) (pe_call GB hr (by rfl) gB FB.kp bB .nil pass0 (pa_cons (pv 0) (pa_cons (pv 1) pa_nil))))
      (pss_cons (ps_set (i := 3) scSum.nd rfl (.inl rfl) (pe_op op_add (pv 2) (pe_call GC hr (by rfl) gC FC.kp bC .nil pass0 (pa_cons (pv 0) (pa_cons (pv 1) pa_nil)))))
      (pss_cons (ps_setLc (i := 4) (own := [("left", 5), ("right", 6)]) (g := gTup K 2 (gCons (gName 5) (gCons (gName 6) gNil))) rfl scSum.nd rfl (by rfl) (by rfl)
          (pi_zip (by rfl) DV.zip (pa_cons (pe_call GF hr (by rfl) gF FF.kp bF .nil pass0 (pa_cons (pv 0) (pa_cons (pv 3) pa_nil))) (pa_cons (pe_call GF hr (by rfl) gF FF.kp bF .nil pass0 (pa_cons (pv 1) (pa_cons (pv 3) pa_nil))) pa_nil)))
          (blkOk_by (own := [("left", 5), ("right", 6)]) (N := ["one", "other", "begin", "many", "values", "left", "right"]) (sc := defScope sSum) (by decide +kernel))
          (fun _ _ _ _ _ => pg_tup rfl (pgs_cons (pg_name (i := 5) scSum.nd rfl (Or.inl rfl)) (pgs_cons (pg_name (i := 6) scSum.nd rfl (Or.inl rfl)) pgs_nil))) (fun _ _ _ _ _ => pts_nil) (fun _ _ _ _ _ => pe_op op_add (pv 5) (pv 6)))
      (pss_one (ps_ret (pe_call GP hr (by rfl) gP FP.kp bP .nil pass0 (pa_cons (pv 4) (pa_cons (pv 2) pa_nil))))))), ?_⟩
    have hO0 := hO
    have hU0 := hU
    obtain ⟨dx, p, q, r, h1, h2, h3, h4, nf, t2, g2, sm⟩ := hO
    obtain ⟨dx', p', q', r', h1', h2', h3', h4', nf', t2', g2', sm'⟩ := hU
    have t0 := nf.told
    have t0' := nf'.told
    have l0 : 0 < Nat.lcm g.length g'.length := Nat.lcm_pos nf.gains nf'.gains
    obtain ⟨b, hb⟩ : ∃ b, b = max t.length t'.length := ⟨_, rfl⟩
    obtain ⟨l, hl'⟩ : ∃ l, l = Nat.lcm g.length g'.length := ⟨_, rfl⟩
    rw [← hl'] at hl l0
    refine q_asg (v := .int (b : Int)) (ev_call (ea_cons (ev_var rfl) (ea_cons (ev_var rfl) ea_nil)) (fun H1 e Q q E => ⟨o, u, t, g, t', g', rfl, hO0.mono e, hU0.mono e, by rw [← hb]; exact q⟩)) fun H1 e1 => ?_
    refine q_asg (v := .int ((b + l : Nat) : Int)) (ev_is (ev_op (y := .int (l : Int)) (ev_var rfl) (ev_call (ea_cons (ev_var rfl) (ea_cons (ev_var rfl) ea_nil)) (fun H2 e Q q E => ⟨o, u, t, g, t', g', rfl, hO0.mono (e1.trans e), hU0.mono (e1.trans e), by rw [← hl']; exact hl, by rw [← hl']; exact q⟩)) rv_I0) (by congr 1)) fun H2 e2 => ?_
    have E2 := e1.trans e2
    have c1 := el_lcZ (K := K) (σ := [some (.ref o), some (.ref u), some (.int (b : Int)), some (.int ((b + l : Nat) : Int)), none, none, none]) (H := H2) (te := tOp (rI0 fun i j => .int (i + j)) (tVar 5) (tVar 6)) (i := 5) (j := 6) (vs := [5, 6])
      (ta := tCons (tCall (spFirst K C) [] E0 (tCons (tVar 0) (tCons (tVar 3) tNil))) (tCons (tCall (spFirst K C) [] E0 (tCons (tVar 1) (tCons (tVar 3) tNil))) tNil))
      (xs := vI (pT (val t g) (b + l))) (ys := vI (pT (val t' g') (b + l))) (fun n => V.int (val t g n + val t' g' n))
      (fun H3 e3 Q3 q3 => ⟨_, rfl, _, rfl, o, b + l, t, g, rfl, hO0.mono (E2.trans e3), by omega, fun x H4 _ e4 hx => ⟨_, rfl, _, rfl, u, b + l, t', g', rfl, hU0.mono ((E2.trans e3).trans e4), by omega, fun y H5 _ e5 hy => q3 x y H5 (e4.trans e5) (sq_of (e5 _ _ hx)) (sq_of hy)⟩⟩)
      (by rw [vI_len, vI_len, pT_len, pT_len]) (by rw [vI_len, pT_len]; omega) (fun _ _ => rfl)
      (fun n x y H3 _ hx hy => by
        have hn : n < b + l := by
          have := (List.getElem?_eq_some_iff.mp hx).1
          rwa [vI_len, pT_len] at this
        rw [vI_get (by rw [pT_len]; exact hn), pT_at hn] at hx hy
        obtain rfl := Option.some.inj hx
        obtain rfl := Option.some.inj hy
        exact ev_op (ev_var rfl) (ev_var rfl) rv_I0)
    have e4 : (List.range (vI (pT (val t g) (b + l))).length).map (fun n => V.int (val t g n + val t' g' n)) = vI (pT (fun n => val t g n + val t' g' n) (b + l)) := by
      rw [vI_len, pT_len]
      unfold vI pT
      rw [List.map_map]
      rfl
    rw [e4] at c1
    refine q_asgL c1 fun x H3 hx e3 h3x => ?_
    refine ⟨_, rfl, _, rfl, x, b, l, fun n => val t g n + val t' g' n, rfl, sq_of h3x, by omega, by omega, fun r2 p2 q2 H4 e5 hr2 hp2 hq2 => ?_⟩
    exact k r2 p2 q2 b l H4 ((E2.trans e3).trans e5) hr2 hp2 hq2 (by omega) (by omega) l0 hl (val_sum t0 t0' (by omega) (by omega) l0 (by rw [hl']; exact Nat.dvd_lcm_left _ _) (by rw [hl']; exact Nat.dvd_lcm_right _ _))
end
end K02
/-! a field as one of several targets -/
namespace L2
open PySem PySem.Spec PyProof.Rows
/-- o.f = .., among targets -/
def gFld (K : PySem.W.Frag) (to : TE) (f : Str) : TG := fun v σ H Q => to σ H fun x H1 => ∃ a C dx fs, x = .ref a ∧ H1 a = some (.ins C dx fs) ∧ Cls K C ∧ NoAttr K C f ∧ fs.length < 1000 ∧ Q σ (upd H1 a (.ins C dx (putF f v fs)))
theorem pg_fld {X : Cx} {o : Expr} {f : Str} {pos : Pos} {to : TE} (ho : PE X o to) : PG X (.Attribute o f pos) (gFld X.K to f) := by
  refine ⟨fun pins s σ H v u Q I r h => ?_⟩
  rw [assign_Attribute]
  refine wpAny_bind (wpAny_holding (thn (ho.run pins s σ H _ I h) fun ov s1 ⟨x, H1, I1, rx, a, C, dx, fs, ex, ea, c, n, l, q⟩ => ?_))
  subst ex
  obtain rfl : ov = Value.ref a := rx
  refine wpAny_bind (wpAny_standAt (wpAny_bind (wpAny_holding (setattr_ok I1 ea c n l r fun s2 I2 => ?_))))
  exact wpAny_release ⟨σ, _, I2, q⟩
end L2
namespace L2
open PySem PySem.Spec PyProof.Rows
theorem PI.or {X : Cx} {tg e : Expr} {w1 w2 : TI} (h1 : PI X tg e w1) (h2 : PI X tg e w2) : PI X tg e (fun σ H R => w1 σ H R ∨ w2 σ H R) := ⟨fun pins s σ H R I h => h.elim (h1.run pins s σ H R I) (h2.run pins s σ H R I)⟩
end L2
namespace K02
open PySem L2 Evl Gr
abbrev sParts : Stmt := top 36
/-- over a list or a tuple -/
def iQ (K : PySem.W.Frag) (tl : TE) : TI := fun σ H R => iList K tl σ H R ∨ iTup K tl σ H R
theorem pi_seq {X : Cx} {tg e : Expr} {tl : TE} (h : PE X e tl) : PI X tg e (iQ X.K tl) := (pi_list h).or (pi_tup h)
section
variable {K : PySem.W.Frag} {σ : L2.St} {H : Hp} {te : TE}
theorem el_lcQ {a : Addr} {xs : List V} {tl : TE} {j : Nat} {vs : List Nat} (v : Nat → V) (h : Ev tl σ H (.ref a)) (hx : Sq K H a xs) (hz : xs.length ≤ 40000) (hw : ∀ x, wipe ((wipe σ vs).set j (some x)) vs = wipe σ vs)
    (he : ∀ (i : Nat) (x : V) H1, Ex H H1 → xs[i]? = some x → Ev te ((wipe σ vs).set j (some x)) H1 (v i)) : EvL (tLc (iQ K tl) (gName j) tYes te vs) σ H ((List.range xs.length).map v) := fun H0 e Q q => by
  rcases hx with hx | hx
  · exact .inl (h H0 e _ fun H1 e1 => ⟨a, rfl, ⟨xs, ex_l (e.trans e1) hx⟩, fun Dl hD => lc_it (n := xs.length) (walk_list (xs := xs)) (Cw H1 (fun _ => true) v Dl) ⟨hD, Ex.new hD, upd_same⟩ (fun _ H' _ p => ex_l ((e.trans e1).trans p.2.1) hx)
      (fun k x H' H'' hk p y => by
        obtain ⟨rfl, hx'⟩ := y
        exact ⟨hw _, cw_turn p (by omega) et_none (fun _ => he k x H1 (e.trans e1) hx')⟩)
      (fun H' p => q Dl H' (fresh_back e1 p.1) (e1.trans p.2.1) (by rw [← given_all]; exact p.2.2))⟩)
  · exact .inr (h H0 e _ fun H1 e1 => ⟨a, rfl, ⟨xs, ex_t (e.trans e1) hx⟩, fun Dl hD => lc_it (n := xs.length) (walk_tup (xs := xs)) (Cw H1 (fun _ => true) v Dl) ⟨hD, Ex.new hD, upd_same⟩ (fun _ H' _ p => ex_t ((e.trans e1).trans p.2.1) hx)
      (fun k x H' H'' hk p y => by
        obtain ⟨rfl, hx'⟩ := y
        exact ⟨hw _, cw_turn p (by omega) et_none (fun _ => he k x H1 (e.trans e1) hx')⟩)
      (fun H' p => q Dl H' (fresh_back e1 p.1) (e1.trans p.2.1) (by rw [← given_all]; exact p.2.2))⟩)
/-- a list or a tuple is one of both -/
theorem sq_ty {a : Addr} {xs : List V} (h : Sq K H a xs) : ∃ T : String, TyX K H (.ref a) (.type T) ∧ (T = "list" ∨ T = "tuple") := by
  rcases h with (h | h) | (h | h)
  · rcases h with h | ⟨o, h⟩
    · exact ⟨"list", .base (.lst h), .inl rfl⟩
    · exact ⟨"list", .base (.frz h), .inl rfl⟩
  · obtain ⟨o, its, n, lk, hc, _⟩ := h
    exact ⟨"list", .kList lk hc, .inl rfl⟩
  · rcases h with h | ⟨o, h⟩
    · exact ⟨"tuple", .base (.tup h), .inr rfl⟩
    · exact ⟨"tuple", .fTuple h, .inr rfl⟩
  · obtain ⟨o, its, n, lk, hc, _⟩ := h
    exact ⟨"tuple", .kTuple lk hc, .inr rfl⟩
theorem kit_lt {T : String} (h : T = "list" ∨ T = "tuple") : PySem.W.kitAny K (.type T) [.type "list", .type "tuple"] = some true := by
  rcases h with rfl | rfl
  · exact kitAny_cons (b := true) (kit_ty (by decide +kernel)) (fun h => absurd h (by decide)) fun _ => rfl
  · exact kitAny_cons (b := false) (kit_ty (by decide +kernel)) (fun _ => kitAny_cons (b := true) (kit_ty (by decide +kernel)) (fun h => absurd h (by decide)) fun _ => rfl) fun h => absurd h (by decide)
/-- isinstance(e, (list, tuple)), e one of both -/
theorem ev_isLT {ta : TE} {a : Addr} {xs : List V} (ha : Ev ta σ H (.ref a)) (h : Sq K H a xs) : Ev (tCB (rIsiT K) (tCons ta (tCons (tTup (tCons (tC (.ty "list")) (tCons (tC (.ty "tuple")) tNil))) tNil))) σ H (.bl true) := fun H1 e Q q =>
  ha H1 e _ fun H2 e2 => eu_tup (σ := σ) (H := H2) (ea_cons ev_c (ea_cons ev_c ea_nil)) (by show 2 ≤ 100000; decide) H2 (Ex.refl H2) _ fun p H3 _ e3 h3 => by
    obtain ⟨T, ty, hT⟩ := sq_ty (h.mono ((e.trans e2).trans e3))
    exact ⟨_, p, _, _, _, true, rfl, h3, .cons (.ty "list") (.cons (.ty "tuple") .nil), ty, kit_lt hT, q H3 (e2.trans e3)⟩
/-- all(e), e a new list of bools that are True -/
theorem ev_all {te : TE} {bs : List Bool} (h : EvL te σ H (bs.map V.bl)) : Ev (tCB (rAll K) (tCons te tNil)) σ H (.bl (bs.all id)) := fun H1 e Q q =>
  h H1 e _ fun p H2 _ e2 hp => ⟨p, bs, rfl, sq_of hp, q H2 e2⟩
end
section
variable {P : Program} {w : World} {K : PySem.W.Frag} {mg : Str → Option Value} {base : Heap}
/-! ### are_parts -/
def Pos (l : List Int) : Prop := ∀ i, i < l.length → 0 ≤ at' l i
def spParts (K : PySem.W.Frag) : Sp := fun vs H Q _ => ∃ (a : Addr) (l : List Int), vs = [.ref a, .int 2000] ∧ Sq K H a (vI l) ∧ 0 < l.length ∧ l.length ≤ 2000 ∧ Pos l ∧ RetV (.bl true) H Q
theorem scParts : FnScope ["values", "most", "value"] ["values", "most"] (defScope sParts) := ⟨rfl, rfl, rfl, by decide +kernel, rfl, by decide +kernel, by decide +kernel⟩
theorem ok_Parts {f fI fZ : Addr} {fd fdI fdZ : FuncData} (F : Fun K "are_parts" "are_parts" sParts f fd) (T : GlbS mg) (TT : GlbT mg) (all : mg "all" = none)
    (GZ : FnOk P w K mg base CX0 2 fZ fdZ ["value"] (spFrom0 K)) (kZ : PySem.W.keepIn K (.ref fZ) = true) (bZ : Binds K fdZ ["value"] []) (gZ : mg "is_from_zero" = some (.ref fZ)) :
    FnOk P w K mg base CX0 3 f fd ["values", "most"] (spParts K) := by
  refine F.ok scParts (fun vs H Q E h => ?_) (fun cdv A outer s H vs Q E hr h => ?_)
  · obtain ⟨a, l, rfl, _⟩ := h
    rfl
  · obtain ⟨a, l, rfl, hA, l0, l1, hp, k⟩ := h
    refine ⟨_, pss_cons (ps_if (PW.pt (pw_or (pt_not (pt_val (pe_callB call_isiT (by rfl) TT.inst (by decide +kernel) (pa_cons (pv 0) (pa_cons (pe_tup (pa_cons (pe_bltn (v := .ty "list") (by rfl) T.list (by decide +kernel) rfl) (pa_cons (pe_bltn (v := .ty "tuple") (by rfl) T.tuple (by decide +kernel) rfl) pa_nil))) pa_nil)))))
        (pw_or1 (pt_not (pt_chain op_le op_le pe_int (pe_callB call_len_seq (by rfl) T.len PySem.boot_len (pa_cons (pv 0) pa_nil)) (pv 1)))))) (pss_one (ps_ret pe_bl)) pss_nil)
      (pss_one (ps_ret (pe_callB (cr_all rfl) (by rfl) all (by decide +kernel) (pa_cons (pe_lc (own := [("value", 2)]) (g := gName 2) rfl scParts.nd (pi_seq (pv 0)) (blkOk_by (own := [("value", 2)]) (N := ["values", "most", "value"]) (sc := defScope sParts) (by decide +kernel))
        (fun _ _ _ _ _ => pg_name (i := 2) scParts.nd rfl (Or.inl rfl)) (fun _ _ _ _ _ => pts_nil) (fun _ _ _ _ _ => pe_call GZ hr (by rfl) gZ kZ bZ .nil pass0 (pa_cons (pv 2) pa_nil))) pa_nil)))), ?_⟩
    refine q_when (b := false) (et_is (et_or (et_not (et_B (ev_isLT (ev_var rfl) hA))) (fun _ => et_not (et_B (ev_chain ev_c (ev_is (ev_cb (ea_cons (ev_var rfl) ea_nil) (rc_lenQ hA)) (by rw [vI_len])) (ev_var rfl))))) (by
      rw [decide_eq_true (by omega : (1 : Int) ≤ (l.length : Int)), decide_eq_true (by omega : (l.length : Int) ≤ 2000)]
      rfl)) (fun hb => absurd hb (by decide)) (fun _ H1 e1 => ?_)
    have c1 := el_lcQ (K := K) (σ := [some (.ref a), some (.int 2000), none]) (H := H1) (te := tCall (spFrom0 K) [] E0 (tCons (tVar 2) tNil)) (a := a) (xs := vI l) (tl := tVar 0) (j := 2) (vs := [2]) (fun _ => V.bl true) (ev_var rfl) (hA.mono e1) (by rw [vI_len]; omega) (fun _ => rfl)
      (fun i x H2 e2 hx => by
        have hi : i < l.length := by
          have := (List.getElem?_eq_some_iff.mp hx).1
          rwa [vI_len] at this
        rw [vI_get hi] at hx
        obtain rfl := Option.some.inj hx
        refine ev_call (ea_cons (ev_var rfl) ea_nil) fun H3 e3 Q3 q3 E3 => .inl ⟨_, rfl, ?_⟩
        rw [decide_eq_true (hp i hi)]
        exact q3)
    have e2 : (List.range (vI l).length).map (fun _ => V.bl true) = (List.replicate l.length true).map V.bl := by
      rw [vI_len, List.map_const', List.length_range, List.map_replicate]
    rw [e2] at c1
    refine s_ret (ev_is (ev_all c1) (by congr 1; rw [List.all_eq_true]; intro b hb; exact (List.eq_of_mem_replicate hb))) fun H2 e3 => k H2 (e1.trans e3)
end
end K02
namespace Gr
/-- the gains of a normal form are gains of the growth -/
theorem small_of {t g t' g' : List Int} (nf : NF t' g') (t0 : 0 < t.length) (g0 : 0 < g.length) (sm : Small g) (e : ∀ n, val t' g' n = val t g n) : Small g' := fun i hi => by
  have p := (dif_pd (g := g')).mul t.length i
  rw [dif_lt hi] at p
  have m1 : t.length ≤ t.length * g'.length := Nat.le_mul_of_pos_right _ nf.gains
  have a := val_step (g := g') nf.told (i + t.length * g'.length)
  rw [p, e, e] at a
  have b := rise_ge (g := g) t0 (n := t'.length - 1 + (i + t.length * g'.length)) (by omega)
  unfold rise at b
  rw [b] at a
  rw [← a]
  exact sm _ (Nat.mod_lt _ g0)
end Gr
namespace K02
open PySem L2 Evl Gr ClX
theorem val_nonneg {t g : List Int} (pt : Pos t) (t0 : 0 < t.length) (g0 : 0 < g.length) (sm : Small g) (n : Nat) : 0 ≤ val t g n := by
  unfold val
  by_cases h : n < t.length
  · rw [if_pos h]
    exact pt n h
  · rw [if_neg h]
    have a := pt (t.length - 1) (by omega)
    have b := (acc_small sm g0 (n - t.length + 1)).1
    unfold lst
    omega
abbrev sGr (i : Nat) : Stmt := inClass (top 38) i
theorem sqT_upd {K : PySem.W.Frag} {H : Hp} {o p C dx : Addr} {fs : List (Str × V)} {u : HO} {xs : List V} (h : SqT K H p xs) (ho : H o = some (.ins C dx fs)) : SqT K (upd H o u) p xs := by
  rcases h with (h | ⟨o', h⟩) | h
  · exact .inl (.inl (by rw [upd_ne (fun z => by rw [z, ho] at h; cases h)]; exact h))
  · exact .inl (.inr ⟨o', by rw [upd_ne (fun z => by rw [z, ho] at h; cases h)]; exact h⟩)
  · exact .inr h
theorem ev_cval {K : PySem.W.Frag} {σ : L2.St} {H : Hp} {ta : TE} {C : Addr} {mc : Value} {f : Str} {v : V} {u : Value} (ha : Ev ta σ H (.ref C)) (r : CRead K C mc) (k : CVal K C mc f v u) : Ev (tCVal K ta f) σ H v := fun H1 e Q q =>
  ha H1 e _ fun H2 e2 => ⟨C, mc, v, u, rfl, r, k, q H2 e2⟩
section
variable {P : Program} {w : World} {K : PySem.W.Frag} {mg : Str → Option Value} {base : Heap}
/-! ### Growth.__init__ -/
def spInit (K : PySem.W.Frag) (C : Addr) : Sp := fun vs H Q _ => ∃ (o a b dx : Addr) (t g : List Int), vs = [.ref o, .ref a, .ref b] ∧ H o = some (.ins C dx []) ∧ Sq K H a (vI t) ∧ Sq K H b (vI g) ∧ 0 < t.length ∧ t.length ≤ 2000 ∧ 0 < g.length ∧ g.length ≤ 2000 ∧ Pos t ∧ Small g ∧
  ∀ t' g' H', Keep o H H' → GrAt K C H' o t' g' → Pos t' → (∀ n, val t' g' n = val t g n) → Q .non H'
theorem scInit : FnScope ["self", "told", "gains"] ["self", "told", "gains"] (defScope (sGr 1)) := ⟨rfl, rfl, rfl, by decide +kernel, rfl, by decide +kernel, by decide +kernel⟩
/-- what the class's constant is, and the class's own name -/
structure GName (K : PySem.W.Frag) (mg : Str → Option Value) (C : Addr) (mc : Value) : Prop where
  g : mg "Growth" = some (.ref C)
  rd : CRead K C mc
  most : ∃ u, CVal K C mc "MOST" (.int 2000) u
theorem ok_Init {C f fP fN fR : Addr} {mc : Value} {fd fdP fdN fdR : FuncData} {dvs : List V} (F : FunD K "__init__" "Growth.__init__" (defArgs (sGr 1)) (defBody (sGr 1)) (defScope (sGr 1)) dvs [] f fd) (N : GName K mg C mc) (G : GCls K C)
    (GP : FnOk P w K mg base CX0 3 fP fdP ["values", "most"] (spParts K)) (kP : PySem.W.keepIn K (.ref fP) = true) (bP : Binds K fdP ["values", "most"] []) (gP : mg "are_parts" = some (.ref fP))
    (GN : FnOk P w K mg base CX0 2 fN fdN ["told", "gains"] (spNF K)) (kN : PySem.W.keepIn K (.ref fN) = true) (bN : Binds K fdN ["told", "gains"] []) (gN : mg "normal_form" = some (.ref fN))
    (GR : FnOk P w K mg base CX0 1 fR fdR ["gains"] (spRis K)) (kR : PySem.W.keepIn K (.ref fR) = true) (bR : Binds K fdR ["gains"] []) (gR : mg "rises_of" = some (.ref fR)) :
    FnOk P w K mg base CX0 4 f fd ["self", "told", "gains"] (spInit K C) := by
  obtain ⟨mu, cm⟩ := N.most
  refine F.ok scInit (fun vs H Q E h => ?_) (fun cdv A outer s H vs Q E hr h => ?_)
  · obtain ⟨o, a, b, dx, t, g, rfl, _⟩ := h
    rfl
  · obtain ⟨o, a, b, dx, t, g, rfl, hO, hA, hB, t0, t1, g0, g1, pt, sm, k⟩ := h
    refine ⟨_, pss_cons (ps_if (pt_not (pt_val (pe_call GP hr (by rfl) gP kP bP .nil pass0 (pa_cons (pv 1) (pa_cons (pe_cval (pe_glob (v := .ref C) rfl N.g rfl)) pa_nil))))) (pss_one ps_no) pss_nil)
      (pss_cons (ps_if (pt_not (pt_val (pe_call GP hr (by rfl) gP kP bP .nil pass0 (pa_cons (pv 2) (pa_cons (pe_cval (pe_glob (v := .ref C) rfl N.g rfl)) pa_nil))))) (pss_one ps_no) pss_nil)
      (pss_cons (ps_asg (pe_call GN (hr.mono (by decide)) (by rfl) gN kN bN .nil pass0 (pa_cons (pv 1) (pa_cons (pv 2) pa_nil))) (pg_tup rfl (pgs_cons (pg_fld (pv 0)) (pgs_cons (pg_fld (pv 0)) pgs_nil))))
      (pss_one (ps_fld (pv 0) (pe_call GR (hr.mono (by decide)) (by rfl) gR kR bR .nil pass0 (pa_cons (pe_fld (pv 0) rfl) pa_nil)) (by rfl))))), ?_⟩
    have yes : ∀ {i : Nat} {c : Addr} {l : List Int} {H' : Hp} {σ : L2.St}, σ[i]? = some (some (.ref c)) → Sq K H' c (vI l) → 0 < l.length → l.length ≤ 2000 → Pos l →
        EvT (tNot (tB (tCall (spParts K) [] E0 (tCons (tVar i) (tCons (tCVal K (tC (.ref C)) "MOST") tNil))))) σ H' false := fun h0 hs l0 l1 lp =>
      et_is (et_not (et_B (ev_call (ea_cons (ev_var h0) (ea_cons (ev_cval ev_c N.rd cm) ea_nil)) fun H1 e Q q E => ⟨_, _, rfl, hs.mono e, l0, l1, lp, q⟩))) rfl
    have pg : Pos g := fun i hi => (sm i hi).1
    refine q_when (yes rfl hA t0 t1 pt) (fun hb => absurd hb (by decide)) (fun _ H1 e1 => ?_)
    refine q_when (yes rfl (hB.mono e1) g0 g1 pg) (fun hb => absurd hb (by decide)) (fun _ H2 e2 => ?_)
    have E2 := e1.trans e2
    refine ⟨_, rfl, _, rfl, a, b, t, g, rfl, hA.mono E2, hB.mono E2, t0, by omega, g0, by omega, fun r p q t' g' H3 e3 hr3 hp hq nf hv l1 l2 => ?_⟩
    have hO3 := e3 _ _ (E2 _ _ hO)
    refine ⟨r, [.ref p, .ref q], rfl, hr3, rfl, _, _, rfl, ⟨_, rfl, o, C, dx, [], rfl, hO3, G.cls, G.told, Nat.le_of_ble_eq_true rfl, ⟨_, _, rfl, ⟨_, rfl, o, C, dx, _, rfl, upd_same, G.cls, G.gains, Nat.le_of_ble_eq_true rfl, ⟨rfl, ?_⟩⟩⟩⟩⟩
    have kp3 : Keep o H (upd (upd H3 o (.ins C dx (putF "told" (.ref p) []))) o (.ins C dx (putF "gains" (.ref q) (putF "told" (.ref p) [])))) := fun c u hc hn => by
      rw [upd_ne hn, upd_ne hn]
      exact e3 _ _ (E2 _ _ hc)
    have hp4 : SqT K (upd (upd H3 o (.ins C dx (putF "told" (.ref p) []))) o (.ins C dx (putF "gains" (.ref q) (putF "told" (.ref p) [])))) p (vI t') := sqT_upd (sqT_upd hp hO3) upd_same
    have hq4 : SqT K (upd (upd H3 o (.ins C dx (putF "told" (.ref p) []))) o (.ins C dx (putF "gains" (.ref q) (putF "told" (.ref p) [])))) q (vI g') := sqT_upd (sqT_upd hq hO3) upd_same
    have hO4 : (upd (upd H3 o (.ins C dx (putF "told" (.ref p) []))) o (.ins C dx (putF "gains" (.ref q) (putF "told" (.ref p) [])))) o = some (.ins C dx [("told", .ref p), ("gains", .ref q)]) := upd_same
    generalize upd (upd H3 o (.ins C dx (putF "told" (.ref p) []))) o (.ins C dx (putF "gains" (.ref q) (putF "told" (.ref p) []))) = H4 at kp3 hp4 hq4 hO4 ⊢
    refine ⟨_, rfl, o, C, dx, _, .ref q, rfl, hO4, G.cls, G.gains, rfl, q, g', rfl, hq4, by omega, fun pr H5 e5 hpr => ?_⟩
    refine ⟨_, rfl, o, C, dx, _, rfl, e5 _ _ hO4, G.cls, G.rises, Nat.le_of_ble_eq_true rfl, ?_⟩
    have hO5 := e5 _ _ hO4
    refine k t' g' _ (fun c u hc hn => by rw [upd_ne hn]; exact e5 _ _ (kp3 _ _ hc hn)) ⟨dx, p, q, pr, upd_same, sqT_upd (ex_t e5 hp4) hO5, sqT_upd (ex_t e5 hq4) hO5, sqT_upd hpr hO5, nf, by omega, by omega, small_of nf t0 g0 sm hv⟩ (fun i hi => by
      have z := val_nonneg pt t0 g0 sm i
      rwa [← hv, val_lt hi] at z) hv
end
end K02
namespace Gr
/-- at last it never falls, and rises by no more than B -/
def Tail (f : Nat → Int) (B : Int) : Prop := ∃ m, ∀ n, m ≤ n → 0 ≤ f (n + 1) - f n ∧ f (n + 1) - f n ≤ B
theorem tail_val {t g : List Int} {B : Int} (t0 : 0 < t.length) (g0 : 0 < g.length) (h : ∀ i, i < g.length → 0 ≤ at' g i ∧ at' g i ≤ B) : Tail (val t g) B := ⟨t.length - 1, fun n hn => by
  have := rise_ge (g := g) t0 hn
  unfold rise at this
  rw [this]
  exact h _ (Nat.mod_lt _ g0)⟩
theorem gains_tail {t g : List Int} {f : Nat → Int} {B : Int} (t0 : 0 < t.length) (hf : ∀ n, val t g n = f n) (h : Tail f B) (i : Nat) (hi : i < g.length) : 0 ≤ at' g i ∧ at' g i ≤ B := by
  obtain ⟨m, hm⟩ := h
  have p := (dif_pd (g := g)).mul m i
  rw [dif_lt hi] at p
  have m1 : m ≤ m * g.length := Nat.le_mul_of_pos_right _ (by omega)
  have a := val_step (g := g) t0 (i + m * g.length)
  rw [p, hf, hf] at a
  rw [← a]
  exact hm _ (by omega)
theorem Tail.add {f g : Nat → Int} {A B : Int} (h : Tail f A) (h' : Tail g B) : Tail (fun n => f n + g n) (A + B) := by
  obtain ⟨m, hm⟩ := h
  obtain ⟨k, hk⟩ := h'
  refine ⟨max m k, fun n hn => ?_⟩
  have a := hm n (by omega)
  have b := hk n (by omega)
  show 0 ≤ f (n + 1) + g (n + 1) - (f n + g n) ∧ f (n + 1) + g (n + 1) - (f n + g n) ≤ A + B
  omega
theorem Tail.mono {f : Nat → Int} {A B : Int} (h : Tail f A) (hB : A ≤ B) : Tail f B := by
  obtain ⟨m, hm⟩ := h
  exact ⟨m, fun n hn => ⟨(hm n hn).1, Int.le_trans (hm n hn).2 hB⟩⟩
end Gr
namespace K02
open PySem L2 Evl Gr ClX
/-- a growth of these values stands at o -/
def GrF (K : PySem.W.Frag) (C : Addr) (H : Hp) (o : Addr) (f : Nat → Int) : Prop := ∃ t g, GrAt K C H o t g ∧ Pos t ∧ ∀ n, val t g n = f n
theorem GrF.mono {K : PySem.W.Frag} {C : Addr} {H H' : Hp} {o : Addr} {f : Nat → Int} (e : Ex H H') (h : GrF K C H o f) : GrF K C H' o f := by
  obtain ⟨t, g, h1, h2⟩ := h
  exact ⟨t, g, h1.mono e, h2⟩
/-- gives a new growth of these values -/
def EvG (K : PySem.W.Frag) (C : Addr) (te : TE) (σ : L2.St) (H : Hp) (f : Nat → Int) : Prop := ∀ H1, Ex H H1 → ∀ Q : VK, (∀ o H2, H1 o = none → Ex H1 H2 → GrF K C H2 o f → Q (.ref o) H2) → te σ H1 Q
/-- two parts, lists or tuples, old or new -/
def EvP (K : PySem.W.Frag) (ta : TA) (σ : L2.St) (H : Hp) (t g : List Int) : Prop := ∀ H1, Ex H H1 → ∀ Q : List V → Hp → Prop, (∀ a b H2, Ex H1 H2 → Sq K H2 a (vI t) → Sq K H2 b (vI g) → Q [.ref a, .ref b] H2) → ta σ H1 Q
section
variable {K : PySem.W.Frag} {C : Addr} {σ : L2.St} {H : Hp} {ta : TA} {t g : List Int} {f : Nat → Int}
theorem eg_make (h : EvP K ta σ H t g) (t0 : 0 < t.length) (t1 : t.length ≤ 2000) (g0 : 0 < g.length) (g1 : g.length ≤ 2000) (pt : Pos t) (sm : Small g) (hf : ∀ n, val t g n = f n) : EvG K C (tMake C (spInit K C) [] E0 ta) σ H f := fun H1 e Q q =>
  h H1 e _ fun a b H2 e2 ha hb x dx hx hd hn => by
    have e3 : Ex H2 (upd (upd H2 dx (.own x)) x (.ins C dx [])) := (Ex.new hd).trans (Ex.new (by rw [upd_ne hn.symm]; exact hx))
    refine ⟨x, a, b, dx, t, g, rfl, upd_same, ha.mono e3, hb.mono e3, t0, t1, g0, g1, pt, sm, fun t' g' H' kp gr pt' hv => ⟨rfl, ?_⟩⟩
    refine q x H' (fresh_back e2 hx) (e2.trans fun c u hc => ?_) ⟨t', g', gr, pt', fun n => (hv n).trans (hf n)⟩
    exact kp c u (e3 _ _ hc) (ne_of_none hc hx)
end
end K02
namespace K02
open PySem L2 Evl Gr ClX
theorem eqv_ints : ∀ xs ys : List Int, PyData.eqvAll (xs.map PyData.int) (ys.map PyData.int) = decide (xs = ys)
  | [], [] => by simp [PyData.eqvAll]
  | [], y :: ys => by simp [PyData.eqvAll]
  | x :: xs, [] => by simp [PyData.eqvAll]
  | x :: xs, y :: ys => by
    have ih := eqv_ints xs ys
    simp only [List.map_cons, PyData.eqvAll, PyData.eqv, ih]
    by_cases h : x = y <;> by_cases h2 : xs = ys <;> simp [h, h2]
theorem shaped_tup (ns : List Int) : SeqAt.shaped (.tuple (ns.map PyData.int)) = true := by
  unfold SeqAt.shaped
  simp [PyData.canLay0, canLay_ints, PyData.depth, depth_ints]
/-- what isinstance asks of the class -/
structure GIsi (K : PySem.W.Frag) (C : Addr) : Prop where
  ca : PySem.W.findIn K (.ref C) "__class__" = some (some (.builtin "object.__class__"))
  cn : PySem.W.specialIn K (.builtin "object.__class__") "__get__" = some (some (.builtin "getset_descriptor.__get__"))
  ct : PySem.W.takesIn K (.builtin "object.__class__") = some true
  cm : PySem.W.mroIn K C (.type "object") = some true
  own : PySem.W.kitOne K (.ref C) (.ref C) = some true
  int : PySem.W.kitOne K (.ref C) (.type "int") = some false
  bool : PySem.W.kitOne K (.ref C) (.type "bool") = some false
theorem gr_ty {K : PySem.W.Frag} {C : Addr} {H : Hp} {o : Addr} {t g : List Int} (G : GCls K C) (I : GIsi K C) (h : GrAt K C H o t g) : TyX K H (.ref o) (.ref C) := by
  obtain ⟨dx, p, q, r, h1, _⟩ := h
  exact .base (.ins h1 G.cls I.ca I.cn I.ct I.cm)
section
variable {K : PySem.W.Frag} {C : Addr} {σ : L2.St} {H : Hp} {ta tb : TE}
theorem ev_isG {o : Addr} {t g : List Int} (G : GCls K C) (I : GIsi K C) (ha : Ev ta σ H (.ref o)) (h : GrAt K C H o t g) : Ev (tCB (rIsi K) (tCons ta (tCons (tC (.ref C)) tNil))) σ H (.bl true) :=
  ev_cb (ea_cons ha (ea_cons ev_c ea_nil)) fun H1 e _ q => ⟨.ref o, .ref C, .ref C, .ref C, true, rfl, .own C, tyx_mono e (gr_ty G I h), I.own, q H1 (Ex.refl H1)⟩
/-- two tuples of ints compared -/
theorem ev_eqT {p q : Addr} {xs ys : List Int} (ha : Ev ta σ H (.ref p)) (hb : Ev tb σ H (.ref q)) (hp : SqT K H p (vI xs)) (hq : SqT K H q (vI ys)) : Ev (tOp (rEqD K) ta tb) σ H (.bl (decide (xs = ys))) :=
  ev_op ha hb fun H1 e Q q' => ⟨.tuple (xs.map PyData.int), .tuple (ys.map PyData.int), .tup (ex_t e hp) (dpAll_ints xs), .tup (ex_t e hq) (dpAll_ints ys), shaped_tup xs, shaped_tup ys, by
    have e2 : PyData.eqv (.tuple (xs.map PyData.int)) (.tuple (ys.map PyData.int)) = decide (xs = ys) := by
      rw [← eqv_ints]
      simp [PyData.eqv]
    rw [e2]
    exact q' H1 (Ex.refl H1)⟩
end
section
variable {P : Program} {w : World} {K : PySem.W.Frag} {mg : Str → Option Value} {base : Heap}
/-! ### Growth.__eq__ -/
def spGEq (K : PySem.W.Frag) (C : Addr) : Sp := fun vs H Q _ => ∃ (o u : Addr) (f f' : Nat → Int), vs = [.ref o, .ref u] ∧ GrF K C H o f ∧ GrF K C H u f' ∧ ∀ b : Bool, (b = true ↔ ∀ n, f n = f' n) → RetV (.bl b) H Q
theorem scGEq : FnScope ["self", "other"] ["self", "other"] (defScope (sGr 2)) := ⟨rfl, rfl, rfl, by decide +kernel, rfl, by decide +kernel, by decide +kernel⟩
theorem ok_GEq {C f : Addr} {mc : Value} {fd : FuncData} (F : Fun K "__eq__" "Growth.__eq__" (sGr 2) f fd) (N : GName K mg C mc) (G : GCls K C) (I : GIsi K C) (TT : GlbT mg) : FnOk P w K mg base CX0 1 f fd ["self", "other"] (spGEq K C) := by
  refine F.ok scGEq (fun vs H Q E h => ?_) (fun cdv A outer s H vs Q E hr h => ?_)
  · obtain ⟨o, u, f1, f2, rfl, _⟩ := h
    rfl
  · obtain ⟨o, u, f1, f2, rfl, ⟨t, g, hO, _, v1⟩, ⟨t', g', hU, _, v2⟩, k⟩ := h
    refine ⟨_, pss_one (ps_ret (pe_and (pe_callB call_isi (by rfl) TT.inst (by decide +kernel) (pa_cons (pv 1) (pa_cons (pe_glob (v := .ref C) rfl N.g rfl) pa_nil)))
      (pe_and (pe_cmpR (op_eqD hr.units) (pe_fld (pv 0) rfl) (pe_fld (pv 1) rfl) (nomark _)) (pe_one (pe_cmpR (op_eqD hr.units) (pe_fld (pv 0) rfl) (pe_fld (pv 1) rfl) (nomark _)))))), ?_⟩
    have i1 := ev_isG (σ := [some (.ref o), some (.ref u)]) (ta := tVar 1) G I (ev_var rfl) hU
    obtain ⟨dx, p, q, r, h1, h2, h3, h4, nf, t2, g2, sm⟩ := hO
    obtain ⟨dx', p', q', r', h1', h2', h3', h4', nf', t2', g2', sm'⟩ := hU
    have b1 := ev_eqT (σ := [some (.ref o), some (.ref u)]) (ta := tFld K (tVar 0) "told") (tb := tFld K (tVar 1) "told") (ev_fld (ev_var rfl) h1 G.cls G.told rfl) (ev_fld (ev_var rfl) h1' G.cls G.told rfl) h2 h2'
    have b2 := ev_eqT (σ := [some (.ref o), some (.ref u)]) (ta := tFld K (tVar 0) "gains") (tb := tFld K (tVar 1) "gains") (ev_fld (ev_var rfl) h1 G.cls G.gains rfl) (ev_fld (ev_var rfl) h1' G.cls G.gains rfl) h3 h3'
    refine s_ret (ev_is (ev_andV i1 fun _ => ev_andV b1 fun _ => b2) (by rw [Bool.true_and])) (k _ ?_)
    rw [Bool.and_eq_true_iff, decide_eq_true_iff, decide_eq_true_iff]
    constructor
    · rintro ⟨rfl, rfl⟩ n
      rw [← v1, ← v2]
    · intro hf
      exact nf_one nf nf' fun n => by rw [v1, v2, hf]
end
end K02
namespace Gr
/-- the rises come round at last -/
def PerT (f : Nat → Int) (l : Nat) : Prop := ∃ m, ∀ n, m ≤ n → f (n + l + 1) - f (n + l) = f (n + 1) - f n
theorem nf_dvd {t g : List Int} {f : Nat → Int} {l : Nat} (nf : NF t g) (hf : ∀ n, val t g n = f n) (h : PerT f l) : g.length ∣ l := by
  obtain ⟨m, hm⟩ := h
  have p : Pd (dif g) l := fun k => by
    have a := hm (t.length - 1 + (k + m * g.length)) (by have : m ≤ m * g.length := Nat.le_mul_of_pos_right m nf.gains; omega)
    rw [← hf, ← hf, ← hf, ← hf] at a
    have b := val_step (g := g) nf.told (k + m * g.length)
    have c := val_step (g := g) nf.told (k + l + m * g.length)
    rw [show t.length - 1 + (k + l + m * g.length) = t.length - 1 + (k + m * g.length) + l by omega] at c
    rw [a, b] at c
    rw [dif_pd.mul, dif_pd.mul] at c
    exact c.symm
  have q := Pd.gcd g.length l dif_pd p
  have c := nf.least.le _ (Nat.gcd_pos_of_pos_left _ nf.gains) q
  have d : Nat.gcd g.length l = g.length := Nat.le_antisymm (Nat.gcd_le_left _ nf.gains) c
  rw [← d]
  exact Nat.gcd_dvd_right _ _
theorem perT_val {t g : List Int} (t0 : 0 < t.length) {l : Nat} (h : g.length ∣ l) : PerT (val t g) l := ⟨t.length - 1, fun n hn => rise_pd t0 h hn⟩
theorem PerT.add {f g : Nat → Int} {l : Nat} (h : PerT f l) (h' : PerT g l) : PerT (fun n => f n + g n) l := by
  obtain ⟨m, hm⟩ := h
  obtain ⟨k, hk⟩ := h'
  refine ⟨max m k, fun n hn => ?_⟩
  have a := hm n (by omega)
  have b := hk n (by omega)
  show f (n + l + 1) + g (n + l + 1) - (f (n + l) + g (n + l)) = f (n + 1) + g (n + 1) - (f n + g n)
  omega
theorem PerT.mul {f : Nat → Int} {l : Nat} (h : PerT f l) {k : Nat} (hk : l ∣ k) : PerT f k := by
  obtain ⟨c, rfl⟩ := hk
  obtain ⟨m, hm⟩ := h
  refine ⟨m, ?_⟩
  induction c with
  | zero => intro n _; rw [Nat.mul_zero]; rfl
  | succ c ih =>
    intro n hn
    have a := hm (n + l * c) (by omega)
    rw [Nat.mul_succ, ← Nat.add_assoc, a]
    exact ih n hn
end Gr
namespace K02
open PySem L2 Evl Gr ClX
/-- a list that is walked and one that is made of it, of ints -/
theorem EvP.pair {K : PySem.W.Frag} {σ : L2.St} {H : Hp} {ta tb : TE} {a b : Addr} {t g : List Int} (ha : Ev ta σ H (.ref a)) (hb : Ev tb σ H (.ref b)) (sa : Sq K H a (vI t)) (sb : Sq K H b (vI g)) : EvP K (tCons ta (tCons tb tNil)) σ H t g := fun H1 e Q q =>
  ha H1 e _ fun H2 e2 => hb H2 (e.trans e2) _ fun H3 e3 => q a b H3 (e2.trans e3) (sa.mono ((e.trans e2).trans e3)) (sb.mono ((e.trans e2).trans e3))
theorem EvP.lists {K : PySem.W.Frag} {σ : L2.St} {H : Hp} {ta tb : TE} {t g : List Int} (ha : EvL ta σ H (vI t)) (hb : EvL tb σ H (vI g)) : EvP K (tCons ta (tCons tb tNil)) σ H t g := fun H1 e Q q =>
  ha H1 e _ fun p H2 _ e2 h2 => hb H2 (e.trans e2) _ fun r H3 _ e3 h3 => q p r H3 (e2.trans e3) (.inl (sq_of (e3 _ _ h2))) (.inl (sq_of h3))
section
variable {P : Program} {w : World} {K : PySem.W.Frag} {mg : Str → Option Value} {base : Heap}
/-! ### Growth.__call__ -/
def spGCall (K : PySem.W.Frag) (C : Addr) : Sp := fun vs H Q _ => ∃ (o : Addr) (n : Nat) (f : Nat → Int), vs = [.ref o, .int (n : Int)] ∧ GrF K C H o f ∧ (n : Int) ≤ 10 ^ 40 ∧ RetV (.int (f n)) H Q
theorem scGCall : FnScope ["self", "n"] ["self", "n"] (defScope (sGr 3)) := ⟨rfl, rfl, rfl, by decide +kernel, rfl, by decide +kernel, by decide +kernel⟩
theorem ok_GCall {C f fW fV : Addr} {fd fdW fdV : FuncData} (F : Fun K "__call__" "Growth.__call__" (sGr 3) f fd)
    (GW : FnOk P w K mg base CX0 2 fW fdW ["value", "least", "most"] (spWithin K)) (kW : PySem.W.keepIn K (.ref fW) = true) (bW : Binds K fdW ["value", "least", "most"] []) (gW : mg "is_within" = some (.ref fW))
    (GV : FnOk P w K mg base CX0 1 fV fdV ["one", "n"] (spVal K C)) (kV : PySem.W.keepIn K (.ref fV) = true) (bV : Binds K fdV ["one", "n"] []) (gV : mg "value_at" = some (.ref fV)) :
    FnOk P w K mg base CX0 3 f fd ["self", "n"] (spGCall K C) := by
  refine F.ok scGCall (fun vs H Q E h => ?_) (fun cdv A outer s H vs Q E hr h => ?_)
  · obtain ⟨o, n, f1, rfl, _⟩ := h
    rfl
  · obtain ⟨o, n, f1, rfl, ⟨t, g, hO, _, v1⟩, hn, k⟩ := h
    refine ⟨_, pss_cons (ps_if (pt_not (pt_val (pe_call GW hr (by rfl) gW kW bW .nil pass0 (pa_cons (pv 1) (pa_cons pe_int (pa_cons (pe_op op_pow pe_int pe_int) pa_nil)))))) (pss_one ps_no) pss_nil)
      (pss_one (ps_ret (pe_call GV (hr.mono (by decide)) (by rfl) gV kV bV .nil pass0 (pa_cons (pv 0) (pa_cons (pv 1) pa_nil))))), ?_⟩
    refine q_when (b := false) (et_is (et_not (et_B (ev_call (z := .bl true) (ea_cons (ev_var rfl) (ea_cons ev_c (ea_cons (ev_op ev_c ev_c (rv_I ⟨by decide, by decide, by decide⟩)) ea_nil))) fun H1 e Q q E => .inl ⟨_, _, _, rfl, ?_⟩))) rfl) (fun hb => absurd hb (by decide)) (fun _ H1 e1 => ?_)
    · have z : (decide ((0 : Int) ≤ (n : Int)) && decide ((n : Int) ≤ (10 : Int) ^ (40 : Int).toNat)) = true := by
        rw [decide_eq_true (by omega : (0 : Int) ≤ (n : Int)), decide_eq_true (show (n : Int) ≤ (10 : Int) ^ (40 : Int).toNat from hn)]
        rfl
      rw [z]
      exact q
    · exact s_ret (v := .int (f1 n)) (ev_call (ea_cons (ev_var rfl) (ea_cons (ev_var rfl) ea_nil)) fun H2 e2 Q q E => ⟨o, n, t, g, rfl, hO.mono (e1.trans e2), by rw [v1]; exact q⟩) fun H2 e2 => k H2 (e1.trans e2)
/-! ### Growth.__add__ -/
/-- a new growth of these values is handed back -/
def RetG (K : PySem.W.Frag) (C : Addr) (f : Nat → Int) (H : Hp) (Q : VK) : Prop := ∀ o H', H o = none → Ex H H' → GrF K C H' o f → Q (.ref o) H'
def spAdd (K : PySem.W.Frag) (C : Addr) : Sp := fun vs H Q _ => ∃ (o u : Addr) (f f' : Nat → Int) (l : Nat), vs = [.ref o, .ref u] ∧ GrF K C H o f ∧ GrF K C H u f' ∧ 0 < l ∧ l ≤ 2000 ∧ PerT f l ∧ PerT f' l ∧ Tail (fun n => f n + f' n) 4000000000000000 ∧ (∀ n, 0 ≤ f n + f' n) ∧
  RetG K C (fun n => f n + f' n) H Q
theorem scAdd : FnScope ["self", "other", "told", "gains"] ["self", "other"] (defScope (sGr 5)) := ⟨rfl, rfl, rfl, by decide +kernel, rfl, by decide +kernel, by decide +kernel⟩
theorem ok_Add {C f fI fS : Addr} {mc : Value} {fd fdI fdS : FuncData} {dvs : List V} (F : Fun K "__add__" "Growth.__add__" (sGr 5) f fd) (N : GName K mg C mc) (G : GCls K C) (I : GIsi K C) (TT : GlbT mg) (M : Mk K C fI)
    (GI : FnOk P w K mg base CX0 4 fI fdI ["self", "told", "gains"] (spInit K C)) (bI : Binds K fdI ["self", "told", "gains"] [])
    (GS : FnOk P w K mg base CX0 2 fS fdS ["one", "other"] (spSum K C)) (kS : PySem.W.keepIn K (.ref fS) = true) (bS : Binds K fdS ["one", "other"] []) (gS : mg "summed_parts" = some (.ref fS)) :
    FnOk P w K mg base CX0 6 f fd ["self", "other"] (spAdd K C) := by
  refine F.ok scAdd (fun vs H Q E h => ?_) (fun cdv A outer s H vs Q E hr h => ?_)
  · obtain ⟨o, u, f1, f2, l, rfl, _⟩ := h
    rfl
  · obtain ⟨o, u, f1, f2, l, rfl, ⟨t, g, hO, p1, v1⟩, ⟨t', g', hU, p2, v2⟩, l0, l1, d1, d2, tl, nn, k⟩ := h
    refine ⟨_, pss_cons (ps_if (pt_not (pt_val (pe_callB call_isi (by rfl) TT.inst (by decide +kernel) (pa_cons (pv 1) (pa_cons (pe_glob (v := .ref C) rfl N.g rfl) pa_nil))))) (pss_one ps_no) pss_nil)
      (pss_cons (ps_asg (pe_call GS (hr.mono (by decide)) (by rfl) gS kS bS .nil pass0 (pa_cons (pv 0) (pa_cons (pv 1) pa_nil))) (pg_tup rfl (pgs_cons (pg_name (i := 2) scAdd.nd rfl (.inl rfl)) (pgs_cons (pg_name (i := 3) scAdd.nd rfl (.inl rfl)) pgs_nil))))
      (pss_one (ps_ret (pe_make M GI hr (by rfl) N.g bI .nil pass0 (pa_cons (pv 2) (pa_cons (pv 3) pa_nil)))))), ?_⟩
    have e0 : (fun n => val t g n + val t' g' n) = fun n => f1 n + f2 n := funext fun n => by rw [v1, v2]
    have hO' := hO
    have hU' := hU
    obtain ⟨_, _, _, _, _, _, _, _, nf1, _, _, _⟩ := hO'
    obtain ⟨_, _, _, _, _, _, _, _, nf2, _, _, _⟩ := hU'
    have lc : Nat.lcm g.length g'.length ≤ 2000 := Nat.le_trans (Nat.le_of_dvd l0 (Nat.lcm_dvd (nf_dvd nf1 v1 d1) (nf_dvd nf2 v2 d2))) l1
    refine q_when (et_not (et_B (ev_isG G I (ev_var rfl) hU))) (fun hb => absurd hb (by decide)) (fun _ H1 e1 => ?_)
    refine ⟨_, rfl, _, rfl, o, u, t, g, t', g', rfl, hO.mono e1, hU.mono e1, lc, fun r p q b l' H2 e2 hr2 hp hq b0 b1 l0' l1' hv => ?_⟩
    rw [e0] at hp hq hv
    refine ⟨r, [.ref p, .ref q], rfl, hr2, rfl, _, _, rfl, _, _, rfl, rfl, ?_⟩
    have hv' : ∀ n, val (pT (fun n => f1 n + f2 n) b) (pG (fun n => f1 n + f2 n) b l') n = f1 n + f2 n := fun n => by
      rw [hv, v1, v2]
    refine eg_make (K := K) (C := C) (σ := [some (.ref o), some (.ref u), some (.ref p), some (.ref q)]) (H := H2) (ta := tCons (tVar 2) (tCons (tVar 3) tNil)) (EvP.pair (ev_var rfl) (ev_var rfl) (.inl hp) (.inl hq)) (by rw [pT_len]; exact b0) (by rw [pT_len]; exact b1) (by rw [pG_len]; exact l0') (by rw [pG_len]; exact l1')
      (fun i hi => by
        rw [pT_len] at hi
        rw [pT_at hi]
        exact nn i) (fun i hi => gains_tail (by rw [pT_len]; exact b0) hv' tl i hi) hv' H2 (Ex.refl H2) _ fun x H3 hx e3 gr => k x H3 (fresh_back (e1.trans e2) hx) ((e1.trans e2).trans e3) gr
end
end K02
/-! operators of own classes, for instances with a dict or with slots -/
namespace OpX
open PySem PySem.Spec PyProof.Rows L2 StX
section
variable {prog : Program} {w : World} {A : Around} {E : Value → Shared → Prop} {s : Shared} {K : PySem.W.Frag} {x y C f L : Addr} {h₀ : Heap} {m : Str → Option Value} {ox oy : Obj} {od od' : Option Obj}
/-- some answer came -/
def Told (Q : Value → Shared → Prop) (r : Option Value) (s' : Shared) : Prop := ∃ v, r = some v ∧ Q v s'
/-- what an operator's first try told is the operator's word -/
theorem told_pure {M : Model} {B : Around} {F : Value → Shared → Prop} {Q : Value → Shared → Prop} {t : Sem (Option Value)} {k : Option Value → Sem Value} {s' : Shared} (h : wpAny M B t (Told Q) F s') (hk : ∀ v, k (some v) = pure v) : wpAny M B (t >>= k) Q F s' :=
  wpAny_bind (wpAny_mono h (fun r s'' ⟨v, e, q⟩ => by rw [e, hk]; exact wpAny_pure q) fun _ _ z => z)
open Builtin in
/-- object's own != asks the class's == and turns its bool about -/
theorem turned {Q : Value → Shared → Prop} {b : Value} (hu : A.in1.units < cLine) (X : K.In s.heap) (I : PySem.W.InstAt s.heap x ox C od) (hm : PySem.W.mroIn K C (.type "object") = some true)
    (hs : PySem.W.findIn K (.ref C) "__eq__" = some (some (.ref f))) (hf : PySem.W.isFn K (.ref f) = true)
    (h : wpAny (model prog w) A.in1 (call (.ref f) [.ref x, b]) (fun r s' => ∃ c, r = .bool c ∧ Q (.bool (!c)) s') E s) : wpAny (model prog w) A (call (.builtin "object.__ne__") [.ref x, b]) Q E s := by
  refine wpAny_call (codeAny_call_builtin PySem.F.slot_object_ne.plain PySem.F.entry_object_ne (PySem.W.check_slot (i := "object.__ne__") (owner := "object") (n := "__ne__") (by decide +kernel) (by decide +kernel) (I.type.andThen (PySem.W.looks_mroIn X hm)) (PySem.F.args_object_ne_2 _ _) ?_))
  show wpAny _ _ (Builtin.«object.__ne__» _) _ _ _
  unfold Builtin.«object.__ne__»
  exact wpAny_bind (m := slotArgs "__ne__" 1 _) (wpAny_pure (wpAny_bind (m := cRoomFor _ _) (wpAny_cRoomFor hu (wpAny_bind (m := callSpecialIfBound? (.ref x) (Str.ofString "__eq__") _)
    (PySem.W.ifBound_K X I hs hf (wpAny_mono h (fun r s' ⟨c, e, q⟩ => by
      subst e
      exact wpAny_bind (m := truthy (.bool c)) (wpAny_truthy_bool (wpAny_pure q))) fun _ _ z => z))))))
/-- x != y, both of one class that has an own == and object's != -/
theorem ne_same {Q : Value → Shared → Prop} (hu : A.units < cLine) (hu1 : A.in1.units < cLine) (X : K.In s.heap) (I : PySem.W.InstAt s.heap x ox C od) (J : PySem.W.InstAt s.heap y oy C od')
    (hne : PySem.W.findIn K (.ref C) "__ne__" = some (some (.builtin "object.__ne__"))) (hm : PySem.W.mroIn K C (.type "object") = some true) (hs : PySem.W.findIn K (.ref C) "__eq__" = some (some (.ref f))) (hf : PySem.W.isFn K (.ref f) = true)
    (h : wpAny (model prog w) A.in1 (call (.ref f) [.ref x, .ref y]) (fun r s' => ∃ c, r = .bool c ∧ Q (.bool (!c)) s') E s) : wpAny (model prog w) A (richCompare .NotEq (.ref x) (.ref y)) Q E s := by
  have word := turned (Q := fun v s' => Q v s' ∧ ∃ c, v = .bool c) hu1 X I hm hs hf (wpAny_mono h (fun r s' ⟨c, e, q⟩ => ⟨c, e, q, _, rfl⟩) fun _ _ z => z)
  have bnd : PySem.W.Looks (model prog w) s.heap (bindSpecial (.builtin "object.__ne__") (.ref x)) (.builtin "object.__ne__", [.ref x]) := PySem.W.Looks.of_pure (PySem.F.slot_object_ne.bind _)
  have asked : wpAny (model prog w) A (call (.builtin "object.__ne__") ([.ref x] ++ [.ref y]) >>= fun v => pure (some v)) (Told fun v s' => Q v s' ∧ ∃ c, v = .bool c) E s := wpAny_bind (wpAny_mono word (fun v s' q => wpAny_pure ⟨v, rfl, q⟩) fun _ _ z => z)
  have tried : wpAny (model prog w) A (tryCompare (.ref x) (cmpInfo .NotEq).2.1 (.ref y)) (Told Q) E s := by
    unfold tryCompare callSpecialIfBound? bindSpecialIfBound?
    refine wpAny_bind (wpAny_holding (wpAny_bind (wpAny_bind (wpAny_bind (I.type.here ((PySem.W.looks_findIn X hne).here (wpAny_bind (wpAny_askSetting (wpAny_ite ?_)))))))))
    split
    · refine wpAny_bind (bnd.here (wpAny_pure ?_))
      exact wpAny_mono asked (fun r s' ⟨v, e, q, c, ec⟩ => by
        subst e ec
        exact wpAny_pure ⟨_, rfl, q⟩) fun _ _ z => z
    · refine wpAny_tryCatch (wpAny_bind (bnd.here (wpAny_pure ?_)))
      exact wpAny_mono asked (fun r s' ⟨v, e, q, c, ec⟩ => by
        subst e ec
        exact wpAny_pure ⟨_, rfl, q⟩) fun _ _ z => z
  have same : (Value.ref C != Value.ref C) = false := by simp
  unfold richCompare
  rw [oneThing_ref]
  refine wpAny_holding (wpAny_bind (wpAny_cRoomFor hu (wpAny_bind (I.type.here (wpAny_bind (J.type.here ?_))))))
  rw [same, if_neg Bool.false_ne_true]
  exact wpAny_bind (wpAny_pure (told_pure tried fun _ => rfl))
end
section
variable {X : Cx} {CX : CXT} {n : Nat} {C g : Addr} {sp : Sp} {E : XK}
/-- x op y: both of the class at C -/
def rS (X : Cx) (C : Addr) (sp : Sp) (E : XK) : R2 := fun x y H Q => ∃ a b, x = .ref a ∧ y = .ref b ∧ InsC X H a C ∧ InsC X H b C ∧ sp [.ref a, .ref b] H Q E
/-- x op i: x of the class at C, i an int -/
def rI (X : Cx) (C : Addr) (sp : Sp) (E : XK) : R2 := fun x y H Q => ∃ a i, x = .ref a ∧ y = .int i ∧ InsC X H a C ∧ sp [.ref a, .int i] H Q E
/-- i op x: the reflected one -/
def rR (X : Cx) (C : Addr) (sp : Sp) (E : XK) : R2 := fun x y H Q => ∃ a i, x = .int i ∧ y = .ref a ∧ InsC X H a C ∧ sp [.ref a, .int i] H Q E
/-- the def of an operator -/
structure Has (K : PySem.W.Frag) (C g : Addr) (name : Str) : Prop where
  at_ : PySem.W.findIn K (.ref C) name = some (some (.ref g))
  fn : PySem.W.isFn K (.ref g) = true
theorem run_own {pins : List (Addr × Obj)} {σ : L2.St} {H : Hp} {s : Shared} {Q : VK} {us : List Value} {vs : List V} (F : FnR X.prog X.w X.K X.mg X.base CX n g sp) (hr : Room n X.A) (hx : Passes CX X E) (I : Inv X pins σ H s) (r : Vals vs us)
    (q : sp vs H Q E) : wpAny (model X.prog X.w) X.A (call (.ref g) us) (PySem.W.CmpBack (EP X pins σ Q)) X.xe s := by
  refine wpAny_mono (wpAny_call (run_fnR F hr hx I r q)) (fun w s' z => ?_) fun _ _ x => x
  obtain ⟨z', H', I', rz, qz⟩ := z
  exact SlX.cmpback rz ⟨z', H', I', rz, qz⟩
theorem op_binS {op : Operator} (hc : PySem.W.selfFirst X.K C = true) (h : Has X.K C g (PySem.dunder op.info.2)) (F : FnR X.prog X.w X.K X.mg X.base CX n g sp) (hr : Room n X.A) (hx : Passes CX X E) :
    OpR X (binaryOp op) (rS X C sp E) := by
  intro pins s σ H x y v u Q I rx ry hq
  obtain ⟨a, b, rfl, rfl, ha, hb, q⟩ := hq
  cases (show v = Value.ref a from rx)
  cases (show u = Value.ref b from ry)
  obtain ⟨ox, od, J, _⟩ := insC_at I ha
  obtain ⟨ox', od', J', _⟩ := insC_at I hb
  obtain ⟨m, hF⟩ := I.fr
  exact PySem.W.binop_K hF I.ok.mod.kin J J'.type hc h.at_ h.fn (run_own (us := [.ref a, .ref b]) (vs := [.ref a, .ref b]) F hr hx I (.cons rfl (.cons rfl .nil)) q)
theorem op_binI {op : Operator} {fo ro rc : Option Value} (hc : PySem.W.selfFirst X.K C = true) (h : Has X.K C g (PySem.dunder op.info.2)) (hrf : PySem.W.findIn X.K (.ref C) (dunderR op.info.2) = some rc) (hp : rc = none ∨ ∃ g : Addr, rc = some (.ref g))
    (h1 : PySem.W.findIn X.K (.type "int") (PySem.dunder op.info.2) = some fo) (h2 : PySem.W.findIn X.K (.type "int") (dunderR op.info.2) = some ro) (hsub : PySem.W.subIn X.K (.type "int") (.ref C) = some false)
    (F : FnR X.prog X.w X.K X.mg X.base CX n g sp) (hr : Room n X.A) (hx : Passes CX X E) : OpR X (binaryOp op) (rI X C sp E) := by
  intro pins s σ H x y v u Q I rx ry hq
  obtain ⟨a, i, rfl, rfl, ha, q⟩ := hq
  cases (show v = Value.ref a from rx)
  obtain ⟨t, e⟩ := (show ∃ t, u = Value.int i t from ry)
  subst e
  obtain ⟨ox, od, J, _⟩ := insC_at I ha
  obtain ⟨m, hF⟩ := I.fr
  exact PySem.W.ksp_binT (T := "int") hF I.ok.mod.kin J rfl hc h.at_ h.fn hrf hp h1 h2 hsub (run_own (us := [.ref a, .int i t]) (vs := [.ref a, .int i]) F hr hx I (.cons rfl (.cons ⟨t, rfl⟩ .nil)) q)
/-- x == y: x of the class at C; y an instance of a class that is not below C -/
def rEqO (X : Cx) (C : Addr) (sp : Sp) (E : XK) : R2 := fun x y H Q => ∃ a b C', x = .ref a ∧ y = .ref b ∧ InsC X H a C ∧ InsC X H b C' ∧ PySem.W.notFirst X.K C (.ref C') = true ∧ sp [.ref a, .ref b] H Q E
theorem op_eqO {op : CmpOp} (hop : ∀ a b, compareOp op a b = richCompare op a b) (h : Has X.K C g (cmpInfo op).2.1) (F : FnR X.prog X.w X.K X.mg X.base CX n g sp)
    (hr : Room n X.A) (hx : Passes CX X E) : OpR X (compareOp op) (rEqO X C sp E) := by
  intro pins s σ H x y v u Q I rx ry hq
  obtain ⟨a, b, C', rfl, rfl, ha, hb, hn, q⟩ := hq
  cases (show v = Value.ref a from rx)
  cases (show u = Value.ref b from ry)
  obtain ⟨ox, od, J, _⟩ := insC_at I ha
  obtain ⟨ox', od', J', _⟩ := insC_at I hb
  obtain ⟨m, hF⟩ := I.fr
  rw [hop]
  exact PySem.W.cmp_K (op := op) (tb := .ref C') hr.units0 hF I.ok.mod.kin J J'.type hn h.at_ h.fn (run_own (us := [.ref a, .ref b]) (vs := [.ref a, .ref b]) F hr hx I (.cons rfl (.cons rfl .nil)) q)
/-- x != y, both of the class at C, which has an own == -/
def rNeO (X : Cx) (C : Addr) (sp : Sp) (E : XK) : R2 := fun x y H Q => ∃ a b, x = .ref a ∧ y = .ref b ∧ InsC X H a C ∧ InsC X H b C ∧ sp [.ref a, .ref b] H (fun v H' => ∃ c, v = .bl c ∧ Q (.bl (!c)) H') E
theorem op_neO (h : Has X.K C g "__eq__") (hne : PySem.W.findIn X.K (.ref C) "__ne__" = some (some (.builtin "object.__ne__"))) (hm : PySem.W.mroIn X.K C (.type "object") = some true) (F : FnR X.prog X.w X.K X.mg X.base CX n g sp)
    (hr : Room (n + 1) X.A) (hx : Passes CX X E) : OpR X (compareOp .NotEq) (rNeO X C sp E) := fun pins s σ H x y v u Q I rx ry ⟨a, b, ex, ey, ha, hb, q⟩ => by
  subst ex ey
  cases (show v = Value.ref a from rx)
  cases (show u = Value.ref b from ry)
  obtain ⟨ox, od, J, _⟩ := insC_at I ha
  obtain ⟨ox', od', J', _⟩ := insC_at I hb
  refine ne_same hr.units0 hr.in1.units0 I.kIn J J' hne hm h.at_ h.fn (wpAny_mono (wpAny_call (SlX.run_at (us := [.ref a, .ref b]) (ws := [.ref a, .ref b]) F hr.in1 I.env0.in1 hx I (.cons rfl (.cons rfl .nil)) q)) (fun r s' back => ?_) fun _ _ z => z)
  obtain ⟨_, H', I', rr, c, ec, qc⟩ := back
  subst ec
  cases (show r = Value.bool c from rr)
  exact ⟨c, rfl, .bl (!c), H', I', rfl, qc⟩
end
end OpX
namespace K02
open PySem L2 Evl
section
variable {P : Program} {w : World} {K : PySem.W.Frag} {mg : Str → Option Value} {base : Heap}
theorem emod_bd (a b : Int) (h : 0 < b) : 0 ≤ a % b ∧ a % b < b := ⟨Int.emod_nonneg a (by omega), Int.emod_lt_of_pos a h⟩
theorem mul_bd {a b A B : Int} (a0 : 0 ≤ a) (aA : a ≤ A) (b0 : 0 ≤ b) (bB : b ≤ B) : 0 ≤ a * b ∧ a * b ≤ A * B := ⟨Int.mul_nonneg a0 b0, Int.mul_le_mul aA bB b0 (by omega)⟩
/-- the last part of a draw: the mixing -/
theorem ok_draw {f : Addr} {fd : FuncData} (F : Fun K "_law_draw" "_law_draw" sDraw f fd) (T : Glb mg) : FnOk P w K mg base CX0 1 f fd ["_law_pen_here", "_law_many"] spDraw := by
  refine F.ok scDraw (fun vs H Q E h => ?_) (fun cdv A outer s H vs Q E hr h => ?_)
  · obtain ⟨p, l, cells, m, many, rfl, _⟩ := h
    rfl
  · obtain ⟨p, l, cells, m, many, rfl, hp, hm, h63, hm0, hm1, k⟩ := h
    refine ⟨_, pss_cons (ps_if (pt_cmpR op_gt (pe_ix ix_list (pv 0) pe_int (fun _ _ => rfl)) pe_int (nomark _)) (pss_cons (ps_set (i := 2) scDraw.nd rfl (.inl rfl) (pe_op op_mod (pe_callTy call_int1 (by rfl) T.int (by decide +kernel) (pa_cons (pe_ix ix_list (pv 0) pe_int (fun _ _ => rfl)) pa_nil)) (pv 1)))
      (pss_cons (ps_asg (pe_op op_fdiv (pe_callTy call_int1 (by rfl) T.int (by decide +kernel) (pa_cons (pe_ix ix_list (pv 0) pe_int (fun _ _ => rfl)) pa_nil)) (pv 1)) (pg_sub (pv 0) pe_int set_list))
      (pss_one (ps_ret (pv 2))))) pss_nil)
      (pss_cons (ps_set (i := 3) scDraw.nd rfl (.inl rfl) (pe_ix ix_list (pv 0) pe_int (fun _ _ => rfl)))
      (pss_cons (ps_asg (pe_op op_add (pv 3) pe_int) (pg_sub (pv 0) pe_int set_list))
      (pss_cons (ps_set (i := 4) scDraw.nd rfl (.inl rfl) (pe_op op_add (pe_op op_mul pe_int (pv 3)) pe_int))
      (pss_cut (ps_if (pt_cmpR (op_neD hr.units) (pe_ix ix_list (pv 0) pe_int (fun _ _ => rfl)) (pe_lst pa_nil) (nomark _)) (pss_one (ps_set (i := 4) scDraw.nd rfl (.inl rfl) (pe_ix ix_list (pe_ix ix_list (pv 0) pe_int (fun _ _ => rfl)) (pe_op op_mod (pe_callTy call_int1 (by rfl) T.int (by decide +kernel) (pa_cons (pv 3) pa_nil)) (pe_callB call_len_seq (by rfl) T.len PySem.boot_len (pa_cons (pe_ix ix_list (pv 0) pe_int (fun _ _ => rfl)) pa_nil))) (fun _ _ => rfl)))) pss_nil)
      (pss_cons (ps_if (PW.pt (pw_and (pt_cmpR op_lt (pv 3) (pe_callB call_len_seq (by rfl) T.len PySem.boot_len (pa_cons (pe_ix ix_list (pv 0) pe_int (fun _ _ => rfl)) pa_nil)) (nomark _)) (pw_and1 (pt_cmpR op_ge (pe_callB call_abs (by rfl) T.abs (by decide +kernel) (pa_cons (pv 4) pa_nil)) (pe_op op_pow pe_int pe_int) (nomark _))))) (pss_cons (ps_set (i := 5) scDraw.nd rfl (.inl rfl) (pe_op op_add (pe_op op_mul pe_int (pe_op op_sub (pe_callB call_abs (by rfl) T.abs (by decide +kernel) (pa_cons (pv 4) pa_nil)) (pe_op op_pow pe_int pe_int))) (pe_callTy call_int1 (by rfl) T.int (by decide +kernel) (pa_cons (pe_cmpR op_lt (pv 4) pe_int (nomark _)) pa_nil))))
      (pss_cons (ps_asg (pe_op op_fdiv (pe_callTy call_int1 (by rfl) T.int (by decide +kernel) (pa_cons (pv 5) pa_nil)) (pv 1)) (pg_sub (pv 0) pe_int set_list))
      (pss_one (ps_ret (pe_op op_mod (pe_callTy call_int1 (by rfl) T.int (by decide +kernel) (pa_cons (pv 5) pa_nil)) (pv 1)))))) pss_nil)
      (pss_cons (ps_set (i := 6) scDraw.nd rfl (.inl rfl) (pe_op op_mod (pe_callTy call_int1 (by rfl) T.int (by decide +kernel) (pa_cons (pe_op op_pow (pe_op op_add (pe_op op_add (pe_op op_mod (pe_callTy call_int1 (by rfl) T.int (by decide +kernel) (pa_cons (pv 4) pa_nil)) pe_int) (pe_op op_mul pe_int (pv 3))) pe_int) pe_int) pa_nil)) pe_int))
      (pss_cons (ps_set (i := 6) scDraw.nd rfl (.inl rfl) (pe_op op_mod (pe_callTy call_int1 (by rfl) T.int (by decide +kernel) (pa_cons (pe_op op_pow (pe_op op_add (pe_op op_add (pe_op op_mul (pv 6) (pe_op op_add (pe_op op_mul pe_int (pv 3)) pe_int)) (pe_op op_mul (pe_op op_mul pe_int (pv 3)) (pv 3))) pe_int) pe_int) pa_nil)) pe_int))
      (pss_one (ps_ret (pe_op op_mod (pe_callTy call_int1 (by rfl) T.int (by decide +kernel) (pa_cons (pe_op op_fdiv (pv 6) pe_int) pa_nil)) (pv 1))))))))))), ?_⟩
    have hpl := hp.ne
    obtain ⟨n, r, h1, h2, hn⟩ := hp
    have many1 : many < 1073741824 := by omega
    refine q_when (et_test (ev_op (ev_op (ev_var rfl) ev_c (rv_ixL (sq_of h1) (atI_nat (j := 2) rfl))) ev_c rv_I0)) (fun hb H1 e1 => ?_) (fun hb H1 e1 => ?_)
    · -- the rest gives a digit
      have r0 : 0 < r := of_decide_eq_true hb
      have g1 := e1 _ _ h1
      refine q_asg (ev_op (ev_cb (ea_cons (ev_op (ev_var rfl) ev_c (rv_ixL (sq_of g1) (atI_nat (j := 2) rfl))) ea_nil) rc_int) (ev_var rfl) (rv_I hm0)) fun H2 e2 => ?_
      have g2 := e2 _ _ g1
      refine q_setL (j := 2) g2 (ev_op (ev_cb (ea_cons (ev_op (ev_var rfl) ev_c (rv_ixL (sq_of g2) (atI_nat (j := 2) rfl))) ea_nil) rc_int) (ev_var rfl) (rv_I ⟨hm0, many1⟩)) (ev_var rfl) ev_c (by show 2 < 3; decide) fun H3 e3 => ?_
      refine s_ret (ev_var rfl) fun H4 e4 => ?_
      have key : ∀ b o, H b = some o → b ≠ p → H4 b = some o := fun b o hb hbp => e4 b o (by rw [upd_ne hbp]; exact e3 _ _ (e2 _ _ (e1 _ _ hb)))
      exact k _ H4 (emod_bd _ _ hm0).1 (emod_bd _ _ hm0).2 ⟨n, _, e4 _ _ upd_same, key _ _ h2 hpl, by omega⟩ key
    · -- at = pen[1]; pen[1] = at + 1
      have g1 := e1 _ _ h1
      refine q_asg (ev_op (ev_var rfl) ev_c (rv_ixL (sq_of g1) (atI_nat (j := 1) rfl))) fun H2 e2 => ?_
      have g2 := e2 _ _ g1
      refine q_setL (j := 1) g2 (ev_op (ev_var rfl) ev_c rv_I0) (ev_var rfl) ev_c (by show 1 < 3; decide) fun H3 e3 => ?_
      have g3 := e3 _ _ g2
      have hl3 : H3 l = some (.lst (cells.map V.int)) := e3 _ _ (e2 _ _ (e1 _ _ h2))
      have kp3 : ∀ b o, H b = some o → b ≠ p → (upd H3 p (.lst ([V.ref l, V.int (n : Int), V.int r].set 1 (V.int ((n : Int) + 1))))) b = some o := fun b o hb hbp => by
        rw [upd_ne hbp]; exact e3 _ _ (e2 _ _ (e1 _ _ hb))
      generalize hH : upd H3 p (.lst ([V.ref l, V.int (n : Int), V.int r].set 1 (V.int ((n : Int) + 1)))) = J at kp3
      have j1 : J p = some (.lst [V.ref l, V.int ((n + 1 : Nat) : Int), V.int r]) := by
        rw [← hH, upd_same]
        rfl
      have j2 : J l = some (.lst (cells.map V.int)) := kp3 _ _ h2 hpl
      have hn0 : (0 : Int) ≤ (n : Int) ∧ (n : Int) ≤ 50000 := ⟨by omega, by omega⟩
      -- cell = 64931 * at + 4371
      refine q_asg (ev_op (ev_op ev_c (ev_var rfl) (rv_I (.inl ⟨by decide, by decide⟩))) ev_c rv_I0) fun H4 e4 => ?_
      have j41 := e4 _ _ j1
      have j42 := e4 _ _ j2
      -- if pen[0] != []: cell = ..
      obtain ⟨bn, evn, hne⟩ := ev_neNil (K := K) (σ := [some (V.ref p), some (V.int many), none, some (V.int (n : Int)), some (V.int (64931 * (n : Int) + 4371)), none, none]) (H := H4) (cells := cells) (l := l)
        (ta := tOp (rIxL K) (tVar 0) (tC (V.int 0))) (ev_op (ev_var rfl) ev_c (rv_ixL (sq_of j41) (atI_nat (j := 0) rfl))) (sq_of j42)
      refine q_cut (M := fun σ' H' => ∃ c : Int, σ' = [some (V.ref p), some (V.int many), none, some (V.int (n : Int)), some (V.int c), none, none] ∧ Ex H4 H') (s_when (et_test evn) (fun hb H5 e5 => ?_) (fun hb H5 e5 => ⟨_, rfl, e5⟩)) ?_
      · have hlen : 0 < cells.length := List.length_pos_iff.mpr (hne hb)
        have hi : 0 ≤ (n : Int) % (cells.length : Int) ∧ (n : Int) % (cells.length : Int) < (cells.length : Int) := emod_bd _ _ (by omega)
        obtain ⟨i, ei⟩ := Int.eq_ofNat_of_zero_le hi.1
        have il : i < cells.length := by have := hi.2; omega
        have lm : ((cells.map V.int).length : Int) = (cells.length : Int) := by rw [List.length_map]
        refine s_asg (v := V.int (cells[i])) (ev_op (y := V.int (i : Int)) (ev_op (ev_var rfl) ev_c (rv_ixL (sq_of (e5 _ _ j41)) (atI_nat (j := 0) rfl)))
          (ev_is (ev_op (ev_cb (ea_cons (ev_var rfl) ea_nil) rc_int) (ev_cb (ea_cons (ev_op (ev_var rfl) ev_c (rv_ixL (sq_of (e5 _ _ j41)) (atI_nat (j := 0) rfl))) ea_nil) (rc_len (sq_of (e5 _ _ j42)))) (rv_I (by rw [lm]; omega))) (by show V.int ((n : Int) % ((cells.map V.int).length : Int)) = _; rw [lm, ei]))
          (rv_ixL (sq_of (e5 _ _ j42)) (atI_nat (by rw [List.getElem?_map, List.getElem?_eq_getElem il]; rfl)))) fun H6 e6 => ⟨_, rfl, e5.trans e6⟩
      rintro σ' H5 ⟨c, rfl, e5⟩
      have k1 := e5 _ _ j41
      have k2 := e5 _ _ j42
      have kp5 : ∀ b o, H b = some o → b ≠ p → H5 b = some o := fun b o hb hbp => e5 _ _ (e4 _ _ (kp3 _ _ hb hbp))
      have lm : ((cells.map V.int).length : Int) = (cells.length : Int) := by rw [List.length_map]
      refine q_when (et_and (et_test (ev_op (ev_var rfl) (ev_cb (ea_cons (ev_op (ev_var rfl) ev_c (rv_ixL (sq_of k1) (atI_nat (j := 0) rfl))) ea_nil) (rc_len (sq_of k2))) rv_I0))
        (fun _ => et_test (ev_op (ev_cb (ea_cons (ev_var rfl) ea_nil) rc_abs) (ev_op ev_c ev_c (rv_I ⟨by decide, by decide, by decide⟩)) rv_I0))) (fun hb H6 e6 => ?_) (fun hb H6 e6 => ?_)
      · -- a great cell
        refine q_asg (ev_op (ev_op ev_c (ev_op (ev_cb (ea_cons (ev_var rfl) ea_nil) rc_abs) (ev_op ev_c ev_c (rv_I ⟨by decide, by decide, by decide⟩)) rv_I0) (rv_I (.inl ⟨by decide, by decide⟩))) (ev_cb (ea_cons (ev_op (ev_var rfl) ev_c rv_I0) ea_nil) rc_intB) rv_I0) fun H7 e7 => ?_
        have k7 := e7 _ _ (e6 _ _ k1)
        refine q_setL (j := 2) k7 (ev_op (ev_cb (ea_cons (ev_var rfl) ea_nil) rc_int) (ev_var rfl) (rv_I ⟨hm0, many1⟩)) (ev_var rfl) ev_c (by show 2 < 3; decide) fun H8 e8 => ?_
        refine s_ret (ev_op (ev_cb (ea_cons (ev_var rfl) ea_nil) rc_int) (ev_var rfl) (rv_I hm0)) fun H9 e9 => ?_
        have key : ∀ b o, H b = some o → b ≠ p → H9 b = some o := fun b o hb hbp => e9 _ _ (by rw [upd_ne hbp]; exact e8 _ _ (e7 _ _ (e6 _ _ (kp5 _ _ hb hbp))))
        exact k _ H9 (emod_bd _ _ hm0).1 (emod_bd _ _ hm0).2 ⟨n + 1, _, e9 _ _ upd_same, key _ _ h2 hpl, by omega⟩ key
      · -- mixed
        have b1 := emod_bd c 2147483629 (by decide)
        refine q_asg (ev_op (ev_cb (ea_cons (ev_op (ev_op (ev_op (ev_op (ev_cb (ea_cons (ev_var rfl) ea_nil) rc_int) ev_c (rv_I (by decide))) (ev_op ev_c (ev_var rfl) (rv_I (.inl ⟨by decide, by decide⟩))) rv_I0) ev_c rv_I0) ev_c
          (rv_I ⟨by decide, by decide, by omega⟩)) ea_nil) rc_int) ev_c (rv_I (by decide))) fun H7 e7 => ?_
        generalize hx : (c % 2147483629 + 86805 * (n : Int) + 167) ^ (5 : Int).toNat % 2147483497 = x
        have b2 : 0 ≤ x ∧ x < 2147483497 := by rw [← hx]; exact emod_bd _ _ (by decide)
        have b3 := mul_bd b2.1 (by omega : x ≤ 2147483497) (by omega : 0 ≤ 2 * (n : Int) + 653) (by omega : 2 * (n : Int) + 653 ≤ 100653)
        have b4 := mul_bd (by omega : 0 ≤ 55923 * (n : Int)) (by omega : 55923 * (n : Int) ≤ 2796150000) hn0.1 hn0.2
        refine q_asg (ev_op (ev_cb (ea_cons (ev_op (ev_op (ev_op (ev_op (ev_var rfl) (ev_op (ev_op ev_c (ev_var rfl) (rv_I (.inl ⟨by decide, by decide⟩))) ev_c rv_I0) (rv_I (.inl ⟨by omega, by omega⟩)))
            (ev_op (ev_op ev_c (ev_var rfl) (rv_I (.inl ⟨by decide, by decide⟩))) (ev_var rfl) (rv_I (.inl ⟨by omega, by omega⟩))) rv_I0) ev_c rv_I0) ev_c (rv_I ⟨by decide, by decide, by omega⟩)) ea_nil) rc_int) ev_c (rv_I (by decide))) fun H8 e8 => ?_
        refine s_ret (ev_op (ev_cb (ea_cons (ev_op (ev_var rfl) ev_c (rv_I ⟨by decide, by decide⟩)) ea_nil) rc_int) (ev_var rfl) (rv_I hm0)) fun H9 e9 => ?_
        have k9 := e9 _ _ (e8 _ _ (e7 _ _ (e6 _ _ k1)))
        have key : ∀ b o, H b = some o → b ≠ p → H9 b = some o := fun b o hb hbp => e9 _ _ (e8 _ _ (e7 _ _ (e6 _ _ (kp5 _ _ hb hbp))))
        exact k _ H9 (emod_bd _ _ hm0).1 (emod_bd _ _ hm0).2 ⟨n + 1, _, k9, key _ _ h2 hpl, by omega⟩ key
end
end K02
namespace K02
open PySem L2 Evl
section
variable {P : Program} {w : World} {K : PySem.W.Frag} {mg : Str → Option Value} {base : Heap}
/-! ### _law_pen -/
def spPen (K : PySem.W.Frag) : Sp := fun vs H Q _ => ∃ (a : Addr) (ns : List Int), vs = [.ref a] ∧ SqL K H a (ns.map V.int) ∧ ns.length ≤ 63 ∧
  ∀ p l H', H p = none → H l = none → Ex H H' → PenAt H' p l ns 0 → Q (.ref p) H'
theorem scPen : FnScope ["_law_script"] ["_law_script"] (defScope sPen) := ⟨rfl, rfl, rfl, by decide +kernel, rfl, by decide +kernel, by decide +kernel⟩
theorem cut63 (xs : List V) (h : xs.length ≤ 63) : cutV xs none (some 63) = xs := by
  have e1 : HT.sIx xs.length 0 none = 0 := rfl
  have e2 : HT.sIx xs.length xs.length (some 63) = min 63 xs.length := rfl
  unfold cutV
  rw [e1, e2, List.drop_zero, Nat.sub_zero, Nat.min_eq_right h, List.take_length]
theorem ok_pen {f : Addr} {fd : FuncData} (F : Fun K "_law_pen" "_law_pen" sPen f fd) (T : Glb mg) : FnOk P w K mg base CX0 1 f fd ["_law_script"] (spPen K) := by
  refine F.ok scPen (fun vs H Q E h => ?_) (fun cdv A outer s H vs Q E hr h => ?_)
  · obtain ⟨a, ns, rfl, _⟩ := h
    rfl
  · obtain ⟨a, ns, rfl, hS, hl, k⟩ := h
    refine ⟨_, pss_one (ps_ret (pe_lst (pa_cons (pe_callTy call_list_of (by rfl) T.list (by decide +kernel) (pa_cons (pe_slice sl_list (pv 0) po_none (po_some pe_int)) pa_nil)) (pa_cons pe_int (pa_cons pe_int pa_nil))))), ?_⟩
    have ev := el_sl (K := K) (σ := [some (V.ref a)]) (H := H) (tl := tNoPart) (th := tPart (tC (.int 63))) (ev_var (i := 0) rfl) eo_none (eo_some ev_c) hS
    rw [cut63 _ (by rw [List.length_map]; exact hl)] at ev
    refine ev H (Ex.refl H) _ fun q H1 hq e1 h1 => ?_
    refine ⟨q, _, rfl, .inl (sq_of h1), fun l hl1 => ?_⟩
    refine ⟨by show 3 ≤ sizeLine; decide, fun p hp => ?_⟩
    have hp1 : p ≠ l := fun z => by
      rw [z, upd_same] at hp
      cases hp
    have hpn : H1 p = none := by rw [upd_ne hp1] at hp; exact hp
    exact k p l _ (fresh_back e1 hpn) (fresh_back e1 hl1) ((e1.trans (Ex.new hl1)).trans (Ex.new hp)) ⟨0, 0, upd_same, by rw [upd_ne hp1.symm, upd_same], Nat.le_refl _⟩
/-! ### _law_pick -/
def spPick : Sp := fun vs H Q _ => ∃ (p l a : Addr) (cells : List Int) (m : Nat) (xs : List V), vs = [.ref p, .ref a] ∧ PenAt H p l cells m ∧ m ≤ 50000 ∧ cells.length ≤ 63 ∧ H a = some (.lst xs) ∧ a ≠ p ∧ 0 < xs.length ∧ xs.length ≤ 1000000 ∧
  ∀ (i : Nat) x H', xs[i]? = some x → PenAt H' p l cells (m + 1) → Keep p H H' → Q x H'
theorem scPick : FnScope ["_law_pen_here", "_law_some"] ["_law_pen_here", "_law_some"] (defScope sPick) := ⟨rfl, rfl, rfl, by decide +kernel, rfl, by decide +kernel, by decide +kernel⟩
theorem ok_pick {f fD : Addr} {fd fdD : FuncData} (F : Fun K "_law_pick" "_law_pick" sPick f fd) (T : Glb mg) (FD : Fun K "_law_draw" "_law_draw" sDraw fD fdD) (bD : Binds K fdD ["_law_pen_here", "_law_many"] []) (gD : mg "_law_draw" = some (.ref fD)) :
    FnOk P w K mg base CX0 2 f fd ["_law_pen_here", "_law_some"] spPick := by
  have GD : FnOk P w K mg base CX0 1 fD fdD ["_law_pen_here", "_law_many"] spDraw := ok_draw FD T
  refine F.ok scPick (fun vs H Q E h => ?_) (fun cdv A outer s H vs Q E hr h => ?_)
  · obtain ⟨p, l, a, cells, m, xs, rfl, _⟩ := h
    rfl
  · obtain ⟨p, l, a, cells, m, xs, rfl, hp, hm, h63, ha, hap, hx0, hx1, k⟩ := h
    refine ⟨_, pss_one (ps_ret (pe_ix ix_list (pv 1) (pe_call GD hr (by rfl) gD FD.kp bD .nil pass0 (pa_cons (pv 0) (pa_cons (pe_callB call_len_seq (by rfl) T.len PySem.boot_len (pa_cons (pv 1) pa_nil)) pa_nil))) (fun _ _ => rfl))), ?_⟩
    refine ⟨_, rfl, _, rfl, _, rfl, a, xs, rfl, .inl (sq_of ha), p, l, cells, m, (xs.length : Int), rfl, hp, hm, h63, by omega, by omega, fun d H' d0 d1 hp' kp => ?_⟩
    obtain ⟨i, rfl⟩ := Int.eq_ofNat_of_zero_le d0
    have hi : i < xs.length := by omega
    have ei : xs[i]? = some xs[i] := List.getElem?_eq_getElem hi
    exact ⟨a, xs, (i : Int), xs[i], rfl, rfl, sq_of (kp _ _ ha hap), atI_nat ei, k i _ H' ei hp' kp⟩
end
end K02
namespace Gr
theorem sc_range {k : Int} {t : List Int} : sc k t = (List.range t.length).map fun i => k * at' t i := at_eq_of (by rw [sc_len, List.length_map, List.length_range]) fun i hi => by
  rw [sc_len] at hi
  rw [sc_at, at_map_range hi]
end Gr
namespace K02
open PySem L2 Evl Gr ClX
section
variable {P : Program} {w : World} {K : PySem.W.Frag} {mg : Str → Option Value} {base : Heap}
/-- [k * x for x in s] -/
theorem el_sc {σ : L2.St} {H : Hp} {tl : TE} {a : Addr} {l : List Int} {k : Nat} {i j : Nat} (h : Ev tl σ H (.ref a)) (hs : Sq K H a (vI l)) (hl : l.length ≤ 4000) (hk : k ≤ 1000000) (hw : ∀ x, wipe ((wipe σ [j]).set j (some x)) [j] = wipe σ [j])
    (hi : ∀ x, ((wipe σ [j]).set j (some x))[i]? = some (some (.int (k : Int)))) (hj : ∀ x, ((wipe σ [j]).set j (some x))[j]? = some (some x)) :
    EvL (tLc (iQ K tl) (gName j) tYes (tOp (rI CMul fun i j => .int (i * j)) (tVar i) (tVar j)) [j]) σ H (vI (sc (k : Int) l)) := by
  have c := el_lcQ (K := K) (σ := σ) (H := H) (te := tOp (rI CMul fun i j => .int (i * j)) (tVar i) (tVar j)) (a := a) (xs := vI l) (tl := tl) (j := j) (vs := [j]) (fun n => V.int ((k : Int) * at' l n)) h hs (by rw [vI_len]; omega) hw
    (fun n x H1 e1 hx => by
      have hn : n < l.length := by
        have := (List.getElem?_eq_some_iff.mp hx).1
        rwa [vI_len] at this
      rw [vI_get hn] at hx
      obtain rfl := Option.some.inj hx
      exact ev_op (ev_var (hi _)) (ev_var (hj _)) (rv_I (.inl ⟨by omega, by omega⟩)))
  have e : vI (sc (k : Int) l) = (List.range (vI l).length).map fun n => V.int ((k : Int) * at' l n) := by
    rw [sc_range, vI_len]
    unfold vI
    rw [List.map_map]
    rfl
  rw [e]
  exact c
/-! ### Growth.__mul__, Growth.__rmul__ -/
def spMul (K : PySem.W.Frag) (C : Addr) : Sp := fun vs H Q _ => ∃ (o : Addr) (k : Nat) (f : Nat → Int), vs = [.ref o, .int (k : Int)] ∧ GrF K C H o f ∧ k ≤ 1000000 ∧ Tail (fun n => (k : Int) * f n) 4000000000000000 ∧ RetG K C (fun n => (k : Int) * f n) H Q
theorem scMul : FnScope ["self", "other", "value", "gain"] ["self", "other"] (defScope (sGr 8)) := ⟨rfl, rfl, rfl, by decide +kernel, rfl, by decide +kernel, by decide +kernel⟩
theorem scRMul : FnScope ["self", "other", "value", "gain"] ["self", "other"] (defScope (sGr 9)) := ⟨rfl, rfl, rfl, by decide +kernel, rfl, by decide +kernel, by decide +kernel⟩
/-- what both do -/
theorem mul_run {C o : Addr} {k : Nat} {f1 : Nat → Int} {H : Hp} {Q : VK} (G : GCls K C) (hk : k ≤ 1000000) (h : GrF K C H o f1) (tl : Tail (fun n => (k : Int) * f1 n) 4000000000000000) (kk : RetG K C (fun n => (k : Int) * f1 n) H Q) :
    ∀ H1, Ex H H1 → tMake C (spInit K C) [] E0 (tCons (tLc (iQ K (tFld K (tVar 0) "told")) (gName 2) tYes (tOp (rI CMul fun i j => .int (i * j)) (tVar 1) (tVar 2)) [2])
      (tCons (tLc (iQ K (tFld K (tVar 0) "gains")) (gName 3) tYes (tOp (rI CMul fun i j => .int (i * j)) (tVar 1) (tVar 3)) [3]) tNil)) [some (.ref o), some (.int (k : Int)), none, none] H1 Q := by
  intro H1 e1
  obtain ⟨t, g, hO, pt, v1⟩ := h
  obtain ⟨dx, p, q, r, h1, h2, h3, h4, nf, t2, g2, sm⟩ := hO
  have hv : ∀ n, val (sc (k : Int) t) (sc (k : Int) g) n = (k : Int) * f1 n := fun n => by rw [val_sc, v1]
  refine eg_make (K := K) (C := C) (σ := [some (.ref o), some (.int (k : Int)), none, none]) (H := H1) (t := sc (k : Int) t) (g := sc (k : Int) g)
    (EvP.lists (el_sc (i := 1) (j := 2) (ev_fld (ev_var rfl) (e1 _ _ h1) G.cls G.told rfl) (.inr (ex_t e1 h2)) (by omega) hk (fun _ => rfl) (fun _ => rfl) (fun _ => rfl))
      (el_sc (i := 1) (j := 3) (ev_fld (ev_var rfl) (e1 _ _ h1) G.cls G.gains rfl) (.inr (ex_t e1 h3)) (by omega) hk (fun _ => rfl) (fun _ => rfl) (fun _ => rfl)))
    (by rw [sc_len]; exact nf.told) (by rw [sc_len]; exact t2) (by rw [sc_len]; exact nf.gains) (by rw [sc_len]; exact g2)
    (fun i hi => by
      rw [sc_len] at hi
      rw [sc_at]
      exact Int.mul_nonneg (by omega) (pt i hi))
    (fun i hi => gains_tail (by rw [sc_len]; exact nf.told) hv tl i hi) hv H1 (Ex.refl H1) _ fun x H2 hx e2 gr => kk x H2 (fresh_back e1 hx) (e1.trans e2) gr
theorem ok_Mul {C f fI fW : Addr} {mc : Value} {fd fdI fdW : FuncData} (F : Fun K "__mul__" "Growth.__mul__" (sGr 8) f fd) (N : GName K mg C mc) (G : GCls K C) (M : Mk K C fI)
    (GI : FnOk P w K mg base CX0 4 fI fdI ["self", "told", "gains"] (spInit K C)) (bI : Binds K fdI ["self", "told", "gains"] [])
    (GW : FnOk P w K mg base CX0 2 fW fdW ["value", "least", "most"] (spWithin K)) (kW : PySem.W.keepIn K (.ref fW) = true) (bW : Binds K fdW ["value", "least", "most"] []) (gW : mg "is_within" = some (.ref fW)) :
    FnOk P w K mg base CX0 6 f fd ["self", "other"] (spMul K C) := by
  refine F.ok scMul (fun vs H Q E h => ?_) (fun cdv A outer s H vs Q E hr h => ?_)
  · obtain ⟨o, n, f1, rfl, _⟩ := h
    rfl
  · obtain ⟨o, n, f1, rfl, hO, hn, tl, k⟩ := h
    refine ⟨_, pss_cons (ps_if (pt_not (pt_val (pe_call GW (hr.mono (by decide)) (by rfl) gW kW bW .nil pass0 (pa_cons (pv 1) (pa_cons pe_int (pa_cons (pe_op op_pow pe_int pe_int) pa_nil)))))) (pss_one ps_no) pss_nil)
      (pss_one (ps_ret (pe_make M GI hr (by rfl) N.g bI .nil pass0 (pa_cons (pe_lc (own := [("value", 2)]) (g := gName 2) rfl scMul.nd (pi_seq (pe_fld (pv 0) rfl)) (blkOk_by (own := [("value", 2)]) (N := ["self", "other", "value", "gain"]) (sc := defScope (sGr 8)) (by decide +kernel))
          (fun _ _ _ _ _ => pg_name (i := 2) scMul.nd rfl (Or.inl rfl)) (fun _ _ _ _ _ => pts_nil) (fun _ _ _ _ _ => pe_op op_mul (pv 1) (pv 2)))
        (pa_cons (pe_lc (own := [("gain", 3)]) (g := gName 3) rfl scMul.nd (pi_seq (pe_fld (pv 0) rfl)) (blkOk_by (own := [("gain", 3)]) (N := ["self", "other", "value", "gain"]) (sc := defScope (sGr 8)) (by decide +kernel))
          (fun _ _ _ _ _ => pg_name (i := 3) scMul.nd rfl (Or.inl rfl)) (fun _ _ _ _ _ => pts_nil) (fun _ _ _ _ _ => pe_op op_mul (pv 1) (pv 3))) pa_nil))))), ?_⟩
    refine q_when (b := false) (et_is (et_not (et_B (ev_call (z := .bl true) (ea_cons (ev_var rfl) (ea_cons ev_c (ea_cons (ev_op ev_c ev_c (rv_I ⟨by decide, by decide, by decide⟩)) ea_nil))) fun H1 e Q q E => .inl ⟨_, _, _, rfl, ?_⟩))) rfl) (fun hb => absurd hb (by decide)) (fun _ H1 e1 => ?_)
    · have z : (decide ((0 : Int) ≤ (n : Int)) && decide ((n : Int) ≤ (10 : Int) ^ (6 : Int).toNat)) = true := by
        rw [decide_eq_true (by omega : (0 : Int) ≤ (n : Int)), decide_eq_true (show (n : Int) ≤ (10 : Int) ^ (6 : Int).toNat from by show (n : Int) ≤ 1000000; omega)]
        rfl
      rw [z]
      exact q
    · exact mul_run G hn hO tl k H1 e1
theorem ok_RMul {C f fI fW : Addr} {mc : Value} {fd fdI fdW : FuncData} (F : Fun K "__rmul__" "Growth.__rmul__" (sGr 9) f fd) (N : GName K mg C mc) (G : GCls K C) (M : Mk K C fI)
    (GI : FnOk P w K mg base CX0 4 fI fdI ["self", "told", "gains"] (spInit K C)) (bI : Binds K fdI ["self", "told", "gains"] [])
    (GW : FnOk P w K mg base CX0 2 fW fdW ["value", "least", "most"] (spWithin K)) (kW : PySem.W.keepIn K (.ref fW) = true) (bW : Binds K fdW ["value", "least", "most"] []) (gW : mg "is_within" = some (.ref fW)) :
    FnOk P w K mg base CX0 6 f fd ["self", "other"] (spMul K C) := by
  refine F.ok scRMul (fun vs H Q E h => ?_) (fun cdv A outer s H vs Q E hr h => ?_)
  · obtain ⟨o, n, f1, rfl, _⟩ := h
    rfl
  · obtain ⟨o, n, f1, rfl, hO, hn, tl, k⟩ := h
    refine ⟨_, pss_cons (ps_if (pt_not (pt_val (pe_call GW (hr.mono (by decide)) (by rfl) gW kW bW .nil pass0 (pa_cons (pv 1) (pa_cons pe_int (pa_cons (pe_op op_pow pe_int pe_int) pa_nil)))))) (pss_one ps_no) pss_nil)
      (pss_one (ps_ret (pe_make M GI hr (by rfl) N.g bI .nil pass0 (pa_cons (pe_lc (own := [("value", 2)]) (g := gName 2) rfl scRMul.nd (pi_seq (pe_fld (pv 0) rfl)) (blkOk_by (own := [("value", 2)]) (N := ["self", "other", "value", "gain"]) (sc := defScope (sGr 9)) (by decide +kernel))
          (fun _ _ _ _ _ => pg_name (i := 2) scRMul.nd rfl (Or.inl rfl)) (fun _ _ _ _ _ => pts_nil) (fun _ _ _ _ _ => pe_op op_mul (pv 1) (pv 2)))
        (pa_cons (pe_lc (own := [("gain", 3)]) (g := gName 3) rfl scRMul.nd (pi_seq (pe_fld (pv 0) rfl)) (blkOk_by (own := [("gain", 3)]) (N := ["self", "other", "value", "gain"]) (sc := defScope (sGr 9)) (by decide +kernel))
          (fun _ _ _ _ _ => pg_name (i := 3) scRMul.nd rfl (Or.inl rfl)) (fun _ _ _ _ _ => pts_nil) (fun _ _ _ _ _ => pe_op op_mul (pv 1) (pv 3))) pa_nil))))), ?_⟩
    refine q_when (b := false) (et_is (et_not (et_B (ev_call (z := .bl true) (ea_cons (ev_var rfl) (ea_cons ev_c (ea_cons (ev_op ev_c ev_c (rv_I ⟨by decide, by decide, by decide⟩)) ea_nil))) fun H1 e Q q E => .inl ⟨_, _, _, rfl, ?_⟩))) rfl) (fun hb => absurd hb (by decide)) (fun _ H1 e1 => ?_)
    · have z : (decide ((0 : Int) ≤ (n : Int)) && decide ((n : Int) ≤ (10 : Int) ^ (6 : Int).toNat)) = true := by
        rw [decide_eq_true (by omega : (0 : Int) ≤ (n : Int)), decide_eq_true (show (n : Int) ≤ (10 : Int) ^ (6 : Int).toNat from by show (n : Int) ≤ 1000000; omega)]
        rfl
      rw [z]
      exact q
    · exact mul_run G hn hO tl k H1 e1
end
end K02
namespace K02
open PySem L2 Evl Gr ClX
section
variable {P : Program} {w : World} {K : PySem.W.Frag} {mg : Str → Option Value} {base : Heap}
/-- is_within(e, 0, MOST): yes -/
theorem ev_within {σ : L2.St} {H : Hp} {ta tc : TE} {n hi : Nat} (ha : Ev ta σ H (.int (n : Int))) (hc : Ev tc σ H (.int (hi : Int))) (h : n ≤ hi) : Ev (tCall (spWithin K) [] E0 (tCons ta (tCons (tC (.int 0)) (tCons tc tNil)))) σ H (.bl true) :=
  ev_call (ea_cons ha (ea_cons ev_c (ea_cons hc ea_nil))) fun H1 e Q q E => .inl ⟨_, _, _, rfl, by
    rw [decide_eq_true (by omega : (0 : Int) ≤ (n : Int)), decide_eq_true (by omega : (n : Int) ≤ (hi : Int))]
    exact q⟩
/-! ### Growth.first -/
def spGFirst (K : PySem.W.Frag) (C : Addr) : Sp := fun vs H Q _ => ∃ (o : Addr) (n : Nat) (f : Nat → Int), vs = [.ref o, .int (n : Int)] ∧ GrF K C H o f ∧ n ≤ 2000 ∧ ∀ p H', Ex H H' → SqT K H' p (vI (pT f n)) → Q (.ref p) H'
theorem scGFirst : FnScope ["self", "n"] ["self", "n"] (defScope (sGr 4)) := ⟨rfl, rfl, rfl, by decide +kernel, rfl, by decide +kernel, by decide +kernel⟩
theorem ok_GFirst {C f fF fW : Addr} {mc : Value} {fd fdF fdW : FuncData} (F : Fun K "first" "Growth.first" (sGr 4) f fd) (T : GlbS mg) (N : GName K mg C mc)
    (GW : FnOk P w K mg base CX0 2 fW fdW ["value", "least", "most"] (spWithin K)) (kW : PySem.W.keepIn K (.ref fW) = true) (bW : Binds K fdW ["value", "least", "most"] []) (gW : mg "is_within" = some (.ref fW))
    (GF : FnOk P w K mg base CX0 1 fF fdF ["one", "many"] (spFirst K C)) (kF : PySem.W.keepIn K (.ref fF) = true) (bF : Binds K fdF ["one", "many"] []) (gF : mg "first_values" = some (.ref fF)) :
    FnOk P w K mg base CX0 3 f fd ["self", "n"] (spGFirst K C) := by
  obtain ⟨mu, cm⟩ := N.most
  refine F.ok scGFirst (fun vs H Q E h => ?_) (fun cdv A outer s H vs Q E hr h => ?_)
  · obtain ⟨o, n, f1, rfl, _⟩ := h
    rfl
  · obtain ⟨o, n, f1, rfl, ⟨t, g, hO, pt, v1⟩, hn, k⟩ := h
    refine ⟨_, pss_cons (ps_if (pt_not (pt_val (pe_call GW hr (by rfl) gW kW bW .nil pass0 (pa_cons (pv 1) (pa_cons pe_int (pa_cons (pe_cval (pe_glob (v := .ref C) rfl N.g rfl)) pa_nil)))))) (pss_one ps_no) pss_nil)
      (pss_one (ps_ret (pe_tupleOf (by rfl) T.tuple (pe_call GF (hr.mono (by decide)) (by rfl) gF kF bF .nil pass0 (pa_cons (pv 0) (pa_cons (pv 1) pa_nil)))))), ?_⟩
    refine q_when (et_not (et_B (ev_within (hi := 2000) (ev_var rfl) (ev_cval ev_c N.rd cm) hn))) (fun hb => absurd hb (by decide)) (fun _ H1 e1 => ?_)
    refine ⟨_, rfl, _, rfl, o, n, t, g, rfl, hO.mono e1, by omega, fun p H2 hp e2 h2 => ?_⟩
    have e : val t g = f1 := funext v1
    rw [e] at h2
    exact .inl ⟨p, _, rfl, sq_of h2, fun q hq => k q _ ((e1.trans e2).trans (Ex.new hq)) (st_of upd_same)⟩
/-! ### Growth.shifted -/
def spGShift (K : PySem.W.Frag) (C : Addr) : Sp := fun vs H Q _ => ∃ (o : Addr) (m : Nat) (f : Nat → Int), vs = [.ref o, .int (m : Int)] ∧ GrF K C H o f ∧ m ≤ 2000 ∧ RetG K C (fun n => f (n + m)) H Q
theorem scGShift : FnScope ["self", "k", "told", "gains"] ["self", "k"] (defScope (sGr 11)) := ⟨rfl, rfl, rfl, by decide +kernel, rfl, by decide +kernel, by decide +kernel⟩
theorem ok_GShift {C f fI fS fW : Addr} {mc : Value} {fd fdI fdS fdW : FuncData} (F : Fun K "shifted" "Growth.shifted" (sGr 11) f fd) (N : GName K mg C mc) (M : Mk K C fI)
    (GI : FnOk P w K mg base CX0 4 fI fdI ["self", "told", "gains"] (spInit K C)) (bI : Binds K fdI ["self", "told", "gains"] [])
    (GW : FnOk P w K mg base CX0 2 fW fdW ["value", "least", "most"] (spWithin K)) (kW : PySem.W.keepIn K (.ref fW) = true) (bW : Binds K fdW ["value", "least", "most"] []) (gW : mg "is_within" = some (.ref fW))
    (GS : FnOk P w K mg base CX0 2 fS fdS ["one", "many"] (spShift K C)) (kS : PySem.W.keepIn K (.ref fS) = true) (bS : Binds K fdS ["one", "many"] []) (gS : mg "shifted_parts" = some (.ref fS)) :
    FnOk P w K mg base CX0 6 f fd ["self", "k"] (spGShift K C) := by
  obtain ⟨mu, cm⟩ := N.most
  refine F.ok scGShift (fun vs H Q E h => ?_) (fun cdv A outer s H vs Q E hr h => ?_)
  · obtain ⟨o, n, f1, rfl, _⟩ := h
    rfl
  · obtain ⟨o, m, f1, rfl, ⟨t, g, hO, pt, v1⟩, hm, k⟩ := h
    refine ⟨_, pss_cons (ps_if (pt_not (pt_val (pe_call GW (hr.mono (by decide)) (by rfl) gW kW bW .nil pass0 (pa_cons (pv 1) (pa_cons pe_int (pa_cons (pe_cval (pe_glob (v := .ref C) rfl N.g rfl)) pa_nil)))))) (pss_one ps_no) pss_nil)
      (pss_cons (ps_asg (pe_call GS (hr.mono (by decide)) (by rfl) gS kS bS .nil pass0 (pa_cons (pv 0) (pa_cons (pv 1) pa_nil))) (pg_tup rfl (pgs_cons (pg_name (i := 2) scGShift.nd rfl (.inl rfl)) (pgs_cons (pg_name (i := 3) scGShift.nd rfl (.inl rfl)) pgs_nil))))
      (pss_one (ps_ret (pe_make M GI hr (by rfl) N.g bI .nil pass0 (pa_cons (pv 2) (pa_cons (pv 3) pa_nil)))))), ?_⟩
    have hO' := hO
    obtain ⟨_, _, _, _, _, _, _, _, nf, _, g2, sm⟩ := hO'
    refine q_when (et_not (et_B (ev_within (hi := 2000) (ev_var rfl) (ev_cval ev_c N.rd cm) hm))) (fun hb => absurd hb (by decide)) (fun _ H1 e1 => ?_)
    refine ⟨_, rfl, _, rfl, o, m, t, g, rfl, hO.mono e1, fun r p q t' g' H2 e2 hr2 hp hq t0' t2' gl sm' hv hpos => ?_⟩
    refine ⟨r, [.ref p, .ref q], rfl, hr2, rfl, _, _, rfl, _, _, rfl, rfl, ?_⟩
    refine eg_make (K := K) (C := C) (σ := [some (.ref o), some (.int (m : Int)), some (.ref p), some (.ref q)]) (H := H2) (ta := tCons (tVar 2) (tCons (tVar 3) tNil)) (EvP.pair (ev_var rfl) (ev_var rfl) (.inl hp) (.inr hq)) t0' t2' (by rw [gl]; exact nf.gains) (by rw [gl]; exact g2)
      (fun i hi => by
        obtain ⟨n, hn⟩ := hpos i hi
        rw [hn]
        exact val_nonneg pt nf.told nf.gains sm n) sm' (fun n => by rw [hv, v1]) H2 (Ex.refl H2) _ fun x H3 hx e3 gr => k x H3 (fresh_back (e1.trans e2) hx) ((e1.trans e2).trans e3) gr
end
end K02
namespace Gr
theorem sum_take {g : List Int} : ∀ r, r ≤ g.length → (g.take r).sum = acc (dif g) r
  | 0, _ => by rw [List.take_zero]; rfl
  | r + 1, h => by
    have e : g.take (r + 1) = g.take r ++ [at' g r] := at_eq_of (by rw [List.length_append, List.length_take, List.length_take]; show _ = _ + 1; omega) fun i hi => by
      rw [List.length_take] at hi
      rw [at_take (by omega), at_app, List.length_take]
      by_cases z : i < r
      · rw [if_pos (by omega), at_take z]
      · have : i = r := by omega
        subst this
        rw [if_neg (by omega), show i - min i g.length = 0 by omega]
        rfl
    rw [e, List.sum_append, sum_take r (by omega)]
    show acc (dif g) r + List.sum [at' g r] = acc (dif g) r + dif g r
    rw [dif_lt (by omega), List.sum_cons, List.sum_nil, Int.add_zero]
theorem sum_all {g : List Int} : g.sum = acc (dif g) g.length := by
  have := sum_take (g := g) g.length (Nat.le_refl _)
  rwa [List.take_length] at this
end Gr
namespace K02
open PySem L2 Evl Gr ClX
abbrev sLV : Stmt := top 44
abbrev sLVs : Stmt := top 45
/-- plain parts of a growth: a pair of two lists -/
def Pl (K : PySem.W.Frag) (H : Hp) (a : Addr) (t g : List Int) : Prop := ∃ p q, SqT K H a [.ref p, .ref q] ∧ SqL K H p (vI t) ∧ SqL K H q (vI g) ∧ 0 < t.length ∧ t.length ≤ 2000 ∧ 0 < g.length ∧ g.length ≤ 2000 ∧ Pos t ∧ Small g
theorem Pl.mono {K : PySem.W.Frag} {H H' : Hp} {a : Addr} {t g : List Int} (e : Ex H H') (h : Pl K H a t g) : Pl K H' a t g := by
  obtain ⟨p, q, h1, h2, h3, h4⟩ := h
  exact ⟨p, q, ex_t e h1, ex_l e h2, ex_l e h3, h4⟩
section
variable {P : Program} {w : World} {K : PySem.W.Frag} {mg : Str → Option Value} {base : Heap}
/-! ### _law_value -/
def spLV (K : PySem.W.Frag) : Sp := fun vs H Q _ => ∃ (a : Addr) (n : Nat) (t g : List Int), vs = [.ref a, .int (n : Int)] ∧ Pl K H a t g ∧ RetV (.int (val t g n)) H Q
theorem scLV : FnScope ["_law_plain_here", "_law_n", "_law_told", "_law_gains", "_law_steps", "_law_many"] ["_law_plain_here", "_law_n"] (defScope sLV) := ⟨rfl, rfl, rfl, by decide +kernel, rfl, by decide +kernel, by decide +kernel⟩
theorem ev_sum {σ : L2.St} {H : Hp} {ta : TE} {p : Addr} {l : List Int} (h : Ev ta σ H (.ref p)) (hs : SqL K H p (vI l)) : Ev (tCB (rSum K) (tCons ta tNil)) σ H (.int l.sum) := ev_cb (ea_cons h ea_nil) fun H1 e _ q => ⟨p, l, rfl, ex_l e hs, q H1 (Ex.refl H1)⟩
theorem ev_sumL {σ : L2.St} {H : Hp} {ta : TE} {l : List Int} (h : EvL ta σ H (vI l)) : Ev (tCB (rSum K) (tCons ta tNil)) σ H (.int l.sum) := fun H1 e Q q => h H1 e _ fun p H2 _ e2 h2 => ⟨p, l, rfl, sq_of h2, q H2 e2⟩
theorem ok_LV {f : Addr} {fd : FuncData} (F : Fun K "_law_value" "_law_value" sLV f fd) (T : Glb mg) (sum : mg "sum" = none) : FnOk P w K mg base CX0 1 f fd ["_law_plain_here", "_law_n"] (spLV K) := by
  refine F.ok scLV (fun vs H Q E h => ?_) (fun cdv A outer s H vs Q E hr h => ?_)
  · obtain ⟨a, n, t, g, rfl, _⟩ := h
    rfl
  · obtain ⟨a, n, t, g, rfl, ⟨p, q, hA, hp, hq, t0, t1, g0, g1, pt, sm⟩, k⟩ := h
    refine ⟨_, pss_cons (ps_asg (pv 0) (pg_tup rfl (pgs_cons (pg_name (i := 2) scLV.nd rfl (.inl rfl)) (pgs_cons (pg_name (i := 3) scLV.nd rfl (.inl rfl)) pgs_nil))))
      (pss_cons (ps_if (pt_cmpR op_lt (pv 1) (pe_callB call_len_seq (by rfl) T.len PySem.boot_len (pa_cons (pv 2) pa_nil)) (nomark _)) (pss_one (ps_ret (pe_ix ix_list (pv 2) (pv 1) (fun _ _ => rfl)))) pss_nil)
      (pss_cons (ps_set (i := 4) scLV.nd rfl (.inl rfl) (pe_op op_add (pe_op op_sub (pv 1) (pe_callB call_len_seq (by rfl) T.len PySem.boot_len (pa_cons (pv 2) pa_nil))) pe_int))
      (pss_cons (ps_set (i := 5) scLV.nd rfl (.inl rfl) (pe_callB call_len_seq (by rfl) T.len PySem.boot_len (pa_cons (pv 3) pa_nil)))
      (pss_one (ps_ret (pe_op op_add (pe_op op_add (pe_ix ix_list (pv 2) (pe_un un_neg pe_int) (fun _ _ => rfl))
          (pe_op op_mul (pe_op op_fdiv (pe_callTy call_int1 (by rfl) T.int (by decide +kernel) (pa_cons (pv 4) pa_nil)) (pv 5)) (pe_callB (cr_sum rfl) (by rfl) sum (by decide +kernel) (pa_cons (pv 3) pa_nil))))
        (pe_callB (cr_sum rfl) (by rfl) sum (by decide +kernel) (pa_cons (pe_slice sl_list (pv 3) po_none (po_some (pe_op op_mod (pe_callTy call_int1 (by rfl) T.int (by decide +kernel) (pa_cons (pv 4) pa_nil)) (pv 5)))) pa_nil)))))))), ?_⟩
    refine ⟨_, rfl, a, _, rfl, hA, rfl, _, _, rfl, _, _, rfl, rfl, ?_⟩
    show tSeq _ _ _ _ _
    refine q_when (et_test (ev_op (ev_var rfl) (ev_is (ev_cb (ea_cons (ev_var rfl) ea_nil) (rc_len hp)) (by rw [vI_len])) rv_I0)) (fun ht H1 e1 => ?_) (fun ht H1 e1 => ?_)
    · have hn : n < t.length := by have := of_decide_eq_true ht; omega
      exact s_ret (v := .int (val t g n)) (ev_op (ev_var rfl) (ev_var rfl) (rv_ixL (ex_l e1 hp) (by rw [atI_vI hn, val_lt hn]))) fun H2 e2 => k H2 (e1.trans e2)
    · have hn : t.length ≤ n := by have := of_decide_eq_false ht; omega
      obtain ⟨m, hm⟩ : ∃ m, m = n - t.length + 1 := ⟨_, rfl⟩
      have hr2 : m % g.length < g.length := Nat.mod_lt _ g0
      refine q_asg (v := .int (m : Int)) (ev_is (ev_op (ev_op (ev_var rfl) (ev_is (ev_cb (ea_cons (ev_var rfl) ea_nil) (rc_len (ex_l e1 hp))) (by rw [vI_len])) rv_I0) ev_c rv_I0) (by congr 1; omega)) fun H2 e2 => ?_
      have E2 := e1.trans e2
      refine q_asg (v := .int (g.length : Int)) (ev_is (ev_cb (ea_cons (ev_var rfl) ea_nil) (rc_len (ex_l E2 hq))) (by rw [vI_len])) fun H3 e3 => ?_
      have E3 := E2.trans e3
      have S := acc_small sm g0 g.length
      have sl := el_sl (K := K) (σ := [some (.ref a), some (.int (n : Int)), some (.ref p), some (.ref q), some (.int (m : Int)), some (.int (g.length : Int))]) (H := H3) (te := tVar 3) (tl := tNoPart) (th := tPart (tOp (rI (fun _ j => 0 < j) fun i j => .int (i % j)) (tCB (fun xs H Q => (∃ i, xs = [V.int i] ∧ Q (.int i) H) ∨ ∃ k, xs = [V.bl k] ∧ Q (.int (if k then 1 else 0)) H) (tCons (tVar 4) tNil)) (tVar 5)))
        (lo := none) (hi := some ((m % g.length : Nat) : Int)) (ev_var rfl) eo_none (eo_some (ev_is (ev_op (ev_cb (ea_cons (ev_var rfl) ea_nil) rc_int) (ev_var rfl) (rv_I (by omega))) rfl)) (ex_l E3 hq)
      rw [cut_take (by omega)] at sl
      refine s_ret (v := .int (val t g n)) (ev_is (ev_op (ev_op (ev_op (ev_var rfl) (ev_un ev_c ru_neg) (rv_ixL (ex_l E3 hp) (atI_vlast t0)))
        (ev_op (y := .int g.sum) (ev_op (ev_cb (ea_cons (ev_var rfl) ea_nil) rc_int) (ev_var rfl) (rv_I ⟨by omega, by omega⟩)) (ev_sum (ev_var rfl) (ex_l E3 hq)) (rv_I (.inr ⟨by rw [sum_all]; omega, by rw [sum_all]; omega⟩))) rv_I0) (ev_sumL sl) rv_I0) ?_) fun H4 e4 => k H4 (E3.trans e4)
      rw [sum_take _ (by omega), sum_all, spv_val_far t0 hn, ← hm]
      rfl
end
end K02
namespace K02
open PySem L2 Evl Gr ClX
theorem given_pT {f : Nat → Int} {n : Nat} : given n (fun _ => true) (fun i => V.int (f i)) = vI (pT f n) := by
  rw [given_all]
  unfold vI pT
  rw [List.map_map]
  rfl
section
variable {P : Program} {w : World} {K : PySem.W.Frag} {mg : Str → Option Value} {base : Heap}
theorem spv_LV {H : Hp} {a : Addr} {n : Nat} {t g : List Int} (h : Pl K H a t g) : SpV (spLV K) [.ref a, .int (n : Int)] H (.int (val t g n)) := fun H1 e Q q E => ⟨a, n, t, g, rfl, h.mono e, q⟩
/-! ### _law_values -/
def spLVs (K : PySem.W.Frag) : Sp := fun vs H Q _ => ∃ (a : Addr) (m : Nat) (t g : List Int), vs = [.ref a, .int (m : Int)] ∧ Pl K H a t g ∧ m ≤ 10000 ∧ ∀ p H', H p = none → Ex H H' → H' p = some (.lst (vI (pT (val t g) m))) → Q (.ref p) H'
theorem scLVs : FnScope ["_law_plain_here", "_law_many", "_law_n"] ["_law_plain_here", "_law_many"] (defScope sLVs) := ⟨rfl, rfl, rfl, by decide +kernel, rfl, by decide +kernel, by decide +kernel⟩
theorem ok_LVs {f fV : Addr} {fd fdV : FuncData} (F : Fun K "_law_values" "_law_values" sLVs f fd) (range : mg "range" = none)
    (GV : FnOk P w K mg base CX0 1 fV fdV ["_law_plain_here", "_law_n"] (spLV K)) (kV : PySem.W.keepIn K (.ref fV) = true) (bV : Binds K fdV ["_law_plain_here", "_law_n"] []) (gV : mg "_law_value" = some (.ref fV)) :
    FnOk P w K mg base CX0 2 f fd ["_law_plain_here", "_law_many"] (spLVs K) := by
  refine F.ok scLVs (fun vs H Q E h => ?_) (fun cdv A outer s H vs Q E hr h => ?_)
  · obtain ⟨a, m, t, g, rfl, _⟩ := h
    rfl
  · obtain ⟨a, m, t, g, rfl, hA, hm, k⟩ := h
    refine ⟨_, pss_one (ps_ret (pe_lc (own := [("_law_n", 2)]) (g := gName 2) rfl scLVs.nd (pi_range1 (by rfl) range (pa_cons (pv 1) pa_nil)) (blkOk_by (own := [("_law_n", 2)]) (N := ["_law_plain_here", "_law_many", "_law_n"]) (sc := defScope sLVs) (by decide +kernel))
      (fun _ _ _ _ _ => pg_name (i := 2) scLVs.nd rfl (Or.inl rfl)) (fun _ _ _ _ _ => pts_nil) (fun _ _ _ _ _ => pe_call GV hr (by rfl) gV kV bV .nil pass0 (pa_cons (pv 0) (pa_cons (pv 2) pa_nil))))), ?_⟩
    have c := el_lcR1 (σ := [some (.ref a), some (.int (m : Int)), none]) (H := H) (t := tYes) (te := tCall (spLV K) [] E0 (tCons (tVar 0) (tCons (tVar 2) tNil))) (ta := tCons (tVar 1) tNil) (j := 2) (vs := [2]) (n := (m : Int)) (fun _ => true) (fun i => V.int (val t g i))
      (ea_cons (ev_var rfl) ea_nil) (by omega) (fun _ => rfl) (fun i H1 _ _ => et_none) (fun i H1 e1 _ _ => ev_call (ea_cons (ev_var rfl) (ea_cons (ev_var rfl) ea_nil)) (spv_LV (hA.mono e1)))
    rw [given_pT, Int.toNat_natCast] at c
    exact s_retL c k
end
end K02
namespace K02
open PySem L2 Evl Gr ClX
/-- one part -/
def EvP1 (K : PySem.W.Frag) (ta : TA) (σ : L2.St) (H : Hp) (t : List Int) : Prop := ∀ H1, Ex H H1 → ∀ Q : List V → Hp → Prop, (∀ a H2, Ex H1 H2 → Sq K H2 a (vI t) → Q [.ref a] H2) → ta σ H1 Q
section
variable {K : PySem.W.Frag} {C : Addr} {σ : L2.St} {H : Hp} {ta : TA} {t g : List Int} {f : Nat → Int}
theorem eg_make1 {T0 : Addr} (h : EvP1 K ta σ H t) (hT : ∀ H, Sq K H T0 (vI g)) (t0 : 0 < t.length) (t1 : t.length ≤ 2000) (g0 : 0 < g.length) (g1 : g.length ≤ 2000) (pt : Pos t) (sm : Small g) (hf : ∀ n, val t g n = f n) : EvG K C (tMake C (spInit K C) [.ref T0] E0 ta) σ H f := fun H1 e Q q =>
  h H1 e _ fun a H2 e2 ha x dx hx hd hn => by
    have e3 : Ex H2 (upd (upd H2 dx (.own x)) x (.ins C dx [])) := (Ex.new hd).trans (Ex.new (by rw [upd_ne hn.symm]; exact hx))
    refine ⟨x, a, T0, dx, t, g, rfl, upd_same, ha.mono e3, hT _, t0, t1, g0, g1, pt, sm, fun t' g' H' kp gr pt' hv => ⟨rfl, ?_⟩⟩
    refine q x H' (fresh_back e2 hx) (e2.trans fun c u hc => ?_) ⟨t', g', gr, pt', fun n => (hv n).trans (hf n)⟩
    exact kp c u (e3 _ _ hc) (ne_of_none hc hx)
theorem EvP.tup1 {te tf : TE} {x y : Int} (h : Ev te σ H (.int x)) (h' : ∀ H1, Ex H H1 → Ev tf σ H1 (.int y)) : EvP K (tCons (tTup (tCons te tNil)) (tCons (tTup (tCons tf tNil)) tNil)) σ H [x] [y] := fun H1 e Q q =>
  eu_tup (σ := σ) (H := H) (ea_cons h ea_nil) (Nat.le_of_ble_eq_true rfl) H1 e _ fun p H2 _ e2 h2 => eu_tup (σ := σ) (H := H2) (ea_cons (h' H2 (e.trans e2)) ea_nil) (Nat.le_of_ble_eq_true rfl) H2 (Ex.refl H2) _ fun r H3 _ e3 h3 =>
    q p r H3 (e2.trans e3) (.inr (st_of (e3 _ _ h2))) (.inr (st_of h3))
theorem EvP1.tup {te : TE} {x : Int} (h : Ev te σ H (.int x)) : EvP1 K (tCons (tTup (tCons te tNil)) tNil) σ H [x] := fun H1 e Q q =>
  eu_tup (σ := σ) (H := H) (ea_cons h ea_nil) (Nat.le_of_ble_eq_true rfl) H1 e _ fun p H2 _ e2 h2 => q p H2 e2 (.inr (st_of h2))
end
theorem val_one {x y : Int} (n : Nat) : val [x] [y] n = x + n * y := by
  have a := val_ge (t := [x]) (g := [y]) Nat.one_pos n
  rw [show [x].length - 1 + n = n from Nat.zero_add n] at a
  rw [a]
  have b : ∀ m : Nat, acc (dif [y]) m = m * y := fun m => by
    induction m with
    | zero => show (0 : Int) = ((0 : Nat) : Int) * y; rw [Int.natCast_zero, Int.zero_mul]
    | succ m ih =>
      show acc _ m + dif [y] m = _
      have d : dif [y] m = y := by
        unfold dif
        rw [show m % [y].length = 0 from Nat.mod_one m]
        rfl
      rw [ih, d, show ((m + 1 : Nat) : Int) = (m : Int) + 1 from rfl, Int.add_mul, Int.one_mul]
  rw [b]
  rfl
section
variable {P : Program} {w : World} {K : PySem.W.Frag} {mg : Str → Option Value} {base : Heap}
/-! ### Growth.constant, Growth.ramp -/
def spConst (K : PySem.W.Frag) (C : Addr) : Sp := fun vs H Q _ => ∃ x : Nat, vs = [.int (x : Int)] ∧ RetG K C (fun _ => (x : Int)) H Q
theorem scConst : FnScope ["value"] ["value"] (defScope (sGr 17)) := ⟨rfl, rfl, rfl, by decide +kernel, rfl, by decide +kernel, by decide +kernel⟩
theorem ok_Const {C T0 f fI fZ : Addr} {mc : Value} {fd fdI fdZ : FuncData} {d0 : Value} (F : Fun K "constant" "Growth.constant" (sGr 17) f fd) (N : GName K mg C mc) (M : Mk K C fI)
    (GI : FnOk P w K mg base CX0 4 fI fdI ["self", "told", "gains"] (spInit K C)) (bI : Binds K fdI ["self", "told", "gains"] [.ref T0]) (hT : ∀ H, Sq K H T0 (vI [0]))
    (GZ : FnOk P w K mg base CX0 2 fZ fdZ ["value"] (spFrom0 K)) (kZ : PySem.W.keepIn K (.ref fZ) = true) (bZ : Binds K fdZ ["value"] []) (gZ : mg "is_from_zero" = some (.ref fZ)) :
    FnOk P w K mg base CX0 6 f fd ["value"] (spConst K C) := by
  refine F.ok scConst (fun vs H Q E h => ?_) (fun cdv A outer s H vs Q E hr h => ?_)
  · obtain ⟨x, rfl, _⟩ := h
    rfl
  · obtain ⟨x, rfl, k⟩ := h
    refine ⟨_, pss_cons (ps_if (pt_not (pt_val (pe_call GZ (hr.mono (by decide)) (by rfl) gZ kZ bZ .nil pass0 (pa_cons (pv 0) pa_nil)))) (pss_one ps_no) pss_nil)
      (pss_one (ps_ret (pe_make M GI hr (by rfl) N.g bI (dvs := [.ref T0]) (.cons rfl .nil) pass0 (pa_cons (pe_tup (pa_cons (pv 0) pa_nil)) pa_nil)))), ?_⟩
    refine q_when (b := false) (et_is (et_not (et_B (ev_call (z := .bl true) (ea_cons (ev_var rfl) ea_nil) fun H1 e Q q E => .inl ⟨_, rfl, by rw [decide_eq_true (by omega : (0 : Int) ≤ (x : Int))]; exact q⟩))) rfl) (fun hb => absurd hb (by decide)) (fun _ H1 e1 => ?_)
    refine eg_make1 (K := K) (C := C) (σ := [some (.int (x : Int))]) (H := H1) (t := [(x : Int)]) (g := [0]) (f := fun _ => (x : Int)) (EvP1.tup (ev_var rfl)) hT Nat.one_pos (Nat.le_of_ble_eq_true rfl) Nat.one_pos (Nat.le_of_ble_eq_true rfl)
      (fun i hi => by
        have z : i = 0 := by
          have : i < 1 := hi
          omega
        subst z
        show (0 : Int) ≤ (x : Int)
        omega) (fun i hi => by
        have z : i = 0 := by
          have : i < 1 := hi
          omega
        subst z
        exact ⟨Int.le_refl _, by decide⟩) (fun n => by rw [val_one, Int.mul_zero, Int.add_zero]) H1 (Ex.refl H1) _ fun o H2 ho e2 gr => k o H2 (fresh_back e1 ho) (e1.trans e2) gr
def spRamp (K : PySem.W.Frag) (C : Addr) : Sp := fun vs H Q _ => ∃ x y : Nat, vs = [.int (y : Int), .int (x : Int)] ∧ y ≤ 4000000000000000 ∧ RetG K C (fun n => (x : Int) + n * (y : Int)) H Q
theorem scRamp : FnScope ["gain", "begin"] ["gain", "begin"] (defScope (sGr 18)) := ⟨rfl, rfl, rfl, by decide +kernel, rfl, by decide +kernel, by decide +kernel⟩
theorem ok_Ramp {C f fI fZ : Addr} {mc : Value} {fd fdI fdZ : FuncData} {dvs : List V} (F : FunD K "ramp" "Growth.ramp" (defArgs (sGr 18)) (defBody (sGr 18)) (defScope (sGr 18)) dvs [] f fd) (N : GName K mg C mc) (M : Mk K C fI)
    (GI : FnOk P w K mg base CX0 4 fI fdI ["self", "told", "gains"] (spInit K C)) (bI : Binds K fdI ["self", "told", "gains"] [])
    (GZ : FnOk P w K mg base CX0 2 fZ fdZ ["value"] (spFrom0 K)) (kZ : PySem.W.keepIn K (.ref fZ) = true) (bZ : Binds K fdZ ["value"] []) (gZ : mg "is_from_zero" = some (.ref fZ)) :
    FnOk P w K mg base CX0 6 f fd ["gain", "begin"] (spRamp K C) := by
  refine F.ok scRamp (fun vs H Q E h => ?_) (fun cdv A outer s H vs Q E hr h => ?_)
  · obtain ⟨x, y, rfl, _⟩ := h
    rfl
  · obtain ⟨x, y, rfl, hy, k⟩ := h
    refine ⟨_, pss_cons (ps_if (pt_not (pt_val (pe_call GZ (hr.mono (by decide)) (by rfl) gZ kZ bZ .nil pass0 (pa_cons (pv 0) pa_nil)))) (pss_one ps_no) pss_nil)
      (pss_cons (ps_if (pt_not (pt_val (pe_call GZ (hr.mono (by decide)) (by rfl) gZ kZ bZ .nil pass0 (pa_cons (pv 1) pa_nil)))) (pss_one ps_no) pss_nil)
      (pss_one (ps_ret (pe_make M GI hr (by rfl) N.g bI .nil pass0 (pa_cons (pe_tup (pa_cons (pv 1) pa_nil)) (pa_cons (pe_tup (pa_cons (pv 0) pa_nil)) pa_nil)))))), ?_⟩
    refine q_when (b := false) (et_is (et_not (et_B (ev_call (z := .bl true) (ea_cons (ev_var rfl) ea_nil) fun H1 e Q q E => .inl ⟨_, rfl, by rw [decide_eq_true (by omega : (0 : Int) ≤ (y : Int))]; exact q⟩))) rfl) (fun hb => absurd hb (by decide)) (fun _ H1 e1 => ?_)
    refine q_when (b := false) (et_is (et_not (et_B (ev_call (z := .bl true) (ea_cons (ev_var rfl) ea_nil) fun H1 e Q q E => .inl ⟨_, rfl, by rw [decide_eq_true (by omega : (0 : Int) ≤ (x : Int))]; exact q⟩))) rfl) (fun hb => absurd hb (by decide)) (fun _ H2 e2 => ?_)
    refine eg_make (K := K) (C := C) (σ := [some (.int (y : Int)), some (.int (x : Int))]) (H := H2) (t := [(x : Int)]) (g := [(y : Int)]) (f := fun n => (x : Int) + n * (y : Int)) (EvP.tup1 (ev_var rfl) (fun _ _ => ev_var rfl)) Nat.one_pos (Nat.le_of_ble_eq_true rfl) Nat.one_pos (Nat.le_of_ble_eq_true rfl)
      (fun i hi => by
        have z : i = 0 := by
          have : i < 1 := hi
          omega
        subst z
        show (0 : Int) ≤ (x : Int)
        omega) (fun i hi => by
        have z : i = 0 := by
          have : i < 1 := hi
          omega
        subst z
        show (0 : Int) ≤ (y : Int) ∧ (y : Int) ≤ 4000000000000000
        omega) (fun n => val_one n) H2 (Ex.refl H2) _ fun o H3 ho e3 gr => k o H3 (fresh_back (e1.trans e2) ho) ((e1.trans e2).trans e3) gr
end
end K02
namespace K02
open PySem L2 Evl Gr ClX
/-! ### what draws: it may move the pen, and makes objects -/
def EvW (p l : Addr) (cells : List Int) (n : Nat) (te : TE) (σ : L2.St) (H : Hp) (R : V → Prop) : Prop := ∀ m H1, Keep p H H1 → PenAt H1 p l cells m → m + n ≤ 50000 → ∀ Q : VK, (∀ v H2, R v → PenAt H2 p l cells (m + n) → Keep p H1 H2 → Q v H2) → te σ H1 Q
section
variable {p l : Addr} {cells : List Int} {σ : L2.St} {H : Hp}
theorem w_draw {i : Nat} {tb : TE} {many : Int} (hi : σ[i]? = some (some (.ref p))) (hb : ∀ H1, Keep p H H1 → Ev tb σ H1 (.int many)) (h0 : 0 < many) (h1 : many ≤ 1000000000) (h63 : cells.length ≤ 63) :
    EvW p l cells 1 (tCall spDraw [] E0 (tCons (tVar i) (tCons tb tNil))) σ H (fun v => ∃ d : Nat, v = .int (d : Int) ∧ (d : Int) < many) := fun m H1 kp hP hm Q q =>
  ⟨_, hi, hb H1 kp H1 (Ex.refl H1) _ fun H2 e2 => ⟨p, l, cells, m, many, rfl, hP.mono e2 (Nat.le_refl m), by omega, h63, h0, h1, fun d H3 d0 d1 hP3 k3 => by
    obtain ⟨n, rfl⟩ := Int.eq_ofNat_of_zero_le d0
    exact q _ H3 ⟨n, rfl, d1⟩ hP3 ((Keep.of_ex e2).trans k3)⟩⟩
theorem w_pick {i : Nat} {tr : TA} {ns : List Int} (hi : σ[i]? = some (some (.ref p))) (hr : ∀ H1, EvA tr σ H1 (vI ns)) (h0 : 0 < ns.length) (h1 : ns.length ≤ 1000) (h63 : cells.length ≤ 63) :
    EvW p l cells 1 (tCall spPick [] E0 (tCons (tVar i) (tCons (tLst tr) tNil))) σ H (fun v => ∃ x, v = .int x ∧ x ∈ ns) := fun m H1 kp hP hm Q q =>
  ⟨_, hi, hr H1 H1 (Ex.refl H1) _ fun H2 e2 => ⟨by rw [vI_len]; exact sz_of (by omega), fun a ha => by
    have e3 := e2.trans (Ex.new (o := .lst (vI ns)) ha)
    have hap : a ≠ p := by
      obtain ⟨k, r, hp, _⟩ := hP
      intro z
      rw [z, e2 _ _ hp] at ha
      cases ha
    refine ⟨p, l, a, cells, m, vI ns, rfl, hP.mono e3 (Nat.le_refl m), by omega, h63, upd_same, hap, by rw [vI_len]; exact h0, by rw [vI_len]; omega, fun j x H3 hx hP3 k3 => ?_⟩
    have hj : j < ns.length := by
      have := (List.getElem?_eq_some_iff.mp hx).1
      rwa [vI_len] at this
    rw [vI_get hj] at hx
    obtain rfl := Option.some.inj hx
    refine q _ H3 ⟨_, rfl, ?_⟩ hP3 ((Keep.of_ex e3).trans k3)
    unfold at'
    rw [List.getD_eq_getElem?_getD, List.getElem?_eq_getElem hj]
    exact List.getElem_mem hj⟩⟩
end
abbrev sPlain : Stmt := top 43
theorem scPlain : FnScope ["_law_pen_here", "_law_is_rising", "_law_told", "_law_top", "_law_turn_so", "_law_most", "_law_gains"] ["_law_pen_here", "_law_is_rising"] (defScope sPlain) := ⟨rfl, rfl, rfl, by decide +kernel, rfl, by decide +kernel, by decide +kernel⟩
theorem PenAt.upd' {H : Hp} {p l a : Addr} {cells : List Int} {m : Nat} {o : HO} (h : PenAt H p l cells m) (h1 : a ≠ p) (h2 : a ≠ l) : PenAt (upd H a o) p l cells m := by
  obtain ⟨k, r, q1, q2, q3⟩ := h
  exact ⟨k, r, by rw [upd_ne h1.symm]; exact q1, by rw [upd_ne h2.symm]; exact q2, q3⟩
theorem PenAt.le {H : Hp} {p l : Addr} {cells : List Int} {m n : Nat} (h : PenAt H p l cells m) (hm : m ≤ n) : PenAt H p l cells n := h.mono (Ex.refl H) hm
/-- what is fresh may change -/
theorem Keep.mut {p a : Addr} {H H' : Hp} {o : HO} (h : Keep p H H') (ha : H a = none) : Keep p H (L2.upd H' a o) := fun b u hb hn => by
  have : b ≠ a := fun z => by rw [z, ha] at hb; cases hb
  rw [upd_ne this]
  exact h b u hb hn
section
variable {p l : Addr} {cells : List Int} {σ : L2.St} {H : Hp} {te : TE} {tu tz : TS} {D : Ends} {j m : Nat} {many : Int}
/-- a for over range(1 + what is drawn) -/
theorem q_forW (hw : EvW p l cells 1 te σ H (fun v => ∃ d : Nat, v = .int (d : Int) ∧ (d : Int) < many)) (hP : PenAt H p l cells m) (hm : m + 1 ≤ 50000) (hmany : many ≤ 100) (Pv : Nat → L2.St → Hp → Prop) (h0 : ∀ H1, PenAt H1 p l cells (m + 1) → Keep p H H1 → Pv 0 σ H1)
    (hs : ∀ (i : Nat) σ' H', (i : Int) < many → Pv i σ' H' → tu { D with nx := Pv (i + 1), ct := Pv (i + 1), bk := tz D } (σ'.set j (some (.int (i : Int)))) H') (hd : ∀ (n : Nat) σ' H', 0 < n → (n : Int) ≤ many → Pv n σ' H' → tz D σ' H') :
    tSeq (tFor (iRng1 (tCons (tOp (rI0 fun i j => .int (i + j)) (tC (.int 1)) te) tNil)) (gName j) tu) tz D σ H :=
  hw m H (Keep.of_ex (Ex.refl H)) hP hm _ fun v H2 hv hP2 k2 => by
    obtain ⟨d, rfl, hd'⟩ := hv
    refine ⟨1, (d : Int), rfl, rfl, ?_⟩
    refine ⟨1 + (d : Int), rfl, by omega, by omega, for_range (lo := 0) (n := (1 + (d : Int)).toNat) Pv (h0 H2 hP2 k2) (fun i σ' H' hi q => ?_) (fun σ' H' q => hd _ σ' H' (by omega) (by omega) q)⟩
    have e0 : (0 : Int) + (i : Int) = (i : Int) := Int.zero_add _
    show tu { D with nx := Pv (i + 1), ct := Pv (i + 1), bk := tz D } (σ'.set j (some (.int ((0 : Int) + (i : Int))))) H'
    rw [e0]
    exact hs i σ' H' (by omega) q
end
theorem q_asgR {σ : L2.St} {H : Hp} {te : TE} {i : Nat} {tz : TS} {D : Ends} (h : te σ H fun x H1 => tz D (σ.set i (some x)) H1) : tSeq (tAsg te (gName i)) tz D σ H := h
/-- [what is drawn for j in range(1 + what is drawn)] -/
theorem lc_draws {p l : Addr} {cells : List Int} {σ : L2.St} {H : Hp} {te0 te : TE} {j m : Nat} {many B : Int} {Q : VK} (hw : EvW p l cells 1 te0 σ H (fun v => ∃ d : Nat, v = .int (d : Int) ∧ (d : Int) < many)) (hP : PenAt H p l cells m) (hm : m + 102 ≤ 50000) (hmany : many ≤ 100)
    (hwi : ∀ x, wipe ((wipe σ [j]).set j (some x)) [j] = wipe σ [j]) (ht : ∀ x H1, Keep p H H1 → EvW p l cells 1 te ((wipe σ [j]).set j (some x)) H1 (fun v => ∃ d : Nat, v = .int (d : Int) ∧ (d : Int) < B))
    (k : ∀ a g H', H a = none → Keep p H H' → PenAt H' p l cells (m + 1 + g.length) → H' a = some (.lst (vI g)) → 0 < g.length → (g.length : Int) ≤ many → (∀ i, i < g.length → 0 ≤ at' g i ∧ at' g i < B) → Q (.ref a) H') :
    tLc (iRng1 (tCons (tOp (rI0 fun i j => .int (i + j)) (tC (.int 1)) te0) tNil)) (gName j) tYes te [j] σ H Q :=
  hw m H (Keep.of_ex (Ex.refl H)) hP (by omega) _ fun v H2 hv hP2 k2 => by
    obtain ⟨d, rfl, hd'⟩ := hv
    refine ⟨1, (d : Int), rfl, rfl, ?_⟩
    refine ⟨1 + (d : Int), rfl, by omega, by omega, fun Dl hD => ?_⟩
    have hDp : Dl ≠ p := fun z => by
      obtain ⟨_, _, q, _⟩ := hP2
      rw [z, q] at hD
      cases hD
    have hDl : Dl ≠ l := fun z => by
      obtain ⟨_, _, _, q, _⟩ := hP2
      rw [z, q] at hD
      cases hD
    have hDn : H Dl = none := by
      cases z : H Dl with
      | none => rfl
      | some u =>
        have := k2 _ _ z hDp
        rw [hD] at this
        cases this
    refine lc_range (lo := 0) (n := (1 + (d : Int)).toNat) (fun i H' => ∃ g : List Int, H' Dl = some (.lst (vI g)) ∧ g.length = i ∧ (∀ i', i' < g.length → 0 ≤ at' g i' ∧ at' g i' < B) ∧ PenAt H' p l cells (m + 1 + i) ∧ Keep p H2 H') ⟨[], upd_same, rfl, fun i' h => absurd h (Nat.not_lt_zero _), hP2.upd' hDp hDl, (Keep.of_ex (Ex.refl H2)).mut hD⟩ (fun i H' hi q => ⟨hwi _, ?_⟩) (fun H' q => ?_)
    · obtain ⟨g, hg, hlen, hb, hP3, k3⟩ := q
      show te ((wipe σ [j]).set j (some (.int ((0 : Int) + (i : Int))))) H' fun y H4 => ∃ acc, H4 Dl = some (.lst acc) ∧ acc.length < sizeLine ∧ _
      refine ht _ H' (k2.trans k3) (m + 1 + i) H' (Keep.of_ex (Ex.refl H')) hP3 (by omega) _ fun v H4 hv hP4 k4 => ?_
      obtain ⟨e, rfl, he⟩ := hv
      refine ⟨vI g, k4 _ _ hg hDp, sz_lt (by rw [vI_len]; omega), g ++ [(e : Int)], by rw [upd_same, vI_app], by rw [List.length_append, hlen]; rfl, fun i' hi' => ?_, (hP4.upd' hDp hDl).le (by omega), (k3.trans k4).mut hD⟩
      rw [List.length_append] at hi'
      have hi2 : i' < g.length + 1 := hi'
      rw [at_app]
      by_cases c : i' < g.length
      · rw [if_pos c]
        exact hb _ c
      · rw [if_neg c, show i' - g.length = 0 by omega]
        show 0 ≤ (e : Int) ∧ (e : Int) < B
        omega
    · obtain ⟨g, hg, hlen, hb, hP3, k3⟩ := q
      exact k Dl g H' hDn (k2.trans k3) (hP3.le (by omega)) hg (by omega) (by omega) hb
section
variable {P : Program} {w : World} {K : PySem.W.Frag} {mg : Str → Option Value} {base : Heap}
/-! ### _law_plain -/
/-- plain parts, new ones: at most five told -/
def PlN (H : Hp) (a : Addr) (t g : List Int) : Prop := ∃ p q, H a = some (.tup [.ref p, .ref q]) ∧ H p = some (.lst (vI t)) ∧ H q = some (.lst (vI g)) ∧ t.length ≤ 5
def spPlain (K : PySem.W.Frag) : Sp := fun vs H Q _ => ∃ (p l : Addr) (cells : List Int) (m : Nat) (r : Bool), vs = [.ref p, .bl r] ∧ PenAt H p l cells m ∧ m + 120 ≤ 50000 ∧ cells.length ≤ 63 ∧
  ∀ t g x H', Keep p H H' → PenAt H' p l cells (m + 13) → PlN H' x t g → Pl K H' x t g → g.length ≤ 4 → (∀ i, i < g.length → at' g i ≤ 1000000) → (∀ i, i < t.length → at' t i ≤ 5000000000) → Q (.ref x) H'
theorem ok_Plain {f fD fP : Addr} {fd fdD fdP : FuncData} (F : Fun K "_law_plain" "_law_plain" sPlain f fd) (range : mg "range" = none)
    (GD : FnOk P w K mg base CX0 1 fD fdD ["_law_pen_here", "_law_many"] spDraw) (kD : PySem.W.keepIn K (.ref fD) = true) (bD : Binds K fdD ["_law_pen_here", "_law_many"] []) (gD : mg "_law_draw" = some (.ref fD))
    (GP : FnOk P w K mg base CX0 2 fP fdP ["_law_pen_here", "_law_some"] spPick) (kP : PySem.W.keepIn K (.ref fP) = true) (bP : Binds K fdP ["_law_pen_here", "_law_some"] []) (gP : mg "_law_pick" = some (.ref fP)) :
    FnOk P w K mg base CX0 3 f fd ["_law_pen_here", "_law_is_rising"] (spPlain K) := by
  refine F.ok scPlain (fun vs H Q E h => ?_) (fun cdv A outer s H vs Q E hr h => ?_)
  · obtain ⟨p, l, cells, m, r, rfl, _⟩ := h
    rfl
  · obtain ⟨p, l, cells, m, r, rfl, hP, hm, h63, k⟩ := h
    refine ⟨_, pss_cons (ps_par (i := 2) (j := 3) rfl scPlain.nd rfl rfl (by decide) (by rfl) (by rfl) (pa_cons (pe_lst pa_nil) (pa_cons (pe_call GP hr (by rfl) gP kP bP .nil pass0 (pa_cons (pv 0) (pa_cons (pe_lst (pa_cons pe_int (pa_cons pe_int (pa_cons pe_int (pa_cons pe_int (pa_cons (pe_op op_pow pe_int pe_int) pa_nil)))))) pa_nil))) pa_nil)) (by rfl))
      (pss_cons (ps_for PassesOwn.never rfl (pi_range1 (by rfl) range (pa_cons (pe_op op_add pe_int (pe_call GD (hr.mono (by decide)) (by rfl) gD kD bD .nil pass0 (pa_cons (pv 0) (pa_cons pe_int pa_nil)))) pa_nil)) (pg_name (i := 4) scPlain.nd rfl (.inl rfl))
        (pss_one (ps_expr (pe_bm PySem.F.plainAttrs_list PySem.F.slot_list_append PySem.F.type_list_append mt_append (pv 2) (pa_cons (pe_op op_add (pe_call GD (hr.mono (by decide)) (by rfl) gD kD bD .nil pass0 (pa_cons (pv 0) (pa_cons (pv 3) pa_nil)))
          (pe_ifExp (PW.pt (pw_and (pt_cmpR (op_neD hr.units) (pv 2) (pe_lst pa_nil) (nomark _)) (pw_and1 (pt_val (pv 1))))) (pe_ix ix_list (pv 2) (pe_un un_neg pe_int) (fun _ _ => rfl)) pe_int)) pa_nil)))))
      (pss_cons (ps_set (i := 5) scPlain.nd rfl (.inr rfl) (pe_call GP hr (by rfl) gP kP bP .nil pass0 (pa_cons (pv 0) (pa_cons (pe_lst (pa_cons pe_int (pa_cons pe_int (pa_cons pe_int (pa_cons pe_int (pa_cons (pe_op op_pow pe_int pe_int) pa_nil)))))) pa_nil))))
      (pss_cons (ps_setLc (i := 6) (own := [("_law_turn_so", 4)]) (g := gName 4) rfl scPlain.nd rfl (by rfl) (by rfl) (pi_range1 (by rfl) range (pa_cons (pe_op op_add pe_int (pe_call GD (hr.mono (by decide)) (by rfl) gD kD bD .nil pass0 (pa_cons (pv 0) (pa_cons pe_int pa_nil)))) pa_nil)) (blkOk_by (own := [("_law_turn_so", 4)]) (N := ["_law_pen_here", "_law_is_rising", "_law_told", "_law_top", "_law_turn_so", "_law_most", "_law_gains"]) (sc := defScope sPlain) (by decide +kernel))
          (fun _ _ _ _ _ => pg_name (i := 4) scPlain.nd rfl (Or.inl rfl)) (fun _ _ _ _ _ => pts_nil) (fun _ _ _ _ _ => pe_call GD (hr.mono (by decide)) (by rfl) gD kD bD .nil pass0 (pa_cons (pv 0) (pa_cons (pe_op op_add (pv 5) pe_int) pa_nil))))
      (pss_one (ps_ret (pe_tup (pa_cons (pv 2) (pa_cons (pv 6) pa_nil)))))))), ?_⟩
    have hp0 : ∃ u, H p = some u := let ⟨_, _, q, _⟩ := hP; ⟨_, q⟩
    have hl0 : ∃ u, H l = some u := let ⟨_, _, _, q, _⟩ := hP; ⟨_, q⟩
    have kp0 : Keep p H H := Keep.of_ex (Ex.refl H)
    -- told = [], top = ..
    refine ⟨by decide, fun tl htl => ?_⟩
    have e1 := Ex.new (H := H) (o := .lst []) htl
    have hP1 := hP.mono e1 (Nat.le_refl m)
    have ntp : tl ≠ p := fun z => by
      obtain ⟨u, hu⟩ := hp0
      rw [z, hu] at htl
      cases htl
    have ntl : tl ≠ l := fun z => by
      obtain ⟨u, hu⟩ := hl0
      rw [z, hu] at htl
      cases htl
    refine w_pick (p := p) (l := l) (cells := cells) (σ := L2.start _ [V.ref p, V.bl r]) (H := upd H tl (.lst [])) (i := 0) (ns := [2, 5, 9, 40, (10 : Int) ^ (9 : Int).toNat]) rfl (fun H1 => ea_cons ev_c (ea_cons ev_c (ea_cons ev_c (ea_cons ev_c (ea_cons (ev_op ev_c ev_c (rv_I ⟨by decide, by decide, by decide⟩)) ea_nil))))) (by decide) (by decide) h63 m _ (Keep.of_ex (Ex.refl _)) hP1 (by omega) _ fun v H2 hv hP2 k2 => ?_
    obtain ⟨top, rfl, htop⟩ := hv
    have top2 : 0 < top ∧ top ≤ 1000000000 := by
      have : ∀ z ∈ [2, 5, 9, 40, (10 : Int) ^ (9 : Int).toNat], 0 < z ∧ z ≤ 1000000000 := by decide
      exact this _ htop
    refine ⟨_, _, rfl, ?_⟩
    have kH2 : Keep p H H2 := (Keep.of_ex e1).trans k2
    have htl2 : H2 tl = some (.lst (vI [])) := k2 _ _ upd_same ntp
    show tSeq _ _ _ _ _
    -- the loop of told values
    refine q_forW (p := p) (l := l) (cells := cells) (m := m + 1) (many := 5) (w_draw (i := 0) rfl (fun H1 _ => ev_c) (by decide) (by decide) h63) hP2 (by omega) (by decide)
      (fun i σ' H' => ∃ (x4 : Option V) (t : List Int), σ' = [some (.ref p), some (.bl r), some (.ref tl), some (.int top), x4, none, none] ∧ H' tl = some (.lst (vI t)) ∧ t.length = i ∧ Pos t ∧ PenAt H' p l cells (m + 2 + i) ∧ Keep p H H' ∧ ∀ j, j < t.length → at' t j ≤ 1000000000 * (t.length : Int))
      (fun H3 hP3 k3 => ⟨_, [], rfl, k3 _ _ htl2 ntp, rfl, fun i hi => absurd hi (Nat.not_lt_zero i), hP3, kH2.trans k3, fun j hj => absurd hj (Nat.not_lt_zero j)⟩) ?_ ?_
    · rintro i σ' H3 hi ⟨x4, t, rfl, ht, hlen, pt, hP3, k3, bt⟩
      show tDrop _ _ _ _
      refine ⟨_, rfl, Or.inl ⟨rfl, vI t, sq_of ht⟩, ?_⟩
      refine w_draw (p := p) (l := l) (cells := cells) (σ := [some (.ref p), some (.bl r), some (.ref tl), some (.int top), some (.int (i : Int)), none, none]) (H := H3) (i := 0) (tb := tVar 3) (many := top) rfl (fun H1 _ => ev_var rfl) top2.1 top2.2 h63 (m + 2 + i) H3 (Keep.of_ex (Ex.refl _)) hP3 (by omega) _ fun v H4 hv hP4 k4 => ?_
      obtain ⟨d, rfl, hd⟩ := hv
      have ht4 := k4 _ _ ht ntp
      obtain ⟨bn, evn, hne⟩ := ev_neNil (K := K) (σ := [some (.ref p), some (.bl r), some (.ref tl), some (.int top), some (.int (i : Int)), none, none]) (H := H4) (cells := t) (l := tl) (ta := tVar 2) (ev_var rfl) (sq_of ht4)
      have evi : ∃ z : Int, 0 ≤ z ∧ z ≤ 1000000000 * (t.length : Int) ∧ Ev (tIf (tAnd (tTest (tOp (rNeD K) (tVar 2) (tLst tNil))) (tB (tVar 1))) (tOp (rIxL K) (tVar 2) (tUn (rU fun i => .int (-i)) (tC (.int 1)))) (tC (.int 0))) [some (.ref p), some (.bl r), some (.ref tl), some (.int top), some (.int (i : Int)), none, none] H4 (.int z) := by
        have tst : EvT (tAnd (tTest (tOp (rNeD K) (tVar 2) (tLst tNil))) (tB (tVar 1))) [some (.ref p), some (.bl r), some (.ref tl), some (.int top), some (.int (i : Int)), none, none] H4 (bn && r) := et_and (et_test evn) fun _ => et_B (ev_var rfl)
        cases hbr : (bn && r) with
        | true =>
          rw [hbr] at tst
          have tn : 0 < t.length := List.length_pos_iff.mpr (hne (Bool.and_eq_true_iff.mp hbr).1)
          exact ⟨at' t (t.length - 1), pt _ (by omega), bt _ (by omega), ev_if tst (fun _ => ev_op (ev_var rfl) (ev_un ev_c ru_neg) (rv_ixL (sq_of ht4) (atI_vlast tn))) (fun hb => absurd hb (by decide))⟩
        | false =>
          rw [hbr] at tst
          exact ⟨0, Int.le_refl 0, by omega, ev_if tst (fun hb => absurd hb (by decide)) (fun _ => ev_c)⟩
      obtain ⟨z, z0, z1, evz⟩ := evi
      refine evz H4 (Ex.refl H4) _ fun H5 e5 => ?_
      refine ⟨(d : Int), z, rfl, rfl, tl, vI t, .int ((d : Int) + z), rfl, rfl, e5 _ _ ht4, sz_lt (by rw [vI_len]; omega), ?_⟩
      refine ⟨_, t ++ [(d : Int) + z], rfl, by rw [upd_same, vI_app], by rw [List.length_append, hlen]; rfl, fun i' hi' => ?_, ((hP4.mono e5 (Nat.le_refl _)).upd' ntp ntl).le (by omega), ((k3.trans k4).trans (Keep.of_ex e5)).mut htl, fun i' hi' => ?_⟩
      rotate_left
      · rw [List.length_append] at hi' ⊢
        have hi2 : i' < t.length + 1 := hi'
        show at' (t ++ [(d : Int) + z]) i' ≤ 1000000000 * ((t.length + 1 : Nat) : Int)
        rw [at_app]
        by_cases c : i' < t.length
        · rw [if_pos c]
          have := bt _ c
          omega
        · rw [if_neg c, show i' - t.length = 0 by omega]
          show (d : Int) + z ≤ _
          have := top2.2
          omega
      rw [List.length_append] at hi'
      have hi2 : i' < t.length + 1 := hi'
      rw [at_app]
      by_cases c : i' < t.length
      · rw [if_pos c]
        exact pt _ c
      · rw [if_neg c, show i' - t.length = 0 by omega]
        show 0 ≤ (d : Int) + z
        omega
    · rintro n σ' H3 n0 n5 ⟨x4, t, rfl, ht, hlen, pt, hP3, k3, bt⟩
      refine q_asgR (w_pick (p := p) (l := l) (cells := cells) (σ := [some (.ref p), some (.bl r), some (.ref tl), some (.int top), x4, none, none]) (H := H3) (i := 0) (ns := [1, 2, 3, 7, (10 : Int) ^ (6 : Int).toNat]) rfl (fun H1 => ea_cons ev_c (ea_cons ev_c (ea_cons ev_c (ea_cons ev_c (ea_cons (ev_op ev_c ev_c (rv_I ⟨by decide, by decide, by decide⟩)) ea_nil))))) (by decide) (by decide) h63 (m + 2 + n) H3 (Keep.of_ex (Ex.refl _)) hP3 (by omega) _ fun v H4 hv hP4 k4 => ?_)
      obtain ⟨most, rfl, hmost⟩ := hv
      have most2 : 0 < most ∧ most ≤ 1000000 := by
        have : ∀ z ∈ [1, 2, 3, 7, (10 : Int) ^ (6 : Int).toNat], 0 < z ∧ z ≤ 1000000 := by decide
        exact this _ hmost
      have ht4 := k4 _ _ ht ntp
      refine q_asgR (lc_draws (p := p) (l := l) (cells := cells) (σ := [some (.ref p), some (.bl r), some (.ref tl), some (.int top), x4, some (.int most), none]) (H := H4) (j := 4) (m := m + 2 + n + 1) (many := 4) (B := most + 1) (w_draw (i := 0) rfl (fun H1 _ => ev_c) (by decide) (by decide) h63) hP4 (by omega) (by decide) (fun _ => rfl)
        (fun x H1 _ => w_draw (i := 0) rfl (fun H2 _ => ev_op (ev_var rfl) ev_c rv_I0) (by omega) (by omega) h63) fun a g H5 ha k5 hP5 hg g0 g4 hb => ?_)
      show tRet _ _ _ _
      refine ⟨_, rfl, _, rfl, by show 2 ≤ sizeLine; decide, fun x hx => ?_⟩
      have e6 := Ex.new (H := H5) (o := .tup [.ref tl, .ref a]) hx
      have sg : Small g := fun i hi => ⟨(hb i hi).1, by have := (hb i hi).2; omega⟩
      refine k t g x _ (((k3.trans k4).trans k5).trans (Keep.of_ex e6)) ((hP5.mono e6 (Nat.le_refl _)).le (by omega)) ⟨tl, a, upd_same, e6 _ _ (k5 _ _ ht4 ntp), e6 _ _ hg, by omega⟩ ⟨tl, a, st_of upd_same, sq_of (e6 _ _ (k5 _ _ ht4 ntp)), sq_of (e6 _ _ hg), by omega, by omega, g0, by omega, pt, sg⟩ (by omega) (fun i hi => by have := (hb i hi).2; omega) (fun i hi => by have := bt i hi; omega)
end
end K02
namespace K02
open PySem L2 Evl Gr ClX OwX StX
/-! ### the text of a growth -/
def tx (x : Int) : Str := toString x
def tv : V → V
  | .int i => .str (tx i)
  | x => x
def wordsG (t g : List Int) : List Str := t.map tx ++ (("then" : Str) :: g.map tx)
def strG (t g : List Int) : Str := Txt.join " " (wordsG t g)
/-- a number that is not too great, or a short text -/
def okV (x : V) : Prop := (∃ i : Int, x = .int i ∧ 0 ≤ i ∧ i < 10 ^ 60) ∨ x = .str "then"
theorem given_map {l : List V} {f : V → V} : given l.length (fun _ => true) (fun n => f (l.getD n .non)) = l.map f := by
  rw [given_all]
  refine List.ext_getElem (by rw [List.length_map, List.length_map, List.length_range]) fun i h1 h2 => ?_
  rw [List.length_map] at h2
  rw [List.getElem_map, List.getElem_map, List.getElem_range, List.getD_eq_getElem?_getD, List.getElem?_eq_getElem h2]
  rfl
theorem words_tv {t g : List Int} : (vI t ++ (V.str "then" :: vI g)).map tv = (wordsG t g).map V.str := by
  unfold wordsG vI
  rw [List.map_append, List.map_append, List.map_cons, List.map_cons, List.map_map, List.map_map, List.map_map, List.map_map]
  rfl
theorem tx_len {x : Int} (h0 : 0 ≤ x) (h1 : x < 10 ^ 60) : (tx x).length ≤ 60 := PyProof.Rows.toString_length_le h0 (by decide) h1
theorem log_small {x : Int} (h0 : 0 ≤ x) (h1 : x < 10 ^ 60) : x.natAbs.log2 < 1920 := by
  have e : (10 : Int) ^ 60 = 1000000000000000000000000000000000000000000000000000000000000 := by decide
  rw [e] at h1
  have z : x.natAbs < 2 ^ 200 := by
    have : (2 : Nat) ^ 200 = 1606938044258990275541962092341162602522202993782792835301376 := by decide
    rw [this]
    omega
  exact Nat.lt_trans (PySem.Flt.log2_lt_of (by decide) z) (by decide)
theorem sum_le {ys : List Str} (h : ∀ y ∈ ys, y.length ≤ 60) : (ys.map (·.length)).sum ≤ 60 * ys.length := by
  induction ys with
  | nil => exact Nat.le_refl _
  | cons y ys ih =>
    rw [List.map_cons, List.sum_cons, List.length_cons]
    have a := h y (List.mem_cons_self ..)
    have b := ih fun z hz => h z (List.mem_cons_of_mem _ hz)
    omega
section
variable {K : PySem.W.Frag} {σ : L2.St} {H : Hp} {te : TE} {t : TA}
theorem ea_star {p : Addr} {xs ys : List V} (h : Ev te σ H (.ref p)) (hs : Sq K H p xs) (hr : EvA t σ H ys) : EvA (tStar K te t) σ H (xs ++ ys) := fun H1 e Q q =>
  h H1 e _ fun H2 e2 => ⟨p, xs, rfl, (hs.mono (e.trans e2)).symm, hr H2 (e.trans e2) _ fun H3 e3 => q H3 (e2.trans e3)⟩
abbrev rStrV : List V → Hp → VK → Prop := fun xs H Q => (∃ i, xs = [V.int i] ∧ i.natAbs.log2 < 1920 ∧ Q (.str (toString i)) H) ∨ ∃ a, xs = [V.str a] ∧ Q (.str a) H
theorem rc_strV {x : V} (h : okV x) : RC rStrV [x] H (tv x) := fun H1 e Q q => by
  rcases h with ⟨i, rfl, h0, h1⟩ | rfl
  · exact .inl ⟨i, rfl, log_small h0 h1, q H1 (Ex.refl H1)⟩
  · exact .inr ⟨_, rfl, q H1 (Ex.refl H1)⟩
end
section
variable {P : Program} {w : World} {K : PySem.W.Frag} {mg : Str → Option Value} {base : Heap}
/-! ### Growth.__str__ -/
def spStr (K : PySem.W.Frag) (C : Addr) : Sp := fun vs H Q _ => ∃ (o : Addr) (t g : List Int), vs = [.ref o] ∧ GrAt K C H o t g ∧ Pos t ∧ (∀ i, i < t.length → at' t i < 10 ^ 60) ∧ RetV (.str (strG t g)) H Q
theorem scStr : FnScope ["self", "value"] ["self"] (defScope (sGr 21)) := ⟨rfl, rfl, rfl, by decide +kernel, rfl, by decide +kernel, by decide +kernel⟩
theorem ok_Str {C f : Addr} {fd : FuncData} (F : Fun K "__str__" "Growth.__str__" (sGr 21) f fd) (G : GCls K C) (TT : GlbT mg) : FnOk P w K mg base CX0 1 f fd ["self"] (spStr K C) := by
  refine F.ok scStr (fun vs H Q E h => ?_) (fun cdv A outer s H vs Q E hr h => ?_)
  · obtain ⟨o, t, g, rfl, _⟩ := h
    rfl
  · obtain ⟨o, t, g, rfl, hO, pt, bt, k⟩ := h
    refine ⟨_, pss_one (ps_ret (pe_join pe_str (pe_lc (own := [("value", 1)]) (g := gName 1) rfl scStr.nd (pi_list (pe_lst (pa_star (pe_fld (pv 0) rfl) (pa_cons pe_str (pa_star (pe_fld (pv 0) rfl) pa_nil)))))
      (blkOk_by (own := [("value", 1)]) (N := ["self", "value"]) (sc := defScope (sGr 21)) (by decide +kernel)) (fun _ _ _ _ _ => pg_name (i := 1) scStr.nd rfl (Or.inl rfl)) (fun _ _ _ _ _ => pts_nil)
      (fun _ _ _ _ _ => pe_callTy call_strV (by rfl) TT.str (by decide +kernel) (pa_cons (pv 1) pa_nil))))), ?_⟩
    obtain ⟨dx, p, q, r, h1, h2, h3, h4, nf, t2, g2, sm⟩ := hO
    have L : EvL (tLst (tStar K (tFld K (tVar 0) "told") (tCons (tC (.str "then")) (tStar K (tFld K (tVar 0) "gains") tNil)))) [some (.ref o), none] H (vI t ++ (V.str "then" :: (vI g ++ []))) :=
      el_lst (ea_star (ev_fld (ev_var rfl) h1 G.cls G.told rfl) (.inr h2) (ea_cons ev_c (ea_star (ev_fld (ev_var rfl) h1 G.cls G.gains rfl) (.inr h3) ea_nil))) (by
        rw [List.append_nil, List.length_append, List.length_cons, vI_len, vI_len]
        omega)
    rw [List.append_nil] at L
    have all : ∀ x ∈ vI t ++ (V.str "then" :: vI g), okV x := fun x hx => by
      have num : ∀ {l : List Int}, (∀ i, i < l.length → 0 ≤ at' l i ∧ at' l i < 10 ^ 60) → x ∈ vI l → okV x := fun {l} hl hm => by
        obtain ⟨z, hz, rfl⟩ := List.mem_map.mp hm
        obtain ⟨i, hi, rfl⟩ := List.getElem_of_mem hz
        have b := hl i hi
        have e : at' l i = l[i] := by
          unfold at'
          rw [List.getD_eq_getElem?_getD, List.getElem?_eq_getElem hi]
          rfl
        rw [e] at b
        exact .inl ⟨_, rfl, b.1, b.2⟩
      rcases List.mem_append.mp hx with hm | hm
      · exact num (fun i hi => ⟨pt i hi, bt i hi⟩) hm
      · rcases List.mem_cons.mp hm with rfl | hm
        · exact .inr rfl
        · refine num (fun i hi => ⟨(sm i hi).1, Int.lt_of_le_of_lt (sm i hi).2 (by decide)⟩) hm
    have M := el_lcNL (K := K) (σ := [some (.ref o), none]) (H := H) (t := tYes) (te := tCB rStrV (tCons (tVar 1) tNil)) (j := 1) (vs := [1]) (fun _ => true) (fun n => tv ((vI t ++ (V.str "then" :: vI g)).getD n .non)) L (by
        rw [List.length_append, List.length_cons, vI_len, vI_len]
        omega) (fun _ => rfl) (fun i x H1 _ _ => et_none) (fun i x H1 e1 hx _ => by
        have e : (vI t ++ (V.str "then" :: vI g)).getD i .non = x := by
          rw [List.getD_eq_getElem?_getD, hx]
          rfl
        rw [e]
        exact ev_cb (ea_cons (ev_var rfl) ea_nil) (rc_strV (all x (List.mem_of_getElem? hx))))
    rw [given_map, words_tv] at M
    refine ⟨⟨_, rfl⟩, M H (Ex.refl H) _ fun a H1 ha e1 h => ⟨" ", a, wordsG t g, rfl, rfl, .inl (sq_of h), ?_, k H1 e1⟩⟩
    have wl : (wordsG t g).length ≤ 4001 := by
      unfold wordsG
      rw [List.length_append, List.length_cons, List.length_map, List.length_map]
      omega
    have sl := sum_le (ys := wordsG t g) fun y hy => by
      have hm : V.str y ∈ (wordsG t g).map V.str := List.mem_map.mpr ⟨y, hy, rfl⟩
      rw [← words_tv] at hm
      obtain ⟨x, hx, ex⟩ := List.mem_map.mp hm
      rcases all x hx with ⟨i, rfl, h0, h1⟩ | rfl
      · cases ex
        exact tx_len h0 h1
      · cases ex
        decide
    have one : (" " : Str).length = 1 := rfl
    rw [one]
    omega
end
end K02
namespace Gr
theorem Tail.sc {f : Nat → Int} {B : Int} (h : Tail f B) {k : Nat} : Tail (fun n => (k : Int) * f n) ((k : Int) * B) := by
  obtain ⟨m, hm⟩ := h
  refine ⟨m, fun n hn => ?_⟩
  obtain ⟨a, b⟩ := hm n hn
  show 0 ≤ (k : Int) * f (n + 1) - (k : Int) * f n ∧ (k : Int) * f (n + 1) - (k : Int) * f n ≤ (k : Int) * B
  rw [← Int.mul_sub]
  exact ⟨Int.mul_nonneg (by omega) a, Int.mul_le_mul_of_nonneg_left b (by omega)⟩
theorem acc_le {d : Nat → Int} {B : Int} (h : ∀ k, d k ≤ B) : ∀ n : Nat, acc d n ≤ (n : Int) * B
  | 0 => by rw [show ((0 : Nat) : Int) = 0 from rfl, Int.zero_mul]; exact Int.le_refl 0
  | n + 1 => by
    show acc d n + d n ≤ _
    rw [show ((n + 1 : Nat) : Int) = (n : Int) + 1 from rfl, Int.add_mul, Int.one_mul]
    exact Int.add_le_add (acc_le h n) (h n)
theorem val_le {t g : List Int} {A B : Int} (t0 : 0 < t.length) (g0 : 0 < g.length) (B0 : 0 ≤ B) (ht : ∀ i, i < t.length → at' t i ≤ A) (hg : ∀ i, i < g.length → at' g i ≤ B) (n : Nat) : val t g n ≤ A + (n : Int) * B := by
  unfold val
  by_cases h : n < t.length
  · rw [if_pos h]
    have a := ht n h
    have b := Int.mul_nonneg (show (0 : Int) ≤ (n : Int) by omega) B0
    omega
  · rw [if_neg h]
    have a : lst t ≤ A := ht _ (by omega)
    have b := acc_le (d := dif g) (fun k => hg _ (Nat.mod_lt _ g0)) (n - t.length + 1)
    have c : ((n - t.length + 1 : Nat) : Int) * B ≤ (n : Int) * B := Int.mul_le_mul_of_nonneg_right (by omega) B0
    omega
theorem dvd12 {n : Nat} (h0 : 0 < n) (h4 : n ≤ 4) : n ∣ 12 := by
  have : n = 1 ∨ n = 2 ∨ n = 3 ∨ n = 4 := by omega
  rcases this with rfl | rfl | rfl | rfl <;> decide
end Gr
namespace K02
open PySem L2 Evl Gr ClX OpX StX OwX
theorem q_call {σ : L2.St} {H : Hp} {sp : Sp} {dvs vs : List V} {E : XK} {ta : TA} {i : Nat} {tz : TS} {D : Ends} (h : EvA ta σ H vs) (k : ∀ H1, Ex H H1 → sp (vs ++ dvs) H1 (fun v H2 => tz D (σ.set i (some v)) H2) E) :
    tSeq (tAsg (tCall sp dvs E ta) (gName i)) tz D σ H := h H (Ex.refl H) _ k
theorem lst_i {t : TA} {Q : VK} {σ : L2.St} {H : Hp} (h : t σ H fun xs H1 => xs.length ≤ sizeLine ∧ ∀ l, H1 l = none → Q (.ref l) (upd H1 l (.lst xs))) : tLst t σ H Q := h
theorem cons_i {te : TE} {tr : TA} {σ : L2.St} {H : Hp} {Q : List V → Hp → Prop} (h : te σ H fun x H1 => tr σ H1 fun xs H2 => Q (x :: xs) H2) : tCons te tr σ H Q := h
theorem op_i {r : R2} {ta tb : TE} {σ : L2.St} {H : Hp} {Q : VK} (h : ta σ H fun x H1 => tb σ H1 fun y H2 => r x y H2 Q) : tOp r ta tb σ H Q := h
theorem fnR0 {P : Program} {w : World} {K : PySem.W.Frag} {mg : Str → Option Value} {base : Heap} {CX : CXT} {k : Nat} {f : Addr} {fd : FuncData} {ps : List Str} {sp : Sp} (F : FnOk P w K mg base CX k f fd ps sp) (b : Binds K fd ps []) : FnR P w K mg base CX k f sp :=
  (F.raw b .nil).imp fun vs H Q E h => by rw [List.append_nil]; exact h
theorem gr_ins {X : Cx} {C : Addr} {H : Hp} {o : Addr} {f : Nat → Int} (h : GrF X.K C H o f) : InsC X H o C := by
  obtain ⟨t, g, ⟨dx, p, q, r, h1, _⟩, _⟩ := h
  exact .inr ⟨dx, _, h1⟩
/-- a def of the module, found by its name -/
def Gfn (P : Program) (w : World) (K : PySem.W.Frag) (mg : Str → Option Value) (base : Heap) (k : Nat) (name : Str) (ps : List Str) (sp : Sp) : Prop :=
  ∃ f fd, FnOk P w K mg base CX0 k f fd ps sp ∧ PySem.W.keepIn K (.ref f) = true ∧ Binds K fd ps [] ∧ mg name = some (.ref f)
/-- what != asks of the class -/
structure GNe (K : PySem.W.Frag) (C fE : Addr) : Prop where
  has : Has K C fE "__eq__"
  ne : PySem.W.findIn K (.ref C) "__ne__" = some (some (.builtin "object.__ne__"))
  ob : PySem.W.mroIn K C (.type "object") = some true
  nf : PySem.W.notFirst K C (.ref C) = true
section
variable {p l : Addr} {cells : List Int} {σ : L2.St} {H : Hp}
/-- one of some things, one of which is drawn -/
theorem w_pickD {i : Nat} {tr : TA} {R : List Int → Prop} (hi : σ[i]? = some (some (.ref p)))
    (hr : ∀ m H1, Keep p H H1 → PenAt H1 p l cells m → m + 1 ≤ 50000 → ∀ Q : List V → Hp → Prop, (∀ ns H2, R ns → PenAt H2 p l cells (m + 1) → Keep p H1 H2 → Q (vI ns) H2) → tr σ H1 Q) (hR : ∀ ns, R ns → 0 < ns.length ∧ ns.length ≤ 1000) (h63 : cells.length ≤ 63) :
    EvW p l cells 2 (tCall spPick [] E0 (tCons (tVar i) (tCons (tLst tr) tNil))) σ H (fun v => ∃ x ns, v = .int x ∧ R ns ∧ x ∈ ns) := fun m H1 kp hP hm Q q =>
  ⟨_, hi, hr m H1 kp hP (by omega) _ fun ns H2 rn hP2 k2 => ⟨by rw [vI_len]; exact sz_of (by have := (hR ns rn).2; omega), fun a ha => by
    have e3 := Ex.new (H := H2) (o := .lst (vI ns)) ha
    have hap : a ≠ p := by
      obtain ⟨k, r, hp, _⟩ := hP2
      intro z
      rw [z, hp] at ha
      cases ha
    refine ⟨p, l, a, cells, m + 1, vI ns, rfl, hP2.mono e3 (Nat.le_refl _), by omega, h63, upd_same, hap, by rw [vI_len]; exact (hR ns rn).1, by rw [vI_len]; have := (hR ns rn).2; omega, fun j x H3 hx hP3 k3 => ?_⟩
    have hj : j < ns.length := by
      have := (List.getElem?_eq_some_iff.mp hx).1
      rwa [vI_len] at this
    rw [vI_get hj] at hx
    obtain rfl := Option.some.inj hx
    refine q _ H3 ⟨_, ns, rfl, rn, ?_⟩ hP3 ((k2.trans (Keep.of_ex e3)).trans k3)
    unfold at'
    rw [List.getD_eq_getElem?_getD, List.getElem?_eq_getElem hj]
    exact List.getElem_mem hj⟩⟩
theorem c_i {x : V} {Q : VK} (h : Q x H) : tC x σ H Q := h
theorem q_par {ta : TA} {i j : Nat} {tz : TS} {D : Ends} (h : ta σ H fun vs H1 => ∃ u v, vs = [u, v] ∧ tz D ((σ.set i (some u)).set j (some v)) H1) : tSeq (tPar i j ta) tz D σ H := h
theorem q_par3 {ta : TA} {i j n : Nat} {tz : TS} {D : Ends} (h : ta σ H fun vs H1 => ∃ u v w, vs = [u, v, w] ∧ tz D (((σ.set i (some u)).set j (some v)).set n (some w)) H1) : tSeq (tPar3 i j n ta) tz D σ H := h
theorem etu_tuple {K : PySem.W.Frag} {te : TE} {xs : List V} (h : EvL te σ H xs) : EvTu K (tThen te (kTup K)) σ H xs := fun H1 e Q q =>
  h H1 e _ fun p H2 _ e2 h2 => .inl ⟨p, xs, rfl, sq_of h2, fun r hr => q r _ (e2.trans (Ex.new hr)) (st_of upd_same)⟩
end
end K02
namespace Gr
/-! ### the greatest and the least of two -/
/-- by how much one round of L numbers raises a growth -/
def rate (g : List Int) (L : Nat) : Int := acc (dif g) g.length * ((L / g.length : Nat) : Int)
theorem val_round {t g : List Int} (t0 : 0 < t.length) (g0 : 0 < g.length) {L : Nat} (h : g.length ∣ L) {n : Nat} (hn : t.length - 1 ≤ n) : val t g (n + L) = val t g n + rate g L := by
  obtain ⟨j, rfl⟩ := h
  obtain ⟨k, rfl⟩ : ∃ k, n = t.length - 1 + k := ⟨n - (t.length - 1), by omega⟩
  rw [Nat.add_assoc, val_ge t0, val_ge t0, show k + g.length * j = j * g.length + k by rw [Nat.mul_comm, Nat.add_comm], acc_mul dif_pd]
  unfold rate
  rw [Nat.mul_div_cancel_left j g0, Int.mul_comm]
  omega
/-- from b - 1 on a round of L numbers adds D -/
def Rnd (f : Nat → Int) (b L : Nat) (D : Int) : Prop := ∀ n, b - 1 ≤ n → f (n + L) = f n + D
theorem Rnd.many {f : Nat → Int} {b L : Nat} {D : Int} (h : Rnd f b L D) : ∀ (j n : Nat), b - 1 ≤ n → f (n + j * L) = f n + (j : Int) * D
  | 0, n, _ => by rw [Nat.zero_mul, Nat.add_zero, show ((0 : Nat) : Int) = 0 from rfl, Int.zero_mul, Int.add_zero]
  | j + 1, n, hn => by
    rw [Nat.succ_mul, ← Nat.add_assoc, h _ (by omega), h.many j n hn, show ((j + 1 : Nat) : Int) = (j : Int) + 1 from rfl, Int.add_mul, Int.one_mul]
    omega
theorem rnd_val {t g : List Int} (t0 : 0 < t.length) (g0 : 0 < g.length) {b L : Nat} (hb : t.length ≤ b) (h : g.length ∣ L) : Rnd (val t g) b L (rate g L) := fun n hn => val_round t0 g0 h (by omega)
theorem Rnd.sub {f f' : Nat → Int} {b L : Nat} {D D' : Int} (h : Rnd f b L D) (h' : Rnd f' b L D') : Rnd (fun n => f n - f' n) b L (D - D') := fun n hn => by
  show f (n + L) - f' (n + L) = f n - f' n + (D - D')
  rw [h n hn, h' n hn]
  omega
/-! ### the last number above -/
structure LA (G : Nat → Int) (b L i : Nat) (last : Int) : Prop where
  near : ∀ n, n < i → n < b → 0 < G n → (n : Int) ≤ last
  far : ∀ a, b ≤ a → a < i → ∀ j : Nat, 0 < G (a + j * L) → ((a + j * L : Nat) : Int) ≤ last
  is : last = -1 ∨ ∃ m : Nat, last = (m : Int) ∧ 0 < G m
section
variable {G : Nat → Int} {b L i : Nat} {last loss : Int}
theorem la_start : LA G b L 0 (-1) := ⟨fun n h => absurd h (Nat.not_lt_zero n), fun a _ h => absurd h (Nat.not_lt_zero a), .inl rfl⟩
theorem la_no (h : LA G b L i last) (P : Rnd G b L (-loss)) (l0 : 0 < loss) (hG : ¬ 0 < G i) : LA G b L (i + 1) last := ⟨fun n hn hb g => by
    rcases Nat.lt_or_ge n i with z | z
    · exact h.near n z hb g
    · obtain rfl : n = i := by omega
      exact absurd g hG, fun a hb ha j g => by
    rcases Nat.lt_or_ge a i with z | z
    · exact h.far a hb z j g
    · obtain rfl : a = i := by omega
      rw [P.many j a (by omega)] at g
      have : 0 ≤ (j : Int) * loss := Int.mul_nonneg (by omega) (by omega)
      rw [Int.mul_neg] at g
      omega, h.is⟩
theorem la_near (hi : i < b) (hG : 0 < G i) : LA G b L (i + 1) (i : Int) := ⟨fun n hn _ _ => by omega, fun a hb ha => by omega, .inr ⟨i, rfl, hG⟩⟩
theorem la_far (h : LA G b L i last) (P : Rnd G b L (-loss)) (l0 : 0 < loss) (hi : b ≤ i) (hG : 0 < G i) {x : Int} (hx : x = (i : Int) + (G i - 1) / loss * (L : Int)) : LA G b L (i + 1) (if x > last then x else last) := by
  have q0 : 0 ≤ (G i - 1) / loss := Int.ediv_nonneg (by omega) (by omega)
  obtain ⟨q, hq⟩ := Int.eq_ofNat_of_zero_le q0
  have ex : x = ((i + q * L : Nat) : Int) := by
    rw [hx, hq, Int.natCast_add, Int.natCast_mul]
  have up : ∀ z : Int, z ≤ last → z ≤ (if x > last then x else last) := fun z hz => by split <;> omega
  have ux : x ≤ (if x > last then x else last) := by split <;> omega
  refine ⟨fun n hn hb g => ?_, fun a hb ha j g => ?_, ?_⟩
  · rcases Nat.lt_or_ge n i with z | z
    · exact up _ (h.near n z hb g)
    · omega
  · rcases Nat.lt_or_ge a i with z | z
    · exact up _ (h.far a hb z j g)
    · obtain rfl : a = i := by omega
      refine Int.le_trans ?_ ux
      rw [ex]
      rw [P.many j a (by omega), Int.mul_neg] at g
      have j1 : (j : Int) ≤ (G a - 1) / loss := (Int.le_ediv_iff_mul_le l0).mpr (by omega)
      rw [hq] at j1
      have j2 : j ≤ q := by omega
      have := Nat.mul_le_mul_right L j2
      omega
  · by_cases c : x > last
    · rw [if_pos c]
      refine .inr ⟨i + q * L, ex, ?_⟩
      rw [P.many q i (by omega), Int.mul_neg, ← hq]
      have := Int.ediv_mul_le (G i - 1) (show loss ≠ 0 by omega)
      generalize (G i - 1) / loss * loss = y at this ⊢
      omega
    · rw [if_neg c]
      exact h.is
theorem la_end (h : LA G b L (b + L) last) (L0 : 0 < L) (n : Nat) (g : 0 < G n) : (n : Int) ≤ last := by
  rcases Nat.lt_or_ge n b with z | z
  · exact h.near n (by omega) z g
  · have e : n = b + (n - b) % L + (n - b) / L * L := by
      have := Nat.mod_add_div (n - b) L
      rw [Nat.mul_comm] at this
      omega
    have lt := Nat.mod_lt (n - b) L0
    rw [e] at g ⊢
    exact h.far _ (by omega) (by omega) _ g
end
/-! ### picking -/
/-- the greater of both, or the less -/
def pk (up : Bool) (a b : Int) : Int := if up then (if b > a then b else a) else (if b < a then b else a)
theorem pk_ge {up : Bool} {a b : Int} (h : b ≤ a) : pk up a b = if up then a else b := by
  unfold pk
  cases up
  · simp only [Bool.false_eq_true, if_false]
    split <;> omega
  · simp only [if_true]
    split <;> omega
theorem pk_comm {up : Bool} {a b : Int} : pk up a b = pk up b a := by
  unfold pk
  cases up
  · simp only [Bool.false_eq_true, if_false]
    split <;> split <;> omega
  · simp only [if_true]
    split <;> split <;> omega
theorem pk_le {up : Bool} {a b : Int} (h : a ≤ b) : pk up a b = if up then b else a := by rw [pk_comm, pk_ge h]
theorem pk_add {up : Bool} {a b d : Int} : pk up (a + d) (b + d) = pk up a b + d := by
  unfold pk
  cases up
  · simp only [Bool.false_eq_true, if_false]
    split <;> split <;> omega
  · simp only [if_true]
    split <;> split <;> omega
theorem pk_step {up : Bool} {a b a' b' B : Int} (h : 0 ≤ a' - a ∧ a' - a ≤ B) (h' : 0 ≤ b' - b ∧ b' - b ≤ B) : 0 ≤ pk up a' b' - pk up a b ∧ pk up a' b' - pk up a b ≤ B := by
  unfold pk
  cases up
  · simp only [Bool.false_eq_true, if_false]
    split <;> split <;> omega
  · simp only [if_true]
    split <;> split <;> omega
theorem pk_pos {up : Bool} {a b : Int} (h : 0 ≤ a) (h' : 0 ≤ b) : 0 ≤ pk up a b := by
  unfold pk
  cases up
  · simp only [Bool.false_eq_true, if_false]
    split <;> omega
  · simp only [if_true]
    split <;> omega
/-- both rise alike at last -/
def EqR (f f' : Nat → Int) : Prop := ∃ m, ∀ n, m ≤ n → f (n + 12) - f n = f' (n + 12) - f' n
/-- behind 1998 one is never below the other -/
def Ord (f f' : Nat → Int) : Prop := (∀ n, 1998 < n → f' n ≤ f n) ∨ ∀ n, 1998 < n → f n ≤ f' n
theorem EqR.symm {f f' : Nat → Int} (h : EqR f f') : EqR f' f := let ⟨m, hm⟩ := h; ⟨m, fun n hn => (hm n hn).symm⟩
theorem Ord.symm {f f' : Nat → Int} (h : Ord f f') : Ord f' f := h.elim .inr .inl
theorem eq_many {e : Nat → Int} {m : Nat} (h : ∀ n, m ≤ n → e (n + 12) = e n) : ∀ (j n : Nat), m ≤ n → e (n + j * 12) = e n
  | 0, n, _ => by rw [Nat.zero_mul, Nat.add_zero]
  | j + 1, n, hn => by
    rw [Nat.succ_mul, ← Nat.add_assoc, h _ (by omega), eq_many h j n hn]
theorem lead_zero {f f' : Nat → Int} {b L : Nat} {D D' : Int} (h : EqR f f') (hf : Rnd f b L D) (hf' : Rnd f' b L D') : D = D' := by
  obtain ⟨m, hm⟩ := h
  have a := (hf.sub hf').many 12 (m + b) (by omega)
  have c := eq_many (e := fun n => f n - f' n) (m := m) (fun n hn => by have := hm n hn; show f (n + 12) - f' (n + 12) = f n - f' n; omega) L (m + b) (by omega)
  rw [Nat.mul_comm] at c
  rw [c] at a
  have : ((12 : Nat) : Int) * (D - D') = 0 := by omega
  have e : ((12 : Nat) : Int) = 12 := rfl
  rw [e] at this
  omega
/-- who rises more is never below behind 1998 -/
theorem ord_lead {f f' : Nat → Int} {b L : Nat} {D D' : Int} (h : Ord f f') (hf : Rnd f b L D) (hf' : Rnd f' b L D') (lt : D' < D) : ∀ n, 1998 < n → f' n ≤ f n := by
  rcases h with h | h
  · exact h
  · exfalso
    obtain ⟨j, hj⟩ : ∃ j : Nat, f' (b + 1999) - f (b + 1999) < (j : Int) := ⟨(f' (b + 1999) - f (b + 1999)).toNat + 1, by omega⟩
    have a := (hf.sub hf').many j (b + 1999) (by omega)
    have c := h (b + 1999 + j * L) (by omega)
    have d : (j : Int) ≤ (j : Int) * (D - D') := by
      have : (j : Int) * 1 ≤ (j : Int) * (D - D') := Int.mul_le_mul_of_nonneg_left (by omega) (by omega)
      rw [Int.mul_one] at this
      exact this
    have a' : f (b + 1999 + j * L) - f' (b + 1999 + j * L) = f (b + 1999) - f' (b + 1999) + (j : Int) * (D - D') := a
    omega
/-- the parts that are told, where one is the value behind c -/
theorem val_outer {h : Nat → Int} {t g : List Int} (t0 : 0 < t.length) (g0 : 0 < g.length) {c b : Nat} (hc : ∀ n, c ≤ n → h n = val t g n) (hb : t.length ≤ b) (hb' : c + 1 ≤ b) (n : Nat) : val (pT h b) (pG h b g.length) n = h n :=
  val_parted (by omega) g0 (fun n hn => by
    rw [hc _ (by omega), hc _ (by omega), hc _ (by omega), hc _ (by omega)]
    exact rise_pd t0 (Nat.dvd_refl _) (by omega)) n
theorem rnd_pk {up : Bool} {f f' : Nat → Int} {b L : Nat} {D : Int} (hf : Rnd f b L D) (hf' : Rnd f' b L D) : Rnd (fun n => pk up (f n) (f' n)) b L D := fun n hn => by
  show pk up (f (n + L)) (f' (n + L)) = pk up (f n) (f' n) + D
  rw [hf n hn, hf' n hn, pk_add]
theorem val_rnd {h : Nat → Int} {b L : Nat} {D : Int} (b0 : 0 < b) (L0 : 0 < L) (hh : Rnd h b L D) (n : Nat) : val (pT h b) (pG h b L) n = h n :=
  val_parted b0 L0 (fun n hn => by
    rw [show n + L + 1 = n + 1 + L by omega, hh _ (by omega), hh _ hn]
    omega) n
end Gr
/-! operators of own classes: an int on the left, +=, in, len, truth, [] -/
namespace OpX
open PySem PySem.Spec PyProof.Rows L2 StX
section
variable {prog : Program} {w : World} {A : Around} {E : Value → Shared → Prop} {s : Shared} {K : PySem.W.Frag} {x C f L : Addr} {h₀ : Heap} {m : Str → Option Value} {ox : Obj} {od : Option Obj} {b tb : Value}
open Builtin in
/-- an int does not know an instance -/
theorem intMul_ref {Q : Value → Shared → Prop} {i : Int} {t : Tok} (ho : s.heap.get? x = some ox) (hd : ox.data = .plain) (h : Q .notImplemented s) : wpAny (model prog w) A (call (.builtin "int.__mul__") [.int i t, .ref x]) Q E s := by
  refine wpAny_call (codeAny_call_builtin PySem.F.slot_int_mul.plain PySem.F.entry_int_mul (PySem.F.slot_int_mul.check _ _ _ _ _ _ _ _ (typeIs_int _ _ _) (PySem.F.args_int_mul_2 _ _) ?_))
  unfold Builtin.«int.__mul__»
  unfold Int.intBinary
  refine wpAny_bind (m := slotArgs "__mul__" 1 _) (wpAny_pure ?_)
  refine wpAny_bind (m := Int.intOfSelf _) (wpAny_bind (m := asInt? _) (wpAny_pure (wpAny_pure ?_)))
  refine wpAny_bind (m := asInt? (.ref x)) (wpAny_bind (wpAny_load ho ?_))
  rw [hd]
  exact wpAny_pure (wpAny_bind (wpAny_rule (wpAny_pure h)))
/-- i * x, x of a class with * on both sides: an int declines, the class's reflected one is asked -/
theorem bin1_rint {i : Int} {t : Tok} {g : Addr} {Q : Value → Shared → Prop} (X : K.In s.heap) (I : PySem.W.InstAt s.heap x ox C od) (hd : ox.data = .plain) (hc : PySem.W.selfFirst K C = true) (hm : PySem.W.findIn K (.ref C) (PySem.dunder "mul") = some (some (.ref g)))
    (hs : PySem.W.findIn K (.ref C) (dunderR "mul") = some (some (.ref f))) (hf : PySem.W.isFn K (.ref f) = true) (hsub : PySem.W.subIn K (.ref C) (.type "int") = some false)
    (h : wpAny (model prog w) A (call (.ref f) [.ref x, .int i t]) (PySem.W.CmpBack Q) E s) : wpAny (model prog w) A (binaryOp1 "mul" (.int i t) (.ref x)) (Told Q) E s := by
  obtain ⟨cd, rest, hcd, hmm⟩ := PySem.W.ksp_first hc
  have mine := PySem.W.fills_K (M := model prog w) X hcd hmm hm
  have apart := PySem.W.looks_subIn (M := model prog w) X hsub
  have plainInt : numberSlotInPython (.type "int") "mul" = pure false := rfl
  have unlike : (Value.type "int" == Value.ref C) = false := by simp
  have answer := PySem.W.ksp_try (name := dunderR "mul") X I hs hf h
  unfold binaryOp1
  refine wpAny_bind (wpAny_typeOf (typeIs_int _ _ _) (wpAny_bind (I.type.here (wpAny_bind (wpAny_of_eq PySem.F.fills_int_mul ?_)))))
  simp only [unlike, Bool.false_eq_true, if_false]
  refine wpAny_bind (mine.here ?_)
  simp only [Bool.and_self, if_true]
  refine wpAny_bind (apart.here ?_)
  simp only [plainInt, Bool.not_false, Bool.and_self, Bool.false_eq_true, if_true, if_false, pure_bind]
  refine wpAny_bind (wpAny_tryMethod_declines (typeIs_int _ _ _) PySem.F.slot_int_mul (intMul_ref I.at_ hd ⟨rfl, ?_⟩))
  simp only [pure_bind]
  exact wpAny_bind (wpAny_mono answer (fun r s' ⟨v, e, q⟩ => by
    subst e
    exact wpAny_bind (wpAny_rule (wpAny_pure ⟨v, rfl, q⟩))) fun _ _ z => z)
/-- x op y, both of one class with an own op -/
theorem bin1_same {nm : String} {y : Addr} {oy : Obj} {od' : Option Obj} {Q : Value → Shared → Prop} (X : K.In s.heap) (I : PySem.W.InstAt s.heap x ox C od) (J : PySem.W.InstAt s.heap y oy C od') (hc : PySem.W.selfFirst K C = true)
    (hs : PySem.W.findIn K (.ref C) (PySem.dunder nm) = some (some (.ref f))) (hf : PySem.W.isFn K (.ref f) = true) (h : wpAny (model prog w) A (call (.ref f) [.ref x, .ref y]) (PySem.W.CmpBack Q) E s) :
    wpAny (model prog w) A (binaryOp1 nm (.ref x) (.ref y)) (Told Q) E s := by
  obtain ⟨cd, rest, hcd, hmm⟩ := PySem.W.ksp_first hc
  have answer := PySem.W.ksp_try (name := PySem.dunder nm) X I hs hf h
  have alike : (Value.ref C == Value.ref C) = true := by simp
  unfold binaryOp1
  refine wpAny_bind (I.type.here (wpAny_bind (J.type.here (wpAny_bind ((PySem.W.fills_K (M := model prog w) X hcd hmm hs).here ?_)))))
  simp only [alike, pure_bind, Bool.and_false, Bool.false_and, Bool.false_eq_true, if_true, if_false]
  exact wpAny_bind (wpAny_mono answer (fun r s' ⟨v, e, q⟩ => by
    subst e
    exact wpAny_pure ⟨v, rfl, q⟩) fun _ _ z => z)
theorem mul_of_bin1 {M : Model} {a b : Value} {Q : Value → Shared → Prop} (h : wpAny M A (binaryOp1 "mul" a b) (Told Q) E s) : wpAny M A (binaryOp .Mult a b) Q E s := by
  unfold binaryOp
  exact wpAny_holding (told_pure (t := binaryOp1 "mul" a b) h fun _ => rfl)
/-- a class of the text whose only base is object, without an own in-place operator -/
structure NoI (K : PySem.W.Frag) (C : Addr) (nm : String) : Prop where
  mro : (PySem.W.clsIn K C).any (fun cd => cd.mro == [.ref C, .type "object"]) = true
  own : PySem.W.findIn K (.ref C) (dunderI nm) = some none
  obj : PySem.W.findIn K (.type "object") (dunderI nm) = some none
theorem fillsI_no {M : Model} {h : Heap} {nm : String} {add : Bool} (X : K.In h) (N : NoI K C nm) : PySem.W.Looks M h (fillsInplaceSlot (.ref C) nm add) false := by
  intro A Q E s k q
  obtain ⟨cd, hc, hm⟩ := PySem.W.any_some N.mro
  have hm' : cd.mro = [.ref C, .type "object"] := beq_iff_eq.mp hm
  unfold fillsInplaceSlot
  refine wpAny_bind ((PySem.W.looks_clsIn X hc).andThen (f := fun cd => pure cd.mro) .now A _ E s k ?_)
  rw [hm', List.anyM_cons]
  refine wpAny_bind (wpAny_bind (PySem.W.looks_findIn X N.own A _ E s k (wpAny_pure ?_)))
  simp only [Bool.false_eq_true, if_false]
  rw [List.anyM_cons]
  refine wpAny_bind (wpAny_bind (PySem.W.looks_findIn X N.obj A _ E s k (wpAny_pure ?_)))
  simp only [Bool.false_eq_true, if_false]
  exact wpAny_pure q
theorem inp_of_bin1 {op : Operator} {b : Value} {Q : Value → Shared → Prop} (X : K.In s.heap) (I : PySem.W.InstAt s.heap x ox C od) (N : NoI K C op.info.2) (h : wpAny (model prog w) A (binaryOp1 op.info.2 (.ref x) b) (Told Q) E s) :
    wpAny (model prog w) A (inplaceOp op (.ref x) b) Q E s := by
  unfold inplaceOp
  refine wpAny_holding (wpAny_bind (I.type.here (wpAny_bind ((fillsI_no X N).here ?_))))
  rw [if_neg Bool.false_ne_true]
  exact told_pure h fun _ => rfl
end
section
variable {X : Cx} {CX : CXT} {n : Nat} {C g g' : Addr} {sp : Sp} {E : XK}
theorem op_rmul (hc : PySem.W.selfFirst X.K C = true) (hm : PySem.W.findIn X.K (.ref C) (PySem.dunder "mul") = some (some (.ref g'))) (h : Has X.K C g (dunderR "mul")) (hsub : PySem.W.subIn X.K (.ref C) (.type "int") = some false)
    (F : FnR X.prog X.w X.K X.mg X.base CX n g sp) (hr : Room n X.A) (hx : Passes CX X E) : OpR X (binaryOp .Mult) (rR X C sp E) := by
  intro pins s σ H x y v u Q I rx ry hq
  obtain ⟨a, i, rfl, rfl, ha, q⟩ := hq
  cases (show u = Value.ref a from ry)
  obtain ⟨t, e⟩ := (show ∃ t, v = Value.int i t from rx)
  subst e
  obtain ⟨ox, od, J, hd⟩ := insC_at I ha
  exact mul_of_bin1 (bin1_rint I.kIn J hd hc hm h.at_ h.fn hsub (run_own (us := [.ref a, .int i t]) (vs := [.ref a, .int i]) F hr hx I (.cons rfl (.cons ⟨t, rfl⟩ .nil)) q))
theorem op_inS {op : Operator} (hc : PySem.W.selfFirst X.K C = true) (N : NoI X.K C op.info.2) (h : Has X.K C g (PySem.dunder op.info.2)) (F : FnR X.prog X.w X.K X.mg X.base CX n g sp) (hr : Room n X.A) (hx : Passes CX X E) :
    OpR X (inplaceOp op) (rS X C sp E) := by
  intro pins s σ H x y v u Q I rx ry hq
  obtain ⟨a, b, rfl, rfl, ha, hb, q⟩ := hq
  cases (show v = Value.ref a from rx)
  cases (show u = Value.ref b from ry)
  obtain ⟨ox, od, J, _⟩ := insC_at I ha
  obtain ⟨ox', od', J', _⟩ := insC_at I hb
  exact inp_of_bin1 I.kIn J N (bin1_same I.kIn J J' hc h.at_ h.fn (run_own (us := [.ref a, .ref b]) (vs := [.ref a, .ref b]) F hr hx I (.cons rfl (.cons rfl .nil)) q))
end
end OpX
/-! an own operator with an int on the right: what both x op i and x op= i ask -/
namespace OpX
open PySem PySem.Spec PyProof.Rows L2 StX
section
variable {prog : Program} {w : World} {A : Around} {E : Value → Shared → Prop} {s : Shared} {K : PySem.W.Frag} {x C f L : Addr} {h₀ : Heap} {m : Str → Option Value} {ox : Obj} {od : Option Obj}
/-- what the text says of a class and the operator named nm, beside ints -/
structure BesideInt (K : PySem.W.Frag) (C : Addr) (nm : String) : Prop where
  first : PySem.W.selfFirst K C = true
  rf : ∃ rc, PySem.W.findIn K (.ref C) (dunderR nm) = some rc ∧ (rc = none ∨ ∃ g : Addr, rc = some (.ref g))
  i1 : ∃ fo, PySem.W.findIn K (.type "int") (PySem.dunder nm) = some fo
  i2 : ∃ ro, PySem.W.findIn K (.type "int") (dunderR nm) = some ro
  sub : PySem.W.subIn K (.type "int") (.ref C) = some false
theorem bin1_int {nm : String} {i : Int} {t : Tok} {Q : Value → Shared → Prop} (X : K.In s.heap) (I : PySem.W.InstAt s.heap x ox C od) (b : BesideInt K C nm) (hs : PySem.W.findIn K (.ref C) (PySem.dunder nm) = some (some (.ref f))) (hf : PySem.W.isFn K (.ref f) = true)
    (h : wpAny (model prog w) A (call (.ref f) [.ref x, .int i t]) (PySem.W.CmpBack Q) E s) : wpAny (model prog w) A (binaryOp1 nm (.ref x) (.int i t)) (fun r s' => ∃ v, r = some v ∧ Q v s') E s := by
  obtain ⟨cd, rest, hcd, hmm⟩ := PySem.W.ksp_first b.first
  obtain ⟨rc, hr, hp⟩ := b.rf
  obtain ⟨fo, h1⟩ := b.i1
  obtain ⟨ro, h2⟩ := b.i2
  have go := PySem.W.ksp_try X I hs hf h
  have other : (Value.ref C == Value.type "int") = false := Bool.eq_false_iff.mpr fun q => by cases beq_iff_eq.mp q
  have lookI := PySem.W.ksp_fillsT (M := model prog w) X h1 h2
  have py := PySem.W.ksp_inPy (M := model prog w) X hs hr hp
  have pyI : PySem.W.Looks (model prog w) s.heap (numberSlotInPython (.type "int") nm) false := PySem.W.Looks.of_pure rfl
  generalize ((fo.isSome && !isSeqSlot fo) || (ro.isSome && !isSeqSlot ro)) = right at lookI
  unfold binaryOp1
  refine wpAny_bind (I.type.here ?_)
  refine wpAny_bind (wpAny_typeOf (typeIs_int _ _ _) ?_)
  refine wpAny_bind ((PySem.W.fills_K X hcd hmm hs).here ?_)
  rw [other]
  simp only [Bool.false_eq_true, if_false]
  refine wpAny_bind (lookI.here ?_)
  cases right with
  | false =>
    simp only [Bool.and_false, Bool.false_and, Bool.false_eq_true, if_false, pure_bind, if_true]
    exact wpAny_bind (wpAny_mono go (fun r s' z => by
      obtain ⟨v, rfl, hq⟩ := z
      exact wpAny_pure ⟨v, rfl, hq⟩) fun _ _ e => e)
  | true =>
    simp only [Bool.and_self, if_true]
    refine wpAny_bind ((PySem.W.looks_subIn X b.sub).here ?_)
    simp only [Bool.false_eq_true, if_false, pure_bind, Bool.not_false, Bool.and_self, if_true]
    refine wpAny_bind (py.here ?_)
    simp only [if_true]
    refine wpAny_bind (pyI.here ?_)
    simp only [Bool.not_false, if_true]
    refine wpAny_bind ((PySem.W.looks_findIn X h2).here ?_)
    exact wpAny_bind (wpAny_mono go (fun r s' z => by
      obtain ⟨v, rfl, hq⟩ := z
      exact wpAny_pure ⟨v, rfl, hq⟩) fun _ _ e => e)
theorem inp_int {op : Operator} {i : Int} {t : Tok} {Q : Value → Shared → Prop} (X : K.In s.heap) (I : PySem.W.InstAt s.heap x ox C od) (b : BesideInt K C op.info.2) (N : NoI K C op.info.2) (hs : PySem.W.findIn K (.ref C) (PySem.dunder op.info.2) = some (some (.ref f))) (hf : PySem.W.isFn K (.ref f) = true)
    (h : wpAny (model prog w) A (call (.ref f) [.ref x, .int i t]) (PySem.W.CmpBack Q) E s) : wpAny (model prog w) A (inplaceOp op (.ref x) (.int i t)) Q E s := by
  have go := bin1_int X I b hs hf h
  unfold inplaceOp
  refine wpAny_holding (wpAny_bind (I.type.here (wpAny_bind ((fillsI_no X N).here ?_))))
  simp only [Bool.false_eq_true, if_false]
  refine wpAny_bind (wpAny_mono go (fun r s' z => ?_) fun _ _ e => e)
  obtain ⟨v, rfl, hq⟩ := z
  exact wpAny_pure hq
end
section
variable {X : Cx} {CX : CXT} {n : Nat} {C g : Addr} {sp : Sp} {E : XK}
theorem op_inI {op : Operator} (b : BesideInt X.K C op.info.2) (N : NoI X.K C op.info.2) (h : Has X.K C g (PySem.dunder op.info.2)) (F : FnR X.prog X.w X.K X.mg X.base CX n g sp) (hr : Room n X.A) (hx : Passes CX X E) :
    OpR X (inplaceOp op) (rI X C sp E) := by
  intro pins s σ H x y v u Q I rx ry hq
  obtain ⟨a, i, rfl, rfl, ha, q⟩ := hq
  cases (show v = Value.ref a from rx)
  obtain ⟨t, e⟩ := (show ∃ t, u = Value.int i t from ry)
  subst e
  obtain ⟨ox, od, J, _⟩ := insC_at I ha
  exact inp_int I.kIn J b N h.at_ h.fn (run_own (us := [.ref a, .int i t]) (vs := [.ref a, .int i]) F hr hx I (.cons rfl (.cons ⟨t, rfl⟩ .nil)) q)
end
end OpX
namespace K02
open PySem L2 Evl Gr ClX OpX StX OwX StM
/-! ### growths as they are, old or new -/
/-- gives a growth of these values -/
def EvR (K : PySem.W.Frag) (C : Addr) (te : TE) (σ : L2.St) (H : Hp) (f : Nat → Int) : Prop := ∀ H1, Ex H H1 → ∀ Q : VK, (∀ o H2, Ex H1 H2 → GrF K C H2 o f → Q (.ref o) H2) → te σ H1 Q
section
variable {K : PySem.W.Frag} {C : Addr} {σ : L2.St} {H H' : Hp} {te : TE} {f g : Nat → Int}
theorem EvG.any (h : EvG K C te σ H f) : EvR K C te σ H f := fun H1 e Q q => h H1 e Q fun o H2 _ e2 gr => q o H2 e2 gr
theorem er_var {i : Nat} {o : Addr} (h0 : σ[i]? = some (some (.ref o))) (h : GrF K C H o f) : EvR K C (tVar i) σ H f := fun H1 e Q q => ⟨_, h0, q o H1 (Ex.refl H1) (h.mono e)⟩
theorem EvR.mono (h : EvR K C te σ H f) (e : Ex H H') : EvR K C te σ H' f := fun H1 e1 => h H1 (e.trans e1)
theorem EvR.is (h : EvR K C te σ H f) (e : ∀ n, f n = g n) : EvR K C te σ H g := (funext e : f = g) ▸ h
theorem GrF.is {o : Addr} (h : GrF K C H o f) (e : ∀ n, f n = g n) : GrF K C H o g := (funext e : f = g) ▸ h
theorem GrF.ins {o : Addr} (h : GrF K C H o f) : ∃ dx p q r, H o = some (.ins C dx [("told", .ref p), ("gains", .ref q), ("rises", .ref r)]) := by
  obtain ⟨t, g, ⟨dx, p, q, r, h1, _⟩, _⟩ := h
  exact ⟨dx, p, q, r, h1⟩
end
section
variable {X : Cx} {C : Addr} {σ : L2.St} {H : Hp} {ta tb : TE} {f g : Nat → Int}
theorem er_add {l : Nat} (ha : EvR X.K C ta σ H f) (hb : EvR X.K C tb σ H g) (l0 : 0 < l) (l1 : l ≤ 2000) (d1 : PerT f l) (d2 : PerT g l) (tl : Tail (fun n => f n + g n) 4000000000000000) (nn : ∀ n, 0 ≤ f n + g n) :
    EvR X.K C (tOp (rS X C (spAdd X.K C) E0) ta tb) σ H (fun n => f n + g n) := fun H1 e Q q =>
  ha H1 e _ fun o H2 e2 go => hb H2 (e.trans e2) _ fun u H3 e3 gu => ⟨o, u, rfl, rfl, gr_ins (go.mono e3), gr_ins gu, o, u, f, g, l, rfl, go.mono e3, gu, l0, l1, d1, d2, tl, nn, fun a H4 _ e4 gr => q a H4 ((e2.trans e3).trans e4) gr⟩
theorem er_rmul {k : Nat} (ha : Ev ta σ H (.int (k : Int))) (hb : EvR X.K C tb σ H f) (hk : k ≤ 1000000) (tl : Tail (fun n => (k : Int) * f n) 4000000000000000) : EvR X.K C (tOp (rR X C (spMul X.K C) E0) ta tb) σ H (fun n => (k : Int) * f n) := fun H1 e Q q =>
  ha H1 e _ fun H2 e2 => hb H2 (e.trans e2) _ fun u H3 e3 gu => ⟨u, (k : Int), rfl, rfl, gr_ins gu, u, k, f, rfl, gu, hk, tl, fun a H4 _ e4 gr => q a H4 ((e2.trans e3).trans e4) gr⟩
theorem er_mul {k : Nat} (ha : EvR X.K C ta σ H f) (hb : Ev tb σ H (.int (k : Int))) (hk : k ≤ 1000000) (tl : Tail (fun n => (k : Int) * f n) 4000000000000000) : EvR X.K C (tOp (OpX.rI X C (spMul X.K C) E0) ta tb) σ H (fun n => (k : Int) * f n) := fun H1 e Q q =>
  ha H1 e _ fun o H2 e2 go => hb H2 (e.trans e2) _ fun H3 e3 => ⟨o, (k : Int), rfl, rfl, gr_ins (go.mono e3), o, k, f, rfl, go.mono e3, hk, tl, fun a H4 _ e4 gr => q a H4 ((e2.trans e3).trans e4) gr⟩
/-- two of the same values are not unlike -/
theorem ev_neR (ha : EvR X.K C ta σ H f) (hb : EvR X.K C tb σ H f) (_n1 : PySem.W.notFirst X.K C (.ref C) = true) : Ev (tOp (rNeO X C (spGEq X.K C) E0) ta tb) σ H (.bl false) := fun H1 e Q q =>
  ha H1 e _ fun o H2 e2 go => hb H2 (e.trans e2) _ fun u H3 e3 gu => ⟨o, u, rfl, rfl, gr_ins (go.mono e3), gr_ins gu, o, u, f, f, rfl, go.mono e3, gu, fun b hb => by
    obtain rfl : b = true := hb.mpr fun _ => rfl
    exact fun H4 e4 => ⟨true, rfl, q H4 ((e2.trans e3).trans e4)⟩⟩
theorem ev_eqR (ha : EvR X.K C ta σ H f) (hb : EvR X.K C tb σ H f) (n1 : PySem.W.notFirst X.K C (.ref C) = true) : Ev (tOp (rEqO X C (spGEq X.K C) E0) ta tb) σ H (.bl true) := fun H1 e Q q =>
  ha H1 e _ fun o H2 e2 go => hb H2 (e.trans e2) _ fun u H3 e3 gu => ⟨o, u, C, rfl, rfl, gr_ins (go.mono e3), gr_ins gu, n1, o, u, f, f, rfl, go.mono e3, gu, fun b hb => by
    obtain rfl : b = true := hb.mpr fun _ => rfl
    exact fun H4 e4 => q H4 ((e2.trans e3).trans e4)⟩
theorem ev_callG {n : Nat} (ha : EvR X.K C ta σ H f) (hn : Ev tb σ H (.int (n : Int))) (h : (n : Int) ≤ 10 ^ 40) : Ev (tCallO X C (spGCall X.K C) E0 ta (tCons tb tNil)) σ H (.int (f n)) := fun H1 e Q q =>
  ha H1 e _ fun o H2 e2 go => ⟨o, rfl, hn H2 (e.trans e2) _ fun H3 e3 => ⟨gr_ins (go.mono e3), o, n, f, rfl, go.mono e3, h, fun H4 e4 => q H4 ((e2.trans e3).trans e4)⟩⟩
/-- the text of a growth is that of its normal form -/
theorem ev_strR {t' g' : List Int} (ha : EvR X.K C ta σ H f) (nf : NF t' g') (hv : ∀ n, val t' g' n = f n) (bd : ∀ i, i < t'.length → f i < 10 ^ 60) :
    Ev (tCB (fun xs H Q => ∃ a, xs = [V.ref a] ∧ InsC X H a C ∧ spStr X.K C [.ref a] H (fun v H' => ∃ y, v = .str y ∧ Q v H') E0) (tCons ta tNil)) σ H (.str (strG t' g')) := fun H1 e Q q =>
  ha H1 e _ fun o H2 e2 go => by
    obtain ⟨t, g, hG, pt, v⟩ := go
    have nf2 : NF t g := let ⟨_, _, _, _, _, _, _, _, z, _⟩ := hG; z
    obtain ⟨rfl, rfl⟩ := nf_one nf2 nf fun n => by rw [v, hv]
    exact ⟨o, rfl, gr_ins ⟨_, _, hG, pt, v⟩, o, _, _, rfl, hG, pt, fun i hi => by
      have := bd i hi
      rw [← v, val_lt hi] at this
      exact this, fun H3 e3 => ⟨_, rfl, q H3 (e2.trans e3)⟩⟩
end
section
variable {K : PySem.W.Frag} {C : Addr} {σ : L2.St} {H : Hp} {ta tb : TE} {tk : TA} {f g : Nat → Int}
theorem er_shift {m : Nat} (ha : EvR K C ta σ H f) (hb : Ev tb σ H (.int (m : Int))) (hm : m ≤ 2000) : EvR K C (tMeth C "shifted" (spGShift K C) [] E0 ta (tCons tb tNil)) σ H (fun n => f (n + m)) := fun H1 e Q q =>
  ha H1 e _ fun o H2 e2 go => by
    obtain ⟨dx, p, q', r, h1⟩ := go.ins
    exact ⟨o, dx, _, rfl, h1, rfl, hb H2 (e.trans e2) _ fun H3 e3 => ⟨o, m, f, rfl, go.mono e3, hm, fun a H4 _ e4 gr => q a H4 ((e2.trans e3).trans e4) gr⟩⟩
theorem er_shiftK {m : Nat} (ha : EvR K C ta σ H f) (hb : EvA tk σ H [.int (m : Int)]) (hm : m ≤ 2000) :
    EvR K C (fun σ H Q => ta σ H fun x H1 => ∃ a dx fs, x = .ref a ∧ H1 a = some (.ins C dx fs) ∧ fs.lookup ("shifted" : Str) = none ∧ tk σ H1 fun zs H2 => zs.length = (["k"] : List Str).length ∧ spGShift K C ((fun vs zs => vs ++ zs) [V.ref a] zs) H2 Q E0) σ H (fun n => f (n + m)) := fun H1 e Q q =>
  ha H1 e _ fun o H2 e2 go => by
    obtain ⟨dx, p, q', r, h1⟩ := go.ins
    exact ⟨o, dx, _, rfl, h1, rfl, hb H2 (e.trans e2) _ fun H3 e3 => ⟨rfl, o, m, f, rfl, go.mono e3, hm, fun a H4 _ e4 gr => q a H4 ((e2.trans e3).trans e4) gr⟩⟩
theorem etu_first {n : Nat} (ha : EvR K C ta σ H f) (hb : Ev tb σ H (.int (n : Int))) (hn : n ≤ 2000) : EvTu K (tMeth C "first" (spGFirst K C) [] E0 ta (tCons tb tNil)) σ H (vI (pT f n)) := fun H1 e Q q =>
  ha H1 e _ fun o H2 e2 go => by
    obtain ⟨dx, p, q', r, h1⟩ := go.ins
    exact ⟨o, dx, _, rfl, h1, rfl, hb H2 (e.trans e2) _ fun H3 e3 => ⟨o, n, f, rfl, go.mono e3, hn, fun a H4 e4 h => q a H4 ((e2.trans e3).trans e4) h⟩⟩
/-- a growth made of the parts of one -/
theorem ep_parts {o : Addr} {i : Nat} (G : GCls K C) (h0 : σ[i]? = some (some (.ref o))) {t g : List Int} (h : GrAt K C H o t g) : EvP K (tCons (tFld K (tVar i) "told") (tCons (tFld K (tVar i) "gains") tNil)) σ H t g := by
  obtain ⟨dx, p, q, r, h1, h2, h3, _⟩ := h
  exact EvP.pair (ev_fld (ev_var h0) h1 G.cls G.told rfl) (ev_fld (ev_var h0) h1 G.cls G.gains rfl) (.inr h2) (.inr h3)
theorem er_again {o : Addr} {i : Nat} (G : GCls K C) (h0 : σ[i]? = some (some (.ref o))) (h : GrF K C H o f) :
    EvR K C (tMake C (spInit K C) [] E0 (tCons (tFld K (tVar i) "told") (tCons (tFld K (tVar i) "gains") tNil))) σ H f := by
  obtain ⟨t, g, hG, pt, v⟩ := h
  have hG' := hG
  obtain ⟨_, _, _, _, _, _, _, _, nf, t2, g2, sm⟩ := hG'
  exact (eg_make (ep_parts G h0 hG) nf.told t2 nf.gains g2 pt sm v).any
/-- a growth made of plain parts -/
theorem er_plain {a : Addr} {i : Nat} {t g : List Int} (h0 : σ[i]? = some (some (.ref a))) (h : Pl K H a t g) : EvG K C (tMake C (spInit K C) [] E0 (tCons (tOp (rIx K) (tVar i) (tC (.int 0))) (tCons (tOp (rIx K) (tVar i) (tC (.int 1))) tNil))) σ H (val t g) := by
  obtain ⟨p, q, h1, h2, h3, t0, t1, g0, g1, pt, sm⟩ := h
  exact eg_make (EvP.pair (ev_op (ev_var h0) ev_c (rv_ix (.inr h1) rfl)) (ev_op (ev_var h0) ev_c (rv_ix (.inr h1) rfl)) (.inl h2) (.inl h3)) t0 t1 g0 g1 pt sm fun _ => rfl
/-- two tuples of the same ints -/
theorem ev_eqTu {xs : List Int} (ha : EvTu K ta σ H (vI xs)) (hb : EvTu K tb σ H (vI xs)) : Ev (tOp (rEqD K) ta tb) σ H (.bl true) := fun H1 e Q q =>
  ha H1 e _ fun p H2 e2 hp => hb H2 (e.trans e2) _ fun r H3 e3 hr => ⟨.tuple (xs.map PyData.int), .tuple (xs.map PyData.int), .tup (ex_t e3 hp) (dpAll_ints xs), .tup hr (dpAll_ints xs), shaped_tup xs, shaped_tup xs, by
    have e2' : PyData.eqv (.tuple (xs.map PyData.int)) (.tuple (xs.map PyData.int)) = true := by
      have := eqv_ints xs xs
      rw [decide_eq_true rfl] at this
      simpa [PyData.eqv] using this
    rw [e2']
    exact q H3 (e2.trans e3)⟩
/-- two lists of the same ints -/
theorem ev_neLs {xs : List Int} (ha : EvL ta σ H (vI xs)) (hb : EvL tb σ H (vI xs)) : Ev (tOp (rNeD K) ta tb) σ H (.bl false) := fun H1 e Q q =>
  ha H1 e _ fun p H2 _ e2 hp => hb H2 (e.trans e2) _ fun r H3 _ e3 hr => ⟨.list (xs.map PyData.int), .list (xs.map PyData.int), .lst (sq_of (e3 _ _ hp)) (dpAll_ints xs), .lst (sq_of hr) (dpAll_ints xs), shaped_ints xs, shaped_ints xs, by
    have e2' : PyData.eqv (.list (xs.map PyData.int)) (.list (xs.map PyData.int)) = true := by
      have := eqv_ints xs xs
      rw [decide_eq_true rfl] at this
      simpa [PyData.eqv] using this
    rw [e2']
    exact q H3 (e2.trans e3)⟩
end
/-! ### what stands while the pen moves -/
section
variable {K : PySem.W.Frag} {C : Addr} {H H' : Hp} {p l : Addr} {cells : List Int} {m : Nat}
theorem sqt_keep {q : Addr} {xs : List V} (hP : PenAt H p l cells m) (kp : Keep p H H') (h : SqT K H q xs) : SqT K H' q xs := by
  obtain ⟨_, _, hp, _⟩ := hP
  rcases h with (h | ⟨o, h⟩) | h
  · exact .inl (.inl (kp _ _ h fun z => by rw [z, hp] at h; cases h))
  · exact .inl (.inr ⟨o, kp _ _ h fun z => by rw [z, hp] at h; cases h⟩)
  · exact .inr h
theorem sql_keep {q : Addr} {xs : List Int} (hP : PenAt H p l cells m) (kp : Keep p H H') (h : SqL K H q (vI xs)) : SqL K H' q (vI xs) := by
  obtain ⟨_, _, hp, _⟩ := hP
  have no : ∀ {k r : Int}, ¬ [V.ref l, V.int k, V.int r] = vI xs := fun e => by
    cases xs with
    | nil => cases e
    | cons x xs => cases e
  rcases h with (h | ⟨o, h⟩) | h
  · exact .inl (.inl (kp _ _ h fun z => by rw [z, hp] at h; exact no (HO.lst.inj (Option.some.inj h))))
  · exact .inl (.inr ⟨o, kp _ _ h fun z => by rw [z, hp] at h; cases h⟩)
  · exact .inr h
theorem Pl.keep {a : Addr} {t g : List Int} (hP : PenAt H p l cells m) (kp : Keep p H H') (h : Pl K H a t g) : Pl K H' a t g := by
  obtain ⟨x, y, h1, h2, h3, h4⟩ := h
  exact ⟨x, y, sqt_keep hP kp h1, sql_keep hP kp h2, sql_keep hP kp h3, h4⟩
theorem GrF.keep {o : Addr} {f : Nat → Int} (hP : PenAt H p l cells m) (kp : Keep p H H') (h : GrF K C H o f) : GrF K C H' o f := by
  obtain ⟨t, g, ⟨dx, x, y, z, h1, h2, h3, h4, h5⟩, h6⟩ := h
  refine ⟨t, g, ⟨dx, x, y, z, kp _ _ h1 fun e => ?_, sqt_keep hP kp h2, sqt_keep hP kp h3, sqt_keep hP kp h4, h5⟩, h6⟩
  obtain ⟨_, _, hp, _⟩ := hP
  rw [e, hp] at h1
  cases h1
end
section
variable {K : PySem.W.Frag}
/-- plain parts as they are drawn -/
def PlB (K : PySem.W.Frag) (H : Hp) (a : Addr) (t g : List Int) : Prop := Pl K H a t g ∧ g.length ≤ 4 ∧ (∀ i, i < g.length → at' g i ≤ 1000000) ∧ ∀ i, i < t.length → at' t i ≤ 5000000000
structure Drawn (f : Nat → Int) : Prop where
  per : PerT f 12
  tail : Tail f 1000000
  pos : ∀ n, 0 ≤ f n
  le : ∀ n : Nat, f n ≤ 5000000000 + (n : Int) * 1000000
theorem PlB.drawn {H : Hp} {a : Addr} {t g : List Int} (h : PlB K H a t g) : Drawn (val t g) := by
  obtain ⟨⟨p, q, h1, h2, h3, t0, t1, g0, g1, pt, sm⟩, g4, bg, bt⟩ := h
  exact ⟨perT_val t0 (dvd12 g0 g4), tail_val t0 g0 fun i hi => ⟨(sm i hi).1, bg i hi⟩, val_nonneg pt t0 g0 sm, val_le t0 g0 (by decide) bt bg⟩
end
section
variable {K : PySem.W.Frag} {C : Addr} {σ : L2.St} {H : Hp} {te : TE} {ta : TA} {f : Nat → Int}
theorem er_of {o : Addr} (h : Ev te σ H (.ref o)) (g : GrF K C H o f) : EvR K C te σ H f := fun H1 e Q q => h H1 e _ fun H2 e2 => q o H2 e2 (g.mono (e.trans e2))
theorem er_const {x : Nat} : EvR K C (tSMeth C (spConst K C) E0 (tC (.ref C)) (tCons (tC (.int (x : Int))) tNil)) σ H (fun _ => (x : Int)) := fun H1 e Q q =>
  ⟨rfl, x, rfl, fun a H3 _ e4 gr => q a H3 e4 gr⟩
theorem gr_updL {o Dl : Addr} {xs : List V} {u : HO} (h : GrF K C H o f) (hD : H Dl = some (.lst xs)) : GrF K C (L2.upd H Dl u) o f := by
  obtain ⟨t, g, ⟨dx, x, y, z, h1, h2, h3, h4, h5⟩, h6⟩ := h
  have tup : ∀ {q : Addr} {ys : List V}, SqT K H q ys → SqT K (L2.upd H Dl u) q ys := fun {q ys} s => by
    rcases s with (s | ⟨w, s⟩) | s
    · exact .inl (.inl (by rw [upd_ne (fun e => by rw [e, hD] at s; cases s)]; exact s))
    · exact .inl (.inr ⟨w, by rw [upd_ne (fun e => by rw [e, hD] at s; cases s)]; exact s⟩)
    · exact .inr s
  exact ⟨t, g, ⟨dx, x, y, z, by rw [upd_ne (fun e => by rw [e, hD] at h1; cases h1)]; exact h1, tup h2, tup h3, tup h4, h5⟩, h6⟩
end
theorem PlB.keep {K : PySem.W.Frag} {H H' : Hp} {p l a : Addr} {cells : List Int} {m : Nat} {t g : List Int} (h : PlB K H a t g) (hP : PenAt H p l cells m) (kp : Keep p H H') : PlB K H' a t g := ⟨Pl.keep hP kp h.1, h.2⟩
theorem yes_i {σ : L2.St} {H : Hp} {A B : Hp → Prop} (h : A H) : tYes σ H (fun b H3 => if b = true then A H3 else B H3) := iteT (A := A H) (B := B H) h
end K02
namespace Gr
theorem lead_le {f f' : Nat → Int} {b L : Nat} {D D' : Int} (h : ∀ n, f n ≤ f' n) (hf : Rnd f b L D) (hf' : Rnd f' b L D') : D ≤ D' := by
  rcases Int.lt_or_le D' D with lt | le
  · have := ord_lead (Or.inr fun n _ => h n) hf hf' lt
    exfalso
    obtain ⟨j, hj⟩ : ∃ j : Nat, f' (b + 1999) - f (b + 1999) < (j : Int) := ⟨(f' (b + 1999) - f (b + 1999)).toNat + 1, by omega⟩
    have a : f (b + 1999 + j * L) - f' (b + 1999 + j * L) = f (b + 1999) - f' (b + 1999) + (j : Int) * (D - D') := (hf.sub hf').many j (b + 1999) (by omega)
    have c := h (b + 1999 + j * L)
    have d : (j : Int) ≤ (j : Int) * (D - D') := by
      have : (j : Int) * 1 ≤ (j : Int) * (D - D') := Int.mul_le_mul_of_nonneg_left (by omega) (by omega)
      rwa [Int.mul_one] at this
    omega
  · exact le
end Gr
namespace K02
open PySem L2 Evl Gr ClX OpX StX OwX
abbrev sGaps : Stmt := top 25
abbrev sLead : Stmt := top 26
abbrev sFirstAb : Stmt := top 27
abbrev sLastAb : Stmt := top 28
section
variable {K : PySem.W.Frag} {σ : L2.St} {H : Hp}
/-- for i, x in enumerate(a list) -/
theorem q_forN {a : Addr} {xs : List V} {ta : TA} {g : TG} {tu tz : TS} {D : Ends} (h : EvA ta σ H [.ref a]) (hx : SqL K H a xs) (Pv : Nat → L2.St → Hp → Prop) (h0 : ∀ H1, Ex H H1 → Pv 0 σ H1) (hl : ∀ i σ' H', i ≤ xs.length → Pv i σ' H' → SqL K H' a xs)
    (hs : ∀ i x σ' H' T, xs[i]? = some x → Pv i σ' H' → H' T = none → g (.ref T) σ' (L2.upd H' T (.tup [.int (i : Nat), x])) fun σ2 H2 => tu { D with nx := Pv (i + 1), ct := Pv (i + 1), bk := tz D } σ2 H2)
    (hd : ∀ σ' H', Pv xs.length σ' H' → tz D σ' H') : tSeq (tFor (iEnum K ta) g tu) tz D σ H :=
  h H (Ex.refl H) _ fun H1 e1 => ⟨a, xs, rfl, ex_l e1 hx, for_it (D := { D with nx := tz D }) walk_enum Pv (h0 H1 e1) hl (fun i v σ' H' H2 hi p y => by
    obtain ⟨T, x, z, rfl, hn, rfl, ex, ez⟩ := y
    obtain rfl := Option.some.inj ex
    exact hs i z σ' H' T ez p hn) hd⟩
theorem q_join {tt tz : TS} {D : Ends} (M : L2.St → Hp → Prop) (k : ∀ σ' H', M σ' H' → tz D σ' H') (h : (∀ σ' H', M σ' H' → tz D σ' H') → tSeq tt tz D σ H) : tSeq tt tz D σ H := h k
end
section
variable {P : Program} {w : World} {K : PySem.W.Frag} {mg : Str → Option Value} {base : Heap}
/-! ### gaps_of -/
/-- two growths, and the numbers that both know -/
structure Two (K : PySem.W.Frag) (C : Addr) (H : Hp) (o u : Addr) (t g t' g' : List Int) (b L : Nat) : Prop where
  one : GrAt K C H o t g
  other : GrAt K C H u t' g'
  hb : b = max t.length t'.length
  hL : L = Nat.lcm g.length g'.length
  few : L ≤ 2000
section
variable {C o u : Addr} {H H' : Hp} {t g t' g' : List Int} {b L : Nat}
theorem Two.mono (e : Ex H H') (h : Two K C H o u t g t' g' b L) : Two K C H' o u t g t' g' b L := ⟨h.one.mono e, h.other.mono e, h.hb, h.hL, h.few⟩
theorem grAt_nf (h : GrAt K C H o t g) : NF t g ∧ t.length ≤ 2000 ∧ g.length ≤ 2000 ∧ Small g := by
  obtain ⟨_, _, _, _, _, _, _, _, nf, a, b, c⟩ := h
  exact ⟨nf, a, b, c⟩
theorem Two.l0 (h : Two K C H o u t g t' g' b L) : 0 < L := h.hL ▸ Nat.lcm_pos (grAt_nf h.one).1.gains (grAt_nf h.other).1.gains
theorem Two.b0 (h : Two K C H o u t g t' g' b L) : 0 < b := by
  have := (grAt_nf h.one).1.told
  have := h.hb
  omega
theorem Two.b1 (h : Two K C H o u t g t' g' b L) : b ≤ 2000 := by
  have := (grAt_nf h.one).2.1
  have := (grAt_nf h.other).2.1
  have := h.hb
  omega
theorem Two.rnd1 (h : Two K C H o u t g t' g' b L) : Rnd (val t g) b L (rate g L) := rnd_val (grAt_nf h.one).1.told (grAt_nf h.one).1.gains (by rw [h.hb]; omega) (h.hL ▸ Nat.dvd_lcm_left _ _)
theorem Two.rnd2 (h : Two K C H o u t g t' g' b L) : Rnd (val t' g') b L (rate g' L) := rnd_val (grAt_nf h.other).1.told (grAt_nf h.other).1.gains (by rw [h.hb]; omega) (h.hL ▸ Nat.dvd_lcm_right _ _)
theorem Two.swap (h : Two K C H o u t g t' g' b L) : Two K C H u o t' g' t g b L := ⟨h.other, h.one, by rw [h.hb, Nat.max_comm], by rw [h.hL, Nat.lcm_comm], h.few⟩
end
def spGaps (K : PySem.W.Frag) (C : Addr) : Sp := fun vs H Q _ => ∃ (o u : Addr) (t g t' g' : List Int) (b L : Nat), vs = [.ref o, .ref u] ∧ Two K C H o u t g t' g' b L ∧
  ∀ p H', H p = none → Ex H H' → H' p = some (.lst (vI (pT (fun n => val t g n - val t' g' n) (b + L)))) → Q (.ref p) H'
abbrev nGaps : List Str := ["one", "other", "many", "left", "right"]
theorem scGaps : FnScope nGaps ["one", "other"] (defScope sGaps) := ⟨rfl, rfl, rfl, by decide +kernel, rfl, by decide +kernel, by decide +kernel⟩
/-- the values of both, side by side -/
theorem el_both {C o u : Addr} {σ : L2.St} {H : Hp} {t g t' g' : List Int} {m i j : Nat} {ta : TA} {te : TE} {f : Nat → Int}
    (ha : ∀ H1, Ex H H1 → ∀ Q : List V → Hp → Prop, (∀ x y H2, Ex H1 H2 → SqL K H2 x (vI (pT (val t g) m)) → SqL K H2 y (vI (pT (val t' g') m)) → Q [.ref x, .ref y] H2) → ta σ H1 Q) (hm : m ≤ 10000)
    (hw : ∀ x y, wipe (((wipe σ [i, j]).set i (some x)).set j (some y)) [i, j] = wipe σ [i, j])
    (he : ∀ n H1, Ex H H1 → n < m → Ev te (((wipe σ [i, j]).set i (some (.int (val t g n)))).set j (some (.int (val t' g' n)))) H1 (.int (f n))) :
    EvL (tLc (iZip K ta) (gTup K 2 (gCons (gName i) (gCons (gName j) gNil))) tYes te [i, j]) σ H (vI (pT f m)) := by
  have c := el_lcZ (K := K) (σ := σ) (H := H) (te := te) (i := i) (j := j) (vs := [i, j]) (ta := ta) (xs := vI (pT (val t g) m)) (ys := vI (pT (val t' g') m)) (fun n => V.int (f n)) ha (by rw [vI_len, vI_len, pT_len, pT_len]) (by rw [vI_len, pT_len]; omega) hw
    (fun n x y H3 e3 hx hy => by
      have hn : n < m := by
        have := (List.getElem?_eq_some_iff.mp hx).1
        rwa [vI_len, pT_len] at this
      rw [vI_get (by rw [pT_len]; exact hn), pT_at hn] at hx hy
      obtain rfl := Option.some.inj hx
      obtain rfl := Option.some.inj hy
      exact he n H3 e3 hn)
  have e4 : (List.range (vI (pT (val t g) m)).length).map (fun n => V.int (f n)) = vI (pT f m) := by
    rw [vI_len, pT_len]
    unfold vI pT
    rw [List.map_map]
    rfl
  rw [e4] at c
  exact c
theorem ok_Gaps {C f : Addr} {fd : FuncData} (F : Fun K "gaps_of" "gaps_of" sGaps f fd) (DV : GlbV mg)
    (LB : Gfn P w K mg base 1 "begin_of_both" ["one", "other"] (spBegin K C)) (LC : Gfn P w K mg base 1 "common_length" ["one", "other"] (spCommon K C)) (LF : Gfn P w K mg base 1 "first_values" ["one", "many"] (spFirst K C)) :
    FnOk P w K mg base CX0 2 f fd ["one", "other"] (spGaps K C) := by
  obtain ⟨fB, fdB, GB, kB, bB, gB⟩ := LB
  obtain ⟨fC, fdC, GC, kC, bC, gC⟩ := LC
  obtain ⟨fF, fdF, GF, kF, bF, gF⟩ := LF
  refine F.ok scGaps (fun vs H Q E h => ?_) (fun cdv A outer s H vs Q E hr h => ?_)
  · obtain ⟨o, u, t, g, t', g', b, L, rfl, _⟩ := h
    rfl
  · obtain ⟨o, u, t, g, t', g', b, L, rfl, hT, k⟩ := h
    refine ⟨_, pss_cons (ps_set (i := 2) scGaps.nd rfl (.inl rfl) (pe_op op_add (pe_call GB hr (by rfl) gB kB bB .nil pass0 (pa_cons (pv 0) (pa_cons (pv 1) pa_nil))) (pe_call GC hr (by rfl) gC kC bC .nil pass0 (pa_cons (pv 0) (pa_cons (pv 1) pa_nil)))))
      (pss_one (ps_ret (pe_lc (own := [("left", 3), ("right", 4)]) (g := gTup K 2 (gCons (gName 3) (gCons (gName 4) gNil))) rfl scGaps.nd
          (pi_zip (by rfl) DV.zip (pa_cons (pe_call GF hr (by rfl) gF kF bF .nil pass0 (pa_cons (pv 0) (pa_cons (pv 2) pa_nil))) (pa_cons (pe_call GF hr (by rfl) gF kF bF .nil pass0 (pa_cons (pv 1) (pa_cons (pv 2) pa_nil))) pa_nil)))
          (blkOk_by (own := [("left", 3), ("right", 4)]) (N := nGaps) (sc := defScope sGaps) (by decide +kernel))
          (fun _ _ _ _ _ => pg_tup rfl (pgs_cons (pg_name (i := 3) scGaps.nd rfl (Or.inl rfl)) (pgs_cons (pg_name (i := 4) scGaps.nd rfl (Or.inl rfl)) pgs_nil))) (fun _ _ _ _ _ => pts_nil) (fun _ _ _ _ _ => pe_op op_sub (pv 3) (pv 4))))), ?_⟩
    have b1 := hT.b1
    have few := hT.few
    refine q_asg (v := .int ((b + L : Nat) : Int)) (ev_is (ev_op (x := .int (b : Int)) (y := .int (L : Int)) (ev_call (ea_cons (ev_var rfl) (ea_cons (ev_var rfl) ea_nil)) (fun H1 e Q q E => ⟨o, u, t, g, t', g', rfl, hT.one.mono e, hT.other.mono e, by rw [← hT.hb]; exact q⟩))
      (ev_call (ea_cons (ev_var rfl) (ea_cons (ev_var rfl) ea_nil)) (fun H1 e Q q E => ⟨o, u, t, g, t', g', rfl, hT.one.mono e, hT.other.mono e, by rw [← hT.hL]; exact hT.few, by rw [← hT.hL]; exact q⟩)) rv_I0) rfl) fun H1 e1 => ?_
    refine s_retL (el_both (K := K) (C := C) (o := o) (u := u) (t := t) (g := g) (t' := t') (g' := g') (m := b + L) (f := fun n => val t g n - val t' g' n)
      (fun H3 e3 Q3 q3 => ⟨_, rfl, _, rfl, o, b + L, t, g, rfl, hT.one.mono (e1.trans e3), by omega, fun x H4 _ e4 hx => ⟨_, rfl, _, rfl, u, b + L, t', g', rfl, hT.other.mono ((e1.trans e3).trans e4), by omega, fun y H5 _ e5 hy => q3 x y H5 (e4.trans e5) (sq_of (e5 _ _ hx)) (sq_of hy)⟩⟩)
      (by omega) (fun _ _ => rfl) (fun n H3 _ _ => ev_op (ev_var rfl) (ev_var rfl) rv_I0)) fun p H2 hp e2 h2 => k p H2 (fresh_back e1 hp) (e1.trans e2) h2
/-! ### lead_of -/
def spLead (K : PySem.W.Frag) (C : Addr) : Sp := fun vs H Q _ => ∃ (o u : Addr) (t g t' g' : List Int) (b L : Nat), vs = [.ref o, .ref u] ∧ Two K C H o u t g t' g' b L ∧ RetV (.int (rate g L - rate g' L)) H Q
theorem scLead : FnScope ["one", "other", "length"] ["one", "other"] (defScope sLead) := ⟨rfl, rfl, rfl, by decide +kernel, rfl, by decide +kernel, by decide +kernel⟩
theorem ok_Lead {C f : Addr} {fd : FuncData} (F : Fun K "lead_of" "lead_of" sLead f fd) (T : GlbS mg) (G : GCls K C) (LC : Gfn P w K mg base 1 "common_length" ["one", "other"] (spCommon K C)) : FnOk P w K mg base CX0 2 f fd ["one", "other"] (spLead K C) := by
  obtain ⟨fC, fdC, GC, kC, bC, gC⟩ := LC
  refine F.ok scLead (fun vs H Q E h => ?_) (fun cdv A outer s H vs Q E hr h => ?_)
  · obtain ⟨o, u, t, g, t', g', b, L, rfl, _⟩ := h
    rfl
  · obtain ⟨o, u, t, g, t', g', b, L, rfl, hT, k⟩ := h
    refine ⟨_, pss_cons (ps_set (i := 2) scLead.nd rfl (.inl rfl) (pe_call GC hr (by rfl) gC kC bC .nil pass0 (pa_cons (pv 0) (pa_cons (pv 1) pa_nil))))
      (pss_one (ps_ret (pe_op op_sub (pe_op op_mul (pe_ix ix_seq (pe_fld (pv 0) rfl) (pe_un un_neg pe_int) (fun _ _ => rfl)) (pe_op op_fdiv (pv 2) (pe_callB call_len_seq (by rfl) T.len PySem.boot_len (pa_cons (pe_fld (pv 0) rfl) pa_nil))))
        (pe_op op_mul (pe_ix ix_seq (pe_fld (pv 1) rfl) (pe_un un_neg pe_int) (fun _ _ => rfl)) (pe_op op_fdiv (pv 2) (pe_callB call_len_seq (by rfl) T.len PySem.boot_len (pa_cons (pe_fld (pv 1) rfl) pa_nil))))))), ?_⟩
    refine q_asg (v := .int (L : Int)) (ev_call (ea_cons (ev_var rfl) (ea_cons (ev_var rfl) ea_nil)) (fun H1 e Q q E => ⟨o, u, t, g, t', g', rfl, hT.one.mono e, hT.other.mono e, by rw [← hT.hL]; exact hT.few, by rw [← hT.hL]; exact q⟩)) fun H1 e1 => ?_
    have few := hT.few
    have half : ∀ {i : Nat} {x : Addr} {tt gg : List Int}, [some (V.ref o), some (.ref u), some (.int (L : Int))][i]? = some (some (.ref x)) → GrAt K C H1 x tt gg →
        Ev (tOp (L2.rI CMul fun i j => .int (i * j)) (tOp (rIx K) (tFld K (tVar i) "rises") (tUn (rU fun i => .int (-i)) (tC (.int 1)))) (tOp (L2.rI CDiv fun i j => .int (i / j)) (tVar 2) (tCB (fun xs H Q => ∃ p ys, xs = [V.ref p] ∧ (SqL K H p ys ∨ SqT K H p ys) ∧ Q (.int ys.length) H) (tCons (tFld K (tVar i) "gains") tNil))))
          [some (.ref o), some (.ref u), some (.int (L : Int))] H1 (.int (rate gg L)) := fun {i x tt gg} h0 hx => by
      obtain ⟨dx, p, q, r, h1, h2, h3, h4, nf, t2, g2, sm⟩ := hx
      have g0 := nf.gains
      have ac := acc_small sm g0 gg.length
      have rl := ris_len (g := gg)
      have div : (L : Int) / (gg.length : Int) = ((L / gg.length : Nat) : Int) := rfl
      have dl : L / gg.length ≤ L := Nat.div_le_self _ _
      have d0 : (0 : Int) ≤ (L : Int) / (gg.length : Int) := Int.ediv_nonneg (by omega) (by omega)
      have d1 : (L : Int) / (gg.length : Int) ≤ 2000 := by rw [div]; omega
      refine ev_op (y := .int ((L / gg.length : Nat) : Int)) (ev_op (ev_fld (ev_var h0) h1 G.cls G.rises rfl) (ev_un ev_c ru_neg) (rv_ix (v := .int (acc (dif gg) gg.length)) (.inr h4) ?_)) (ev_op (ev_var rfl) (ev_lenF (ev_var h0) h1 G.cls G.gains rfl h3) (rv_I ⟨by omega, by omega⟩)) (rv_I (.inr ⟨by omega, by omega⟩))
      have z := atI_vlast (g := ris gg) (by omega)
      rw [ris_at (by omega), show (ris gg).length - 1 = gg.length by omega] at z
      exact z
    exact s_ret (v := .int (rate g L - rate g' L)) (ev_op (half (i := 0) rfl (hT.one.mono e1)) (half (i := 1) rfl (hT.other.mono e1)) rv_I0) fun H2 e2 => k H2 (e1.trans e2)
end
end K02
namespace K02
open PySem L2 Evl Gr ClX OpX StX OwX
section
variable {P : Program} {w : World} {K : PySem.W.Frag} {mg : Str → Option Value} {base : Heap}
/-! ### last_number_above -/
def spLast (K : PySem.W.Frag) (C : Addr) : Sp := fun vs H Q _ => ∃ (o u : Addr) (t g t' g' : List Int) (b L : Nat), vs = [.ref o, .ref u] ∧ Two K C H o u t g t' g' b L ∧ rate g L < rate g' L ∧ rate g' L - rate g L < 1073741824 ∧
  ∀ last : Int, LA (fun n => val t g n - val t' g' n) b L (b + L) last → RetV (.int last) H Q
abbrev nLast : List Str := ["one", "other", "gaps", "loss", "length", "last", "at", "gap"]
theorem scLast : FnScope nLast ["one", "other"] (defScope sLastAb) := ⟨rfl, rfl, rfl, by decide +kernel, rfl, by decide +kernel, by decide +kernel⟩
theorem ok_Last {C f : Addr} {fd : FuncData} (F : Fun K "last_number_above" "last_number_above" sLastAb f fd) (T : GlbS mg) (DV : GlbV mg) (enum_ : mg "enumerate" = none)
    (LG : Gfn P w K mg base 2 "gaps_of" ["one", "other"] (spGaps K C)) (LL : Gfn P w K mg base 2 "lead_of" ["one", "other"] (spLead K C)) (LC : Gfn P w K mg base 1 "common_length" ["one", "other"] (spCommon K C)) :
    FnOk P w K mg base CX0 3 f fd ["one", "other"] (spLast K C) := by
  obtain ⟨fG, fdG, GG, kG, bG, gG⟩ := LG
  obtain ⟨fL, fdL, GL, kL, bL, gL⟩ := LL
  obtain ⟨fC, fdC, GC, kC, bC, gC⟩ := LC
  refine F.ok scLast (fun vs H Q E h => ?_) (fun cdv A outer s H vs Q E hr h => ?_)
  · obtain ⟨o, u, t, g, t', g', b, L, rfl, _⟩ := h
    rfl
  · obtain ⟨o, u, t, g, t', g', b, L, rfl, hT, hlt, hfew, k⟩ := h
    have r1 := hr.mono (show 1 ≤ 2 by decide)
    refine ⟨_, pss_cons (ps_set (i := 2) scLast.nd rfl (.inl rfl) (pe_call GG hr (by rfl) gG kG bG .nil pass0 (pa_cons (pv 0) (pa_cons (pv 1) pa_nil))))
      (pss_cons (ps_set (i := 3) scLast.nd rfl (.inl rfl) (pe_un un_neg (pe_call GL hr (by rfl) gL kL bL .nil pass0 (pa_cons (pv 0) (pa_cons (pv 1) pa_nil)))))
      (pss_cons (ps_set (i := 4) scLast.nd rfl (.inl rfl) (pe_call GC r1 (by rfl) gC kC bC .nil pass0 (pa_cons (pv 0) (pa_cons (pv 1) pa_nil))))
      (pss_cons (ps_set (i := 5) scLast.nd rfl (.inl rfl) (pe_un un_neg pe_int))
      (pss_cons (ps_for PassesOwn.never rfl (pi_enum (by rfl) enum_ (pa_cons (pv 2) pa_nil)) (pg_tup rfl (pgs_cons (pg_name (i := 6) scLast.nd rfl (.inl rfl)) (pgs_cons (pg_name (i := 7) scLast.nd rfl (.inl rfl)) pgs_nil)))
        (pss_one (ps_if (PW.pt (pw_and (pt_cmpR op_gt (pv 7) pe_int (nomark _)) (pw_and1 (pt_cmpR op_lt (pv 6) (pe_op op_sub (pe_callB call_len_seq (by rfl) T.len PySem.boot_len (pa_cons (pv 2) pa_nil)) (pv 4)) (nomark _)))))
            (pss_one (ps_set (i := 5) scLast.nd rfl (.inl rfl) (pv 6)))
          (pss_one (ps_if (pt_cmpR op_gt (pv 7) pe_int (nomark _))
            (pss_one (ps_set (i := 5) scLast.nd rfl (.inl rfl) (pe_callB (call_max2 rfl) (by rfl) DV.max (by decide +kernel) (pa_cons (pv 5) (pa_cons (pe_op op_add (pv 6) (pe_op op_mul (pe_op op_fdiv (pe_op op_sub (pv 7) pe_int) (pv 3)) (pv 4))) pa_nil))))) pss_nil)))))
      (pss_one (ps_ret (pv 5))))))), ?_⟩
    have few := hT.few
    have b1 := hT.b1
    have L0 := hT.l0
    refine q_call (vs := [.ref o, .ref u]) (ea_cons (ev_var rfl) (ea_cons (ev_var rfl) ea_nil)) fun H1 e1 => ⟨o, u, t, g, t', g', b, L, rfl, hT.mono e1, fun p H2 hp e2 h2 => ?_⟩
    have T2 := hT.mono (e1.trans e2)
    show tSeq _ _ _ [some (.ref o), some (.ref u), some (.ref p), none, none, none, none, none] H2
    have lg : ∀ {x : Int} {σ' : L2.St} {H' : Hp}, Ex H2 H' → σ'[0]? = some (some (.ref o)) → σ'[1]? = some (some (.ref u)) → x = rate g L - rate g' L → Ev (tCall (spLead K C) [] E0 (tCons (tVar 0) (tCons (tVar 1) tNil))) σ' H' (.int x) := fun {x σ' H'} e h0 h1 hx =>
      hx ▸ ev_call (ea_cons (ev_var h0) (ea_cons (ev_var h1) ea_nil)) (fun H1 e' Q q E => ⟨o, u, t, g, t', g', b, L, rfl, T2.mono (e.trans e'), q⟩)
    obtain ⟨loss, hloss⟩ : ∃ loss : Int, loss = rate g' L - rate g L := ⟨_, rfl⟩
    have l0 : 0 < loss := by omega
    refine q_asg (v := .int loss) (ev_is (ev_un (lg (Ex.refl H2) rfl rfl rfl) ru_neg) (by congr 1; omega)) fun H3 e3 => ?_
    refine q_asg (v := .int (L : Int)) (ev_call (ea_cons (ev_var rfl) (ea_cons (ev_var rfl) ea_nil)) (fun H1 e Q q E => ⟨o, u, t, g, t', g', rfl, T2.one.mono (e3.trans e), T2.other.mono (e3.trans e), by rw [← hT.hL]; exact hT.few, by rw [← hT.hL]; exact q⟩)) fun H4 e4 => ?_
    refine q_asg (v := .int (-1)) (ev_un (x := .int 1) ev_c ru_neg) fun H5 e5 => ?_
    have E5 : Ex H2 H5 := (e3.trans e4).trans e5
    have P : Rnd (fun n => val t g n - val t' g' n) b L (-loss) := by
      have := hT.rnd1.sub hT.rnd2
      rwa [show rate g L - rate g' L = -loss by omega] at this
    have h5 := E5 _ _ h2
    refine q_forN (K := K) (a := p) (xs := vI (pT (fun n => val t g n - val t' g' n) (b + L))) (ea_cons (ev_var rfl) ea_nil) (sq_of h5)
      (fun i σ' H' => ∃ (x6 x7 : Option V) (last : Int), σ' = [some (.ref o), some (.ref u), some (.ref p), some (.int loss), some (.int (L : Int)), some (.int last), x6, x7] ∧ Ex H5 H' ∧ LA (fun n => val t g n - val t' g' n) b L i last)
      (fun H6 e6 => ⟨none, none, -1, rfl, e6, la_start⟩) (fun _ _ H' _ ⟨_, _, _, _, e, _⟩ => sq_of (e _ _ h5)) ?_ ?_
    · rintro i x σ' H6 Tn hx ⟨x6, x7, last, rfl, e6, la⟩ hTn
      have hi : i < b + L := by
        have := (List.getElem?_eq_some_iff.mp hx).1
        rwa [vI_len, pT_len] at this
      rw [vI_get (by rw [pT_len]; exact hi), pT_at hi] at hx
      obtain rfl := Option.some.inj hx
      have e7 := Ex.new (o := .tup [.int (i : Nat), .int (val t g i - val t' g' i)]) hTn
      have p7 := (e6.trans e7) _ _ h5
      refine ⟨Tn, [.int (i : Nat), .int (val t g i - val t' g' i)], rfl, st_of upd_same, rfl, _, _, rfl, _, _, rfl, rfl, ?_⟩
      obtain ⟨G, hG⟩ : ∃ G : Int, G = val t g i - val t' g' i := ⟨_, rfl⟩
      rw [← hG] at p7 e7 ⊢
      generalize L2.upd H6 Tn (.tup [.int (i : Nat), .int G]) = H7 at p7 e7 ⊢
      have E7 := e6.trans e7
      show tIfS _ _ _ _ [some (.ref o), some (.ref u), some (.ref p), some (.int loss), some (.int (L : Int)), some (.int last), some (.int (i : Int)), some (.int G)] H7
      have len : Ev (tCB (fun xs H Q => ∃ p ys, xs = [V.ref p] ∧ (SqL K H p ys ∨ SqT K H p ys) ∧ Q (.int ys.length) H) (tCons (tVar 2) tNil)) [some (.ref o), some (.ref u), some (.ref p), some (.int loss), some (.int (L : Int)), some (.int last), some (.int (i : Int)), some (.int G)] H7 (.int ((b + L : Nat) : Int)) :=
        ev_is (ev_cb (ea_cons (ev_var rfl) ea_nil) (rc_lenQ (.inl (sq_of p7)))) (by rw [vI_len, pT_len])
      refine s_if (et_and (et_test (ev_op (ev_var rfl) ev_c rv_I0)) fun _ => et_test (ev_op (ev_var rfl) (ev_op len (ev_var rfl) rv_I0) rv_I0)) (fun hb H8 e8 => ?_) (fun hb H8 e8 => ?_)
      · rw [Bool.and_eq_true_iff] at hb
        have g0 := of_decide_eq_true hb.1
        have ib := of_decide_eq_true hb.2
        refine s_asg (v := .int (i : Int)) (ev_var rfl) fun H9 e9 => ⟨_, _, (i : Int), rfl, (E7.trans e8).trans e9, la_near (by omega) (by show 0 < val t g i - val t' g' i; omega)⟩
      · refine s_if (et_test (ev_op (ev_var rfl) ev_c rv_I0)) (fun hg H9 e9 => ?_) (fun hg H9 e9 => ?_)
        · have g0 := of_decide_eq_true hg
          have bi : b ≤ i := by
            rcases Nat.lt_or_ge i b with z | z
            · exfalso
              rw [decide_eq_true g0, decide_eq_true (show (i : Int) < ((b + L : Nat) : Int) - (L : Int) by omega)] at hb
              cases hb
            · exact z
          have q0 : 0 ≤ (G - 1) / loss := Int.ediv_nonneg (by omega) (by omega)
          have step := la_far (x := (i : Int) + (G - 1) / loss * (L : Int)) la P l0 bi (by show 0 < val t g i - val t' g' i; omega) (by rw [hG])
          refine s_asg (ev_max2 (ev_var rfl) (ev_op (ev_var rfl) (ev_op (ev_op (ev_op (ev_var rfl) ev_c rv_I0) (ev_var rfl) (rv_I ⟨by omega, by omega⟩)) (ev_var rfl) (rv_I (.inr ⟨by omega, by omega⟩))) rv_I0)) fun H10 e10 => ⟨_, _, _, rfl, ((E7.trans e8).trans e9).trans e10, step⟩
        · exact ⟨_, _, last, rfl, (E7.trans e8).trans e9, la_no la P l0 (fun z => by
            have z' : 0 < val t g i - val t' g' i := z
            rw [decide_eq_true (show G > 0 by omega)] at hg
            cases hg)⟩
    · rintro σ' H6 ⟨x6, x7, last, rfl, e6, la⟩
      rw [vI_len, pT_len] at la
      exact s_ret (ev_var rfl) fun H7 e7 => k last la H7 (((e1.trans e2).trans E5).trans (e6.trans e7))
end
end K02
/-! an own operator with any thing of a built-in type on the right -/
namespace OpX
open PySem PySem.Spec PyProof.Rows L2 StX
section
variable {prog : Program} {w : World} {A : Around} {E : Value → Shared → Prop} {s : Shared} {K : PySem.W.Frag} {x C f : Addr} {ox : Obj} {od : Option Obj}
/-- what the text says of a class and the operator named nm, beside things of the type T -/
structure BesideT (K : PySem.W.Frag) (C : Addr) (nm : String) (T : String) : Prop where
  first : PySem.W.selfFirst K C = true
  rf : ∃ rc, PySem.W.findIn K (.ref C) (dunderR nm) = some rc ∧ (rc = none ∨ ∃ g : Addr, rc = some (.ref g))
  i1 : ∃ fo, PySem.W.findIn K (.type T) (PySem.dunder nm) = some fo
  i2 : ∃ ro, PySem.W.findIn K (.type T) (dunderR nm) = some ro
  sub : PySem.W.subIn K (.type T) (.ref C) = some false
theorem bin1_any {nm T : String} {b : Value} {Q : Value → Shared → Prop} (X : K.In s.heap) (I : PySem.W.InstAt s.heap x ox C od) (ty : PySem.W.Looks (model prog w) s.heap (typeOf b) (.type T)) (B : BesideT K C nm T) (hs : PySem.W.findIn K (.ref C) (PySem.dunder nm) = some (some (.ref f))) (hf : PySem.W.isFn K (.ref f) = true)
    (h : wpAny (model prog w) A (call (.ref f) [.ref x, b]) (PySem.W.CmpBack Q) E s) : wpAny (model prog w) A (binaryOp1 nm (.ref x) b) (Told Q) E s := by
  obtain ⟨cd, rest, hcd, hmm⟩ := PySem.W.ksp_first B.first
  obtain ⟨rc, hr, hp⟩ := B.rf
  obtain ⟨fo, h1⟩ := B.i1
  obtain ⟨ro, h2⟩ := B.i2
  have go := PySem.W.ksp_try X I hs hf h
  have other : (Value.ref C == Value.type T) = false := Bool.eq_false_iff.mpr fun q => by cases beq_iff_eq.mp q
  have lookT := PySem.W.ksp_fillsT (M := model prog w) X h1 h2
  have py := PySem.W.ksp_inPy (M := model prog w) X hs hr hp
  have pyT : PySem.W.Looks (model prog w) s.heap (numberSlotInPython (.type T) nm) false := PySem.W.Looks.of_pure rfl
  generalize ((fo.isSome && !isSeqSlot fo) || (ro.isSome && !isSeqSlot ro)) = right at lookT
  unfold binaryOp1
  refine wpAny_bind (I.type.here (wpAny_bind (ty.here (wpAny_bind ((PySem.W.fills_K X hcd hmm hs).here ?_)))))
  rw [other]
  simp only [Bool.false_eq_true, if_false]
  refine wpAny_bind (lookT.here ?_)
  cases right with
  | false =>
    simp only [Bool.and_false, Bool.false_and, Bool.false_eq_true, if_false, pure_bind, if_true]
    exact wpAny_bind (wpAny_mono go (fun r s' z => by
      obtain ⟨v, rfl, hq⟩ := z
      exact wpAny_pure ⟨v, rfl, hq⟩) fun _ _ e => e)
  | true =>
    simp only [Bool.and_self, if_true]
    refine wpAny_bind ((PySem.W.looks_subIn X B.sub).here ?_)
    simp only [Bool.false_eq_true, if_false, pure_bind, Bool.not_false, Bool.and_self, if_true]
    refine wpAny_bind (py.here ?_)
    simp only [if_true]
    refine wpAny_bind (pyT.here ?_)
    simp only [Bool.not_false, if_true]
    refine wpAny_bind ((PySem.W.looks_findIn X h2).here ?_)
    exact wpAny_bind (wpAny_mono go (fun r s' z => by
      obtain ⟨v, rfl, hq⟩ := z
      exact wpAny_pure ⟨v, rfl, hq⟩) fun _ _ e => e)
theorem bin_of_1 {M : Model} {op : Operator} {a b : Value} {Q : Value → Shared → Prop} (h : wpAny M A (binaryOp1 op.info.2 a b) (Told Q) E s) : wpAny M A (binaryOp op a b) Q E s := by
  unfold binaryOp
  exact wpAny_holding (told_pure (t := binaryOp1 op.info.2 a b) h fun _ => rfl)
end
section
variable {X : Cx} {CX : CXT} {n : Nat} {C g : Addr} {sp : Sp} {E : XK}
theorem look_ty {pins : List (Addr × Obj)} {σ : L2.St} {H : Hp} {s : Shared} {y : V} {u : Value} {T : String} (I : Inv X pins σ H s) (ry : RelV y u) (h : TyX X.K H y (.type T)) : PySem.W.Looks (model X.prog X.w) s.heap (typeOf u) (.type T) := by
  have obj : ∀ {a : Addr} {o : Obj}, u = .ref a → s.heap.get? a = some o → o.cls = .type T → PySem.W.Looks (model X.prog X.w) s.heap (typeOf u) (.type T) := fun hu ho hc => by
    subst hu
    exact fun _ _ _ _ k z => wpAny_typeOf_ref (k _ _ ho) (by rw [hc]; exact z)
  cases h with
  | base b =>
    cases b with
    | non => cases ry; exact PySem.W.Looks.of_pure rfl
    | bl c => cases ry; exact PySem.W.Looks.of_pure rfl
    | int i => obtain ⟨t, rfl⟩ := ry; exact PySem.W.Looks.of_pure rfl
    | str z => obtain ⟨t, rfl⟩ := ry; exact PySem.W.Looks.of_pure rfl
    | flt z => obtain ⟨t, rfl⟩ := ry; exact PySem.W.Looks.of_pure rfl
    | lst e =>
      obtain ⟨its, rv, pl, _⟩ := I.list (.inl (.inl e))
      obtain ⟨o, ho, hc, _⟩ := pl.isList
      exact obj ry ho hc
    | frz e =>
      obtain ⟨its, rv, pl, _⟩ := I.list (.inl (.inr ⟨_, e⟩))
      obtain ⟨o, ho, hc, _⟩ := pl.isList
      exact obj ry ho hc
    | tup e =>
      obtain ⟨its, rv, ⟨o, ho, hc, _⟩, _⟩ := I.tuple (.inl (.inl e))
      exact obj ry ho hc
    | @dK a kvs e =>
      obtain ⟨_, _, vs, _, o, es, ep, ho, hx, _⟩ := (show ObjOk X.prog X.w H s.heap a (.dK kvs) from I.hok a _ e)
      exact obj ry ho hx.1
    | @dT a kvs e =>
      obtain ⟨_, _, xs, _, o, es, ep, h1, h2, _⟩ := (show ObjOk X.prog X.w H s.heap a (.dT kvs) from I.hok a _ e)
      exact obj ry h1 h2.1
  | byt b => obtain ⟨t, rfl⟩ := ry; exact PySem.W.Looks.of_pure rfl
  | @set a S n e =>
    obtain ⟨o, _, _, _, h1, h2, _⟩ := I.hok a _ e
    exact obj ry h1 h2.1
  | kList e c => exact obj ry (I.kIn _ _ e) c
  | kTuple e c => exact obj ry (I.kIn _ _ e) c
  | kDict e c => exact obj ry (I.kIn _ _ e) c
  | fTuple e =>
    obtain ⟨its, rv, ⟨o, ho, hc, _⟩, _⟩ := I.tuple (.inl (.inr ⟨_, e⟩))
    exact obj ry ho hc
  | @fDict a ob kvs e =>
    obtain ⟨_, _, _, vs, _, o, es, ep, h1, h2, _⟩ := (show ObjOk X.prog X.w H s.heap a (.frz ob (.dK kvs)) from I.hok a _ e)
    exact obj ry h1 h2.1
/-- x op y, x of the class at C, y any thing of a built-in type -/
def rX (X : Cx) (C : Addr) (nm : String) (sp : Sp) (E : XK) : R2 := fun x y H Q => ∃ a T, x = .ref a ∧ InsC X H a C ∧ TyX X.K H y (.type T) ∧ BesideT X.K C nm T ∧ sp [.ref a, y] H Q E
theorem op_binX {op : Operator} (h : Has X.K C g (PySem.dunder op.info.2)) (F : FnR X.prog X.w X.K X.mg X.base CX n g sp) (hr : Room n X.A) (hx : Passes CX X E) : OpR X (binaryOp op) (rX X C op.info.2 sp E) := by
  intro pins s σ H x y v u Q I rx ry hq
  obtain ⟨a, T, rfl, ha, ht, B, q⟩ := hq
  cases (show v = Value.ref a from rx)
  obtain ⟨ox, od, J, _⟩ := insC_at I ha
  exact bin_of_1 (bin1_any I.kIn J (look_ty I ry ht) B h.at_ h.fn (run_own (us := [.ref a, u]) (vs := [.ref a, y]) F hr hx I (.cons rfl (.cons ry .nil)) q))
end
end OpX
/-! any thing of a built-in type * own: the reflected one is asked -/
namespace OpX
open PySem PySem.Spec PyProof.Rows L2 StX
section
variable {prog : Program} {w : World} {A : Around} {E : Value → Shared → Prop} {s : Shared} {K : PySem.W.Frag} {x C f g : Addr} {ox : Obj} {od : Option Obj}
/-- the type T has no such number slot -/
def LeftNo (K : PySem.W.Frag) (T nm : String) : Prop := ∃ fo ro, PySem.W.findIn K (.type T) (PySem.dunder nm) = some fo ∧ PySem.W.findIn K (.type T) (dunderR nm) = some ro ∧ ((fo.isSome && !isSeqSlot fo) || (ro.isSome && !isSeqSlot ro)) = false
theorem bin1_rno {nm T : String} {b : Value} {Q : Value → Shared → Prop} (X : K.In s.heap) (I : PySem.W.InstAt s.heap x ox C od) (ty : PySem.W.Looks (model prog w) s.heap (typeOf b) (.type T)) (L : LeftNo K T nm) (hc : PySem.W.selfFirst K C = true) (hm : PySem.W.findIn K (.ref C) (PySem.dunder nm) = some (some (.ref g)))
    (hs : PySem.W.findIn K (.ref C) (dunderR nm) = some (some (.ref f))) (hf : PySem.W.isFn K (.ref f) = true) (h : wpAny (model prog w) A (call (.ref f) [.ref x, b]) (PySem.W.CmpBack Q) E s) : wpAny (model prog w) A (binaryOp1 nm b (.ref x)) (Told Q) E s := by
  obtain ⟨cd, rest, hcd, hmm⟩ := PySem.W.ksp_first hc
  obtain ⟨fo, ro, h1, h2, hno⟩ := L
  have mine := PySem.W.fills_K (M := model prog w) X hcd hmm hm
  have none_ := PySem.W.ksp_fillsT (M := model prog w) X h1 h2
  rw [hno] at none_
  have unlike : (Value.type T == Value.ref C) = false := by simp
  have answer := PySem.W.ksp_try (name := dunderR nm) X I hs hf h
  unfold binaryOp1
  refine wpAny_bind (ty.here (wpAny_bind (I.type.here (wpAny_bind (none_.here ?_)))))
  simp only [unlike, Bool.false_eq_true, if_false]
  refine wpAny_bind (mine.here ?_)
  simp only [Bool.false_and, Bool.false_eq_true, if_false, pure_bind, Bool.not_false, Bool.and_self, if_true]
  exact wpAny_bind (wpAny_mono answer (fun r s' ⟨v, e, q⟩ => by
    subst e
    exact wpAny_bind (wpAny_rule (wpAny_pure ⟨v, rfl, q⟩))) fun _ _ z => z)
open Builtin in
/-- a bool does not know an instance -/
theorem boolMul_ref {Q : Value → Shared → Prop} {c : Bool} (ho : s.heap.get? x = some ox) (hd : ox.data = .plain) (h : Q .notImplemented s) : wpAny (model prog w) A (call (.builtin "int.__mul__") [.bool c, .ref x]) Q E s := by
  refine wpAny_call (codeAny_call_builtin PySem.F.slot_bool_mul.plain PySem.F.entry_int_mul (PySem.F.slot_bool_mul.check _ _ _ _ _ _ _ _ rfl (PySem.F.args_int_mul_2 _ _) ?_))
  unfold Builtin.«int.__mul__»
  unfold Int.intBinary
  refine wpAny_bind (m := slotArgs "__mul__" 1 _) (wpAny_pure ?_)
  refine wpAny_bind (m := Int.intOfSelf _) (wpAny_bind (m := asInt? _) (wpAny_pure (wpAny_pure ?_)))
  refine wpAny_bind (m := asInt? (.ref x)) (wpAny_bind (wpAny_load ho ?_))
  rw [hd]
  exact wpAny_pure (wpAny_bind (wpAny_rule (wpAny_pure h)))
theorem bin1_rbool {c : Bool} {Q : Value → Shared → Prop} (X : K.In s.heap) (I : PySem.W.InstAt s.heap x ox C od) (hd : ox.data = .plain) (hc : PySem.W.selfFirst K C = true) (hm : PySem.W.findIn K (.ref C) (PySem.dunder "mul") = some (some (.ref g)))
    (hs : PySem.W.findIn K (.ref C) (dunderR "mul") = some (some (.ref f))) (hf : PySem.W.isFn K (.ref f) = true) (hsub : PySem.W.subIn K (.ref C) (.type "bool") = some false)
    (h : wpAny (model prog w) A (call (.ref f) [.ref x, .bool c]) (PySem.W.CmpBack Q) E s) : wpAny (model prog w) A (binaryOp1 "mul" (.bool c) (.ref x)) (Told Q) E s := by
  obtain ⟨cd, rest, hcd, hmm⟩ := PySem.W.ksp_first hc
  have mine := PySem.W.fills_K (M := model prog w) X hcd hmm hm
  have apart := PySem.W.looks_subIn (M := model prog w) X hsub
  have plainB : numberSlotInPython (.type "bool") "mul" = pure false := rfl
  have unlike : (Value.type "bool" == Value.ref C) = false := by simp
  have answer := PySem.W.ksp_try (name := dunderR "mul") X I hs hf h
  unfold binaryOp1
  refine wpAny_bind (wpAny_typeOf (T := "bool") rfl (wpAny_bind (I.type.here (wpAny_bind (wpAny_of_eq PySem.F.fills_bool_mul ?_)))))
  simp only [unlike, Bool.false_eq_true, if_false]
  refine wpAny_bind (mine.here ?_)
  simp only [Bool.and_self, if_true]
  refine wpAny_bind (apart.here ?_)
  simp only [plainB, Bool.not_false, Bool.and_self, Bool.false_eq_true, if_true, if_false, pure_bind]
  refine wpAny_bind (wpAny_tryMethod_declines (T := "bool") rfl PySem.F.slot_bool_mul (boolMul_ref I.at_ hd ⟨rfl, ?_⟩))
  simp only [pure_bind]
  exact wpAny_bind (wpAny_mono answer (fun r s' ⟨v, e, q⟩ => by
    subst e
    exact wpAny_bind (wpAny_rule (wpAny_pure ⟨v, rfl, q⟩))) fun _ _ z => z)
end
section
variable {X : Cx} {CX : CXT} {n : Nat} {C g g' : Addr} {sp : Sp} {E : XK}
/-- y * x, x of the class at C; y an int, a bool, or of a type without such a slot -/
def rXR (X : Cx) (C : Addr) (sp : Sp) (E : XK) : R2 := fun y x H Q => ∃ a, x = .ref a ∧ InsC X H a C ∧ ((∃ i, y = .int i) ∨ (∃ c, y = .bl c) ∨ ∃ T, TyX X.K H y (.type T) ∧ LeftNo X.K T "mul") ∧ sp [.ref a, y] H Q E
theorem op_rmulX (hc : PySem.W.selfFirst X.K C = true) (hm : PySem.W.findIn X.K (.ref C) (PySem.dunder "mul") = some (some (.ref g'))) (h : Has X.K C g (dunderR "mul")) (hsI : PySem.W.subIn X.K (.ref C) (.type "int") = some false) (hsB : PySem.W.subIn X.K (.ref C) (.type "bool") = some false)
    (F : FnR X.prog X.w X.K X.mg X.base CX n g sp) (hr : Room n X.A) (hx : Passes CX X E) : OpR X (binaryOp .Mult) (rXR X C sp E) := by
  intro pins s σ H y x v u Q I ry rx hq
  obtain ⟨a, rfl, ha, hy, q⟩ := hq
  cases (show u = Value.ref a from rx)
  obtain ⟨ox, od, J, hd⟩ := insC_at I ha
  have go := run_own (us := [.ref a, v]) (vs := [.ref a, y]) F hr hx I (.cons rfl (.cons ry .nil)) q
  rcases hy with ⟨i, rfl⟩ | ⟨c, rfl⟩ | ⟨T, ht, L⟩
  · obtain ⟨t, rfl⟩ := (show ∃ t, v = Value.int i t from ry)
    exact mul_of_bin1 (bin1_rint I.kIn J hd hc hm h.at_ h.fn hsI go)
  · cases (show v = Value.bool c from ry)
    exact mul_of_bin1 (bin1_rbool I.kIn J hd hc hm h.at_ h.fn hsB go)
  · exact mul_of_bin1 (bin1_rno I.kIn J (look_ty I ry ht) L hc hm h.at_ h.fn go)
end
end OpX
namespace L2
open PySem PySem.Spec PyProof.Rows
/-! ### defs that are called where no repr runs (the law, and what it calls): FnG -/
def Qt (A : Around) : Prop := A.guards = some []
theorem Qt.deeper {A : Around} (h : Qt A) (env : Env) : Qt (A.deeper env) := h
structure FnG (P : Program) (w : World) (K : PySem.W.Frag) (mg : Str → Option Value) (base : Heap) (k : Nat) (f : Addr) (fd : FuncData) (ps : List Str) (sp : Sp) : Prop where
  len : ∀ vs H Q E, sp vs H Q E → vs.length = ps.length
  run : ∀ (A : Around) (outer : List Env) (s : Shared) (H : Hp) (args : Args) (us : List Value) (vs : List V) (Q : VK) (E : XK), Qt A → Room k A → Env0 P w K mg base A outer s H → BindsTo s fd args (ps.zip us) → Vals vs us → sp vs H Q E →
    codeAny (model P w) A (.call (.ref f) args) (CR CX0 outer P w H s Q E) s
/-- a def whose body is walked where no repr runs -/
theorem fnG_of {P : Program} {w : World} {K : PySem.W.Frag} {mg : Str → Option Value} {base : Heap} {k : Nat} {f : Addr} {fd : FuncData} {x qual : Str} {st : Stmt} {N ps : List Str} {sp : Sp} (F : Fun K x qual st f fd) (S : FnScope N ps (defScope st))
    (len : ∀ vs H Q E, sp vs H Q E → vs.length = ps.length)
    (hbody : ∀ (cdv : Value) (A : Around) (outer : List Env) (s : Shared) (H : Hp) (vs : List V) (Q : VK) (E : XK), Qt A → Room k (A.deeper (envOfC qual (defScope st) s.heap.objs.size f cdv)) → sp vs H Q E →
      ∃ t, PSs (cxOf CX0 P w K mg base N qual (defScope st) f cdv A outer s H E).nox (defBody st) t ∧ t { nx := fun _ H' => Q .non H', rt := Q } (start N vs) H) : FnG P w K mg base (k + 1) f fd ps sp := by
  obtain ⟨oc, od, kV, doc, pm, an, cdv, ct, osl, rfl, lk, hcd⟩ := F.ex
  refine ⟨len, fun A outer s H args us vs Q E gd room e0 bound rel hsp => ?_⟩
  obtain ⟨t, ht, hq⟩ := hbody cdv A outer s H vs Q E gd (room.deeper _) hsp
  have many := len _ _ _ _ hsp
  have inK : K.In s.heap := e0.mod.kin.keeps fun b o e => (e0.bs b o e).1
  have free : s.heap.NoLimit := e0.mod.nolimit.keeps fun b o e => (e0.bs b o e).1
  refine codeAny_call_function room.depth (inK _ _ lk) rfl S.co S.gen rfl (PySem.W.codeRec_of inK hcd) (bound _ _ _ _ ?_)
  have kinds : ∀ y ∈ ps.zip us, (defScope st).names.lookup y.1 = some .local ∨ ((defScope st).names.lookup y.1 = some .cell ∧ ((cellsFrom (s.heap.objs.size + 1) (defScope st).names []).lookup y.1).isSome = true) := by
    rintro ⟨n, v⟩ hy
    exact (S.par n (List.of_mem_zip hy).1).imp id fun q => ⟨q, PySem.W.cellsFrom_some _ _ _ (.inl q)⟩
  refine wpAny_newFunctionEnv_cells S.kind kinds fun env he s1 x => ?_
  cases he
  refine ⟨free.keeps x.toInCall.keep, codeAny_func ?_⟩
  refine wpAny_mono (ht.nox.run [] s1 (start N vs) H _ (inv_start S room.hd e0 many rel x) hq) (fun fl s' hs => ?_) fun e s' hs => hs
  cases fl with
  | ret u =>
    obtain ⟨v, σ', H', J, rv, q⟩ := hs
    exact ⟨v, H', J.os, J.bare, J.base, J.hok, rv, q⟩
  | next =>
    obtain ⟨σ', H', J, q⟩ := hs
    exact ⟨V.non, H', J.os, J.bare, J.base, J.hok, rfl, q⟩
  | brk => exact (hs.choose_spec.choose_spec.2).elim
  | cont => exact (hs.choose_spec.choose_spec.2).elim
section
variable {X : Cx} {k : Nat} {f : Addr} {fd : FuncData} {ps : List Str} {sp : Sp} {x : Str} {p pos : Pos} {e : Expr} {es : List Expr} {t : TA}
theorem pe_callG (F : FnG X.prog X.w X.K X.mg X.base k f fd ps sp) (gd : Qt X.A) (hr : Room k X.A) (hg : Gl X x) (hm : X.mg x = some (.ref f)) (hk : PySem.W.keepIn X.K (.ref f) = true) (hb : Binds X.K fd ps [])
    (ha : PA X (e :: es) t) (hdb : (x == ("__debug__" : Str)) = false := by decide) (he : starEach (e :: es) X.env = (false, eval e X.env) :: starEach es X.env := by rfl) (hpl : (backTo pos (starEach es X.env)).any (·.1) = false := by rfl) :
    PE X (.Call (.Name x p) (e :: es) [] pos) (tCall sp [] E0 t) := by
  refine ⟨fun pins s σ H Q I h => ?_⟩
  refine wpAny_Call_Name_kw (ld_glob I hg hm ?_ hdb)
  refine PySem.W.callWith_K (h₀ := X.base) I.ok.mod.kin hk (thn (ha.run pos pins s σ H _ I h) fun us s1 ⟨vs, H1, I1, r, q⟩ => ⟨I1.kIn, ?_⟩) he hpl
  have q0 : sp vs H1 Q E0 := by simpa using q
  have many : us.length = ps.length := r.length.symm.trans (F.len _ _ _ _ q0)
  have bd : BindsTo s1 fd ⟨us, []⟩ (ps.zip us) := by simpa using hb s1 us I1.kIn (by simpa using many)
  show wpAny _ _ (call (.ref f) us) _ _ _
  refine wpAny_call (codeAny_mono (F.run X.A X.stack s1 H1 ⟨us, []⟩ us vs Q E0 gd hr I1.env0 bd r q0) fun res s' hq => ?_)
  cases res with
  | error er => exact (show False from hq).elim
  | ok fl =>
    cases fl with
    | next => exact False.elim hq
    | brk => exact False.elim hq
    | cont => exact False.elim hq
    | ret u => exact I1.after hq
end

/-! ### repr of data -/
mutual
inductive Ds (K : PySem.W.Frag) (H : Hp) : V → PyData → Prop
  | non : Ds K H .non .none
  | bl (b : Bool) : Ds K H (.bl b) (.bool b)
  | int (i : Int) : Ds K H (.int i) (.int i)
  | str (x : Str) : Ds K H (.str x) (.str x)
  | lst {a : Addr} {xs : List V} {ds : List PyData} : SqL K H a xs → a ≠ sysModules → DsAll K H xs ds → Ds K H (.ref a) (.list ds)
  | tup {a : Addr} {xs : List V} {ds : List PyData} : SqT K H a xs → DsAll K H xs ds → Ds K H (.ref a) (.tuple ds)
  | one {a : Addr} {x : Str} {i : Int} : H a = some (.dK [(.inr x, .int i)]) → Ds K H (.ref a) (.dict [(.str x, .int i)])
  | emp {a : Addr} : H a = some (.dK []) → Ds K H (.ref a) (.dict [])
inductive DsAll (K : PySem.W.Frag) (H : Hp) : List V → List PyData → Prop
  | nil : DsAll K H [] []
  | cons {v : V} {vs : List V} {d : PyData} {ds : List PyData} : Ds K H v d → DsAll K H vs ds → DsAll K H (v :: vs) (d :: ds)
end
section
variable {X : Cx} {pins : List (Addr × Obj)} {σ : St} {H : Hp} {s : Shared}
theorem pairs_one {P : Program} {w : World} {x : Str} {i : Int} {es : List DictEntry} {vs : List (Key × Value)} (hp : Pairs (mixKind P w) es vs) (kv : KV [((Sum.inr x : Key), V.int i)] vs) (h : Heap) :
    ReadsAll h (es.map (·.key)) [.str x] [] ∧ ReadsAll h (es.map (·.val)) [.int i] [] := by
  cases kv with
  | cons k1 k2 =>
    cases k2
    rename_i q
    obtain ⟨k, u⟩ := q
    obtain ⟨e1, e2⟩ := k1
    simp only at e1 e2
    subst e1
    obtain ⟨t, rfl⟩ := e2
    cases hp with
    | cons i1 i2 i3 =>
      rename_i e es'
      cases i3
      rcases keyIs_shape (show keyIs (Sum.inr x) e.key = true from i1) with ⟨j, t', e3, e4⟩ | ⟨y, t', e3, e4⟩
      · cases e3
      · cases e3
        rw [List.map_cons, List.map_nil, e4, List.map_cons, List.map_nil, i2]
        exact ⟨ReadsAll.cons (as := []) (bs := []) (Reads.str x t') ReadsAll.nil, ReadsAll.cons (as := []) (bs := []) (Reads.int i t) ReadsAll.nil⟩
theorem pairs_nil {P : Program} {w : World} {es : List DictEntry} (hp : Pairs (mixKind P w) es ([] : List (Key × Value))) (h : Heap) : ReadsAll h (es.map (·.key)) [] [] ∧ ReadsAll h (es.map (·.val)) [] [] := by
  cases hp
  exact ⟨ReadsAll.nil, ReadsAll.nil⟩
mutual
theorem Ds.reads (I : Inv X pins σ H s) : ∀ (d : PyData) (v : V) (u : Value), Ds X.K H v d → RelV v u → ∃ as, Reads s.heap u d as ∧ sysModules ∉ as
  | .none, _, _, h, r => by
    cases h
    cases r
    exact ⟨_, Reads.none, by simp⟩
  | .bool b, _, _, h, r => by
    cases h
    cases r
    exact ⟨_, Reads.bool b, by simp⟩
  | .int i, _, _, h, r => by
    cases h
    obtain ⟨t, rfl⟩ := r
    exact ⟨_, Reads.int i t, by simp⟩
  | .str x, _, _, h, r => by
    cases h
    obtain ⟨t, rfl⟩ := r
    exact ⟨_, Reads.str x t, by simp⟩
  | .list ds, _, _, h, r => by
    cases h with
    | lst hs hne ha =>
      cases r
      obtain ⟨its, rv, ⟨o, n, ho, hc, _, hd⟩, _⟩ := I.list hs
      obtain ⟨as, hr, hq⟩ := Ds.readsAll I ds _ its ha rv
      exact ⟨_, Reads.list ho hc hd hr, by simp only [List.mem_cons, not_or]; exact ⟨Ne.symm hne, hq⟩⟩
  | .tuple ds, _, _, h, r => by
    cases h with
    | tup hs ha =>
      cases r
      obtain ⟨its, rv, ⟨o, ho, hc, n, hd⟩, _⟩ := I.tuple hs
      obtain ⟨as, hr, hq⟩ := Ds.readsAll I ds _ its ha rv
      exact ⟨_, Reads.tuple ho hc hd hr, hq⟩
  | .dict _, _, _, h, r => by
    cases h with
    | @one a x i h =>
      cases r
      obtain ⟨_, ns, vs, kv, o, es, ep, ho, hx, hd, _, hp, _⟩ := (show ObjOk X.prog X.w H s.heap a (.dK [(.inr x, .int i)]) from I.hok a _ h)
      obtain ⟨r1, r2⟩ := pairs_one hp kv s.heap
      exact ⟨_, Reads.dict ho hx.1 hd r1 r2, by
        simp only [List.append_nil, List.mem_cons, List.not_mem_nil, or_false]
        exact fun z => absurd (beq_iff_eq.mpr z.symm) (by rw [ns]; decide)⟩
    | @emp a h =>
      cases r
      obtain ⟨_, ns, vs, kv, o, es, ep, ho, hx, hd, _, hp, _⟩ := (show ObjOk X.prog X.w H s.heap a (.dK []) from I.hok a _ h)
      cases kv
      obtain ⟨r1, r2⟩ := pairs_nil hp s.heap
      exact ⟨_, Reads.dict ho hx.1 hd r1 r2, by
        simp only [List.append_nil, List.mem_cons, List.not_mem_nil, or_false]
        exact fun z => absurd (beq_iff_eq.mpr z.symm) (by rw [ns]; decide)⟩
theorem Ds.readsAll (I : Inv X pins σ H s) : ∀ (ds : List PyData) (vs : List V) (us : List Value), DsAll X.K H vs ds → Vals vs us → ∃ as, ReadsAll s.heap us ds as ∧ sysModules ∉ as
  | [], _, _, h, r => by
    cases h
    cases r
    exact ⟨_, ReadsAll.nil, by simp⟩
  | d :: ds, _, _, h, r => by
    cases h with
    | cons h1 h2 =>
      cases r with
      | cons r1 r2 =>
        obtain ⟨as, q1, n1⟩ := Ds.reads I d _ _ h1 r1
        obtain ⟨bs, q2, n2⟩ := Ds.readsAll I ds _ _ h2 r2
        exact ⟨_, ReadsAll.cons q1 q2, by rw [List.mem_append]; exact fun z => z.elim n1 n2⟩
end
end
/-- repr(x), x such data -/
def rRepr (K : PySem.W.Frag) : List V → Hp → VK → Prop := fun xs H Q => ∃ (x : V) (d : PyData), xs = [x] ∧ Ds K H x d ∧ d.showable = true ∧ d.depth ≤ 60 ∧ d.shown.length ≤ sizeLine ∧ Q (.str d.shown) H
theorem call_reprD {X : Cx} (gd : Qt X.A) (hu : X.A.units + 64 < cLine) : CallR X (.builtin "repr") (rRepr X.K) := by
  intro pins s σ H xs us Q I r h
  obtain ⟨x, d, rfl, hd, sh, dp, sz, q⟩ := h
  obtain ⟨u, rfl, ru⟩ := vals1 r
  obtain ⟨as, rd, ns⟩ := Ds.reads I d x u hd ru
  cases rd with
  | none => exact PySem.P.repr_of_none ⟨.str _, H, I.tok _, ⟨_, rfl⟩, q⟩
  | bool b => exact PySem.P.repr_of_bool ⟨.str _, H, I.tok _, ⟨_, rfl⟩, q⟩
  | int i t => exact PySem.P.repr_of_int (of_decide_eq_true sh) ⟨.str _, H, I.tok _, ⟨_, rfl⟩, q⟩
  | str z t => exact PySem.P.repr_of_str ⟨.str _, H, I.tok _, ⟨_, rfl⟩, q⟩ sz
  | list h1 h2 h3 h4 => exact repr_of_reads' (Reads.list h1 h2 h3 h4) sh (fun _ => ns) gd (by omega) (fun _ _ z => z) (fun h' u tk k => ⟨.str _, H, I.kept k, ⟨_, rfl⟩, q⟩) sz
  | tuple h1 h2 h3 h4 => exact repr_of_reads' (Reads.tuple h1 h2 h3 h4) sh (fun _ => ns) gd (by omega) (fun _ _ z => z) (fun h' u tk k => ⟨.str _, H, I.kept k, ⟨_, rfl⟩, q⟩) sz
  | dict h1 h2 h3 h4 h5 => exact repr_of_reads' (Reads.dict h1 h2 h3 h4 h5) sh (fun _ => ns) gd (by omega) (fun _ _ z => z) (fun h' u tk k => ⟨.str _, H, I.kept k, ⟨_, rfl⟩, q⟩) sz
/-- a list display, whose place is known not to be the table of modules -/
def tLstS (t : TA) : TE := fun σ H Q => t σ H fun xs H1 => xs.length ≤ sizeLine ∧ ∀ l, H1 l = none → l ≠ sysModules → Q (.ref l) (upd H1 l (.lst xs))
theorem pe_lstS {X : Cx} {es : List Expr} {t : TA} {pos : Pos} (h : PA X es t) : PE X (.List es pos) (tLstS t) := by
  refine ⟨fun pins s σ H Q I hq => ?_⟩
  refine wpAny_List_spliced (thn (h.run pos pins s σ H _ I hq) fun us s1 ⟨xs, H1, I1, r, z, q⟩ => ⟨by rw [← r.length]; exact z, ?_⟩)
  have far : s1.heap.objs.size ≠ sysModules := by
    have z1 : (3 : Nat) < X.base.objs.size := I1.mod.glob.lt
    have z2 := I1.ok.bsz
    have z3 := I1.sz
    show s1.heap.objs.size ≠ 1
    omega
  exact ⟨.ref s1.heap.objs.size, _, I1.laid (t' := s1.toks) (o := .lst xs) (fun b u e => Heap.get?_push_of_some _ e) (Nat.le_refl _) ⟨z, us, 0, r, Heap.get?_push_size _ rfl⟩, rfl, q _ (I1.hok.fresh (Nat.le_refl _)) far⟩
end L2
namespace L2
open PySem PySem.Spec PyProof.Rows
/-! ### the law's end, for a law that is walked where no repr runs -/
/-- the law's end from a heap in which nothing but the script may be tracked -/
theorem lawG_core {P : Program} {w : World} {K : PySem.W.Frag} {mg mb : Str → Option Value} {k : Nat} {fa a : Addr} {fd : FuncData} {x : Str} {sp : Sp} {s : Shared} {vs : List Value} {ns : List Int} {H : Hp}
    (KX : K.In s.heap) (hns : s.heap.Ns mainGlobals mg) (hb : s.heap.Ns builtinsNs mb) (hbb : ∀ x : Str, x ≠ "__name__" → mb x = bootBuiltins x) (hlim : s.heap.NoLimit) (hg : s.gens = #[])
    (ha : s.heap.get? a = some { cls := .type "list", data := .seq vs.toArray }) (hr : Room k callerA)
    (F : ∀ base : Heap, K.In base → base.Ns mainGlobals mg → FnG P w K mg base k fa fd [x] sp) (hbind : ∀ (s : Shared) (u : Value), BindsTo s fd ⟨[u], []⟩ [(x, u)])
    (hO : Only H) (hok : HOk P w H s.heap) (hA : ∀ b, H b ≠ none → b = a) (hK : H a ≠ none → K.lookup a = none)
    (hsp : sp [.ref a] H (fun v _ => v = .bl true) E0) :
    codeAny (model P w) callerA (.call (.ref fa) ⟨[.ref a], []⟩) (fun r s' => r = .ok (.ret (.bool true)) ∧ OldK s.heap s'.heap ∧ s'.os = s.os ∧ AllBare s'.gens) s := by
  have apart : ∀ {b : Addr} {o : Obj}, s.heap.get? b = some o → (b = a → False) → (hidT s.heap H).get? b = some o := fun {b o} e n => hidT_get e (Classical.byContradiction fun z => n (hA b z))
  have space : ∀ {b : Addr} {m : Str → Option Value}, s.heap.Ns b m → (hidT s.heap H).Ns b m := fun {b m} ⟨o, es, ep, e, d, r⟩ => ⟨o, es, ep, apart e fun z => by
    subst z
    rw [ha] at e
    cases e
    exact Data.noConfusion (show Data.seq vs.toArray _ = Data.dict es ep from d), d, r⟩
  have inb : K.In (hidT s.heap H) := fun b o e => hidT_get (KX b o e) (Classical.byContradiction fun z => by
    obtain rfl := hA b z
    rw [hK z] at e
    cases e)
  have world : Mod K mg (hidT s.heap H) := ⟨inb, space hns, ⟨mb, space hb, hbb⟩, hlim.elim fun mc z => ⟨mc, space z.1, z.2⟩⟩
  have start0 : Env0 P w K mg (hidT s.heap H) callerA [] s H := ⟨rfl, world, fun _ _ z => of_hidT z, Nat.le_of_eq (hidT_size _ _), trivial, fun b hb => absurd hb List.not_mem_nil, hok, .of_eq hg⟩
  refine codeAny_mono ((F _ inb (space hns)).run callerA [] s H ⟨[.ref a], []⟩ [.ref a] [.ref a] _ E0 rfl hr start0 (hbind s (.ref a)) (.cons rfl .nil) hsp) fun r s' h => ?_
  cases r with
  | error e => exact (show False from h).elim
  | ok fl =>
    cases fl with
    | next => exact False.elim h
    | brk => exact False.elim h
    | cont => exact False.elim h
    | ret u =>
      obtain ⟨v, H', os, bare, un, hok', r', q⟩ := h
      obtain rfl : v = .bl true := q
      obtain rfl : u = Value.bool true := r'
      refine ⟨rfl, OldK.of_keep fun b o e => ?_, os, bare⟩
      rcases hO b with z | ⟨ob, xs, z⟩
      · exact un.keep b o e z List.not_mem_nil List.not_mem_nil
      · have e1 := (hok b _ z).1
        have e2 := (hok' b _ (un.frzs b ob _ z)).1
        rw [e] at e1
        cases e1
        exact e2
theorem lawG_call {P : Program} {w : World} {K : PySem.W.Frag} {mg mb : Str → Option Value} {k : Nat} {fa a : Addr} {fd : FuncData} {x : Str} {sp : Sp} {s : Shared} {vs : List Value} {ns : List Int}
    (KX : K.In s.heap) (hns : s.heap.Ns mainGlobals mg) (hb : s.heap.Ns builtinsNs mb) (hbb : ∀ x : Str, x ≠ "__name__" → mb x = bootBuiltins x) (hlim : s.heap.NoLimit) (hg : s.gens = #[])
    (ha : s.heap.get? a = some { cls := .type "list", data := .seq vs.toArray }) (hi : IntsAre vs ns) (hl : ns.length ≤ sizeLine) (hr : Room k callerA)
    (F : ∀ base : Heap, K.In base → base.Ns mainGlobals mg → FnG P w K mg base k fa fd [x] sp) (hbind : ∀ (s : Shared) (u : Value), BindsTo s fd ⟨[u], []⟩ [(x, u)])
    (hsp : ∀ H : Hp, Only H → SqL K H a (ns.map V.int) → sp [.ref a] H (fun v _ => v = .bl true) E0) :
    codeAny (model P w) callerA (.call (.ref fa) ⟨[.ref a], []⟩) (fun r s' => r = .ok (.ret (.bool true)) ∧ OldK s.heap s'.heap ∧ s'.os = s.os ∧ AllBare s'.gens) s := by
  have rv := vals_ints hi
  cases hk : K.lookup a with
  | some o =>
    have e := KX a o hk
    rw [ha] at e
    cases e
    have hS : SqL K (fun _ => none) a (ns.map V.int) := .inr ⟨_, vs.toArray, _, hk, rfl, rfl, rfl, by rw [List.size_toArray, hi.length]; exact hl, by simpa using rv⟩
    exact lawG_core (ns := ns) KX hns hb hbb hlim hg ha hr F hbind (fun _ => .inl rfl) (fun b u z => by cases (show (none : Option HO) = some u from z)) (fun b z => absurd rfl z) (fun z => absurd rfl z) (hsp _ (fun _ => .inl rfl) hS)
  | none =>
    let ob : Obj := { cls := .type "list", data := .seq vs.toArray }
    let H : Hp := upd (fun _ => none) a (.frz ob (.lst (ns.map V.int)))
    have hO : Only H := fun b => by
      by_cases z : b = a
      · exact .inr ⟨_, _, by rw [z]; exact upd_same⟩
      · exact .inl (upd_ne z)
    have only : ∀ b, H b ≠ none → b = a := fun b z => Classical.byContradiction fun n => z (upd_ne n)
    refine lawG_core (ns := ns) (H := H) KX hns hb hbb hlim hg ha hr F hbind hO (fun b u z => ?_) only (fun _ => hk) (hsp H hO (.inl (.inr ⟨ob, upd_same⟩)))
    obtain rfl := only b (by rw [z]; simp)
    cases upd_same.symm.trans z
    exact ⟨ha, by rw [List.length_map]; exact hl, vs, _, rv, ha⟩
theorem walkG_of {l : PySem.W.OpenLaw} {n k : Nat} {q : Program} {loose : List Str} {XP : (Str → Option Value) → Heap → Prop} {YP : World → Heap → Prop} {d : DefRec} {K : Params → PySem.W.Frag} {sp : World → Sp} {x : Str}
    (hn : l.most = some n) (hn2 : n ≤ sizeLine) (hdf : d.params.defaults = []) (hr : Room k callerA)
    (hY : ∀ (w : World) (h : Heap), YP w h → (K w.params).In h)
    (F : ∀ (w : World) (mg : Str → Option Value) (fa : Addr) (h : Heap), (K w.params).In h → h.Ns mainGlobals mg → mg d.name = some (.ref fa) →
      ∃ fd : FuncData, (∀ (s : Shared) (u : Value), BindsTo s fd ⟨[u], []⟩ [(x, u)]) ∧ ∀ base : Heap, (K w.params).In base → base.Ns mainGlobals mg → FnG l.prog w (K w.params) mg base k fa fd [x] (sp w))
    (hsp : ∀ (w : World) (H : Hp) (a : Addr) (ns : List Int), ns.length ≤ n → Only H → SqL (K w.params) H a (ns.map V.int) → sp w [.ref a] H (fun v _ => v = .bl true) E0) :
    PySem.W.WalkO q loose XP YP l.row.toRowW d [] (fun f vs => PySem.call f vs) := by
  refine Att.attach_call hn hdf fun w s₀ s₁ mg mb fa o pm cd doc a vs ns G Y ho hd hcd hmg hobj hints hlen hg => ?_
  obtain ⟨fd, hb, hF⟩ := F w mg fa _ (hY w _ Y) G.T.g hmg
  exact lawG_call (hY w _ Y) G.T.g G.T.b G.T.builtins G.T.nolimit hg hobj hints (Nat.le_trans hlen hn2) hr hF hb fun H hO hS => hsp w H a ns hlen hO hS
end L2
/-! the law's end, for a law that is walked where no repr runs and whose defs make code objects -/
namespace L2
open PySem PySem.Spec PyProof.Rows LamX
theorem lawT_core {P : Program} {w : World} {K : PySem.W.Frag} {mg mb : Str → Option Value} {k : Nat} {fa a : Addr} {cs : List (Addr × Addr)} {fd : FuncData} {x : Str} {sp : Sp} {s : Shared} {vs : List Value} {H : Hp}
    (KX : K.In s.heap) (hns : s.heap.Ns mainGlobals mg) (hb : s.heap.Ns builtinsNs mb) (hbb : ∀ x : Str, x ≠ "__name__" → mb x = bootBuiltins x) (hlim : s.heap.NoLimit) (hg : s.gens = #[])
    (hT : ∀ p ∈ cs, s.heap.get? p.2 = some { cls := .none, data := .fields #[] }) (nT : ∀ p ∈ cs, K.lookup p.2 = none) (C : ∀ p ∈ cs, PySem.W.CodeHd s.heap p.1 p.2)
    (hbm : ∃ (bm : Addr) (ob : Obj), mg "__builtins__" = some (.ref bm) ∧ bm ≠ builtinsNs ∧ s.heap.get? bm = some ob ∧ ob.cls = .type "module" ∧ ob.dict = some builtinsNs ∧ ob.data = .plain)
    (ha : s.heap.get? a = some { cls := .type "list", data := .seq vs.toArray }) (hr : Room k callerA)
    (F : ∀ base : Heap, K.In base → base.Ns mainGlobals mg → (∀ p ∈ cs, TabB base mg p.1 p.2) → FnG P w K mg base k fa fd [x] sp) (hbind : ∀ (s : Shared) (u : Value), BindsTo s fd ⟨[u], []⟩ [(x, u)])
    (hH : ∀ p ∈ cs, H p.2 = some (.tbl #[])) (hO : ∀ b, (∃ p ∈ cs, p.2 = b) ∨ H b = none ∨ ∃ o xs, H b = some (.frz o (.lst xs))) (hok : HOk P w H s.heap) (hA : ∀ b, H b ≠ none → b = a ∨ ∃ p ∈ cs, p.2 = b) (hK : H a ≠ none → K.lookup a = none)
    (hsp : sp [.ref a] H (fun v _ => v = .bl true) E0) :
    codeAny (model P w) callerA (.call (.ref fa) ⟨[.ref a], []⟩) (fun r s' => r = .ok (.ret (.bool true)) ∧ OldK s.heap s'.heap ∧ s'.os = s.os ∧ AllBare s'.gens) s := by
  -- what H tells of is the script or an empty table
  have told : ∀ {b : Addr} {o : Obj}, s.heap.get? b = some o → H b ≠ none → o.data = .seq vs.toArray ∨ o.data = .fields #[] := fun {b o} e n => by
    rcases hA b n with z | ⟨p, hp, z⟩
    · rw [z, ha] at e
      cases e
      exact .inl rfl
    · rw [← z, hT p hp] at e
      cases e
      exact .inr rfl
  have apart : ∀ {b : Addr} {o : Obj}, s.heap.get? b = some o → o.data ≠ .seq vs.toArray → o.data ≠ .fields #[] → (hidT s.heap H).get? b = some o := fun {b o} e n1 n2 => hidT_get e (Classical.byContradiction fun z => (told e z).elim n1 n2)
  have space : ∀ {b : Addr} {m : Str → Option Value}, s.heap.Ns b m → (hidT s.heap H).Ns b m := fun {b m} ⟨o, es, ep, e, d, r⟩ => ⟨o, es, ep, apart e (by rw [d]; exact fun z => (nomatch z)) (by rw [d]; exact fun z => (nomatch z)), d, r⟩
  have inb : K.In (hidT s.heap H) := fun b o e => hidT_get (KX b o e) (Classical.byContradiction fun n => by
    rcases hA b n with z | ⟨p, hp, z⟩
    · subst z
      rw [hK n] at e
      cases e
    · rw [← z, nT p hp] at e
      cases e)
  have world : Mod K mg (hidT s.heap H) := ⟨inb, space hns, ⟨mb, space hb, hbb⟩, hlim.elim fun mc z => ⟨mc, space z.1, z.2⟩⟩
  have start0 : Env0 P w K mg (hidT s.heap H) callerA [] s H := ⟨rfl, world, fun _ _ z => of_hidT z, Nat.le_of_eq (hidT_size _ _), trivial, fun b hb => absurd hb List.not_mem_nil, hok, .of_eq hg⟩
  have noDict : ∀ {b : Addr} {m : Str → Option Value} {o : Obj}, s.heap.Ns b m → s.heap.get? b = some o → (∀ es ep, o.data ≠ .dict es ep) → False := fun {b m o} ⟨o', es, ep, e, d, _⟩ e' n => by
    rw [e] at e'
    cases e'
    exact n es ep d
  have tabs : ∀ p ∈ cs, TabB (hidT s.heap H) mg p.1 p.2 := fun p hp => by
    refine ⟨?_, ?_, fun z => noDict hns (by rw [z]; exact hT p hp) fun es ep z => by cases z⟩
    · obtain ⟨o, us, file, tf, flags, tg, inF, text, tt, e1, r1, r2, r3, rest⟩ := C p hp
      refine ⟨o, us, file, tf, flags, tg, inF, text, tt, apart e1 (by rw [r2]; exact fun z => (nomatch z)) (fun z => ?_), r1, r2, r3, rest⟩
      rw [r2] at z
      cases z
      simp at r3
    · obtain ⟨bm, ob, b1, b2, b3, b4, b5, b6⟩ := hbm
      refine ⟨bm, ob, b1, b2, fun z => noDict hns (by rw [← z]; exact b3) fun es ep => by rw [b6]; exact fun z => (nomatch z), fun z => ?_, apart b3 (by rw [b6]; exact fun z => (nomatch z)) (by rw [b6]; exact fun z => (nomatch z)), b4, b5, b6⟩
      rw [z, hT p hp] at b3
      cases b3
      cases b6
  refine codeAny_mono ((F _ inb (space hns) tabs).run callerA [] s H ⟨[.ref a], []⟩ [.ref a] [.ref a] _ E0 rfl hr start0 (hbind s (.ref a)) (.cons rfl .nil) hsp) fun r s' h => ?_
  cases r with
  | error e => exact (show False from h).elim
  | ok fl =>
    cases fl with
    | next => exact False.elim h
    | brk => exact False.elim h
    | cont => exact False.elim h
    | ret u =>
      obtain ⟨v, H', os, bare, un, hok', r', q⟩ := h
      obtain rfl : v = .bl true := q
      obtain rfl : u = Value.bool true := r'
      have grown : ∀ p ∈ cs, ∃ more : Array Value, s'.heap.get? p.2 = some { cls := .none, data := .fields more } := fun p hp => (un.tbls p.2 #[] (hH p hp)).elim fun more z => ⟨_, hok' p.2 _ z⟩
      have same : ∀ b o, (¬ ∃ p ∈ cs, p.2 = b) → s.heap.get? b = some o → s'.heap.get? b = some o := fun b o nb e => by
        rcases hO b with z | z | ⟨ob, xs, z⟩
        · exact absurd z nb
        · exact un.keep b o e z List.not_mem_nil List.not_mem_nil
        · have e1 := (hok b _ z).1
          have e2 := (hok' b _ (un.frzs b ob _ z)).1
          rw [e] at e1
          cases e1
          exact e2
      refine ⟨rfl, ⟨fun b o e => ?_, fun b o e => ?_⟩, os, bare⟩
      · by_cases hc : ∃ p ∈ cs, p.2 = b
        · obtain ⟨p, hp, rfl⟩ := hc
          obtain ⟨more, hm⟩ := grown p hp
          have e' := hT p hp
          rw [e] at e'
          cases e'
          exact .inr (.inl ⟨((C p hp).tab (hT p hp)).isCodeTable, rfl, #[], more, rfl, by rw [Array.empty_append]; exact hm⟩)
        · exact .inl (same b o hc e)
      · by_cases hc : ∃ p ∈ cs, p.2 = b
        · obtain ⟨p, hp, rfl⟩ := hc
          obtain ⟨more, hm⟩ := grown p hp
          exact ⟨_, hm⟩
        · exact ⟨o, same b o hc e⟩
/-- what is known of the law's promise at the head's heap -/
def LawAtG (l : PySem.W.OpenLaw) (w : World) (K : PySem.W.Frag) (k n : Nat) (x : Str) (mg : Str → Option Value) (fa : Addr) (h : Heap) : Prop :=
  ∃ (fd : FuncData) (cs : List (Addr × Addr)) (sp : Sp), (∀ p ∈ cs, h.get? p.2 = some { cls := .none, data := .fields #[] }) ∧ (∀ p ∈ cs, K.lookup p.2 = none) ∧ (∀ p ∈ cs, PySem.W.CodeHd h p.1 p.2) ∧ (∀ (s : Shared) (u : Value), BindsTo s fd ⟨[u], []⟩ [(x, u)]) ∧
    (∀ (H : Hp) (a : Addr) (ns : List Int), ns.length ≤ n → (∀ p ∈ cs, H p.2 = some (.tbl #[])) → SqL K H a (ns.map V.int) → sp [.ref a] H (fun v _ => v = .bl true) E0) ∧
    ∀ base : Heap, K.In base → base.Ns mainGlobals mg → (∀ p ∈ cs, TabB base mg p.1 p.2) → FnG l.prog w K mg base k fa fd [x] sp
theorem lawT_call {P : Program} {w : World} {K : PySem.W.Frag} {mg mb : Str → Option Value} {k : Nat} {fa a : Addr} {cs : List (Addr × Addr)} {fd : FuncData} {x : Str} {sp : Sp} {s : Shared} {vs : List Value} {ns : List Int}
    (KX : K.In s.heap) (hns : s.heap.Ns mainGlobals mg) (hb : s.heap.Ns builtinsNs mb) (hbb : ∀ x : Str, x ≠ "__name__" → mb x = bootBuiltins x) (hlim : s.heap.NoLimit) (hg : s.gens = #[])
    (hT : ∀ p ∈ cs, s.heap.get? p.2 = some { cls := .none, data := .fields #[] }) (nT : ∀ p ∈ cs, K.lookup p.2 = none) (C : ∀ p ∈ cs, PySem.W.CodeHd s.heap p.1 p.2)
    (hbm : ∃ (bm : Addr) (ob : Obj), mg "__builtins__" = some (.ref bm) ∧ bm ≠ builtinsNs ∧ s.heap.get? bm = some ob ∧ ob.cls = .type "module" ∧ ob.dict = some builtinsNs ∧ ob.data = .plain)
    (ha : s.heap.get? a = some { cls := .type "list", data := .seq vs.toArray }) (hi : IntsAre vs ns) (hl : ns.length ≤ sizeLine) (hr : Room k callerA)
    (F : ∀ base : Heap, K.In base → base.Ns mainGlobals mg → (∀ p ∈ cs, TabB base mg p.1 p.2) → FnG P w K mg base k fa fd [x] sp) (hbind : ∀ (s : Shared) (u : Value), BindsTo s fd ⟨[u], []⟩ [(x, u)])
    (hsp : ∀ H : Hp, (∀ p ∈ cs, H p.2 = some (.tbl #[])) → SqL K H a (ns.map V.int) → sp [.ref a] H (fun v _ => v = .bl true) E0) :
    codeAny (model P w) callerA (.call (.ref fa) ⟨[.ref a], []⟩) (fun r s' => r = .ok (.ret (.bool true)) ∧ OldK s.heap s'.heap ∧ s'.os = s.os ∧ AllBare s'.gens) s := by
  classical
  have rv := vals_ints hi
  have nA : ¬ ∃ p ∈ cs, p.2 = a := fun ⟨p, hp, z⟩ => by
    have e := hT p hp
    rw [z, ha] at e
    cases e
  -- the tables alone
  let H0 : Hp := fun b => if ∃ p ∈ cs, p.2 = b then some (.tbl #[]) else none
  have yes : ∀ {b : Addr}, (∃ p ∈ cs, p.2 = b) → H0 b = some (.tbl #[]) := fun z => if_pos z
  have no : ∀ {b : Addr}, (¬ ∃ p ∈ cs, p.2 = b) → H0 b = none := fun z => if_neg z
  have ok0 : HOk P w H0 s.heap := fun b u z => by
    by_cases hc : ∃ p ∈ cs, p.2 = b
    · rw [yes hc] at z
      cases z
      obtain ⟨p, hp, rfl⟩ := hc
      exact hT p hp
    · rw [no hc] at z
      cases z
  cases hk : K.lookup a with
  | some o =>
    have e := KX a o hk
    rw [ha] at e
    cases e
    have hS : SqL K H0 a (ns.map V.int) := .inr ⟨_, vs.toArray, _, hk, rfl, rfl, rfl, by rw [List.size_toArray, hi.length]; exact hl, by simpa using rv⟩
    exact lawT_core KX hns hb hbb hlim hg hT nT C hbm ha hr F hbind (fun p hp => yes ⟨p, hp, rfl⟩) (fun b => (Classical.em _).imp id fun z => .inl (no z)) ok0 (fun b n => .inr (Classical.byContradiction fun z => n (no z))) (fun z => absurd (no nA) z) (hsp _ (fun p hp => yes ⟨p, hp, rfl⟩) hS)
  | none =>
    let ob : Obj := { cls := .type "list", data := .seq vs.toArray }
    let H : Hp := upd H0 a (.frz ob (.lst (ns.map V.int)))
    have off : ∀ {b : Addr}, b ≠ a → H b = H0 b := fun n => upd_ne n
    have hH : ∀ p ∈ cs, H p.2 = some (.tbl #[]) := fun p hp => (off fun z => nA ⟨p, hp, z⟩).trans (yes ⟨p, hp, rfl⟩)
    refine lawT_core (H := H) KX hns hb hbb hlim hg hT nT C hbm ha hr F hbind hH (fun b => ?_) (fun b u z => ?_) (fun b n => ?_) (fun _ => hk) (hsp H hH (.inl (.inr ⟨ob, upd_same⟩)))
    · by_cases z : b = a
      · exact .inr (.inr ⟨_, _, by rw [z]; exact upd_same⟩)
      · rw [off z]
        exact (Classical.em _).imp id fun z => .inl (no z)
    · by_cases q : b = a
      · rw [q] at z ⊢
        cases upd_same.symm.trans z
        exact ⟨ha, by rw [List.length_map]; exact hl, vs, _, rv, ha⟩
      · rw [off q] at z
        have z' := ok0 b u z
        by_cases hc : ∃ p ∈ cs, p.2 = b
        · rw [yes hc] at z
          cases z
          exact z'
        · rw [no hc] at z
          cases z
    · by_cases q : b = a
      · exact .inl q
      · rw [off q] at n
        exact .inr (Classical.byContradiction fun z => n (no z))
/-- the end, for a law whose defs xs make code objects -/
theorem walkT_of {l : PySem.W.OpenLaw} {n k : Nat} {q : Program} {loose : List Str} {XP : (Str → Option Value) → Heap → Prop} {YP : World → Heap → Prop} {d : DefRec} {K : Params → PySem.W.Frag} {x : Str} {xs : List Str}
    (hn : l.most = some n) (hn2 : n ≤ sizeLine) (hdf : d.params.defaults = []) (hr : Room k callerA) (hrec : ∀ y ∈ xs, ((recsOf q).any fun e => e.name == y) = true) (hY : ∀ (w : World) (h : Heap), YP w h → (K w.params).In h)
    (F : ∀ (w : World) (mg : Str → Option Value) (fa : Addr) (h : Heap), YP w h → (K w.params).In h → h.Ns mainGlobals mg → mg d.name = some (.ref fa) → (∀ y, y ∈ xs → ∀ c P, PySem.W.tabIn (K w.params) y = some (c, P) → PySem.W.CodeHd h c P ∧ h.get? P = some { cls := .none, data := .fields #[] }) → LawAtG l w (K w.params) k n x mg fa h) :
    PySem.W.WalkO q loose XP YP l.row.toRowW d [] (fun f vs => PySem.call f vs) := by
  refine Att.attach_callB hn hdf fun w s₀ s₁ mg mb fa o pm cd doc a vs ns G Y ho hd hcd hmg hobj hints hlen hbits hg => ?_
  have KX := hY w _ Y
  obtain ⟨fd, cs, sp, hT, nT, C, hb, hsp, hF⟩ := F w mg fa _ Y KX G.T.g hmg fun y hy c P ht => by
    cases z : (recsOf q).find? (fun e => e.name == y) with
    | none =>
      obtain ⟨dL, hm, hn1⟩ := List.any_eq_true.mp (hrec y hy)
      exact absurd hn1 (List.find?_eq_none.mp z dL hm)
    | some dL => exact PySem.W.tab_of G.T KX z ht
  exact lawT_call KX G.T.g G.T.b G.T.builtins G.T.nolimit hg hT nT C G.T.bmain hobj hints (Nat.le_trans hlen hn2) hr hF hb fun H hH hS => hsp H a ns hlen hH hS
end L2
/-! an error that was caught, kept in a name behind its suite: isinstance of it, its fields -/
namespace EXC
open PySem PySem.Spec PyProof.Rows L2
/-- a caught error at a: its class, its own dict -/
def ExC (cls : Value) (d : Option Addr) (a : Addr) : HO := .ext fun h => ∃ (oe : Obj) (vs : Array Value), h.get? a = some oe ∧ Zc cls d oe ∧ oe.data = .fields vs
theorem exC_ok {P : Program} {w : World} {H : Hp} {h : Heap} {a : Addr} {cls : Value} {d : Option Addr} {oe : Obj} {vs : Array Value} (e : h.get? a = some oe) (z : Zc cls d oe) (hd : oe.data = .fields vs) : ObjOk P w H h a (ExC cls d a) :=
  ⟨⟨oe, vs, e, z, hd⟩, ⟨oe, e⟩, fun _ _ ⟨o, v, q, r⟩ k => ⟨o, v, k o q, r⟩⟩
section
variable {X : Cx} {pins : List (Addr × Obj)} {σ : L2.St} {H : Hp} {s : Shared} {a : Addr} {o : HO}
/-- what stands there untracked, and did not stand at the entry, is tracked from now on -/
theorem Inv.track {oe : Obj} {vs : Array Value} (I : Inv X pins σ H s) (here : s.heap.get? a = some oe) (hd : oe.data = .fields vs) (n : H a = none) (n0 : X.s_0.heap.get? a = none) (nL : a ≠ X.env.locals) (nP : ∀ p ∈ X.pn ++ pins, p.1 ≠ a)
    (ok : ObjOk X.prog X.w (upd H a o) s.heap a o) : Inv X pins σ (upd H a o) s := by
  have off : ∀ b, b ≠ a → upd H a o b = H b := fun b hb => upd_ne hb
  have ne0 : ∀ b u, X.s_0.heap.get? b = some u → b ≠ a := fun b u e z => by rw [z, n0] at e; cases e
  have neS : ∀ b u, H b = some u → b ≠ a := fun b u e z => by rw [z, n] at e; cases e
  have base : Un X.fs X.ex X.H_0 (upd H a o) X.s_0.heap s.heap := {
    keep := I.base.keep
    slot := I.base.slot
    free := fun b u e m x => by rw [off b (ne0 b u e)]; exact I.base.free b u e m x
    there := I.base.there
    tups := fun b xs e => by
      have q := I.base.tups b xs e
      rw [off b (neS b _ q)]; exact q
    frzs := fun b u v e => by
      have q := I.base.frzs b u v e
      rw [off b (neS b _ q)]; exact q
    tbls := fun b ps e => by
      obtain ⟨m, q⟩ := I.base.tbls b ps e
      exact ⟨m, by rw [off b (neS b _ q)]; exact q⟩ }
  refine ⟨I.ok, I.os, I.bare, base, I.loc, I.cell, ?_, fun x c e => ?_, fun p hp => ?_, I.hok.laidN (fun _ _ e => e) n ok, I.len⟩
  · rw [off _ nL.symm]; exact I.free
  · have ne : c ≠ a := fun z => by
      obtain ⟨v, oc, hc, hv⟩ := I.cell x c e
      rw [z, here] at hc
      cases hc
      rw [hd] at hv
      cases hv
    rw [off _ ne]
    exact I.freeC x c e
  · obtain ⟨q1, q2, q3⟩ := I.pin p hp
    exact ⟨q1, by rw [off _ (nP p hp)]; exact q2, q3⟩
end
/-- what the clause 'except x as n' (n in slot i) wishes of each error of the body; behind it the error is kept -/
def wHeld (K : PySem.W.Frag) (c : Value) (i : Nat) (ts : Addr → Value → Option Addr → TS) (D : Ends) : WX := fun cls d σ H => PySem.W.exmOne K cls c = some true ∧
  ∀ a, H a = none → ts a cls d { nx := fun σ2 H2 => D.nx (σ2.set i none) (upd H2 a (ExC cls d a)), rt := fun _ _ => False, bk := fun _ _ => False, ct := fun _ _ => False } (σ.set i (some (.ref a))) H
section
variable {X : Cx} {x n : Str} {c : Value} {i : Nat} {body suite : List Stmt} {b₀ : Stmt} {np pos pos' : Pos} {tb : WX → TS} {ts : Addr → Value → Option Addr → TS}
theorem ps_try_held (hs : X.stack = X.env :: X.outer) (hf : X.env.frame = some X.env.locals) (hex : X.ex = []) (nd : X.N.Nodup) (at_i : X.N[i]? = some n) (loc : X.env.kindOf n = some .local) (hc : Names X x c)
    (hb : ∀ (W : WX) (pn : List (Addr × Obj)) (xe : Value → Shared → Prop), Takes (X.tr pn xe) W → PassesOwn (model X.prog X.w) X.A X.env xe → PSs (X.tr pn xe) body (tb W))
    (hsu : ∀ (a : Addr) (oe : Obj) (cls : Value) (d : Option Addr) (pn : List (Addr × Obj)), Zc cls d oe → (∃ vs, oe.data = .fields vs) → PSs (X.suite a ((a, oe) :: pn)) (b₀ :: suite) (ts a cls d)) :
    PS X (.Try body [.ExceptHandler (some (.Name x np)) (some n) (b₀ :: suite) pos'] [] [] pos) (fun D σ H => tb (wHeld X.K c i ts D) D σ H) := by
  refine ⟨fun pins s σ H D I h => ?_⟩
  have ok := I.ok
  have frames : X.A.frames = some (X.env :: X.outer) := ok.frames.trans (congrArg some hs)
  let catch' : Value → Shared → Prop := fun e s1 => wpAny (model X.prog X.w) X.A (noteFrame e X.env) (fun _ s2 => wpAny (model X.prog X.w) X.A (setFlight e none) (fun _ s3 =>
    wpAny (model X.prog X.w) X.A (handleBy e X.env [.ExceptHandler (some (.Name x np)) (some n) (b₀ :: suite) pos']) (SP X pins D) X.xe s3) X.xe s2) X.xe s1
  have takes : Takes (X.tr (X.pn ++ pins) catch') (wHeld X.K c i ts D) := by
    rintro u s' ⟨a, B, sI, ps, σ1, H1, cls, d, rfl, J0, nb, up, sky, na, os, ag, hit, next⟩
    have J : Inv X pins σ1 H1 sI := J0.ofTry ok
    rw [show (X.tr (X.pn ++ pins) catch').stack = X.env :: X.outer from hs] at sky
    show wpAny (model X.prog X.w) X.A (noteFrame (.ref a) X.env) _ _ _
    refine Sky.land Zc.steady frames hf sky fun h3 fl3 up3 => ?_
    have J3 : Inv X pins σ1 H1 { s' with heap := h3 } := J.landed nb (by exact fl3.1) (up.trans up3) os ag
    obtain ⟨o3, f3, g3, z3, d3⟩ := fl3.there
    have apart : a ∉ frs (X.env :: X.outer) := fun hm => by
      obtain ⟨_, o, e, hno⟩ := fl3.2.2.1.mem hm
      rw [g3] at e
      cases e
      exact hno _ d3
    have nL : a ≠ X.env.locals := fun z => apart (List.mem_filterMap.mpr ⟨X.env, List.mem_cons_self, by rw [hf, z]⟩)
    have nF : a ∉ X.fs := fun hm => by
      obtain ⟨e, he, q⟩ := List.mem_filterMap.mp hm
      exact apart (List.mem_filterMap.mpr ⟨e, List.mem_cons_of_mem _ he, q⟩)
    have new : sI.heap.get? a = none := by
      cases q : sI.heap.get? a with
      | none => rfl
      | some o =>
        have z := nb a o q (by rw [show (X.tr (X.pn ++ pins) catch').stack = X.env :: X.outer from hs]; exact apart)
        rw [fl3.2.1] at z
        cases z
    have new0 : X.s_0.heap.get? a = none := by
      cases q : X.s_0.heap.get? a with
      | none => rfl
      | some o =>
        obtain ⟨o2, z⟩ := J.base.there a o q (by rw [hex]; exact List.not_mem_nil)
        rw [new] at z
        cases z
    have unpinned : ∀ p ∈ X.pn ++ pins, p.1 ≠ a := fun p hp z => by
      have q := (J.pin p hp).1
      rw [z, new] at q
      cases q
    have S3 := J3.suite g3 d3 na nL nF
    refine wpAny_handleBy_cons (codeAny_handlers_test ?_) (by intro q; cases q)
    have looks : PySem.W.Looks (model X.prog X.w) h3 (typeOf (.ref a)) cls := fun _ _ _ _ k q => wpAny_typeOf_ref (k _ _ g3) (by rw [z3.1]; exact q)
    have hits := PySem.W.exm_one (M := model X.prog X.w) J3.kIn looks hit
    have named : ∀ {Q E : Value → Shared → Prop}, Q c { s' with heap := h3 } → wpAny (model X.prog X.w) (X.A.mark (some (.ref a))) (eval (.Name x np) X.env) Q E { s' with heap := h3 } := fun {Q E} q => by
      obtain ⟨g, nodbg, m | ⟨m, v, w⟩⟩ := hc
      · exact ld_glob (X := X.suite a ((a, o3) :: (X.pn ++ pins))) S3 g m q nodbg
      · exact ld_blt (X := X.suite a ((a, o3) :: (X.pn ++ pins))) S3 g m v q w nodbg
    refine named (hits.here (codeAny_handlers_suite_as (HandSPX.lands_againZ fl3 fun h4 fl4 up4 => ?_)))
    have J4 : Inv X pins σ1 H1 { s' with heap := h4 } := J.landed nb (by exact fl4.1) ((up.trans up3).trans up4) os ag
    obtain ⟨o4, f4, g4, z4, d4⟩ := fl4.there
    refine store_ok (X := X.suite a ((a, o4) :: (X.pn ++ pins))) (v := .ref a) (J4.suite g4 d4 na nL nF) nd at_i (.inl loc) rfl (fun s5 S5 => ?_) (.inr loc)
    refine wpAny_mono ((hsu a o4 cls d (X.pn ++ pins) z4 ⟨_, d4⟩).run [] s5 _ H1 _ S5 (next a na)) (fun fl s6 back => ?_) (fun _ _ z => z.elim)
    cases fl with
    | next =>
      obtain ⟨σ6, H6, S6, q6⟩ := back
      refine gone_ok (X := X.suite a ((a, o4) :: (X.pn ++ pins))) S6 nd at_i loc fun s7 S7 => ?_
      obtain ⟨p1, p2, _⟩ := S7.pin (a, o4) (List.mem_append_left _ List.mem_cons_self)
      exact ⟨_, _, Inv.track (S7.unsuite ok) p1 d4 p2 new0 nL unpinned (exC_ok p1 z4 d4), q6⟩
    | brk =>
      obtain ⟨_, _, _, z⟩ := back
      exact False.elim z
    | cont =>
      obtain ⟨_, _, _, z⟩ := back
      exact False.elim z
    | ret u =>
      obtain ⟨_, _, _, _, _, z⟩ := back
      exact False.elim z
  refine wpAny_Try_except (wpAny_mono ((hb _ _ catch' takes PassesOwn.looking).run [] s σ H D (I.toTry _) h) (fun fl s1 back => ?_) fun _ _ z => z)
  cases fl with
  | next =>
    obtain ⟨σ1, H1, J, q⟩ := back
    exact wpAny_execs_nil ⟨σ1, H1, J.ofTry ok, q⟩
  | brk =>
    obtain ⟨σ1, H1, J, q⟩ := back
    exact ⟨σ1, H1, J.ofTry ok, q⟩
  | cont =>
    obtain ⟨σ1, H1, J, q⟩ := back
    exact ⟨σ1, H1, J.ofTry ok, q⟩
  | ret u =>
    obtain ⟨v, σ1, H1, J, r, q⟩ := back
    exact ⟨v, σ1, H1, J.ofTry ok, r, q⟩
end
/-! ### isinstance of it, a field of it -/
def Dct (H : Hp) (d : Option Addr) : Prop := ∀ dd, d = some dd → ∃ fs, H dd = some (.xd fs)
theorem inst_of {X : Cx} {pins : List (Addr × Obj)} {σ : L2.St} {H : Hp} {s : Shared} {a C : Addr} {d : Option Addr} (I : Inv X pins σ H s) (ha : H a = some (ExC (.ref C) d a)) (hd : Dct H d) : ∃ ox od, PySem.W.InstAt s.heap a ox C od := by
  obtain ⟨⟨oe, vs, ho, hz, hf⟩, _, _⟩ := I.hok a _ ha
  have nc : PySem.W.notCls oe = true := by unfold PySem.W.notCls; rw [hf]
  cases d with
  | none => exact ⟨oe, none, ho, hz.1, nc, by rw [hz.2]; exact True.intro⟩
  | some dd =>
    obtain ⟨fs, e⟩ := hd dd rfl
    obtain ⟨mA, hns, _⟩ := (show ObjOk X.prog X.w H s.heap dd (.xd fs) from I.hok dd _ e)
    obtain ⟨od, hod, _⟩ := lookIn_ns hns
    exact ⟨oe, some od, ho, hz.1, nc, by rw [hz.2]; exact hod⟩
structure XcC (K : PySem.W.Frag) (C : Addr) : Prop where
  hcl : (PySem.W.clsIn K C).isSome = true
  hga : PySem.W.findIn K (.ref C) "__getattribute__" = some (some (.builtin "BaseException.__getattribute__"))
  hgt : PySem.W.findIn K (.ref C) "__getattr__" = some none
  hsub : PySem.W.subIn K (.ref C) (.type "BaseException") = some true
  hdct : PySem.W.hasDictIn K C = true
  ha : PySem.W.findIn K (.ref C) "__class__" = some (some (.builtin "object.__class__"))
  hn : PySem.W.specialIn K (.builtin "object.__class__") "__get__" = some (some (.builtin "getset_descriptor.__get__"))
  htk : PySem.W.takesIn K (.builtin "object.__class__") = some true
  hm : PySem.W.mroIn K C (.type "object") = some true
def rXc (K : PySem.W.Frag) : List V → Hp → VK → Prop := fun xs H Q => ∃ (a C : Addr) (d : Option Addr) (c : V) (u : Value) (b : Bool), xs = [.ref a, c] ∧ ClsV c u ∧ H a = some (ExC (.ref C) d a) ∧ Dct H d ∧ XcC K C ∧ PySem.W.kitOne K (.ref C) u = some b ∧ Q (.bl b) H
theorem call_xc {X : Cx} : CallR X (.builtin "isinstance") (rXc X.K) := by
  intro pins s σ H xs us Q I r h
  obtain ⟨a, C, d, c, u, b, rfl, k, xa, xd, T, e, q⟩ := h
  obtain ⟨u1, u2, rfl, r1, r2⟩ := vals2 r
  have e2 := k.eq r2
  subst e2
  obtain rfl : u1 = Value.ref a := r1
  obtain ⟨ox, od, J⟩ := inst_of I xa xd
  exact PySem.W.kia_one (PySem.W.kitx_exc T.hcl T.hga T.hgt T.hsub T.ha T.hn T.htk T.hm) I.kIn J e (fun z => nomatch z) fun tk => ⟨.bl b, H, I.tok tk, rfl, q⟩
/-- e.f, e a caught error -/
def tXcF (K : PySem.W.Frag) (f : Str) (te : TE) : TE := fun σ H Q => te σ H fun x H1 => ∃ (a C d : Addr) (fs : List (Str × V)) (v : V), x = .ref a ∧ H1 a = some (ExC (.ref C) (some d) a) ∧ H1 d = some (.xd fs) ∧ XcC K C ∧ PySem.W.findIn K (.ref C) f = some none ∧ fs.lookup f = some v ∧ Q v H1
theorem pe_xcF {X : Cx} {e : Expr} {te : TE} {pos : Pos} {n : Str} (he : PE X e te) (hb : attributeBase e n X.env (eval e X.env) = eval e X.env := by rfl) : PE X (.Attribute e n pos) (tXcF X.K n te) := by
  refine ⟨fun pins s σ H Q I h => attr_of hb (thn (he.run pins s σ H _ I h) fun u s1 ⟨x, H1, J, rx, a, C, d, fs, v, ex, ea, ed, T, own, l, q⟩ => ?_)⟩
  subst ex
  obtain rfl : u = Value.ref a := rx
  obtain ⟨⟨oe, vs, ho, hz, hf⟩, _, _⟩ := J.hok a _ ea
  obtain ⟨mA, hns, rel⟩ := (show ObjOk X.prog X.w H1 s1.heap d (.xd fs) from J.hok d _ ed)
  obtain ⟨od, hod, found⟩ := lookIn_ns hns
  obtain ⟨u2, hu, ru⟩ := RelO.some_of (v := v) (o := mA n) (l ▸ rel n)
  have at_ : PySem.W.InstAt s1.heap a oe C (some od) := ⟨ho, hz.1, by unfold PySem.W.notCls; rw [hf], by rw [hz.2]; exact hod⟩
  exact HandSPX.exc_get J.kIn at_ T.hga T.hgt T.hsub (PySem.W.findObj_own T.hdct own rfl (by rw [found, hu])) (handed_of ru) ⟨v, H1, J.tok _, ru, q⟩
end EXC
namespace K02
open PySem L2 Evl
abbrev sCls (i : Nat) : Stmt := inClass (top i) 0
/-- what the written part says of an error class x, PostError at B -/
structure CB (K : PySem.W.Frag) (x : Str) (C B : Addr) : Prop where
  aC : PySem.W.nsIn K mainGlobals x = some (some (.ref C))
  xL : ∃ nm q N bs sn sub ab col dd k0 k1 k2 k3 k5, K.lookup C = some (excClassObj nm q C N bs [.ref B, .type "ValueError", .type "Exception", .type "BaseException", .type "object"] true sn sub ab col dd k0 k1 k2 k3 k5 "ValueError.__new__")
  sa : PySem.W.findIn K (.ref C) "__setattr__" = some (some (.builtin "object.__setattr__"))
  ga : PySem.W.findIn K (.ref C) "__getattribute__" = some (some (.builtin "BaseException.__getattribute__"))
  gg : PySem.W.findIn K (.ref C) "__getattr__" = some none
  cc : PySem.W.findIn K (.ref C) "__class__" = some (some (.builtin "object.__class__"))
  tC : PySem.W.typeIn K (.ref C) = some (.type "type")
  kC : PySem.W.keepIn K (.ref C) = true
/-- .. and of its __init__, the def st -/
structure CF (K : PySem.W.Frag) (x qual : Str) (st : Stmt) (C f B : Addr) : Prop where
  b : CB K x C B
  a1 : PySem.W.findIn K (.ref C) "__init__" = some (some (.ref f))
  l1 : ∃ (oc : Value) (od : Option Addr) (kV doc pm : Value) (an : Option Addr) (cdv ct : Value) (osl : Array (Option Value)),
    K.lookup f = some ⟨oc, od, .func (PySem.W.fnOf "__init__" qual (defArgs st) (defBody st) (defScope st) .none kV doc pm an cdv ct), osl⟩ ∧ PySem.W.codeIn K cdv qual = true
  k1 : PySem.W.keepIn K (.ref f) = true
  t1 : PySem.W.typeIn K (.ref f) = some (.type "function")
structure CG (K : PySem.W.Frag) : Prop where
  sp : PySem.W.specialIn K (.builtin "object.__class__") "__get__" = some (some (.builtin "getset_descriptor.__get__"))
  tk : PySem.W.takesIn K (.builtin "object.__class__") = some true
section
variable {K : PySem.W.Frag} {x qual : Str} {st : Stmt} {C f B : Addr}
theorem CB.cls (T : CB K x C B) : ∃ cd, PySem.W.clsIn K C = some cd ∧ cd.mro = [.ref C, .ref B, .type "ValueError", .type "Exception", .type "BaseException", .type "object"] ∧ cd.hasDict = true := by
  obtain ⟨nm, q, N, bs, sn, sub, ab, col, dd, k0, k1, k2, k3, k5, h⟩ := T.xL
  refine ⟨{ name := nm, bases := bs, mro := .ref C :: [.ref B, .type "ValueError", .type "Exception", .type "BaseException", .type "object"], ns := N, qualname := q, hasDict := true, slotNames := sn, subclasses := sub, abstract := ab, collection := col, hasDel := false }, ?_, rfl, rfl⟩
  unfold PySem.W.clsIn
  rw [h] <;> rfl
theorem CB.mro (T : CB K x C B) (v : Value) : PySem.W.mroIn K C v = some ([Value.ref C, .ref B, .type "ValueError", .type "Exception", .type "BaseException", .type "object"].contains v) := by
  obtain ⟨cd, h1, h2, _⟩ := T.cls
  unfold PySem.W.mroIn
  rw [h1, Option.bind_some, h2]
  rfl
theorem CB.ox (T : CB K x C B) : OexC K C := by
  obtain ⟨nm, q, N, bs, sn, sub, ab, col, dd, k0, k1, k2, k3, k5, h⟩ := T.xL
  exact ⟨⟨nm, q, N, bs, _, sn, sub, ab, col, dd, k0, k1, k2, k3, k5, h, rfl⟩, T.sa, (T.mro _).trans (by rfl), T.tC, T.kC⟩
theorem CB.hd (T : CB K x C B) : PySem.W.hasDictIn K C = true := by
  obtain ⟨cd, h1, h2, h3⟩ := T.cls
  unfold PySem.W.hasDictIn
  rw [h1]
  first | exact h3 | (simp [h3])
theorem CB.xf (T : CB K x C B) : XfC K C := ⟨T.ga, T.gg, (T.mro _).trans (by rfl), T.hd⟩
theorem CB.xc (T : CB K x C B) (G : CG K) : EXC.XcC K C := by
  obtain ⟨cd, h1, _⟩ := T.cls
  exact ⟨by rw [h1]; rfl, T.ga, T.gg, (T.mro _).trans (by rfl), T.hd, T.cc, G.sp, G.tk, (T.mro _).trans (by rfl)⟩
theorem CB.caught (T : CB K x C B) (h1 : PySem.W.subIn K (.ref B) (.type "BaseException") = some true) (h2 : PySem.W.hasDictIn K B = true) (h3 : PySem.W.typeIn K (.ref B) = some (.type "type")) : PySem.W.exmOne K (.ref C) (.ref B) = some true :=
  PySem.W.exm_ref h1 h2 h3 ((T.mro _).trans (by simp))
theorem CF.fn (T : CF K x qual st C f B) : ∃ fd, Fun K "__init__" qual st f fd := by
  obtain ⟨oc, od, kV, doc, pm, an, cdv, ct, osl, h1, h2⟩ := T.l1
  exact ⟨_, fun_mk h1 h2 T.k1⟩
theorem eq_ref (a b : Addr) : (Value.ref a == Value.ref b) = decide (a = b) := by
  by_cases h : a = b
  · subst h
    simp
  · rw [decide_eq_false h]
    exact beq_eq_false_iff_ne.mpr fun z => h (Value.ref.inj z)
/-- isinstance of an instance of C, for another error class D -/
theorem CB.kit {x' : Str} {D : Addr} (T : CB K x C B) (U : CB K x' D B) (h : D ≠ B) : PySem.W.kitOne K (.ref C) (.ref D) = some (decide (D = C)) := by
  unfold PySem.W.kitOne PySem.W.kitCls
  by_cases e : C = D
  · subst e
    rw [if_pos (by simp), decide_eq_true rfl]
  · have e1 : (Value.ref C == Value.ref D) = false := by rw [eq_ref, decide_eq_false e]
    obtain ⟨cd, h1, _⟩ := U.cls
    rw [e1, if_neg Bool.false_ne_true]
    simp only [h1, U.tC, Option.isSome_some, beq_self_eq_true, Bool.and_self, if_true]
    refine (T.mro _).trans ?_
    rw [decide_eq_false (fun z => e z.symm)]
    simp [Ne.symm e, h, Ne.symm h]
theorem CB.kitB' (T : CB K x C B) (hB : ∃ cd, PySem.W.clsIn K B = some cd) (tB : PySem.W.typeIn K (.ref B) = some (.type "type")) : PySem.W.kitOne K (.ref C) (.ref B) = some true := by
  unfold PySem.W.kitOne PySem.W.kitCls
  by_cases e : C = B
  · subst e
    rw [if_pos (by simp)]
  · have e1 : (Value.ref C == Value.ref B) = false := by rw [eq_ref, decide_eq_false e]
    obtain ⟨cd, h1⟩ := hB
    rw [e1, if_neg Bool.false_ne_true]
    simp only [h1, tB, Option.isSome_some, beq_self_eq_true, Bool.and_self, if_true]
    refine (T.mro _).trans ?_
    simp
theorem CB.kitV (T : CB K x C B) : PySem.W.kitOne K (.ref C) (.type "ValueError") = some true := by
  unfold PySem.W.kitOne PySem.W.kitCls
  rw [if_neg (by simp)]
  show (if PySem.W.kitMeta "ValueError" = true then PySem.W.subIn K (.ref C) (.type "ValueError") else none) = some true
  rw [if_pos (by decide +kernel)]
  exact (T.mro _).trans (by rfl)
end
/-! ### __init__ of one field, of two -/
def spI1 (C : Addr) (n : Str) : Sp := fun vs H Q _ => ∃ (a : Addr) (v : V), vs = [.ref a, v] ∧ H a = some (exo a C none) ∧ ∀ d, H d = none → d ≠ a → Q .non (upd (upd H d (exd d [(n, v)])) a (exo a C (some d)))
def spI2 (C : Addr) (n m : Str) : Sp := fun vs H Q _ => ∃ (a : Addr) (v u : V), vs = [.ref a, v, u] ∧ H a = some (exo a C none) ∧ ∀ d, H d = none → d ≠ a → Q .non (upd (upd (upd H d (exd d [(n, v)])) a (exo a C (some d))) d (exd d [(m, u), (n, v)]))
section
variable {P : Program} {w : World} {K : PySem.W.Frag} {mg : Str → Option Value} {base : Heap}
theorem ok_I1 {x qual : Str} {st : Stmt} {C f B : Addr} {fd : FuncData} {n : Str} {p1 p2 p3 p4 : PySem.Pos} (T : CF K x qual st C f B) (F : Fun K "__init__" qual st f fd) (S : FnScope ["self", n] ["self", n] (defScope st)) (hb : defBody st = [Stmt.Assign [.Attribute (.Name "self" p1) n p2] (.Name n p3) p4])
    (l1 : (defScope st).names.lookup ("self" : Str) = some .local) (l2 : (defScope st).names.lookup n = some .local) (hd : (n == ("__debug__" : Str)) = false) (hcd : (n == ("__classdict__" : Str)) = false)
    (hno : PySem.W.findIn K (.ref C) n = some none) : FnOk P w K mg base CX0 1 f fd ["self", n] (spI1 C n) := by
  refine F.ok S (fun vs H Q E h => ?_) (fun cdv A outer s H vs Q E hr h => ?_)
  · obtain ⟨a, v, rfl, _⟩ := h
    rfl
  · obtain ⟨a, v, rfl, ha, k⟩ := h
    rw [hb]
    refine ⟨_, pss_one (ps_ost (pv 0 rfl (.inl l1)) (pv 1 rfl (.inl l2) hd hcd)), ?_⟩
    exact ⟨v, rfl, .ref a, rfl, a, C, rfl, T.b.ox, hno, .inl ⟨ha, fun d hd hda => k d hd hda⟩⟩
theorem ok_I2 {x qual : Str} {st : Stmt} {C f B : Addr} {fd : FuncData} {n m : Str} {p1 p2 p3 p4 q1 q2 q3 q4 : PySem.Pos} (T : CF K x qual st C f B) (F : Fun K "__init__" qual st f fd) (S : FnScope ["self", n, m] ["self", n, m] (defScope st))
    (hb : defBody st = [Stmt.Assign [.Attribute (.Name "self" p1) n p2] (.Name n p3) p4, Stmt.Assign [.Attribute (.Name "self" q1) m q2] (.Name m q3) q4])
    (l1 : (defScope st).names.lookup ("self" : Str) = some .local) (l2 : (defScope st).names.lookup n = some .local) (l3 : (defScope st).names.lookup m = some .local) (hd : (n == ("__debug__" : Str)) = false) (hcd : (n == ("__classdict__" : Str)) = false) (hd2 : (m == ("__debug__" : Str)) = false) (hcd2 : (m == ("__classdict__" : Str)) = false)
    (hno : PySem.W.findIn K (.ref C) n = some none) (hno2 : PySem.W.findIn K (.ref C) m = some none) : FnOk P w K mg base CX0 1 f fd ["self", n, m] (spI2 C n m) := by
  refine F.ok S (fun vs H Q E h => ?_) (fun cdv A outer s H vs Q E hr h => ?_)
  · obtain ⟨a, v, u, rfl, _⟩ := h
    rfl
  · obtain ⟨a, v, u, rfl, ha, k⟩ := h
    rw [hb]
    refine ⟨_, pss_cons (ps_ost (pv 0 rfl (.inl l1)) (pv 1 rfl (.inl l2) hd hcd)) (pss_one (ps_ost (pv 0 rfl (.inl l1)) (pv 2 rfl (.inl l3) hd2 hcd2))), ?_⟩
    refine ⟨v, rfl, .ref a, rfl, a, C, rfl, T.b.ox, hno, .inl ⟨ha, fun d hd hda => ?_⟩⟩
    exact ⟨u, rfl, .ref a, rfl, a, C, rfl, T.b.ox, hno2, .inr ⟨d, _, upd_same, by rw [upd_ne hda]; exact upd_same, by show 1 ≤ 900; decide, k d hd hda⟩⟩
end
end K02
/-! what the methods of Growth refuse: numbers -/
namespace K02
open PySem L2 Evl Gr ClX OpX
/-- an error of the class at C with one field goes out -/
def Out1 (C : Addr) (n : Str) (v : V) (H : Hp) (E : XK) : Prop := ∀ d H', H d = none → Ex H H' → H' d = some (.xd [(n, v)]) → E (.ref C) (some d) H'
theorem Out1.mono {C : Addr} {n : Str} {v : V} {H H' : Hp} {E : XK} (e : Ex H H') (h : Out1 C n v H E) : Out1 C n v H' E := fun d H2 hd e2 h2 => h d H2 (fresh_back e hd) (e.trans e2) h2
theorem raise_one {C : Addr} {n : Str} {σ : L2.St} {H : Hp} {E : XK} {v : V} {ta : TA} (h : EvA ta σ H [v]) (b : Out1 C n v H E) : tMkO C (spI1 C n) [] ta σ H (fun cls d H' => E cls d H') :=
  h H (Ex.refl H) _ fun H1 e1 => ⟨by show 1 ≤ 1000; decide, fun a ha => ⟨a, v, rfl, upd_same, fun d hd hda => ⟨rfl, d, [(n, v)], by rw [upd_same], by rw [upd_ne hda]; exact upd_same, by rw [upd_ne hda] at hd; exact hd, by
    rw [upd_ne hda] at hd
    refine b d _ (fresh_back e1 hd) (fun c w hc => ?_) ?_
    · have hc1 := e1 _ _ hc
      have na : c ≠ a := ne_of_none hc1 ha
      have nd : c ≠ d := ne_of_none hc1 hd
      rw [upd_ne nd, del_ne na, upd_ne na, upd_ne nd, upd_ne na]
      exact hc1
    · exact upd_same⟩⟩⟩
/-- an error class of one field -/
structure GOne (P : Program) (w : World) (K : PySem.W.Frag) (mg : Str → Option Value) (base : Heap) (x n : Str) (CN fN : Addr) (fdN : FuncData) : Prop where
  ox : OexC K CN
  init : PySem.W.findIn K (.ref CN) "__init__" = some (some (.ref fN))
  ty : PySem.W.typeIn K (.ref fN) = some (.type "function")
  ok : FnOk P w K mg base CX0 1 fN fdN ["self", n] (spI1 CN n)
  b : Binds K fdN ["self", n] []
  g : mg x = some (.ref CN)
/-- no number within these bounds -/
def BadN (K : PySem.W.Frag) (H : Hp) (lo hi : Int) (x : V) : Prop := (∃ i, x = .int i ∧ (decide (lo ≤ i) && decide (i ≤ hi)) = false) ∨ ∃ (T : String) (a b : Bool), TyX K H x (.type T) ∧ kitB T "int" = some a ∧ kitB T "bool" = some b ∧ (a && !b) = false
theorem BadN.mono {K : PySem.W.Frag} {H H' : Hp} {lo hi : Int} {x : V} (e : Ex H H') (h : BadN K H lo hi x) : BadN K H' lo hi x := h.imp id fun ⟨T, a, b, h1, h2⟩ => ⟨T, a, b, tyx_mono e h1, h2⟩
def spBadW (K : PySem.W.Frag) (CN : Addr) (lo hi : Int) : Sp := fun vs H _ E => ∃ o x, vs = [.ref o, x] ∧ BadN K H lo hi x ∧ Out1 CN "value" x H E
theorem ev_bad {K : PySem.W.Frag} {σ : L2.St} {H : Hp} {ta tb tc : TE} {x : V} {lo hi : Int} (ha : Ev ta σ H x) (hb : Ev tb σ H (.int lo)) (hc : Ev tc σ H (.int hi)) (h : BadN K H lo hi x) : Ev (tCall (spWithin K) [] E0 (tCons ta (tCons tb (tCons tc tNil)))) σ H (.bl false) :=
  ev_call (z := .bl false) (ea_cons ha (ea_cons hb (ea_cons hc ea_nil))) fun H1 e Q q E => by
    rcases h with ⟨i, rfl, hb⟩ | ⟨T, a, b, h1, h2, h3, h4⟩
    · exact .inl ⟨i, lo, hi, rfl, by rw [hb]; exact q⟩
    · exact .inr ⟨x, .int lo, .int hi, T, a, b, rfl, tyx_mono e h1, h2, h3, h4, q⟩
section
variable {P : Program} {w : World} {K : PySem.W.Frag} {mg : Str → Option Value} {base : Heap}
/-! ### Growth.__call__ -/
theorem scBadCall : FnScope ["self", "n"] ["self", "n"] (defScope (sGr 3)) := ⟨rfl, rfl, rfl, by decide +kernel, rfl, by decide +kernel, by decide +kernel⟩
theorem bad_Call {C f fW CN fN : Addr} {fd fdW fdN : FuncData} (F : Fun K "__call__" "Growth.__call__" (sGr 3) f fd) (B : GOne P w K mg base "BadNumber" "value" CN fN fdN)
    (GW : FnOk P w K mg base CX0 2 fW fdW ["value", "least", "most"] (spWithin K)) (kW : PySem.W.keepIn K (.ref fW) = true) (bW : Binds K fdW ["value", "least", "most"] []) (gW : mg "is_within" = some (.ref fW)) : FnOk P w K mg base (L2.CX P w) 3 f fd ["self", "n"] (spBadW K CN 0 (10 ^ (40 : Int).toNat)) := by
  refine F.okX scBadCall (fun vs H Q E h => ?_) (fun cdv A outer s H vs Q E hr h => ?_)
  · obtain ⟨o, x, rfl, _⟩ := h
    rfl
  · obtain ⟨o, x, rfl, hx, kE⟩ := h
    refine ⟨_, pss_cons (ps_if (pt_not (pt_val (pe_call GW (hr.mono (by decide)) (by rfl) gW kW bW .nil pass0 (pa_cons (pv 1) (pa_cons pe_int (pa_cons (pe_op op_pow pe_int pe_int) pa_nil))))))
      (pss_one (ps_raise rfl (takes_of rfl rfl rfl rfl) (pmk_oex B.ox B.init B.ty B.ok hr B.b .nil pass0 (by rfl) B.g (pa_cons (pv 1) pa_nil)))) pss_nil)
      (pss_one ps_no), ?_⟩
    exact q_when (b := true) (et_is (et_not (et_B (ev_bad (K := K) (σ := [some (.ref o), some x]) (ta := tVar 1) (ev_var rfl) ev_c (ev_op ev_c ev_c (rv_I ⟨by decide, by decide, by decide⟩)) hx))) rfl) (fun _ H1 e1 => raise_one (ea_cons (ev_var rfl) ea_nil) (kE.mono e1)) (fun z => absurd z (by decide))
/-! ### Growth.first -/
theorem scBadFirst : FnScope ["self", "n"] ["self", "n"] (defScope (sGr 4)) := ⟨rfl, rfl, rfl, by decide +kernel, rfl, by decide +kernel, by decide +kernel⟩
theorem bad_First {C f fW CN fN : Addr} {mc : Value} {fd fdW fdN : FuncData} (F : Fun K "first" "Growth.first" (sGr 4) f fd) (N : GName K mg C mc) (B : GOne P w K mg base "BadNumber" "value" CN fN fdN)
    (GW : FnOk P w K mg base CX0 2 fW fdW ["value", "least", "most"] (spWithin K)) (kW : PySem.W.keepIn K (.ref fW) = true) (bW : Binds K fdW ["value", "least", "most"] []) (gW : mg "is_within" = some (.ref fW)) : FnOk P w K mg base (L2.CX P w) 3 f fd ["self", "n"] (spBadW K CN 0 2000) := by
  obtain ⟨mu, cm⟩ := N.most
  refine F.okX scBadFirst (fun vs H Q E h => ?_) (fun cdv A outer s H vs Q E hr h => ?_)
  · obtain ⟨o, x, rfl, _⟩ := h
    rfl
  · obtain ⟨o, x, rfl, hx, kE⟩ := h
    refine ⟨_, pss_cons (ps_if (pt_not (pt_val (pe_call GW (hr.mono (by decide)) (by rfl) gW kW bW .nil pass0 (pa_cons (pv 1) (pa_cons pe_int (pa_cons (pe_cval (pe_glob (v := .ref C) rfl N.g rfl)) pa_nil))))))
      (pss_one (ps_raise rfl (takes_of rfl rfl rfl rfl) (pmk_oex B.ox B.init B.ty B.ok hr B.b .nil pass0 (by rfl) B.g (pa_cons (pv 1) pa_nil)))) pss_nil)
      (pss_one ps_no), ?_⟩
    exact q_when (b := true) (et_is (et_not (et_B (ev_bad (K := K) (σ := [some (.ref o), some x]) (ta := tVar 1) (ev_var rfl) ev_c (ev_cval ev_c N.rd cm) hx))) rfl) (fun _ H1 e1 => raise_one (ea_cons (ev_var rfl) ea_nil) (kE.mono e1)) (fun z => absurd z (by decide))
/-! ### Growth.__mul__ -/
theorem scBadMul : FnScope ["self", "other", "value", "gain"] ["self", "other"] (defScope (sGr 8)) := ⟨rfl, rfl, rfl, by decide +kernel, rfl, by decide +kernel, by decide +kernel⟩
theorem bad_Mul {C f fW CN fN : Addr} {fd fdW fdN : FuncData} (F : Fun K "__mul__" "Growth.__mul__" (sGr 8) f fd) (B : GOne P w K mg base "BadNumber" "value" CN fN fdN)
    (GW : FnOk P w K mg base CX0 2 fW fdW ["value", "least", "most"] (spWithin K)) (kW : PySem.W.keepIn K (.ref fW) = true) (bW : Binds K fdW ["value", "least", "most"] []) (gW : mg "is_within" = some (.ref fW)) : FnOk P w K mg base (L2.CX P w) 3 f fd ["self", "other"] (spBadW K CN 0 (10 ^ (6 : Int).toNat)) := by
  refine F.okX scBadMul (fun vs H Q E h => ?_) (fun cdv A outer s H vs Q E hr h => ?_)
  · obtain ⟨o, x, rfl, _⟩ := h
    rfl
  · obtain ⟨o, x, rfl, hx, kE⟩ := h
    refine ⟨_, pss_cons (ps_if (pt_not (pt_val (pe_call GW (hr.mono (by decide)) (by rfl) gW kW bW .nil pass0 (pa_cons (pv 1) (pa_cons pe_int (pa_cons (pe_op op_pow pe_int pe_int) pa_nil))))))
      (pss_one (ps_raise rfl (takes_of rfl rfl rfl rfl) (pmk_oex B.ox B.init B.ty B.ok hr B.b .nil pass0 (by rfl) B.g (pa_cons (pv 1) pa_nil)))) pss_nil)
      (pss_one ps_no), ?_⟩
    exact q_when (b := true) (et_is (et_not (et_B (ev_bad (K := K) (σ := [some (.ref o), some x, none, none]) (ta := tVar 1) (ev_var rfl) ev_c (ev_op ev_c ev_c (rv_I ⟨by decide, by decide, by decide⟩)) hx))) rfl) (fun _ H1 e1 => raise_one (ea_cons (ev_var rfl) ea_nil) (kE.mono e1)) (fun z => absurd z (by decide))
/-! ### Growth.__rmul__ -/
theorem scBadRMul : FnScope ["self", "other", "value", "gain"] ["self", "other"] (defScope (sGr 9)) := ⟨rfl, rfl, rfl, by decide +kernel, rfl, by decide +kernel, by decide +kernel⟩
theorem bad_RMul {C f fW CN fN : Addr} {fd fdW fdN : FuncData} (F : Fun K "__rmul__" "Growth.__rmul__" (sGr 9) f fd) (B : GOne P w K mg base "BadNumber" "value" CN fN fdN)
    (GW : FnOk P w K mg base CX0 2 fW fdW ["value", "least", "most"] (spWithin K)) (kW : PySem.W.keepIn K (.ref fW) = true) (bW : Binds K fdW ["value", "least", "most"] []) (gW : mg "is_within" = some (.ref fW)) : FnOk P w K mg base (L2.CX P w) 3 f fd ["self", "other"] (spBadW K CN 0 (10 ^ (6 : Int).toNat)) := by
  refine F.okX scBadRMul (fun vs H Q E h => ?_) (fun cdv A outer s H vs Q E hr h => ?_)
  · obtain ⟨o, x, rfl, _⟩ := h
    rfl
  · obtain ⟨o, x, rfl, hx, kE⟩ := h
    refine ⟨_, pss_cons (ps_if (pt_not (pt_val (pe_call GW (hr.mono (by decide)) (by rfl) gW kW bW .nil pass0 (pa_cons (pv 1) (pa_cons pe_int (pa_cons (pe_op op_pow pe_int pe_int) pa_nil))))))
      (pss_one (ps_raise rfl (takes_of rfl rfl rfl rfl) (pmk_oex B.ox B.init B.ty B.ok hr B.b .nil pass0 (by rfl) B.g (pa_cons (pv 1) pa_nil)))) pss_nil)
      (pss_one ps_no), ?_⟩
    exact q_when (b := true) (et_is (et_not (et_B (ev_bad (K := K) (σ := [some (.ref o), some x, none, none]) (ta := tVar 1) (ev_var rfl) ev_c (ev_op ev_c ev_c (rv_I ⟨by decide, by decide, by decide⟩)) hx))) rfl) (fun _ H1 e1 => raise_one (ea_cons (ev_var rfl) ea_nil) (kE.mono e1)) (fun z => absurd z (by decide))
/-! ### Growth.shifted -/
theorem scBadShift : FnScope ["self", "k", "told", "gains"] ["self", "k"] (defScope (sGr 11)) := ⟨rfl, rfl, rfl, by decide +kernel, rfl, by decide +kernel, by decide +kernel⟩
theorem bad_Shift {C f fW CN fN : Addr} {mc : Value} {fd fdW fdN : FuncData} (F : Fun K "shifted" "Growth.shifted" (sGr 11) f fd) (N : GName K mg C mc) (B : GOne P w K mg base "BadNumber" "value" CN fN fdN)
    (GW : FnOk P w K mg base CX0 2 fW fdW ["value", "least", "most"] (spWithin K)) (kW : PySem.W.keepIn K (.ref fW) = true) (bW : Binds K fdW ["value", "least", "most"] []) (gW : mg "is_within" = some (.ref fW)) : FnOk P w K mg base (L2.CX P w) 3 f fd ["self", "k"] (spBadW K CN 0 2000) := by
  obtain ⟨mu, cm⟩ := N.most
  refine F.okX scBadShift (fun vs H Q E h => ?_) (fun cdv A outer s H vs Q E hr h => ?_)
  · obtain ⟨o, x, rfl, _⟩ := h
    rfl
  · obtain ⟨o, x, rfl, hx, kE⟩ := h
    refine ⟨_, pss_cons (ps_if (pt_not (pt_val (pe_call GW (hr.mono (by decide)) (by rfl) gW kW bW .nil pass0 (pa_cons (pv 1) (pa_cons pe_int (pa_cons (pe_cval (pe_glob (v := .ref C) rfl N.g rfl)) pa_nil))))))
      (pss_one (ps_raise rfl (takes_of rfl rfl rfl rfl) (pmk_oex B.ox B.init B.ty B.ok hr B.b .nil pass0 (by rfl) B.g (pa_cons (pv 1) pa_nil)))) pss_nil)
      (pss_cons ps_no (pss_one ps_no)), ?_⟩
    exact q_when (b := true) (et_is (et_not (et_B (ev_bad (K := K) (σ := [some (.ref o), some x, none, none]) (ta := tVar 1) (ev_var rfl) ev_c (ev_cval ev_c N.rd cm) hx))) rfl) (fun _ H1 e1 => raise_one (ea_cons (ev_var rfl) ea_nil) (kE.mono e1)) (fun z => absurd z (by decide))
/-! ### Growth.first_over -/
theorem scBadOver : FnScope ["self", "value"] ["self", "value"] (defScope (sGr 14)) := ⟨rfl, rfl, rfl, by decide +kernel, rfl, by decide +kernel, by decide +kernel⟩
theorem bad_Over {C f fW CN fN : Addr} {fd fdW fdN : FuncData} (F : Fun K "first_over" "Growth.first_over" (sGr 14) f fd) (B : GOne P w K mg base "BadNumber" "value" CN fN fdN)
    (GW : FnOk P w K mg base CX0 2 fW fdW ["value", "least", "most"] (spWithin K)) (kW : PySem.W.keepIn K (.ref fW) = true) (bW : Binds K fdW ["value", "least", "most"] []) (gW : mg "is_within" = some (.ref fW)) : FnOk P w K mg base (L2.CX P w) 3 f fd ["self", "value"] (spBadW K CN 0 (10 ^ (40 : Int).toNat)) := by
  refine F.okX scBadOver (fun vs H Q E h => ?_) (fun cdv A outer s H vs Q E hr h => ?_)
  · obtain ⟨o, x, rfl, _⟩ := h
    rfl
  · obtain ⟨o, x, rfl, hx, kE⟩ := h
    refine ⟨_, pss_cons (ps_if (pt_not (pt_val (pe_call GW (hr.mono (by decide)) (by rfl) gW kW bW .nil pass0 (pa_cons (pv 1) (pa_cons pe_int (pa_cons (pe_op op_pow pe_int pe_int) pa_nil))))))
      (pss_one (ps_raise rfl (takes_of rfl rfl rfl rfl) (pmk_oex B.ox B.init B.ty B.ok hr B.b .nil pass0 (by rfl) B.g (pa_cons (pv 1) pa_nil)))) pss_nil)
      (pss_one ps_no), ?_⟩
    exact q_when (b := true) (et_is (et_not (et_B (ev_bad (K := K) (σ := [some (.ref o), some x]) (ta := tVar 1) (ev_var rfl) ev_c (ev_op ev_c ev_c (rv_I ⟨by decide, by decide, by decide⟩)) hx))) rfl) (fun _ H1 e1 => raise_one (ea_cons (ev_var rfl) ea_nil) (kE.mono e1)) (fun z => absurd z (by decide))
end
end K02
/-! enumerate over a tuple -/
namespace EnT
open PySem PySem.Spec PyProof.Rows L2
/-- the iterator of a tuple, as it begins -/
abbrev tupIt (t : Addr) : Obj := { cls := .type "tuple_iterator", data := .fields #[.ref t, .int 0 0] }
/-- the enumeration over the iterator at n, as it begins -/
abbrev enuAt (n : Addr) : Obj := { cls := .type "enumerate", data := .fields #[.none, .bool false, .ref n, rawInt 0, .none, .none] }
set_option maxHeartbeats 2000000 in
theorem new_enumT (t : Addr) (its : Array Value) : Meets (Builtin.«enumerate.__new__» ⟨[.type "enumerate", .ref t], []⟩)
    (fun _ R s => s.heap.IsTuple t its ∧ R (.ok (.ret (.ref (s.heap.push (tupIt t)).objs.size))) { s with heap := (s.heap.push (tupIt t)).push (enuAt s.heap.objs.size) }) := Meets.of_wp fun P w A R s hh => by
  rcases s with ⟨hp, gs, ds, tk, sys⟩
  rcases hh with ⟨hT, goal⟩
  have kind := sub_enumerate
  have begin_ : ∀ {B : Around} {E : Value → Shared → Prop} {Q : Value → Shared → Prop}, Q (.ref hp.objs.size) ⟨hp.push (tupIt t), gs, ds, tk, sys⟩ → wpAny (model P w) B (pyIter (.ref t)) Q E ⟨hp, gs, ds, tk, sys⟩ := fun q => wpAny_pyIter_tuple hT q
  wp_walk using begin_
  refine wpAny_stack_any (fun _ => wpAny_pure ?_)
  split
  next c _ _ _ _ _ => cases (c == Value.type "enumerate") <;> (wp_walk using begin_; exact ⟨_, rfl, goal⟩)
  next => (wp_walk using begin_; exact ⟨_, rfl, goal⟩)
theorem call_enumT {P : Program} {w : World} {A : Around} {E : Value → Shared → Prop} {s : Shared} {t : Addr} {its : Array Value} {Q : Value → Shared → Prop} (hT : s.heap.IsTuple t its)
    (k : ∀ h', IsEnum h' (s.heap.objs.size + 1) s.heap.objs.size 0 .none → h'.IsTupleIter s.heap.objs.size t 0 → (∀ b o, s.heap.get? b = some o → h'.get? b = some o) → Q (.ref (s.heap.objs.size + 1)) { s with heap := h' }) :
    wpAny (model P w) A (call (.type "enumerate") [.ref t]) Q E s := by
  have sz : (s.heap.push (tupIt t)).objs.size = s.heap.objs.size + 1 := Heap.size_push ..
  have at1 : ((s.heap.push (tupIt t)).push (enuAt s.heap.objs.size)).get? (s.heap.objs.size + 1) = some (enuAt s.heap.objs.size) := sz ▸ Heap.get?_push_size (s.heap.push (tupIt t)) rfl
  have at0 : ((s.heap.push (tupIt t)).push (enuAt s.heap.objs.size)).get? s.heap.objs.size = some (tupIt t) := Heap.get?_push_of_some _ (Heap.get?_push_size _ rfl)
  refine callType_new F.called_enumerate (by decide) (F.typeCall_enumerate_1 _) (F.newCall_enumerate_1 _) (fun obj => F.args_object_init_2 obj _) F.entry_enumerate_new (new_enumT t its) ⟨hT, ?_⟩
  show _ ∧ _
  rw [sz]
  exact ⟨⟨_, at1, rfl⟩, k _ at1 ⟨_, at0, rfl, rfl⟩ fun b o e => Heap.get?_push_of_some _ (Heap.get?_push_of_some _ e)⟩
/-- the tuple at a, turn by turn: each item with its place, in a new pair -/
def Itn (K : PySem.W.Frag) (a : Addr) : It where
  go i H := ∃ (ys : List V) (y : V), SqT K H a ys ∧ ys[i]? = some y
  yld i H v H' := ∃ T y, v = .ref T ∧ H T = none ∧ H' = upd H T (.tup [.int (i : Nat), y]) ∧ ∀ ys, SqT K H a ys → ys[i]? = some y
  stop i H := ∃ ys : List V, SqT K H a ys ∧ ys.length = i
theorem turn_enumT {P : Program} {w : World} {K : PySem.W.Frag} {elts : List Expr} {kk : Nat} {tpos : Pos} (a e it : Addr) :
    Turn P w K (.Tuple elts kk tpos) (Itn K a) [e, it] e (fun i h => (∃ old, IsEnum h e it ((i : Nat) : Int) old) ∧ h.IsTupleIter it a i) where
  mem := List.mem_cons_self ..
  obj := fun i h ⟨⟨old, he⟩, o, ho, _, hd⟩ b hb => by
    rcases List.mem_cons.mp hb with rfl | hb
    · exact ⟨_, he, fun v q => nomatch q⟩
    · obtain rfl := List.mem_singleton.mp hb
      exact ⟨o, ho, fun v q => by rw [hd] at q; cases q⟩
  keep := fun i h h' ⟨⟨old, he⟩, hi⟩ k => ⟨⟨old, k e (List.mem_cons_self ..) _ he⟩, hi.at fun o q => k it (by simp) o q⟩
  item := by
    rintro X rfl rfl rfl hc i pins s σ H E I hf ⟨⟨old, he⟩, hit⟩ ⟨ys, y, hq, hy⟩
    obtain ⟨its, rv, p, hz⟩ := I.tuple hq
    have ht : s.heap.IsTuple a its.toArray := p
    obtain ⟨u, hu, ru⟩ := rv.get hy
    have len : i < its.length := (List.getElem?_eq_some_iff.mp hu).1
    have ai : a ≠ it := fun z => by
      obtain ⟨o1, g1, c1, _⟩ := ht
      obtain ⟨o2, g2, c2, _⟩ := id hit
      rw [z, g2] at g1
      rw [← Option.some.inj g1, c2] at c1
      exact absurd c1 (by decide)
    have ei : e ≠ it := fun z => by
      obtain ⟨o2, g2, c2, _⟩ := id hit
      have g1 : s.heap.get? e = _ := he
      rw [z, g2] at g1
      rw [Option.some.inj g1] at c2
      exact absurd (show Value.type "enumerate" = Value.type "tuple_iterator" from c2) (by decide)
    have ea : e ≠ a := fun z => by
      obtain ⟨o2, g2, c2, _⟩ := ht
      have g1 : s.heap.get? e = _ := he
      rw [z, g2] at g1
      rw [Option.some.inj g1] at c2
      exact absurd (show Value.type "enumerate" = Value.type "tuple" from c2) (by decide)
    refine wpAny_pyNext_enum_itemD (Draws.tuple (A := X.A.in1) (I.ok.hd hc) it a ai its.toArray) he ⟨hit, ht⟩ (by simpa using len) ei (by simp [ei, ea]) fun x h' tk hx ho hst hT sz1 hk => ?_
    have xu : x = u := by
      have : its[i]? = some x := by simpa using hx
      rw [hu] at this
      exact (Option.some.inj this).symm
    subst xu
    have hel : e < s.heap.objs.size := Heap.lt_size he
    have hil : it < s.heap.objs.size := by obtain ⟨_, q, _⟩ := hit; exact Heap.lt_size q
    refine ⟨_, rfl, wpAny_letOwnedTupleGo_enum (s := { s with heap := h', toks := tk + 1 }) ho fun h2 he2 sb => ?_⟩
    have pair : h2.get? s.heap.objs.size = some { cls := .type "tuple", data := .seq #[.int i tk, x] } := (sb.2 _ (Nat.ne_of_gt hel)).trans hT
    have new : ObjOk X.prog X.w (upd H s.heap.objs.size (.tup [.int (i : Nat), y])) h2 s.heap.objs.size (.tup [.int (i : Nat), y]) :=
      ⟨by show 2 ≤ sizeLine; decide, [.int i tk, x], .cons ⟨_, rfl⟩ (.cons ru .nil), ⟨_, pair, rfl, _, rfl⟩⟩
    have J : Inv X pins σ (upd H s.heap.objs.size (.tup [.int (i : Nat), y])) { s with heap := h2, toks := tk + 1 } :=
      I.turnedNew (ch := [e, it]) (fun b o hb q => (sb.2 b fun z => hb (by simp [z])).trans (hk b o (fun z => hb (by simp [z])) (fun z => hb (by simp [z])) q)) hf (Nat.le_refl _) new
    refine ⟨.ref s.heap.objs.size, _, J, rfl, ⟨_, y, rfl, I.hok.fresh (Nat.le_refl _), rfl, fun zs hz => by rw [I.tuple_inj hz hq]; exact hy⟩, ⟨⟨x, ?_⟩, hst.1.at fun o q => (sb.2 it (Ne.symm ei)).trans q⟩, fun b hb => ?_⟩
    · have e1 : ((i + 1 : Nat) : Int) = (i : Int) + 1 := rfl
      rw [e1]
      exact he2
    · have lt : b < s.heap.objs.size := by
        rcases List.mem_cons.mp hb with rfl | hb
        · exact hel
        · obtain rfl := List.mem_singleton.mp hb
          exact hil
      rw [upd_ne (Nat.ne_of_lt lt)]
      exact (hf b hb).1
  done := by
    rintro X rfl rfl rfl hc i pins s σ H E I hf ⟨⟨old, he⟩, hit⟩ ⟨ys, hq, hy⟩
    obtain ⟨its, rv, p, hz⟩ := I.tuple hq
    have ht : s.heap.IsTuple a its.toArray := p
    have hl := rv.length
    obtain ⟨f0, f1, f2, f3, f4, f5⟩ := hf it (by simp)
    have ai : a ≠ it := fun z => by
      obtain ⟨o1, g1, c1, _⟩ := ht
      obtain ⟨o2, g2, c2, _⟩ := id hit
      rw [z, g2] at g1
      rw [← Option.some.inj g1, c2] at c1
      exact absurd c1 (by decide)
    have hi : its.toArray.size = i := by rw [List.size_toArray]; omega
    exact wpAny_pyNext_enum_endD (Draws.tuple (A := X.A.in1) (I.ok.hd hc) it a ai its.toArray) he (hi.symm ▸ ⟨hit, ht⟩) fun h' eb => ⟨rfl, I.turned (t' := s.toks) (fun b o hb z => eb b o hb z) f0 f1 f3 f4 f5⟩
  self := fun A i s Q E ⟨⟨_, he⟩, _⟩ h => wpAny_pyIter_enum he h
/-- enumerate(a tuple) -/
def iEnumT (K : PySem.W.Frag) (ta : TA) : TI := fun σ H R => ta σ H fun vs H1 => ∃ a ys, vs = [.ref a] ∧ SqT K H1 a ys ∧ R (Itn K a) H1
theorem pi_enumT {X : Cx} {e : Expr} {ta : TA} {p pos tpos : Pos} {elts : List Expr} {kk : Nat} (hg : Gl X "enumerate") (hm : X.mg "enumerate" = none) (ha : PA X [e] ta)
    (one : starEach [e] X.env = [(false, eval e X.env)] := by rfl) : PI X (.Tuple elts kk tpos) (.Call (.Name "enumerate" p) [e] [] pos) (iEnumT X.K ta) := by
  refine ⟨fun pins s σ H R I h => Call_ (ld_blt I hg hm boot_enumerate (PyProof.Rows.callWith_type1 (thn (ha.run pos pins s σ H _ I h) fun us s1 ⟨vs, H1, J, r1, a, ys, ev, hq, q⟩ => ?_) one rfl))⟩
  subst ev
  rcases r1 with _ | ⟨r, r0⟩
  cases r0
  cases r
  obtain ⟨its, rv, at_, hz⟩ := J.tuple hq
  refine call_enumT (its := its.toArray) at_ fun h' he hit hk => wpAny_pyIter_enum he ?_
  refine ⟨s1.heap.objs.size + 1, [s1.heap.objs.size + 1, s1.heap.objs.size], _, _, H1, rfl, J.kept (t' := s1.toks) hk, turn_enumT a _ _, ⟨⟨.none, he⟩, hit⟩, fun b hb => ?_, q⟩
  have le : s1.heap.objs.size ≤ b := by
    rcases List.mem_cons.mp hb with rfl | hb
    · exact Nat.le_succ _
    · exact Nat.le_of_eq (List.mem_singleton.mp hb).symm
  exact J.fpOk le (J.hok.fresh le)
theorem walk_enumT {K : PySem.W.Frag} {a : Addr} {ys : List V} : Walk (Itn K a) ys.length (fun H => SqT K H a ys) (YPair (fun i => some (.int (i : Nat))) (fun i => ys[i]?)) :=
  ⟨fun i _ hi q => ⟨ys, ys[i], q, List.getElem?_eq_getElem hi⟩, fun _ q => ⟨ys, q, rfl⟩, fun i H v H' _ q ⟨T, y, h1, h2, h3, h4⟩ => ⟨T, .int (i : Nat), y, h1, h2, h3, rfl, h4 ys q⟩⟩
end EnT
/-! what the methods of Growth refuse: others that are no growths -/
namespace K02
open PySem L2 Evl Gr ClX OpX
/-- no growth -/
def NoG (K : PySem.W.Frag) (H : Hp) (C : Addr) (x : V) : Prop := ∃ T : String, TyX K H x (.type T) ∧ PySem.W.kitOne K (.type T) (.ref C) = some false
theorem NoG.mono {K : PySem.W.Frag} {H H' : Hp} {C : Addr} {x : V} (e : Ex H H') (h : NoG K H C x) : NoG K H' C x := h.imp fun _ z => ⟨tyx_mono e z.1, z.2⟩
def spBadO (K : PySem.W.Frag) (C CG : Addr) : Sp := fun vs H _ E => ∃ o x, vs = [.ref o, x] ∧ NoG K H C x ∧ Out1 CG "part" (.str "other") H E
theorem ev_noG {K : PySem.W.Frag} {σ : L2.St} {H : Hp} {C : Addr} {ta : TE} {x : V} (ha : Ev ta σ H x) (h : NoG K H C x) : Ev (tCB (rIsi K) (tCons ta (tCons (tC (.ref C)) tNil))) σ H (.bl false) :=
  ev_cb (ea_cons ha (ea_cons ev_c ea_nil)) fun H1 e _ q => by
    obtain ⟨T, h1, h2⟩ := h
    exact ⟨x, .ref C, .type T, .ref C, false, rfl, .own C, tyx_mono e h1, h2, q H1 (Ex.refl H1)⟩
section
variable {P : Program} {w : World} {K : PySem.W.Frag} {mg : Str → Option Value} {base : Heap}
/-! ### Growth.__add__ -/
theorem scBadAdd : FnScope ["self", "other", "told", "gains"] ["self", "other"] (defScope (sGr 5)) := ⟨rfl, rfl, rfl, by decide +kernel, rfl, by decide +kernel, by decide +kernel⟩
theorem bad_Add {C f CG fG : Addr} {mc : Value} {fd fdG : FuncData} (F : Fun K "__add__" "Growth.__add__" (sGr 5) f fd) (N : GName K mg C mc) (inst : mg "isinstance" = none) (B : GOne P w K mg base "BadGrowth" "part" CG fG fdG) :
    FnOk P w K mg base (L2.CX P w) 3 f fd ["self", "other"] (spBadO K C CG) := by
  refine F.okX scBadAdd (fun vs H Q E h => ?_) (fun cdv A outer s H vs Q E hr h => ?_)
  · obtain ⟨o, x, rfl, _⟩ := h
    rfl
  · obtain ⟨o, x, rfl, hx, kE⟩ := h
    refine ⟨_, pss_cons (ps_if (pt_not (pt_val (pe_callB call_isi (by rfl) inst (by decide +kernel) (pa_cons (pv 1) (pa_cons (pe_glob (v := .ref C) rfl N.g rfl) pa_nil)))))
      (pss_one (ps_raise rfl (takes_of rfl rfl rfl rfl) (pmk_oex B.ox B.init B.ty B.ok hr B.b .nil pass0 (by rfl) B.g (pa_cons pe_str pa_nil)))) pss_nil)
      (pss_cons ps_no (pss_one ps_no)), ?_⟩
    exact q_when (b := true) (et_is (et_not (et_B (ev_noG (K := K) (σ := [some (.ref o), some x, none, none]) (ta := tVar 1) (ev_var rfl) hx))) rfl) (fun _ H1 e1 => raise_one (ea_cons ev_c ea_nil) (kE.mono e1)) (fun z => absurd z (by decide))
/-! ### Growth.__or__ -/
theorem scBadOr : FnScope ["self", "other", "told", "gains"] ["self", "other"] (defScope (sGr 6)) := ⟨rfl, rfl, rfl, by decide +kernel, rfl, by decide +kernel, by decide +kernel⟩
theorem bad_Or {C f CG fG : Addr} {mc : Value} {fd fdG : FuncData} (F : Fun K "__or__" "Growth.__or__" (sGr 6) f fd) (N : GName K mg C mc) (inst : mg "isinstance" = none) (B : GOne P w K mg base "BadGrowth" "part" CG fG fdG) :
    FnOk P w K mg base (L2.CX P w) 3 f fd ["self", "other"] (spBadO K C CG) := by
  refine F.okX scBadOr (fun vs H Q E h => ?_) (fun cdv A outer s H vs Q E hr h => ?_)
  · obtain ⟨o, x, rfl, _⟩ := h
    rfl
  · obtain ⟨o, x, rfl, hx, kE⟩ := h
    refine ⟨_, pss_cons (ps_if (pt_not (pt_val (pe_callB call_isi (by rfl) inst (by decide +kernel) (pa_cons (pv 1) (pa_cons (pe_glob (v := .ref C) rfl N.g rfl) pa_nil)))))
      (pss_one (ps_raise rfl (takes_of rfl rfl rfl rfl) (pmk_oex B.ox B.init B.ty B.ok hr B.b .nil pass0 (by rfl) B.g (pa_cons pe_str pa_nil)))) pss_nil)
      (pss_cons ps_no (pss_one ps_no)), ?_⟩
    exact q_when (b := true) (et_is (et_not (et_B (ev_noG (K := K) (σ := [some (.ref o), some x, none, none]) (ta := tVar 1) (ev_var rfl) hx))) rfl) (fun _ H1 e1 => raise_one (ea_cons ev_c ea_nil) (kE.mono e1)) (fun z => absurd z (by decide))
/-! ### Growth.__and__ -/
theorem scBadAnd : FnScope ["self", "other", "told", "gains"] ["self", "other"] (defScope (sGr 7)) := ⟨rfl, rfl, rfl, by decide +kernel, rfl, by decide +kernel, by decide +kernel⟩
theorem bad_And {C f CG fG : Addr} {mc : Value} {fd fdG : FuncData} (F : Fun K "__and__" "Growth.__and__" (sGr 7) f fd) (N : GName K mg C mc) (inst : mg "isinstance" = none) (B : GOne P w K mg base "BadGrowth" "part" CG fG fdG) :
    FnOk P w K mg base (L2.CX P w) 3 f fd ["self", "other"] (spBadO K C CG) := by
  refine F.okX scBadAnd (fun vs H Q E h => ?_) (fun cdv A outer s H vs Q E hr h => ?_)
  · obtain ⟨o, x, rfl, _⟩ := h
    rfl
  · obtain ⟨o, x, rfl, hx, kE⟩ := h
    refine ⟨_, pss_cons (ps_if (pt_not (pt_val (pe_callB call_isi (by rfl) inst (by decide +kernel) (pa_cons (pv 1) (pa_cons (pe_glob (v := .ref C) rfl N.g rfl) pa_nil)))))
      (pss_one (ps_raise rfl (takes_of rfl rfl rfl rfl) (pmk_oex B.ox B.init B.ty B.ok hr B.b .nil pass0 (by rfl) B.g (pa_cons pe_str pa_nil)))) pss_nil)
      (pss_cons ps_no (pss_one ps_no)), ?_⟩
    exact q_when (b := true) (et_is (et_not (et_B (ev_noG (K := K) (σ := [some (.ref o), some x, none, none]) (ta := tVar 1) (ev_var rfl) hx))) rfl) (fun _ H1 e1 => raise_one (ea_cons ev_c ea_nil) (kE.mono e1)) (fun z => absurd z (by decide))
/-! ### Growth.after -/
theorem scBadAfter : FnScope ["self", "other", "told", "gains"] ["self", "other"] (defScope (sGr 10)) := ⟨rfl, rfl, rfl, by decide +kernel, rfl, by decide +kernel, by decide +kernel⟩
theorem bad_After {C f CG fG : Addr} {mc : Value} {fd fdG : FuncData} (F : Fun K "after" "Growth.after" (sGr 10) f fd) (N : GName K mg C mc) (inst : mg "isinstance" = none) (B : GOne P w K mg base "BadGrowth" "part" CG fG fdG) :
    FnOk P w K mg base (L2.CX P w) 3 f fd ["self", "other"] (spBadO K C CG) := by
  refine F.okX scBadAfter (fun vs H Q E h => ?_) (fun cdv A outer s H vs Q E hr h => ?_)
  · obtain ⟨o, x, rfl, _⟩ := h
    rfl
  · obtain ⟨o, x, rfl, hx, kE⟩ := h
    refine ⟨_, pss_cons (ps_if (pt_not (pt_val (pe_callB call_isi (by rfl) inst (by decide +kernel) (pa_cons (pv 1) (pa_cons (pe_glob (v := .ref C) rfl N.g rfl) pa_nil)))))
      (pss_one (ps_raise rfl (takes_of rfl rfl rfl rfl) (pmk_oex B.ox B.init B.ty B.ok hr B.b .nil pass0 (by rfl) B.g (pa_cons pe_str pa_nil)))) pss_nil)
      (pss_cons ps_no (pss_one ps_no)), ?_⟩
    exact q_when (b := true) (et_is (et_not (et_B (ev_noG (K := K) (σ := [some (.ref o), some x, none, none]) (ta := tVar 1) (ev_var rfl) hx))) rfl) (fun _ H1 e1 => raise_one (ea_cons ev_c ea_nil) (kE.mono e1)) (fun z => absurd z (by decide))
/-! ### Growth.first_above -/
theorem scBadAbove : FnScope ["self", "other"] ["self", "other"] (defScope (sGr 12)) := ⟨rfl, rfl, rfl, by decide +kernel, rfl, by decide +kernel, by decide +kernel⟩
theorem bad_Above {C f CG fG : Addr} {mc : Value} {fd fdG : FuncData} (F : Fun K "first_above" "Growth.first_above" (sGr 12) f fd) (N : GName K mg C mc) (inst : mg "isinstance" = none) (B : GOne P w K mg base "BadGrowth" "part" CG fG fdG) :
    FnOk P w K mg base (L2.CX P w) 3 f fd ["self", "other"] (spBadO K C CG) := by
  refine F.okX scBadAbove (fun vs H Q E h => ?_) (fun cdv A outer s H vs Q E hr h => ?_)
  · obtain ⟨o, x, rfl, _⟩ := h
    rfl
  · obtain ⟨o, x, rfl, hx, kE⟩ := h
    refine ⟨_, pss_cons (ps_if (pt_not (pt_val (pe_callB call_isi (by rfl) inst (by decide +kernel) (pa_cons (pv 1) (pa_cons (pe_glob (v := .ref C) rfl N.g rfl) pa_nil)))))
      (pss_one (ps_raise rfl (takes_of rfl rfl rfl rfl) (pmk_oex B.ox B.init B.ty B.ok hr B.b .nil pass0 (by rfl) B.g (pa_cons pe_str pa_nil)))) pss_nil)
      (pss_one ps_no), ?_⟩
    exact q_when (b := true) (et_is (et_not (et_B (ev_noG (K := K) (σ := [some (.ref o), some x]) (ta := tVar 1) (ev_var rfl) hx))) rfl) (fun _ H1 e1 => raise_one (ea_cons ev_c ea_nil) (kE.mono e1)) (fun z => absurd z (by decide))
/-! ### Growth.at_most -/
theorem scBadAt : FnScope ["self", "other"] ["self", "other"] (defScope (sGr 13)) := ⟨rfl, rfl, rfl, by decide +kernel, rfl, by decide +kernel, by decide +kernel⟩
def spBadA (K : PySem.W.Frag) (C CG : Addr) : Sp := fun vs H _ E => ∃ o x dx fs, vs = [.ref o, x] ∧ H o = some (.ins C dx fs) ∧ fs.lookup ("first_above" : Str) = none ∧ NoG K H C x ∧ Out1 CG "part" (.str "other") H E
theorem bad_At {C f CG fA : Addr} {fd fdA : FuncData} (F : Fun K "at_most" "Growth.at_most" (sGr 13) f fd) (cl : Cls K C) (mA : Meth K C "first_above" fA) (GA : FnOk P w K mg base (L2.CX P w) 3 fA fdA ["self", "other"] (spBadO K C CG)) (bA : Binds K fdA ["self", "other"] []) :
    FnOk P w K mg base (L2.CX P w) 4 f fd ["self", "other"] (spBadA K C CG) := by
  refine F.okX scBadAt (fun vs H Q E h => ?_) (fun cdv A outer s H vs Q E hr h => ?_)
  · obtain ⟨o, x, dx, fs, rfl, _⟩ := h
    rfl
  · obtain ⟨o, x, dx, fs, rfl, hO, hf, hx, kE⟩ := h
    refine ⟨_, pss_one (ps_ret (pe_cmpR op_isN (pe_meth (E := E) (pv 0) cl mA GA hr bA .nil (passes_call (takes_of rfl rfl rfl rfl) fun _ _ _ _ z => z) (pa_cons (pv 1) pa_nil)) pe_non (nomark _))), ?_⟩
    exact ⟨_, rfl, o, dx, fs, rfl, hO, hf, _, rfl, o, x, rfl, hx, kE⟩
end
end K02
/-! what the static methods of Growth refuse -/
namespace L2
open PySem PySem.Spec PyProof.Rows
section
variable {X : Cx} {st : Stmt} {t : TS}
/-- a statement that lets nothing out, among such as do -/
theorem PS.calm_ (h : PS X.nox st t) : PS X st t := ⟨fun pins s σ H D I hw => wpAny_mono (h.run pins s σ H _ (I.wish _) hw) (fun f s' q => SP.unwish q) fun _ _ z => absurd z id⟩
end
end L2
namespace K02
open PySem L2 Evl Gr ClX OpX StX EnT
/-- no number from 0 on -/
def Bad0 (K : PySem.W.Frag) (H : Hp) (x : V) : Prop := (∃ i, x = .int i ∧ decide (0 ≤ i) = false) ∨ ∃ (T : String) (a b : Bool), TyX K H x (.type T) ∧ kitB T "int" = some a ∧ kitB T "bool" = some b ∧ (a && !b) = false
theorem Bad0.mono {K : PySem.W.Frag} {H H' : Hp} {x : V} (e : Ex H H') (h : Bad0 K H x) : Bad0 K H' x := h.imp id fun ⟨T, a, b, h1, h2⟩ => ⟨T, a, b, tyx_mono e h1, h2⟩
theorem ev_bad0 {K : PySem.W.Frag} {σ : L2.St} {H : Hp} {ta : TE} {x : V} (ha : Ev ta σ H x) (h : Bad0 K H x) : Ev (tCall (spFrom0 K) [] E0 (tCons ta tNil)) σ H (.bl false) :=
  ev_call (z := .bl false) (ea_cons ha ea_nil) fun H1 e Q q E => by
    rcases h with ⟨i, rfl, hi⟩ | ⟨T, a, b, h1, h2, h3, h4⟩
    · exact .inl ⟨i, rfl, by rw [hi]; exact q⟩
    · exact .inr ⟨x, T, a, b, rfl, tyx_mono e h1, h2, h3, h4, q⟩
section
variable {P : Program} {w : World} {K : PySem.W.Frag} {mg : Str → Option Value} {base : Heap}
/-! ### Growth.constant -/
def spBadC (K : PySem.W.Frag) (CN : Addr) : Sp := fun vs H _ E => ∃ x, vs = [x] ∧ Bad0 K H x ∧ Out1 CN "value" x H E
theorem scBadConst : FnScope ["value"] ["value"] (defScope (sGr 17)) := ⟨rfl, rfl, rfl, by decide +kernel, rfl, by decide +kernel, by decide +kernel⟩
theorem bad_Const {f fZ CN fN : Addr} {fd fdZ fdN : FuncData} (F : Fun K "constant" "Growth.constant" (sGr 17) f fd) (B : GOne P w K mg base "BadNumber" "value" CN fN fdN)
    (GZ : FnOk P w K mg base CX0 2 fZ fdZ ["value"] (spFrom0 K)) (kZ : PySem.W.keepIn K (.ref fZ) = true) (bZ : Binds K fdZ ["value"] []) (gZ : mg "is_from_zero" = some (.ref fZ)) : FnOk P w K mg base (L2.CX P w) 3 f fd ["value"] (spBadC K CN) := by
  refine F.okX scBadConst (fun vs H Q E h => ?_) (fun cdv A outer s H vs Q E hr h => ?_)
  · obtain ⟨x, rfl, _⟩ := h
    rfl
  · obtain ⟨x, rfl, hx, kE⟩ := h
    refine ⟨_, pss_cons (ps_if (pt_not (pt_val (pe_call GZ (hr.mono (by decide)) (by rfl) gZ kZ bZ .nil pass0 (pa_cons (pv 0) pa_nil))))
      (pss_one (ps_raise rfl (takes_of rfl rfl rfl rfl) (pmk_oex B.ox B.init B.ty B.ok hr B.b .nil pass0 (by rfl) B.g (pa_cons (pv 0) pa_nil)))) pss_nil) (pss_one ps_no), ?_⟩
    exact q_when (b := true) (et_is (et_not (et_B (ev_bad0 (K := K) (σ := [some x]) (ta := tVar 0) (ev_var rfl) hx))) rfl) (fun _ H1 e1 => raise_one (ea_cons (ev_var rfl) ea_nil) (kE.mono e1)) (fun z => absurd z (by decide))
/-! ### Growth.ramp -/
def spBadR (K : PySem.W.Frag) (CN : Addr) : Sp := fun vs H _ E => ∃ x y, vs = [x, y] ∧ ((Bad0 K H x ∧ Out1 CN "value" x H E) ∨ ∃ i : Nat, x = .int (i : Int) ∧ Bad0 K H y ∧ Out1 CN "value" y H E)
theorem scBadRamp : FnScope ["gain", "begin"] ["gain", "begin"] (defScope (sGr 18)) := ⟨rfl, rfl, rfl, by decide +kernel, rfl, by decide +kernel, by decide +kernel⟩
theorem bad_Ramp {f fZ CN fN : Addr} {fd fdZ fdN : FuncData} {dvs : List V} (F : FunD K "ramp" "Growth.ramp" (defArgs (sGr 18)) (defBody (sGr 18)) (defScope (sGr 18)) dvs [] f fd) (B : GOne P w K mg base "BadNumber" "value" CN fN fdN)
    (GZ : FnOk P w K mg base CX0 2 fZ fdZ ["value"] (spFrom0 K)) (kZ : PySem.W.keepIn K (.ref fZ) = true) (bZ : Binds K fdZ ["value"] []) (gZ : mg "is_from_zero" = some (.ref fZ)) : FnOk P w K mg base (L2.CX P w) 3 f fd ["gain", "begin"] (spBadR K CN) := by
  obtain ⟨oc, od, dV, kV, doc, pm, an, cdv, ct, osl, rfl, lk, hcd, _, _⟩ := F.ex
  refine fn_of lk hcd scBadRamp (fun vs H Q E h => ?_) (fun A outer s H vs Q E hr h => ?_)
  · obtain ⟨x, y, rfl, _⟩ := h
    rfl
  · obtain ⟨x, y, rfl, h⟩ := h
    refine ⟨_, pss_cons (ps_if (pt_not (pt_val (pe_call GZ (hr.mono (by decide)) (by rfl) gZ kZ bZ .nil pass0 (pa_cons (pv 0) pa_nil))))
      (pss_one (ps_raise rfl (takes_of rfl rfl rfl rfl) (pmk_oex B.ox B.init B.ty B.ok hr B.b .nil pass0 (by rfl) B.g (pa_cons (pv 0) pa_nil)))) pss_nil)
      (pss_cons (ps_if (pt_not (pt_val (pe_call GZ (hr.mono (by decide)) (by rfl) gZ kZ bZ .nil pass0 (pa_cons (pv 1) pa_nil))))
      (pss_one (ps_raise rfl (takes_of rfl rfl rfl rfl) (pmk_oex B.ox B.init B.ty B.ok hr B.b .nil pass0 (by rfl) B.g (pa_cons (pv 1) pa_nil)))) pss_nil) (pss_one ps_no)), ?_⟩
    rcases h with ⟨hx, kE⟩ | ⟨i, rfl, hy, kE⟩
    · exact q_when (b := true) (et_is (et_not (et_B (ev_bad0 (K := K) (σ := [some x, some y]) (ta := tVar 0) (ev_var rfl) hx))) rfl) (fun _ H1 e1 => raise_one (ea_cons (ev_var rfl) ea_nil) (kE.mono e1)) (fun z => absurd z (by decide))
    · refine q_when (b := false) (et_is (et_not (et_B (ev_call (z := .bl true) (ea_cons (ev_var rfl) ea_nil) fun H1 e Q q E => .inl ⟨(i : Int), rfl, by rw [decide_eq_true (by omega : (0 : Int) ≤ (i : Int))]; exact q⟩))) rfl) (fun z => absurd z (by decide)) fun _ H1 e1 => ?_
      exact q_when (b := true) (et_is (et_not (et_B (ev_bad0 (K := K) (σ := [some (.int (i : Int)), some y]) (ta := tVar 1) (ev_var rfl) (hy.mono e1)))) rfl) (fun _ H2 e2 => raise_one (ea_cons (ev_var rfl) ea_nil) (kE.mono (e1.trans e2))) (fun z => absurd z (by decide))
/-! ### Growth.steps -/
def spBadS (K : PySem.W.Frag) (CN : Addr) : Sp := fun vs H _ E => ∃ x, vs = [x] ∧ ((∃ i, x = .int i ∧ (decide (1 ≤ i) && decide (i ≤ 2000)) = false) ∨ ∃ (T : String) (a b : Bool), TyX K H x (.type T) ∧ kitB T "int" = some a ∧ kitB T "bool" = some b ∧ (a && !b) = false) ∧ Out1 CN "value" x H E
theorem scBadSteps : FnScope ["many", "at"] ["many"] (defScope (sGr 19)) := ⟨rfl, rfl, rfl, by decide +kernel, rfl, by decide +kernel, by decide +kernel⟩
theorem bad_Steps {C f fZ CN fN : Addr} {mc : Value} {fd fdZ fdN : FuncData} (F : Fun K "steps" "Growth.steps" (sGr 19) f fd) (N : GName K mg C mc) (B : GOne P w K mg base "BadNumber" "value" CN fN fdN)
    (GZ : FnOk P w K mg base CX0 1 fZ fdZ ["value"] (spIsInt K)) (kZ : PySem.W.keepIn K (.ref fZ) = true) (bZ : Binds K fdZ ["value"] []) (gZ : mg "is_integer" = some (.ref fZ)) : FnOk P w K mg base (L2.CX P w) 3 f fd ["many"] (spBadS K CN) := by
  obtain ⟨mu, cm⟩ := N.most
  refine F.okX scBadSteps (fun vs H Q E h => ?_) (fun cdv A outer s H vs Q E hr h => ?_)
  · obtain ⟨x, rfl, _⟩ := h
    rfl
  · obtain ⟨x, rfl, hx, kE⟩ := h
    refine ⟨_, pss_cons (ps_if (PW.pt (pw_or (pt_not (pt_val (pe_call GZ (hr.mono (by decide)) (by rfl) gZ kZ bZ .nil pass0 (pa_cons (pv 0) pa_nil)))) (pw_or1 (pt_not (pt_chain op_le op_le pe_int (pv 0) (pe_cval (pe_glob (v := .ref C) rfl N.g rfl)))))))
      (pss_one (ps_raise rfl (takes_of rfl rfl rfl rfl) (pmk_oex B.ox B.init B.ty B.ok hr B.b .nil pass0 (by rfl) B.g (pa_cons (pv 0) pa_nil)))) pss_nil) (pss_one ps_no), ?_⟩
    rcases hx with ⟨i, rfl, hi⟩ | ⟨T, a, b, h1, h2, h3, h4⟩
    · refine q_when (b := true) (et_is (et_or (a := false) (b := true) (et_is (et_not (et_B (ev_call (z := .bl true) (ea_cons (ev_var rfl) ea_nil) (spv_isInt (.base (.int i)) kit_int_int kit_int_bool)))) rfl) fun _ => et_is (et_not (et_test (ev_chain ev_c (ev_var rfl) (ev_cval ev_c N.rd cm)))) (by rw [hi]; rfl)) rfl) (fun _ H1 e1 => raise_one (ea_cons (ev_var rfl) ea_nil) (kE.mono e1)) (fun z => absurd z (by decide))
    · refine q_when (b := true) (et_is (et_or (a := true) (b := true) (et_is (et_not (et_B (ev_call (z := .bl false) (ea_cons (ev_var rfl) ea_nil) fun H1 e Q q E => ⟨x, T, a, b, rfl, tyx_mono e h1, h2, h3, by rw [h4]; exact q⟩))) rfl) fun z => absurd z (by decide)) rfl) (fun _ H1 e1 => raise_one (ea_cons (ev_var rfl) ea_nil) (kE.mono e1)) (fun z => absurd z (by decide))
/-! ### Growth.summed -/
/-- growths before i, no growth at i -/
def spBadSum (K : PySem.W.Frag) (C CG : Addr) : Sp := fun vs H _ E => ∃ (p : Addr) (xs : List V) (i : Nat) (x : V), vs = [.ref p] ∧ SqT K H p xs ∧ xs[i]? = some x ∧ NoG K H C x ∧ (∀ (j : Nat) y, j < i → xs[j]? = some y → ∃ o, y = .ref o ∧ TyX K H (.ref o) (.ref C)) ∧ Out1 CG "part" (.int (i : Int)) H E
def spBadSumA (K : PySem.W.Frag) (C CG : Addr) : Sp := fun vs H Q E => ∃ ws rest, vs = ws ++ rest ∧ ws.length = ([] : List Str).length ∧ rest.length ≤ sizeLine ∧ ∀ p, H p = none → spBadSum K C CG (ws ++ [V.ref p]) (L2.upd H p (.tup rest)) Q E
theorem scBadSummed : FnScope ["growths", "at", "growth", "total"] (([] : List Str) ++ (["growths"] : List Str)) (defScope (sGr 20)) := ⟨rfl, rfl, rfl, by decide +kernel, rfl, by decide +kernel, by decide +kernel⟩
theorem bind_star0 {B : List Value → Sem (List (Str × Value))} {pv : Str} (h0 : B [] = (newTuple [] >>= fun t => pure [(pv, t)])) (h1 : ∀ r rs, B (r :: rs) = (newTuple (r :: rs) >>= fun t => pure [(pv, t)])) :
    ∀ us rest : List Value, us.length = ([] : List Str).length → B (us ++ rest) = (newTuple rest >>= fun t => pure (([] : List Str).zip us ++ [(pv, t)]))
  | [], [], _ => h0
  | [], r :: rs, _ => h1 r rs
theorem q_forE {K : PySem.W.Frag} {σ : L2.St} {H : Hp} {a : Addr} {xs : List V} {ta : TA} {g : TG} {tu tz : TS} {D : Ends} (h : EvA ta σ H [.ref a]) (hx : SqT K H a xs) (Pv : Nat → L2.St → Hp → Prop) (h0 : ∀ H1, Ex H H1 → Pv 0 σ H1) (hl : ∀ i σ' H', i ≤ xs.length → Pv i σ' H' → SqT K H' a xs)
    (hs : ∀ i x σ' H' T, xs[i]? = some x → Pv i σ' H' → H' T = none → g (.ref T) σ' (L2.upd H' T (.tup [.int (i : Nat), x])) fun σ2 H2 => tu { D with nx := Pv (i + 1), ct := Pv (i + 1), bk := tz D } σ2 H2)
    (hd : ∀ σ' H', Pv xs.length σ' H' → tz D σ' H') : tSeq (tFor (iEnumT K ta) g tu) tz D σ H :=
  h H (Ex.refl H) _ fun H1 e1 => ⟨a, xs, rfl, ex_t e1 hx, for_it (D := { D with nx := tz D }) walk_enumT Pv (h0 H1 e1) hl (fun i v σ' H' H2 hi p y => by
    obtain ⟨T, x, z, rfl, hn, rfl, ex, ez⟩ := y
    obtain rfl := Option.some.inj ex
    exact hs i z σ' H' T ez p hn) hd⟩
theorem bad_Summed {C f CG fG : Addr} {mc : Value} {fd fdG : FuncData} (F : Fun K "summed" "Growth.summed" (sGr 20) f fd) (N : GName K mg C mc) (inst : mg "isinstance" = none) (enum_ : mg "enumerate" = none) (own : PySem.W.kitOne K (.ref C) (.ref C) = some true) (B : GOne P w K mg base "BadGrowth" "part" CG fG fdG) :
    FnR P w K mg base (L2.CX P w) 3 f (spBadSumA K C CG) := by
  obtain ⟨oc, od, kV, doc, pm, an, cdv, ct, osl, rfl, lk, hcd⟩ := F.ex
  refine fn_star (ps := []) (sp := spBadSum K C CG) lk hcd scBadSummed cxUp (bind_star0 (B := fun us => bindArgs (PySem.W.fnOf "summed" "Growth.summed" (defArgs (sGr 20)) (defBody (sGr 20)) (defScope (sGr 20)) .none kV doc pm an cdv ct) ⟨us, []⟩) rfl fun r rs => rfl) (fun A outer s H vs Q E hr h => ?_)
  obtain ⟨p, xs, i, x, rfl, hT, hi, hx, all, kE⟩ := h
  refine ⟨_, pss_cons (ps_for (passes_of rfl) rfl (pi_enumT (by rfl) enum_ (pa_cons (pv 0) pa_nil)) (pg_tup rfl (pgs_cons (pg_name (i := 1) scBadSummed.nd rfl (.inl rfl)) (pgs_cons (pg_name (i := 2) scBadSummed.nd rfl (.inl rfl)) pgs_nil)))
      (pss_one (ps_if (pt_not (pt_val (pe_callB call_isi (by rfl) inst (by decide +kernel) (pa_cons (pv 2) (pa_cons (pe_glob (v := .ref C) rfl N.g rfl) pa_nil)))))
        (pss_one (ps_raise rfl (takes_of rfl rfl rfl rfl) (pmk_oex B.ox B.init B.ty B.ok hr B.b .nil pass0 (by rfl) B.g (pa_cons (pv 1) pa_nil)))) pss_nil))) (pss_cons ps_no (pss_cons ps_no (pss_one ps_no))), ?_⟩
  have lt := (List.getElem?_eq_some_iff.mp hi).1
  refine q_forE (K := K) (a := p) (xs := xs) (σ := [some (.ref p), none, none, none]) (ea_cons (ev_var rfl) ea_nil) hT (fun j σ' H' => j ≤ i ∧ (∃ x1 x2 : Option V, σ' = [some (.ref p), x1, x2, none]) ∧ Ex H H') (fun H1 e1 => ⟨Nat.zero_le _, ⟨none, none, rfl⟩, e1⟩) (fun _ _ H' _ q => ex_t q.2.2 hT) ?_ ?_
  · rintro j y σ' H2 T2 hy ⟨hj, ⟨x1, x2, rfl⟩, e2⟩ hT2
    have e3 := e2.trans (Ex.new (o := .tup [.int (j : Nat), y]) hT2)
    refine ⟨T2, [.int (j : Nat), y], rfl, st_of upd_same, rfl, _, _, rfl, _, _, rfl, rfl, ?_⟩
    by_cases z : j = i
    · subst z
      rw [hi] at hy
      obtain rfl := Option.some.inj hy
      exact s_if (b := true) (et_is (et_not (et_B (ev_noG (K := K) (σ := [some (.ref p), some (.int (j : Int)), some x, none]) (ta := tVar 2) (ev_var rfl) (hx.mono e3)))) rfl) (fun _ H3 e4 => raise_one (ea_cons (ev_var rfl) ea_nil) (kE.mono (e3.trans e4))) (fun z => absurd z (by decide))
    · obtain ⟨o, rfl, to⟩ := all j y (by omega) hy
      exact s_if (b := false) (et_is (et_not (et_B (ev_cb (z := .bl true) (σ := [some (.ref p), some (.int (j : Int)), some (.ref o), none]) (ea_cons (ev_var (i := 2) rfl) (ea_cons ev_c ea_nil)) fun H3 e _ q => ⟨.ref o, .ref C, .ref C, .ref C, true, rfl, .own C, tyx_mono (e3.trans e) to, own, q H3 (Ex.refl H3)⟩))) rfl) (fun hb => absurd hb (by decide)) fun _ H3 e4 => ⟨by omega, ⟨_, _, rfl⟩, e3.trans e4⟩
  · rintro σ' H2 ⟨hj, _⟩
    exact absurd hj (by omega)
end
end K02
/-! parts that are none: are_parts, Growth.__init__ -/
namespace K02
open PySem L2 Evl Gr ClX OpX StX EnT
/-- what is_from_zero tells of y -/
def Z0 (K : PySem.W.Frag) (H : Hp) (y : V) (b : Bool) : Prop := (∃ i : Int, y = .int i ∧ b = decide (0 ≤ i)) ∨ ∃ (T : String) (a c : Bool), TyX K H y (.type T) ∧ kitB T "int" = some a ∧ kitB T "bool" = some c ∧ (a && !c) = false ∧ b = false
theorem Z0.mono {K : PySem.W.Frag} {H H' : Hp} {y : V} {b : Bool} (e : Ex H H') (h : Z0 K H y b) : Z0 K H' y b := h.imp id fun ⟨T, a, c, h1, h2⟩ => ⟨T, a, c, tyx_mono e h1, h2⟩
/-- no parts: no list and no tuple, or an empty one, or one with a thing that is no number -/
def BadP (K : PySem.W.Frag) (H : Hp) (x : V) : Prop := (∃ T : String, TyX K H x (.type T) ∧ kitB T "list" = some false ∧ kitB T "tuple" = some false) ∨
  ∃ (a : Addr) (xs : List V) (f : Nat → Bool), x = .ref a ∧ Sq K H a xs ∧ xs.length ≤ 2000 ∧ (∀ (i : Nat) y, xs[i]? = some y → Z0 K H y (f i)) ∧ (xs.length = 0 ∨ ∃ i, i < xs.length ∧ f i = false)
theorem BadP.mono {K : PySem.W.Frag} {H H' : Hp} {x : V} (e : Ex H H') (h : BadP K H x) : BadP K H' x := by
  rcases h with ⟨T, h1, h2⟩ | ⟨a, xs, f, h1, h2, h3, h4, h5⟩
  · exact .inl ⟨T, tyx_mono e h1, h2⟩
  · exact .inr ⟨a, xs, f, h1, h2.mono e, h3, fun i y hy => (h4 i y hy).mono e, h5⟩
theorem ev_notLT {K : PySem.W.Frag} {σ : L2.St} {H : Hp} {ta : TE} {x : V} {T : String} (ha : Ev ta σ H x) (ht : TyX K H x (.type T)) (h1 : kitB T "list" = some false) (h2 : kitB T "tuple" = some false) :
    Ev (tCB (rIsiT K) (tCons ta (tCons (tTup (tCons (tC (.ty "list")) (tCons (tC (.ty "tuple")) tNil))) tNil))) σ H (.bl false) := fun H1 e Q q =>
  ha H1 e _ fun H2 e2 => eu_tup (σ := σ) (H := H2) (ea_cons ev_c (ea_cons ev_c ea_nil)) (by show 2 ≤ 100000; decide) H2 (Ex.refl H2) _ fun p H3 _ e3 h3 =>
    ⟨_, p, _, _, _, false, rfl, h3, .cons (.ty "list") (.cons (.ty "tuple") .nil), tyx_mono ((e.trans e2).trans e3) ht, kitAny_cons (b := false) (kit_ty h1) (fun _ => kitAny_cons (b := false) (kit_ty h2) (fun _ => rfl) fun h => absurd h (by decide)) (fun h => absurd h (by decide)), q H3 (e2.trans e3)⟩
section
variable {P : Program} {w : World} {K : PySem.W.Frag} {mg : Str → Option Value} {base : Heap}
def spPartsBad (K : PySem.W.Frag) : Sp := fun vs H Q _ => ∃ x, vs = [x, .int 2000] ∧ BadP K H x ∧ RetV (.bl false) H Q
theorem bad_Parts {f fI fZ : Addr} {fd fdI fdZ : FuncData} (F : Fun K "are_parts" "are_parts" sParts f fd) (T : GlbS mg) (TT : GlbT mg) (all : mg "all" = none)
    (GZ : FnOk P w K mg base CX0 2 fZ fdZ ["value"] (spFrom0 K)) (kZ : PySem.W.keepIn K (.ref fZ) = true) (bZ : Binds K fdZ ["value"] []) (gZ : mg "is_from_zero" = some (.ref fZ)) :
    FnOk P w K mg base CX0 3 f fd ["values", "most"] (spPartsBad K) := by
  refine F.ok scParts (fun vs H Q E h => ?_) (fun cdv A outer s H vs Q E hr h => ?_)
  · obtain ⟨x, rfl, _⟩ := h
    rfl
  · obtain ⟨x, rfl, hx, k⟩ := h
    refine ⟨_, pss_cons (ps_if (PW.pt (pw_or (pt_not (pt_val (pe_callB call_isiT (by rfl) TT.inst (by decide +kernel) (pa_cons (pv 0) (pa_cons (pe_tup (pa_cons (pe_bltn (v := .ty "list") (by rfl) T.list (by decide +kernel) rfl) (pa_cons (pe_bltn (v := .ty "tuple") (by rfl) T.tuple (by decide +kernel) rfl) pa_nil))) pa_nil)))))
        (pw_or1 (pt_not (pt_chain op_le op_le pe_int (pe_callB call_len_seq (by rfl) T.len PySem.boot_len (pa_cons (pv 0) pa_nil)) (pv 1)))))) (pss_one (ps_ret pe_bl)) pss_nil)
      (pss_one (ps_ret (pe_callB (cr_all rfl) (by rfl) all (by decide +kernel) (pa_cons (pe_lc (own := [("value", 2)]) (g := gName 2) rfl scParts.nd (pi_seq (pv 0)) (blkOk_by (own := [("value", 2)]) (N := ["values", "most", "value"]) (sc := defScope sParts) (by decide +kernel))
        (fun _ _ _ _ _ => pg_name (i := 2) scParts.nd rfl (Or.inl rfl)) (fun _ _ _ _ _ => pts_nil) (fun _ _ _ _ _ => pe_call GZ hr (by rfl) gZ kZ bZ .nil pass0 (pa_cons (pv 2) pa_nil))) pa_nil)))), ?_⟩
    rcases hx with ⟨Ty, ht, h1, h2⟩ | ⟨a, xs, f, rfl, hA, hz, hv, hb⟩
    · exact q_when (b := true) (et_is (et_or (a := true) (b := true) (et_is (et_not (et_B (ev_notLT (ev_var rfl) ht h1 h2))) rfl) fun z => absurd z (by decide)) rfl) (fun _ H1 e1 => s_ret ev_c fun H2 e2 => k H2 (e1.trans e2)) (fun z => absurd z (by decide))
    · refine q_when (et_or (et_not (et_B (ev_isLT (ev_var rfl) hA))) (fun _ => et_not (et_B (ev_chain ev_c (ev_cb (ea_cons (ev_var rfl) ea_nil) (rc_lenQ hA)) (ev_var rfl))))) (fun _ H1 e1 => s_ret ev_c fun H2 e2 => k H2 (e1.trans e2)) fun hn H1 e1 => ?_
      have l1 : xs.length ≠ 0 := fun z => by
        rw [z] at hn
        exact absurd hn (by decide)
      have c1 := el_lcQ (K := K) (σ := [some (.ref a), some (.int 2000), none]) (H := H1) (te := tCall (spFrom0 K) [] E0 (tCons (tVar 2) tNil)) (a := a) (xs := xs) (tl := tVar 0) (j := 2) (vs := [2]) (fun i => V.bl (f i)) (ev_var rfl) (hA.mono e1) (by omega) (fun _ => rfl)
        (fun i y H2 e2 hy => ev_call (z := .bl (f i)) (ea_cons (ev_var rfl) ea_nil) fun H3 e3 Q3 q3 E3 => by
          rcases (hv i y hy).mono ((e1.trans e2).trans e3) with ⟨n, rfl, hf⟩ | ⟨Ty, b, c, h1, h2, h3, h4, hf⟩
          · exact .inl ⟨n, rfl, by rw [← hf]; exact q3⟩
          · exact .inr ⟨y, Ty, b, c, rfl, h1, h2, h3, h4, by rw [← hf]; exact q3⟩)
      have e2 : (List.range xs.length).map (fun i => V.bl (f i)) = ((List.range xs.length).map f).map V.bl := by rw [List.map_map]; rfl
      rw [e2] at c1
      refine s_ret (ev_is (ev_all c1) (congrArg V.bl ?_)) fun H2 e3 => k H2 (e1.trans e3)
      obtain ⟨i, hi, hf⟩ := hb.resolve_left l1
      rw [List.all_eq_false]
      exact ⟨false, List.mem_map.mpr ⟨i, List.mem_range.mpr hi, hf⟩, by decide⟩
/-! ### Growth.__init__ -/
def spInitBad (K : PySem.W.Frag) (CG : Addr) : Sp := fun vs H _ E => ∃ (o : Addr) (x y : V), vs = [.ref o, x, y] ∧ ((BadP K H x ∧ Out1 CG "part" (.str "told") H E) ∨ ∃ (a : Addr) (t : List Int), x = .ref a ∧ Sq K H a (vI t) ∧ 0 < t.length ∧ t.length ≤ 2000 ∧ Pos t ∧ BadP K H y ∧ Out1 CG "part" (.str "gains") H E)
theorem bad_Init {C f fP CG fG : Addr} {mc : Value} {fd fdP fdG : FuncData} {dvs : List V} (F : FunD K "__init__" "Growth.__init__" (defArgs (sGr 1)) (defBody (sGr 1)) (defScope (sGr 1)) dvs [] f fd) (N : GName K mg C mc) (B : GOne P w K mg base "BadGrowth" "part" CG fG fdG)
    (GP : FnOk P w K mg base CX0 3 fP fdP ["values", "most"] (spParts K)) (GB : FnOk P w K mg base CX0 3 fP fdP ["values", "most"] (spPartsBad K)) (kP : PySem.W.keepIn K (.ref fP) = true) (bP : Binds K fdP ["values", "most"] []) (gP : mg "are_parts" = some (.ref fP)) :
    FnOk P w K mg base (L2.CX P w) 4 f fd ["self", "told", "gains"] (spInitBad K CG) := by
  obtain ⟨mu, cm⟩ := N.most
  obtain ⟨oc, od, dV, kV, doc, pm, an, cdv, ct, osl, rfl, lk, hcd, _, _⟩ := F.ex
  refine fn_of lk hcd scInit (fun vs H Q E h => ?_) (fun A outer s H vs Q E hr h => ?_)
  · obtain ⟨o, x, y, rfl, _⟩ := h
    rfl
  · obtain ⟨o, x, y, rfl, h⟩ := h
    have r2 := hr.mono (show 2 ≤ 3 by decide)
    have bad : ∀ {i : Nat} {v : V} {H' : Hp} {σ : L2.St}, σ[i]? = some (some v) → BadP K H' v → EvT (tNot (tB (tCall (spPartsBad K) [] E0 (tCons (tVar i) (tCons (tCVal K (tC (.ref C)) "MOST") tNil))))) σ H' true := fun h0 hb =>
      et_is (et_not (et_B (ev_call (z := .bl false) (ea_cons (ev_var h0) (ea_cons (ev_cval ev_c N.rd cm) ea_nil)) fun H1 e Q q E => ⟨_, rfl, hb.mono e, q⟩))) rfl
    rcases h with ⟨hx, kE⟩ | ⟨a, t, rfl, hA, t0, t1, pt, hy, kE⟩
    · refine ⟨_, pss_cons (ps_if (pt_not (pt_val (pe_call GB hr (by rfl) gP kP bP .nil pass0 (pa_cons (pv 1) (pa_cons (pe_cval (pe_glob (v := .ref C) rfl N.g rfl)) pa_nil)))))
        (pss_one (ps_raise rfl (takes_of rfl rfl rfl rfl) (pmk_oex B.ox B.init B.ty B.ok r2 B.b .nil pass0 (by rfl) B.g (pa_cons pe_str pa_nil)))) pss_nil) (pss_cons ps_no (pss_cons ps_no (pss_one ps_no))), ?_⟩
      exact q_when (b := true) (bad rfl hx) (fun _ H1 e1 => raise_one (ea_cons ev_c ea_nil) (kE.mono e1)) (fun z => absurd z (by decide))
    · refine ⟨_, pss_cons (ps_if (pt_not (pt_val (pe_call GP hr (by rfl) gP kP bP .nil pass0 (pa_cons (pv 1) (pa_cons (pe_cval (pe_glob (v := .ref C) rfl N.g rfl)) pa_nil))))) (pss_one ps_no) pss_nil)
        (pss_cons (ps_if (pt_not (pt_val (pe_call GB hr (by rfl) gP kP bP .nil pass0 (pa_cons (pv 2) (pa_cons (pe_cval (pe_glob (v := .ref C) rfl N.g rfl)) pa_nil)))))
        (pss_one (ps_raise rfl (takes_of rfl rfl rfl rfl) (pmk_oex B.ox B.init B.ty B.ok r2 B.b .nil pass0 (by rfl) B.g (pa_cons pe_str pa_nil)))) pss_nil) (pss_cons ps_no (pss_one ps_no))), ?_⟩
      refine q_when (b := false) (et_is (et_not (et_B (ev_call (z := .bl true) (ea_cons (ev_var rfl) (ea_cons (ev_cval ev_c N.rd cm) ea_nil)) fun H1 e Q q E => ⟨_, _, rfl, hA.mono e, t0, t1, pt, q⟩))) rfl) (fun z => absurd z (by decide)) fun _ H1 e1 => ?_
      exact q_when (b := true) (bad rfl (hy.mono e1)) (fun _ H2 e2 => raise_one (ea_cons ev_c ea_nil) (kE.mono (e1.trans e2))) (fun z => absurd z (by decide))
end
end K02
/-! _law_heard, with repr; defs with lambdas that are walked where no repr runs -/
namespace L2
open PySem PySem.Spec PyProof.Rows Evl
mutual
theorem Ds.up {K : PySem.W.Frag} {H H' : Hp} (e : Ex H H') : ∀ (d : PyData) {v : V}, Ds K H v d → Ds K H' v d
  | .none, _, .non => .non
  | .bool _, _, .bl b => .bl b
  | .int _, _, .int i => .int i
  | .str _, _, .str x => .str x
  | .list ds, _, .lst h n a => .lst (ex_l e h) n (Ds.ups e ds a)
  | .tuple ds, _, .tup h a => .tup (ex_t e h) (Ds.ups e ds a)
  | .dict _, _, .one h => .one (e _ _ h)
  | .dict _, _, .emp h => .emp (e _ _ h)
theorem Ds.ups {K : PySem.W.Frag} {H H' : Hp} (e : Ex H H') : ∀ (ds : List PyData) {vs : List V}, DsAll K H vs ds → DsAll K H' vs ds
  | [], _, .nil => .nil
  | d :: ds, _, .cons h a => .cons (Ds.up e d h) (Ds.ups e ds a)
end
end L2
namespace K02
open PySem L2 Evl Gr ClX OpX StX LamX EXC
/-- what repr shows -/
structure Shown (K : PySem.W.Frag) (H : Hp) (v : V) (d : PyData) : Prop where
  ds : Ds K H v d
  sh : d.showable = true
  dp : d.depth ≤ 60
  sz : d.shown.length ≤ sizeLine
theorem Shown.mono {K : PySem.W.Frag} {H H' : Hp} {v : V} {d : PyData} (e : Ex H H') (h : Shown K H v d) : Shown K H' v d := ⟨Ds.up e d h.ds, h.sh, h.dp, h.sz⟩
abbrev sHd : Stmt := top 46
abbrev nHd : List Str := ["_law_ask", "_law_caught", "error"]
theorem scHd : FnScope nHd ["_law_ask"] (defScope sHd) := ⟨rfl, rfl, rfl, by decide +kernel, rfl, by decide +kernel, by decide +kernel⟩
theorem takes_len {X : Cx} {W : WX} (t : Takes X W) : Takes X (fun c d σ H => σ.length = X.N.length → W c d σ H) := fun u s' ⟨a, B, sI, pins, σ, H, cls, d, e, I, nb, up, sky, na, os, ag, w⟩ => t u s' ⟨a, B, sI, pins, σ, H, cls, d, e, I, nb, up, sky, na, os, ag, w I.len⟩
/-- the wish of what _law_heard asks for -/
def HdE (K : PySem.W.Frag) (cG cN cM : Addr) (Q : VK) : XK := fun cls d H1 => ∃ dd, d = some dd ∧ (
  (cls = .ref cG ∧ ∃ v, H1 dd = some (.xd [("part", v)]) ∧ ∀ H2 l, Ex H1 H2 → H2 l = some (.tup [.str "growth", v]) → Q (.ref l) H2) ∨
  (cls = .ref cN ∧ ∃ v d0, H1 dd = some (.xd [("value", v)]) ∧ Shown K H1 v d0 ∧ ∀ H2 l, Ex H1 H2 → H2 l = some (.tup [.str "number", .str d0.shown]) → Q (.ref l) H2) ∨
  (cls = .ref cM ∧ ∃ v u, H1 dd = some (.xd [("most", v), ("what", u)]) ∧ ∀ H2 l, Ex H1 H2 → H2 l = some (.tup [.str "many", u, v]) → Q (.ref l) H2))
def THd (K : PySem.W.Frag) (cG cN cM : Addr) : (XK → Hp → VK → Prop) → Hp → VK → Prop := fun tl H Q => tl (HdE K cG cN cM Q) H fun v H1 => [v].length ≤ sizeLine ∧ ∀ l, H1 l = none → Q (.ref l) (upd H1 l (.lst [v]))
structure HdK (K : PySem.W.Frag) (mg : Str → Option Value) (B cG cN cT cM : Addr) : Prop where
  gP : mg "PostError" = some (.ref B)
  gG : mg "BadGrowth" = some (.ref cG)
  gN : mg "BadNumber" = some (.ref cN)
  gT : mg "BadText" = some (.ref cT)
  gM : mg "TooMany" = some (.ref cM)
  inst : mg "isinstance" = none
  repr : mg "repr" = none
  hG : PySem.W.exmOne K (.ref cG) (.ref B) = some true
  hN : PySem.W.exmOne K (.ref cN) (.ref B) = some true
  hM : PySem.W.exmOne K (.ref cM) (.ref B) = some true
  kGG : PySem.W.kitOne K (.ref cG) (.ref cG) = some true
  kNG : PySem.W.kitOne K (.ref cN) (.ref cG) = some false
  kNN : PySem.W.kitOne K (.ref cN) (.ref cN) = some true
  kMG : PySem.W.kitOne K (.ref cM) (.ref cG) = some false
  kMN : PySem.W.kitOne K (.ref cM) (.ref cN) = some false
  kMT : PySem.W.kitOne K (.ref cM) (.ref cT) = some false
  kMM : PySem.W.kitOne K (.ref cM) (.ref cM) = some true
  xG : XcC K cG
  xN : XcC K cN
  xM : XcC K cM
  fG : PySem.W.findIn K (.ref cG) "part" = some none
  fN : PySem.W.findIn K (.ref cN) "value" = some none
  fW : PySem.W.findIn K (.ref cM) "what" = some none
  fM : PySem.W.findIn K (.ref cM) "most" = some none
section
variable {K : PySem.W.Frag} {σ : L2.St} {H : Hp} {ta tb te tl : TE}
theorem ev_xcF {a C d : Addr} {fs : List (Str × V)} {v : V} {f : Str} (h : Ev te σ H (.ref a)) (ha : H a = some (ExC (.ref C) (some d) a)) (hd : H d = some (.xd fs)) (xc : XcC K C) (own : PySem.W.findIn K (.ref C) f = some none) (l : fs.lookup f = some v) : Ev (tXcF K f te) σ H v := fun H1 e Q q =>
  h H1 e _ fun H2 e2 => ⟨a, C, d, fs, v, rfl, (e.trans e2) _ _ ha, (e.trans e2) _ _ hd, xc, own, l, q H2 e2⟩
theorem rc_xc {a C D d : Addr} {fs : List (Str × V)} {b : Bool} (ha : H a = some (ExC (.ref C) (some d) a)) (hd : H d = some (.xd fs)) (xc : XcC K C) (hk : PySem.W.kitOne K (.ref C) (.ref D) = some b) : RC (rXc K) [.ref a, .ref D] H (.bl b) := fun H1 e Q q =>
  ⟨a, C, some d, _, _, b, rfl, .own D, e _ _ ha, fun dd z => ⟨fs, by cases z; exact e _ _ hd⟩, xc, hk, q H1 (Ex.refl H1)⟩
theorem rc_shown {v : V} {d : PyData} (h : Shown K H v d) : RC (rRepr K) [v] H (.str d.shown) := fun H1 e Q q => ⟨v, d, rfl, Ds.up e d h.ds, h.sh, h.dp, h.sz, q H1 (Ex.refl H1)⟩
theorem s_retR {te : TE} {σ : L2.St} {H : Hp} {D : Ends} (h : te σ H D.rt) : tRet te D σ H := h
theorem tup_i {t : TA} {Q : VK} (h : t σ H fun xs H1 => xs.length ≤ sizeLine ∧ ∀ l, H1 l = none → Q (.ref l) (upd H1 l (.tup xs))) : tTup t σ H Q := h
end
theorem heard_gives {X : Cx} {q : Str} {g : Addr} {cdg : Value} {B cG cN cT cM : Addr} {k : Nat} (gd : Qt X.A) (hr : Room k X.A) (T : HdK X.K X.mg B cG cN cT cM) : GivesTo X nHd "_law_heard" (defScope sHd) g cdg (defBody sHd) "_law_ask" q (THd X.K cG cN cM) := by
  intro f c' s H Q tl act hc h
  have hu : (X.A.deeper (PyProof.Rows.envOfC "_law_heard" (defScope sHd) s.heap.objs.size g cdg)).units + 64 < cLine := by
    have := hr.un
    show X.A.units + 3 + 64 < cLine
    omega
  refine ⟨_, pss_cons (ps_set (i := 1) scHd.nd rfl (.inl rfl) pe_non)
    (pss_cons (ps_try_held (X := (cxOf C8.CX0 X.prog X.w X.K X.mg X.base nHd "_law_heard" (defScope sHd) g cdg X.A X.stack s H C8.E0).nox) (c := .ref B) (i := 2)
      (tb := fun W D σ H => ∃ Ech : XK, (∀ cls d σ' H', Ech cls d H' → σ'.length = 3 → W cls d σ' H') ∧ σ[0]? = some (some (.ref f)) ∧ H c' = some (CodeO c' q) ∧ tl Ech H fun v H1 => [v].length ≤ sizeLine ∧ ∀ l, H1 l = none → D.rt (.ref l) (upd H1 l (.lst [v])))
      rfl rfl rfl scHd.nd rfl rfl ⟨rfl, by decide, .inl T.gP⟩ (fun W pn xe tk _ => ?_) (fun a oe cls d pn _ _ => pss_one (ps_set (i := 1) scHd.nd rfl (.inl rfl) (pv 2))))
    (pss_cons (ps_if (pt_val (pe_callB call_xc (by rfl) T.inst (by decide +kernel) (pa_cons (pv 1) (pa_cons (pe_glob (v := .ref cG) (by rfl) T.gG (by rfl)) pa_nil))))
      (pss_one (ps_ret (pe_tup (pa_cons pe_str (pa_cons (pe_xcF (pv 1)) pa_nil))))) pss_nil)
    (pss_cons (ps_if (pt_val (pe_callB call_xc (by rfl) T.inst (by decide +kernel) (pa_cons (pv 1) (pa_cons (pe_glob (v := .ref cN) (by rfl) T.gN (by rfl)) pa_nil))))
      (pss_one (ps_ret (pe_tup (pa_cons pe_str (pa_cons (pe_callB (call_reprD gd hu) (by rfl) T.repr (by decide +kernel) (pa_cons (pe_xcF (pv 1)) pa_nil)) pa_nil))))) pss_nil)
    (pss_cons (ps_if (pt_val (pe_callB call_xc (by rfl) T.inst (by decide +kernel) (pa_cons (pv 1) (pa_cons (pe_glob (v := .ref cT) (by rfl) T.gT (by rfl)) pa_nil))))
      (pss_one (ps_ret (pe_tup (pa_cons pe_str (pa_cons (pe_callB (call_reprD gd hu) (by rfl) T.repr (by decide +kernel) (pa_cons (pe_xcF (pv 1)) pa_nil)) (pa_cons (pe_callB (call_reprD gd hu) (by rfl) T.repr (by decide +kernel) (pa_cons (pe_xcF (pv 1)) pa_nil)) pa_nil)))))) pss_nil)
    (pss_one (ps_ret (pe_ifExp (pt_val (pe_callB call_xc (by rfl) T.inst (by decide +kernel) (pa_cons (pv 1) (pa_cons (pe_glob (v := .ref cM) (by rfl) T.gM (by rfl)) pa_nil))))
      (pe_tup (pa_cons pe_str (pa_cons (pe_xcF (pv 1)) (pa_cons (pe_xcF (pv 1)) pa_nil)))) (pe_tup (pa_cons pe_str pa_nil))))))))), ?_⟩
  · refine ⟨fun pins s' σ H D I h' => ?_⟩
    obtain ⟨Ech, hW, h1, h2, h3⟩ := h'
    have hp := act _ pn xe Ech ⟨365, 16, 365, 24⟩ ⟨365, 16, 365, 26⟩ (takes_len tk) (fun cls d σ' H2 e l => hW cls d σ' H2 e l)
    have hq := pss_one (ps_ret (pos := ⟨365, 8, 365, 27⟩) (pe_lst (pos := ⟨365, 15, 365, 27⟩) (pa_cons hp pa_nil)))
    exact hq.run pins s' σ H D I ⟨h1, h2, h3⟩
  · refine ⟨HdE X.K cG cN cM Q, fun cls d σ' H1 hE hlen => ?_, rfl, hc, h⟩
    obtain ⟨dd, rfl, hE⟩ := hE
    obtain ⟨x, y, z, rfl⟩ : ∃ x y z, σ' = [x, y, z] := by
      match σ', hlen with
      | [x, y, z], _ => exact ⟨x, y, z, rfl⟩
    rcases hE with ⟨rfl, v, hd, kk⟩ | ⟨rfl, v, d0, hd, hs, kk⟩ | ⟨rfl, v, u, hd, kk⟩
    · refine ⟨T.hG, fun a ha => ⟨_, rfl, ?_⟩⟩
      dsimp only [gName, List.set]
      have e1 := Ex.new (o := ExC (.ref cG) (some dd) a) ha
      have ha2 : upd H1 a (ExC (.ref cG) (some dd) a) a = some (ExC (.ref cG) (some dd) a) := upd_same
      have hd2 := e1 _ _ hd
      generalize upd H1 a (ExC (.ref cG) (some dd) a) = H2 at e1 ha2 hd2 ⊢
      refine q_when (b := true) (et_B (ev_cb (ea_cons (ev_var rfl) (ea_cons ev_c ea_nil)) (rc_xc ha2 hd2 T.xG T.kGG))) (fun _ H3 e3 => ?_) (fun z => absurd z (by decide))
      refine tup_i (cons_i (ev_c H3 (Ex.refl H3) _ fun H4 e4 => cons_i (ev_xcF (ev_var rfl) ((e3.trans e4) _ _ ha2) ((e3.trans e4) _ _ hd2) T.xG T.fG rfl H4 (Ex.refl H4) _ fun H5 e5 => ⟨by show 2 ≤ sizeLine; decide, fun l hl => kk _ l (((e1.trans e3).trans (e4.trans e5)).trans (Ex.new hl)) upd_same⟩)))
    · refine ⟨T.hN, fun a ha => ⟨_, rfl, ?_⟩⟩
      dsimp only [gName, List.set]
      have e1 := Ex.new (o := ExC (.ref cN) (some dd) a) ha
      have ha2 : upd H1 a (ExC (.ref cN) (some dd) a) a = some (ExC (.ref cN) (some dd) a) := upd_same
      have hd2 := e1 _ _ hd
      generalize upd H1 a (ExC (.ref cN) (some dd) a) = H2 at e1 ha2 hd2 ⊢
      refine q_when (b := false) (et_B (ev_cb (ea_cons (ev_var rfl) (ea_cons ev_c ea_nil)) (rc_xc ha2 hd2 T.xN T.kNG))) (fun z => absurd z (by decide)) fun _ H3 e3 => ?_
      refine q_when (b := true) (et_B (ev_cb (ea_cons (ev_var rfl) (ea_cons ev_c ea_nil)) (rc_xc (e3 _ _ ha2) (e3 _ _ hd2) T.xN T.kNN))) (fun _ H4 e4 => ?_) (fun z => absurd z (by decide))
      have E4 := e3.trans e4
      refine tup_i (cons_i (ev_c H4 (Ex.refl H4) _ fun H5 e5 => cons_i (ev_cb (ea_cons (ev_xcF (ev_var rfl) ((E4.trans e5) _ _ ha2) ((E4.trans e5) _ _ hd2) T.xN T.fN rfl) ea_nil) (rc_shown (hs.mono ((e1.trans E4).trans e5))) H5 (Ex.refl H5) _ fun H6 e6 => ⟨by show 2 ≤ sizeLine; decide, fun l hl => kk _ l (((e1.trans E4).trans (e5.trans e6)).trans (Ex.new hl)) upd_same⟩)))
    · refine ⟨T.hM, fun a ha => ⟨_, rfl, ?_⟩⟩
      dsimp only [gName, List.set]
      have e1 := Ex.new (o := ExC (.ref cM) (some dd) a) ha
      have ha2 : upd H1 a (ExC (.ref cM) (some dd) a) a = some (ExC (.ref cM) (some dd) a) := upd_same
      have hd2 := e1 _ _ hd
      generalize upd H1 a (ExC (.ref cM) (some dd) a) = H2 at e1 ha2 hd2 ⊢
      refine q_when (b := false) (et_B (ev_cb (ea_cons (ev_var rfl) (ea_cons ev_c ea_nil)) (rc_xc ha2 hd2 T.xM T.kMG))) (fun z => absurd z (by decide)) fun _ H3 e3 => ?_
      refine q_when (b := false) (et_B (ev_cb (ea_cons (ev_var rfl) (ea_cons ev_c ea_nil)) (rc_xc (e3 _ _ ha2) (e3 _ _ hd2) T.xM T.kMN))) (fun z => absurd z (by decide)) fun _ H4 e4 => ?_
      have E4 := e3.trans e4
      refine q_when (b := false) (et_B (ev_cb (ea_cons (ev_var rfl) (ea_cons ev_c ea_nil)) (rc_xc (E4 _ _ ha2) (E4 _ _ hd2) T.xM T.kMT))) (fun z => absurd z (by decide)) fun _ H5 e5 => ?_
      have E5 := E4.trans e5
      refine s_retR ?_
      refine (et_B (ev_cb (ea_cons (ev_var rfl) (ea_cons ev_c ea_nil)) (rc_xc (E5 _ _ ha2) (E5 _ _ hd2) T.xM T.kMM))) H5 (Ex.refl H5) _ fun H6 e6 => ?_
      have E6 := E5.trans e6
      refine iteT ?_
      refine tup_i (cons_i (ev_c H6 (Ex.refl H6) _ fun H7 e7 => cons_i (ev_xcF (ev_var rfl) ((E6.trans e7) _ _ ha2) ((E6.trans e7) _ _ hd2) T.xM T.fW rfl H7 (Ex.refl H7) _ fun H8 e8 => cons_i (ev_xcF (ev_var rfl) ((E6.trans (e7.trans e8)) _ _ ha2) ((E6.trans (e7.trans e8)) _ _ hd2) T.xM T.fM rfl H8 (Ex.refl H8) _ fun H9 e9 => ⟨by show 3 ≤ sizeLine; decide, fun l hl => kk _ l (((e1.trans E6).trans (e7.trans (e8.trans e9))).trans (Ex.new hl)) upd_same⟩))))
end K02
namespace L2
open PySem PySem.Spec PyProof.Rows
/-- a def as it stands behind the top, its code object known -/
structure FunC (K : PySem.W.Frag) (x qual : Str) (st : Stmt) (f : Addr) (fd : FuncData) (c : Addr) : Prop where
  ex : ∃ (oc : Value) (od : Option Addr) (kV doc pm : Value) (an : Option Addr) (ct : Value) (osl : Array (Option Value)),
    fd = PySem.W.fnOf x qual (defArgs st) (defBody st) (defScope st) .none kV doc pm an (.ref c) ct ∧ K.lookup f = some ⟨oc, od, .func fd, osl⟩ ∧ PySem.W.codeIn K (.ref c) qual = true
  kp : PySem.W.keepIn K (.ref f) = true
section
variable {P : Program} {w : World} {K : PySem.W.Frag} {mg : Str → Option Value} {base : Heap}
theorem FunC.fn {x qual : Str} {st : Stmt} {f c : Addr} {fd : FuncData} (F : FunC K x qual st f fd c) : Fun K x qual st f fd := by
  obtain ⟨oc, od, kV, doc, pm, an, ct, osl, h⟩ := F.ex
  exact ⟨⟨oc, od, kV, doc, pm, an, .ref c, ct, osl, h⟩, F.kp⟩
/-- such a def, walked where no repr runs -/
theorem FunC.okG {x qual : Str} {st : Stmt} {f c : Addr} {fd : FuncData} {N ps : List Str} {k : Nat} {sp : Sp} (F : FunC K x qual st f fd c) (S : FnScope N ps (defScope st)) (len : ∀ vs H Q E, sp vs H Q E → vs.length = ps.length)
    (hbody : ∀ (A : Around) (outer : List Env) (s : Shared) (H : Hp) (vs : List V) (Q : VK) (E : XK), Qt A → Room k (A.deeper (envOfC qual (defScope st) s.heap.objs.size f (.ref c))) → sp vs H Q E →
      ∃ t, PSs (cxOf CX0 P w K mg base N qual (defScope st) f (.ref c) A outer s H E).nox (defBody st) t ∧ t { nx := fun _ H' => Q .non H', rt := Q } (start N vs) H) : FnG P w K mg base (k + 1) f fd ps sp := by
  obtain ⟨oc, od, kV, doc, pm, an, ct, osl, rfl, lk, hcd⟩ := F.ex
  refine ⟨len, fun A outer s H args us vs Q E gd room e0 bound rel hsp => ?_⟩
  obtain ⟨t, ht, hq⟩ := hbody A outer s H vs Q E gd (room.deeper _) hsp
  have many := len _ _ _ _ hsp
  have inK : K.In s.heap := e0.mod.kin.keeps fun b o e => (e0.bs b o e).1
  have free : s.heap.NoLimit := e0.mod.nolimit.keeps fun b o e => (e0.bs b o e).1
  refine codeAny_call_function room.depth (inK _ _ lk) rfl S.co S.gen rfl (PySem.W.codeRec_of inK hcd) (bound _ _ _ _ ?_)
  have kinds : ∀ y ∈ ps.zip us, (defScope st).names.lookup y.1 = some .local ∨ ((defScope st).names.lookup y.1 = some .cell ∧ ((cellsFrom (s.heap.objs.size + 1) (defScope st).names []).lookup y.1).isSome = true) := by
    rintro ⟨n, v⟩ hy
    exact (S.par n (List.of_mem_zip hy).1).imp id fun q => ⟨q, PySem.W.cellsFrom_some _ _ _ (.inl q)⟩
  refine wpAny_newFunctionEnv_cells S.kind kinds fun env he s1 x => ?_
  cases he
  refine ⟨free.keeps x.toInCall.keep, codeAny_func ?_⟩
  refine wpAny_mono (ht.nox.run [] s1 (start N vs) H _ (inv_start S room.hd e0 many rel x) hq) (fun fl s' hs => ?_) fun e s' hs => hs
  cases fl with
  | ret u =>
    obtain ⟨v, σ', H', J, rv, q⟩ := hs
    exact ⟨v, H', J.os, J.bare, J.base, J.hok, rv, q⟩
  | next =>
    obtain ⟨σ', H', J, q⟩ := hs
    exact ⟨V.non, H', J.os, J.bare, J.base, J.hok, rfl, q⟩
  | brk => exact (hs.choose_spec.choose_spec.2).elim
  | cont => exact (hs.choose_spec.choose_spec.2).elim
end
end L2
namespace K02
open PySem L2 Evl Gr ClX OpX StX LamX EXC
/-- _law_heard(lambda: body) -/
theorem pe_heardR {X : Cx} {T : List (Addr × Str)} {scope : Scope} {params : Arguments} {body : Expr} {c Pc fH B cG cN cT cM : Addr} {fdH : FuncData} {t : XK → TE} {p lpos pos : PySem.Pos}
    (hg : Gl X "_law_heard") (gH : X.mg "_law_heard" = some (.ref fH)) (FH : Fun X.K "_law_heard" "_law_heard" sHd fH fdH) (bH : Binds X.K fdH ["_law_ask"] []) (HK : HdK X.K X.mg B cG cN cT cM) (gd : Qt X.A)
    (TB : TabB X.base X.mg c Pc) (hcode : X.env.code = .ref c) (hT : (Pc, X.env.qual ++ "<lambda>") ∈ T) (hu : ∀ p ∈ T, p.1 = Pc → p.2 = X.env.qual ++ "<lambda>") (hr : Room 10 X.A) (L : LamS X.env.scope scope) (hdef : defaultsOf params X.env = ([], []))
    (hbind : ∀ (q : Str) (cl : List (Str × Addr)) (pm cv ctv : Value), bindArgs (PySem.W.kla_fn "<lambda>" q params body scope cl pm cv ctv) ⟨[], []⟩ = pure [])
    (hbody : ∀ (A : Around) (outer : List Env) (s : Shared) (H : Hp) (E : XK) (f c' : Addr), Room 8 (A.deeper (lamEnv X scope s.heap.objs.size f c')) → PE (lamCx X A outer s H E scope f c') body (t E)) :
    PE X (.Call (.Name "_law_heard" p) [.Lambda params body scope lpos] [] pos) (tLam T (THd X.K cG cN cM) t) := by
  obtain ⟨ocH, odH, kVH, docH, pmH, anH, cdH, ctH, oslH, rfl, lkH, hcH⟩ := FH.ex
  exact pe_lamcall (T := T) (TT := THd X.K cG cN cM) (k := 8) (Ng := nHd) (a := "_law_ask") hg gH FH.kp lkH hcH bH scHd rfl (.inl rfl) (heard_gives gd hr HK) TB hcode hT hu hr L hdef hbind hbody
/-- what is heard: some error that is told so -/
structure Told (K : PySem.W.Frag) (cG cN cM : Addr) (xs : List V) (H : Hp) (Q : VK) : Prop where
  k : ∀ l H2, Ex H H2 → H2 l = some (.tup xs) → Q (.ref l) H2
section
variable {K : PySem.W.Frag} {cG cN cM : Addr} {H : Hp} {Q : VK} {v : V}
theorem out_part (h : Told K cG cN cM [.str "growth", v] H Q) : Out1 cG "part" v H (HdE K cG cN cM Q) := fun d H' _ e hd => ⟨d, rfl, .inl ⟨rfl, v, hd, fun H2 l e2 h2 => h.k l H2 (e.trans e2) h2⟩⟩
theorem out_value {d0 : PyData} (hs : Shown K H v d0) (h : Told K cG cN cM [.str "number", .str d0.shown] H Q) : Out1 cN "value" v H (HdE K cG cN cM Q) := fun d H' _ e hd => ⟨d, rfl, .inr (.inl ⟨rfl, v, d0, hd, hs.mono e, fun H2 l e2 h2 => h.k l H2 (e.trans e2) h2⟩)⟩
end
/-- what stays where a lambda's table grows -/
theorem shown_ext {K : PySem.W.Frag} {H H' : Hp} (e : ExtN H H') {v : V} {d : PyData} (h : Shown K H v d) (up : Ds K H v d → Ds K H' v d) : Shown K H' v d := ⟨up h.ds, h.sh, h.dp, h.sz⟩
end K02
/-! a list of what is heard, one after another -/
namespace OwX
open PySem PySem.Spec PyProof.Rows L2 StX OpX
section
variable {X : Cx} {CX : CXT} {k : Nat} {C f : Addr} {fd : FuncData} {ps ks : List Str} {sp : Sp} {o : Expr} {m : Str} {pos apos : Pos} {ta : TE} {tk : TA} {pl : Sem Bool} {kws : List Keyword} {g : List Value → List Value → List Value} {gV : List V → List V → List V} {E : XK}
/-- o.m(k = v, ..), keywords alone, with what goes out of it -/
theorem pe_methKE (he : PE X o ta) (c : Cls X.K C) (hm : Meth X.K C m f) (F : FnOk X.prog X.w X.K X.mg X.base CX k f fd ps sp) (hr : Room k X.A) (hx : Passes CX X E) (hb : KBn X.K fd ps 1 ks g gV) (hkw : PK X kws tk)
    (some_ : (backToKw pos (keywordEach kws X.env)).all (·.1.isSome) = true := by rfl) (names : (backToKw pos (keywordEach kws X.env)).filterMap (·.1) = ks := by rfl)
    (none_ : ((backTo pos (starEach [] X.env)).any (·.1) || (backToKw pos (keywordEach kws X.env)).any (·.1.isNone)) = false := by rfl)
    (form : eval (.Call (.Attribute o m apos) [] kws pos) X.env = (do let ov ← eval o X.env; standAt apos.atName; let (f, first) ← holding [ov] (getMethod ov m pl); callWith pos f first (backTo pos (starEach [] X.env)) (backToKw pos (keywordEach kws X.env))) := by rfl) :
    PE X (.Call (.Attribute o m apos) [] kws pos) (fun σ H Q => ta σ H fun x H1 => ∃ a dx fs, x = .ref a ∧ H1 a = some (.ins C dx fs) ∧ fs.lookup m = none ∧ tk σ H1 fun zs H2 => zs.length = ks.length ∧ sp (gV [.ref a] zs) H2 Q E) := by
  refine ⟨fun pins s σ H Q I h => PySem.W.methodCall_KW (pl := pl) (thn (he.run pins s σ H _ I h) fun u s1 ⟨x, H1, J, rx, a, dx, fs, ex, ea, l, q⟩ => ?_) form⟩
  subst ex
  cases (show u = Value.ref a from rx)
  refine getmeth_ok J ea c hm l (PySem.W.callWith_KW0 (first := [.ref a]) (h₀ := X.base) J.ok.mod.kin hm.kp some_ ?_ none_)
  refine thn (hkw.run pos pins s1 σ H1 _ J q) fun ws s2 ⟨zs, H2, J2, rz, l2, q2⟩ => ⟨J2.kIn, ?_⟩
  rw [names]
  exact run_fnN (us := [.ref a]) (vs := [.ref a]) F hr hb hx J2 (.cons rfl .nil) rz rfl l2 q2
end
end OwX
namespace K02
open PySem L2 Evl Gr ClX OpX StX LamX EXC OwX
/-- all but the object at g and the tables stay -/
def KeepN (g : Addr) (H H' : Hp) : Prop := ∀ b o, H b = some o → b ≠ g → (∀ ps, o ≠ .tbl ps) → H' b = some o
theorem KeepN.trans {g : Addr} {H H1 H2 : Hp} (a : KeepN g H H1) (b : KeepN g H1 H2) : KeepN g H H2 := fun c o h n t => b c o (a c o h n t) n t
theorem KeepN.of_ext {g : Addr} {H H' : Hp} (e : ExtN H H') : KeepN g H H' := fun b o h _ t => e b o h t
/-- all that H knows but tables stands, and is not at g -/
abbrev OldN (g : Addr) (H : Hp) : Prop := ∀ b o, H b = some o → (∀ ps, o ≠ .tbl ps) → b ≠ g
theorem tyx_n {K : PySem.W.Frag} {H H' : Hp} {x : V} {t : Value} (n : ∀ {b : Addr} {o : HO}, H b = some o → (∀ ps, o ≠ .tbl ps) → H' b = some o) (h : TyX K H x t) : TyX K H' x t := by
  cases h with
  | base b =>
    refine .base ?_
    cases b with
    | non => exact .non
    | bl b => exact .bl b
    | int i => exact .int i
    | str x => exact .str x
    | flt x => exact .flt x
    | lst q => exact .lst (n q (fun ps z => by cases z))
    | frz q => exact .frz (n q (fun ps z => by cases z))
    | tup q => exact .tup (n q (fun ps z => by cases z))
    | dK q => exact .dK (n q (fun ps z => by cases z))
    | dT q => exact .dT (n q (fun ps z => by cases z))
    | ins q a b c d f => exact .ins (n q (fun ps z => by cases z)) a b c d f
  | byt b => exact .byt b
  | set q => exact .set (n q (fun ps z => by cases z))
  | kList q c => exact .kList q c
  | kTuple q c => exact .kTuple q c
  | kDict q c => exact .kDict q c
  | fTuple q => exact .fTuple (n q (fun ps z => by cases z))
  | fDict q => exact .fDict (n q (fun ps z => by cases z))
theorem tyx_ext {K : PySem.W.Frag} {H H' : Hp} {x : V} {t : Value} (e : ExtN H H') (h : TyX K H x t) : TyX K H' x t := tyx_n (fun h1 h2 => e _ _ h1 h2) h
theorem tyx_keepN {K : PySem.W.Frag} {g : Addr} {H H' : Hp} {x : V} {t : Value} (kk : KeepN g H H') (old : OldN g H) (h : TyX K H x t) : TyX K H' x t := tyx_n (fun h1 h2 => kk _ _ h1 (old _ _ h1 h2) h2) h
theorem pen_keepN {g : Addr} {H H' : Hp} {p l : Addr} {cells : List Int} {m : Nat} (kk : KeepN g H H') (old : OldN g H) (h : PenAt H p l cells m) : PenAt H' p l cells m := by
  obtain ⟨k, r, h1, h2, h3⟩ := h
  exact ⟨k, r, kk _ _ h1 (old _ _ h1 (fun ps z => by cases z)) (fun ps z => by cases z), kk _ _ h2 (old _ _ h2 (fun ps z => by cases z)) (fun ps z => by cases z), h3⟩
/-- what was heard so far: the list at g -/
structure HrSt (T : List (Addr × Str)) (g : Addr) (rs : List (Addr × List V)) (H : Hp) : Prop where
  tabs : Tabs T H
  lst : H g = some (.lst (rs.map fun p => .ref p.1))
  all : ∀ p ∈ rs, H p.1 = some (.tup p.2)
theorem tabs_upd {T : List (Addr × Str)} {H : Hp} {g : Addr} {xs : List V} {o : HO} (h : Tabs T H) (hg : H g = some (.lst xs)) : Tabs T (upd H g o) := fun q hq => by
  obtain ⟨ps, h1, h2, h3⟩ := h q hq
  refine ⟨ps, by rw [upd_ne (fun z => by rw [z, hg] at h1; cases h1)]; exact h1, h2, fun pos cv hc => ?_⟩
  obtain ⟨c, e1, e2⟩ := h3 pos cv hc
  exact ⟨c, e1, by rw [upd_ne (fun z => by rw [z, hg] at e2; unfold CodeO at e2; cases e2)]; exact e2⟩
theorem HrSt.ext {T : List (Addr × Str)} {g : Addr} {rs : List (Addr × List V)} {H H' : Hp} (h : HrSt T g rs H) (e : Ex H H') : HrSt T g rs H' := ⟨h.tabs.ext e, e _ _ h.lst, fun p hp => e _ _ (h.all p hp)⟩
section
variable {K : PySem.W.Frag} {T : List (Addr × Str)} {σ : L2.St} {H : Hp} {tl : TE} {tz : TS} {D : Ends} {i : Nat} {xs : List V} {g : Addr} {rs : List (Addr × List V)}
/-- what a heard lambda says -/
def Hears (T : List (Addr × Str)) (tl : TE) (σ : L2.St) (H : Hp) (xs : List V) : Prop := ∀ Q : VK, (∀ r H2, ExtN H H2 → Tabs T H2 → H2 r = some (.tup xs) → Q (.ref r) H2) → tl σ H Q
/-- x = [the first] -/
theorem q_hear0 (h : Hears T tl σ H xs) (k : ∀ g r H3, HrSt T g [(r, xs)] H3 → ExtN H H3 → (∀ b o, H b = some o → (∀ ps, o ≠ .tbl ps) → b ≠ g) → tz D (σ.set i (some (.ref g))) H3) : tSeq (tAsg (tLst (tCons tl tNil)) (gName i)) tz D σ H :=
  h _ fun r H2 x2 T2 h2 => ⟨by show 1 ≤ sizeLine; decide, fun g hg => k g r _ ⟨T2.ext (Ex.new hg), upd_same, fun p hp => by
    obtain rfl := List.mem_singleton.mp hp
    exact (Ex.new hg) _ _ h2⟩ (x2.trans (.of (Ex.new hg))) fun b o hb n z => by
      have := x2 b o hb n
      rw [z, hg] at this
      cases this⟩
/-- x.append(the next) -/
theorem q_hear (S : HrSt T g rs H) (hz : rs.length ≤ 1000) (h0 : σ[i]? = some (some (.ref g))) (h : Hears T tl σ H xs) (k : ∀ r H3, HrSt T g (rs ++ [(r, xs)]) H3 → KeepN g H H3 → tz D σ H3) : tSeq (tDrop (tBM K "list" rAppend (tVar i) (tCons tl tNil))) tz D σ H := by
  refine ⟨_, h0, .inl ⟨rfl, _, sq_of S.lst⟩, h _ fun r H2 x2 T2 h2 => ?_⟩
  have g2 := x2 _ _ S.lst fun ps z => by cases z
  have a2 : ∀ p ∈ rs, H2 p.1 = some (.tup p.2) := fun p hp => x2 _ _ (S.all p hp) fun ps z => by cases z
  have nr : ∀ {b : Addr} {ys : List V}, H2 b = some (.tup ys) → b ≠ g := fun hb z => by
    rw [z, g2] at hb
    cases hb
  refine ⟨g, _, .ref r, rfl, rfl, g2, sz_lt (by rw [List.length_map]; omega), ?_⟩
  refine k r _ ⟨tabs_upd T2 g2, by rw [upd_same, List.map_append]; rfl, fun p hp => ?_⟩ fun b o hb n t => by
    rw [upd_ne n]
    exact x2 b o hb t
  rcases List.mem_append.mp hp with z | z
  · rw [upd_ne (nr (a2 p z))]
    exact a2 p z
  · obtain rfl := List.mem_singleton.mp z
    rw [upd_ne (nr h2)]
    exact h2
/-- a lambda that lets an error out -/
theorem hears_of {cG cN cM : Addr} {t : XK → TE} (hT : Tabs T H) (h : ∀ (Q : VK) H1, ExtN H H1 → Tabs T H1 → Told K cG cN cM xs H1 Q → ∀ Qv, t (HdE K cG cN cM Q) σ H1 Qv) : Hears T (tLam T (THd K cG cN cM) t) σ H xs := fun Q q =>
  ⟨hT, fun H1 x1 T1 => h Q H1 x1 T1 ⟨fun l H2 e h2 => q l H2 (x1.trans (.of e)) (T1.ext e) h2⟩ _⟩
end
end K02
/-! data told by what they are; new lists of data -/
namespace K02
open PySem L2 Evl Gr
mutual
theorem dp_up {K : PySem.W.Frag} {H H' : Hp} (e : Ex H H') : ∀ (d : PyData) {v : V}, Dp K H v d → Dp K H' v d
  | .none, _, .non => .non
  | .bool _, _, .bl b => .bl b
  | .int _, _, .int i => .int i
  | .str _, _, .str x => .str x
  | .list ds, _, .lst h a => .lst (ex_l e h) (dps_up e ds a)
  | .tuple ds, _, .tup h a => .tup (ex_t e h) (dps_up e ds a)
theorem dps_up {K : PySem.W.Frag} {H H' : Hp} (e : Ex H H') : ∀ (ds : List PyData) {vs : List V}, DpAll K H vs ds → DpAll K H' vs ds
  | [], _, .nil => .nil
  | d :: ds, _, .cons h a => .cons (dp_up e d h) (dps_up e ds a)
end
/-- gives a thing that is d -/
def EvD (K : PySem.W.Frag) (te : TE) (σ : L2.St) (H : Hp) (d : PyData) : Prop := ∀ H1, Ex H H1 → ∀ Q : VK, (∀ v H2, Ex H1 H2 → Dp K H2 v d → Q v H2) → te σ H1 Q
section
variable {K : PySem.W.Frag} {σ : L2.St} {H H' : Hp} {te ta tb tl : TE} {t : TT} {d e : PyData} {ds : List PyData} {xs : List V} {v : V} {a : Addr}
theorem EvD.mono (h : EvD K te σ H d) (e : Ex H H') : EvD K te σ H' d := fun H1 e1 => h H1 (e.trans e1)
theorem ed_of (h : Ev te σ H v) (hd : ∀ H1, Ex H H1 → Dp K H1 v d) : EvD K te σ H d := fun H1 e Q q => h H1 e _ fun H2 e2 => q v H2 e2 (hd H2 (e.trans e2))
theorem ed_L (h : EvL te σ H xs) (hd : ∀ H1, Ex H H1 → DpAll K H1 xs ds) : EvD K te σ H (.list ds) := fun H1 e Q q => h H1 e _ fun p H2 _ e2 hp => q _ H2 e2 (.lst (sq_of hp) (hd H2 (e.trans e2)))
theorem ed_T (h : EvTu K te σ H xs) (hd : ∀ H1, Ex H H1 → DpAll K H1 xs ds) : EvD K te σ H (.tuple ds) := fun H1 e Q q => h H1 e _ fun p H2 e2 hp => q _ H2 e2 (.tup hp (hd H2 (e.trans e2)))
theorem ev_eqD (ha : EvD K ta σ H d) (hb : EvD K tb σ H e) (sd : SeqAt.shaped d = true) (se : SeqAt.shaped e = true) : Ev (tOp (rEqD K) ta tb) σ H (.bl (PyData.eqv d e)) := fun H1 e1 Q q =>
  ha H1 e1 _ fun v H2 e2 hv => hb H2 (e1.trans e2) _ fun u H3 e3 hu => ⟨d, e, dp_up e3 d hv, hu, sd, se, q H3 (e2.trans e3)⟩
theorem ev_neD (ha : EvD K ta σ H d) (hb : EvD K tb σ H e) (sd : SeqAt.shaped d = true) (se : SeqAt.shaped e = true) : Ev (tOp (rNeD K) ta tb) σ H (.bl (!PyData.eqv d e)) := fun H1 e1 Q q =>
  ha H1 e1 _ fun v H2 e2 hv => hb H2 (e1.trans e2) _ fun u H3 e3 hu => ⟨d, e, dp_up e3 d hv, hu, sd, se, q H3 (e2.trans e3)⟩
theorem ev_inD (ha : EvD K ta σ H d) (hb : EvD K tb σ H (.list ds)) (sd : SeqAt.shaped d = true) (se : SeqAt.shaped (.list ds) = true) : Ev (tOp (rInD K) ta tb) σ H (.bl (ds.any fun z => PyData.eqv z d)) := fun H1 e1 Q q =>
  ha H1 e1 _ fun v H2 e2 hv => hb H2 (e1.trans e2) _ fun u H3 e3 hu => ⟨d, ds, dp_up e3 d hv, hu, sd, se, q H3 (e2.trans e3)⟩
end
/-! ### what is not deep -/
def Low (n : Nat) (d : PyData) : Prop := d.canLay0 = true ∧ d.depth ≤ n
theorem lay_all : ∀ {ds : List PyData}, (∀ d ∈ ds, d.canLay0 = true) → PyData.canLayAll0 ds = true
  | [], _ => by simp [PyData.canLayAll0]
  | d :: ds, h => by simp [PyData.canLayAll0, h d List.mem_cons_self, lay_all fun x hx => h x (List.mem_cons_of_mem _ hx)]
theorem depth_all {n : Nat} : ∀ {ds : List PyData}, (∀ d ∈ ds, d.depth ≤ n) → PyData.depthAll ds ≤ n
  | [], _ => by simp [PyData.depthAll]
  | d :: ds, h => by
    simp only [PyData.depthAll]
    exact Nat.max_le.mpr ⟨h d List.mem_cons_self, depth_all fun x hx => h x (List.mem_cons_of_mem _ hx)⟩
theorem low_list {n : Nat} {ds : List PyData} (h : ∀ d ∈ ds, Low n d) : Low (n + 1) (.list ds) := by
  refine ⟨?_, ?_⟩
  · simp only [PyData.canLay0]
    exact lay_all fun d hd => (h d hd).1
  · have := depth_all fun d hd => (h d hd).2
    simp only [PyData.depth]
    omega
theorem low_tup {n : Nat} {ds : List PyData} (h : ∀ d ∈ ds, Low n d) : Low (n + 1) (.tuple ds) := by
  refine ⟨?_, ?_⟩
  · simp only [PyData.canLay0]
    exact lay_all fun d hd => (h d hd).1
  · have := depth_all fun d hd => (h d hd).2
    simp only [PyData.depth]
    omega
theorem low_shaped {n : Nat} {d : PyData} (h : Low n d) (hn : n ≤ 64) : SeqAt.shaped d = true := by
  unfold SeqAt.shaped
  rw [h.1, decide_eq_true (Nat.le_trans h.2 hn)]
  rfl
theorem low_int (i : Int) : Low 0 (.int i) := ⟨by simp [PyData.canLay0], by simp [PyData.depth]⟩
theorem low_str {z : Str} (h : PyData.strOk z = true) : Low 0 (.str z) := ⟨by simp [PyData.canLay0, h], by simp [PyData.depth]⟩
theorem low_non : Low 0 .none := ⟨by simp [PyData.canLay0], by simp [PyData.depth]⟩
theorem eqvAll_map {α : Type} [DecidableEq α] (f : α → PyData) (h : ∀ x y, PyData.eqv (f x) (f y) = decide (x = y)) : ∀ xs ys : List α, PyData.eqvAll (xs.map f) (ys.map f) = decide (xs = ys)
  | [], [] => by simp [PyData.eqvAll]
  | [], y :: ys => by simp [PyData.eqvAll]
  | x :: xs, [] => by simp [PyData.eqvAll]
  | x :: xs, y :: ys => by
    simp only [List.map_cons, PyData.eqvAll, eqvAll_map f h xs ys, h]
    by_cases h1 : x = y <;> by_cases h2 : xs = ys <;> simp [h1, h2]
/-- gives a new list of data -/
def EvLD (K : PySem.W.Frag) (te : TE) (σ : L2.St) (H : Hp) (ds : List PyData) : Prop := ∀ H1, Ex H H1 → ∀ Q : VK, (∀ p vs H2, H1 p = none → Ex H1 H2 → H2 p = some (.lst vs) → DpAll K H2 vs ds → Q (.ref p) H2) → te σ H1 Q
theorem dpAll_len {K : PySem.W.Frag} {H : Hp} : ∀ {vs : List V} {ds : List PyData}, DpAll K H vs ds → vs.length = ds.length
  | _, _, .nil => rfl
  | _, _, .cons _ h => congrArg (· + 1) (dpAll_len h)
theorem dpAll_app {K : PySem.W.Frag} {H : Hp} : ∀ {vs us : List V} {ds es : List PyData}, DpAll K H vs ds → DpAll K H us es → DpAll K H (vs ++ us) (ds ++ es)
  | [], _, _, _, .nil, h => h
  | _ :: _, _, _, _, .cons a b, h => .cons a (dpAll_app b h)
theorem dpAll_rep {K : PySem.W.Frag} {H : Hp} {vs : List V} {ds : List PyData} (h : DpAll K H vs ds) : ∀ n, DpAll K H (List.replicate n vs).flatten (List.replicate n ds).flatten
  | 0 => .nil
  | n + 1 => by
    rw [List.replicate_succ, List.replicate_succ, List.flatten_cons, List.flatten_cons]
    exact dpAll_app h (dpAll_rep h n)
section
variable {K : PySem.W.Frag} {σ : L2.St} {H : Hp} {te ta tb : TE} {t : TA} {ds es : List PyData} {vs : List V} {n : Nat}
theorem ed_new (h : EvLD K te σ H ds) : EvD K te σ H (.list ds) := fun H1 e Q q => h H1 e _ fun p vs H2 _ e2 hp hd => q _ H2 e2 (.lst (sq_of hp) hd)
/-- [(e, ..)] -/
theorem eld_one (h : EvA t σ H vs) (hd : ∀ H1, Ex H H1 → DpAll K H1 vs ds) (hz : vs.length ≤ 1000) : EvLD K (tLst (tCons (tTup t) tNil)) σ H [.tuple ds] := fun H1 e Q q =>
  h H1 e _ fun H2 e2 => ⟨sz_of (by omega), fun a ha => ⟨by show 1 ≤ sizeLine; decide, fun p hp => q p [.ref a] _ (fresh_back (e2.trans (Ex.new ha)) hp) ((e2.trans (Ex.new ha)).trans (Ex.new hp)) upd_same (.cons (.tup (st_of ((Ex.new hp) _ _ upd_same)) (hd _ (((e.trans e2).trans (Ex.new ha)).trans (Ex.new hp)))) .nil)⟩⟩
theorem eld_cat (ha : EvLD K ta σ H ds) (hb : EvLD K tb σ H es) (hz : ds.length + es.length ≤ 100000) : EvLD K (tOp rCat ta tb) σ H (ds ++ es) := fun H1 e Q q =>
  ha H1 e _ fun p vs H2 _ e2 hp d1 => hb H2 (e.trans e2) _ fun r us H3 _ e3 hr d2 => ⟨p, r, vs, us, rfl, rfl, e3 _ _ hp, hr, by rw [dpAll_len d1, dpAll_len d2]; exact sz_of hz, fun a ha =>
    q a _ _ (fresh_back (e2.trans e3) ha) ((e2.trans e3).trans (Ex.new ha)) upd_same (dps_up (Ex.new ha) _ (dpAll_app (dps_up e3 _ d1) d2))⟩
theorem eld_rep (ha : EvLD K ta σ H ds) (hb : Ev tb σ H (.int (n : Int))) (hz : ds.length * n ≤ 100000) (hn : n ≤ 100000) : EvLD K (tOp rRep ta tb) σ H (List.replicate n ds).flatten := fun H1 e Q q =>
  ha H1 e _ fun p vs H2 _ e2 hp d1 => hb H2 (e.trans e2) _ fun H3 e3 => ⟨p, (n : Int), vs, rfl, rfl, e3 _ _ hp, by omega, by omega, by rw [dpAll_len d1, Int.toNat_natCast]; exact sz_of hz, fun a ha =>
    q a _ _ (fresh_back (e2.trans e3) ha) ((e2.trans e3).trans (Ex.new ha)) upd_same (dps_up (Ex.new ha) _ (by rw [Int.toNat_natCast]; exact dpAll_rep (dps_up e3 _ d1) n))⟩
end
end K02
/-! what is kept of things that are no numbers and no parts; rows with one such thing -/
namespace K02
open PySem L2 Evl Gr ClX OpX StX LamX EXC
/-- all that H knows but tables stands in H' -/
abbrev Stay (H H' : Hp) : Prop := ∀ {b : Addr} {o : HO}, H b = some o → (∀ ps, o ≠ .tbl ps) → H' b = some o
theorem Stay.of_keepN {g : Addr} {H H' : Hp} (kk : KeepN g H H') (old : OldN g H) : Stay H H' := fun h1 h2 => kk _ _ h1 (old _ _ h1 h2) h2
theorem Stay.of_extN {H H' : Hp} (e : ExtN H H') : Stay H H' := fun h1 h2 => e _ _ h1 h2
theorem sq_n {K : PySem.W.Frag} {H H' : Hp} {a : Addr} {xs : List V} (n : Stay H H') (h : Sq K H a xs) : Sq K H' a xs := by
  rcases h with (h | h) | (h | h)
  · exact .inl (.inl (h.imp (fun z => n z fun ps z => by cases z) fun ⟨o, z⟩ => ⟨o, n z fun ps z => by cases z⟩))
  · exact .inl (.inr h)
  · exact .inr (.inl (h.imp (fun z => n z fun ps z => by cases z) fun ⟨o, z⟩ => ⟨o, n z fun ps z => by cases z⟩))
  · exact .inr (.inr h)
theorem z0_n {K : PySem.W.Frag} {H H' : Hp} {y : V} {b : Bool} (n : Stay H H') (h : Z0 K H y b) : Z0 K H' y b := h.imp id fun ⟨T, a, c, h1, h2⟩ => ⟨T, a, c, tyx_n n h1, h2⟩
theorem badP_n {K : PySem.W.Frag} {H H' : Hp} {x : V} (n : Stay H H') (h : BadP K H x) : BadP K H' x := by
  rcases h with ⟨T, h1, h2⟩ | ⟨a, xs, f, h1, h2, h3, h4, h5⟩
  · exact .inl ⟨T, tyx_n n h1, h2⟩
  · exact .inr ⟨a, xs, f, h1, sq_n n h2, h3, fun i y hy => z0_n n (h4 i y hy), h5⟩
theorem badN_n {K : PySem.W.Frag} {H H' : Hp} {lo hi : Int} {x : V} (n : Stay H H') (h : BadN K H lo hi x) : BadN K H' lo hi x := h.imp id fun ⟨T, a, b, h1, h2⟩ => ⟨T, a, b, tyx_n n h1, h2⟩
theorem bad0_n {K : PySem.W.Frag} {H H' : Hp} {x : V} (n : Stay H H') (h : Bad0 K H x) : Bad0 K H' x := h.imp id fun ⟨T, a, b, h1, h2⟩ => ⟨T, a, b, tyx_n n h1, h2⟩
mutual
theorem ds_n {K : PySem.W.Frag} {H H' : Hp} (n : Stay H H') : ∀ (d : PyData) {v : V}, Ds K H v d → Ds K H' v d
  | .none, _, .non => .non
  | .bool _, _, .bl b => .bl b
  | .int _, _, .int i => .int i
  | .str _, _, .str x => .str x
  | .list ds, _, .lst h k a => .lst ((h.imp fun z => z.imp (fun z => n z fun ps z => by cases z) fun ⟨o, z⟩ => ⟨o, n z fun ps z => by cases z⟩) id) k (dss_n n ds a)
  | .tuple ds, _, .tup h a => .tup ((h.imp fun z => z.imp (fun z => n z fun ps z => by cases z) fun ⟨o, z⟩ => ⟨o, n z fun ps z => by cases z⟩) id) (dss_n n ds a)
  | .dict _, _, .one h => .one (n h fun ps z => by cases z)
  | .dict _, _, .emp h => .emp (n h fun ps z => by cases z)
theorem dss_n {K : PySem.W.Frag} {H H' : Hp} (n : Stay H H') : ∀ (ds : List PyData) {vs : List V}, DsAll K H vs ds → DsAll K H' vs ds
  | [], _, .nil => .nil
  | d :: ds, _, .cons h a => .cons (ds_n n d h) (dss_n n ds a)
end
theorem shown_n {K : PySem.W.Frag} {H H' : Hp} {v : V} {d : PyData} (n : Stay H H') (h : Shown K H v d) : Shown K H' v d := ⟨ds_n n d h.ds, h.sh, h.dp, h.sz⟩
section
variable {K : PySem.W.Frag} {H : Hp} {y : V} {a : Addr} {t : List Int}
theorem z0_ty {T : String} {b c : Bool} (h : TyX K H y (.type T)) (hb : kitB T "int" = some b) (hc : kitB T "bool" = some c) (z : (b && !c) = false) : Z0 K H y false := .inr ⟨T, b, c, h, hb, hc, z, rfl⟩
theorem z0_neg {i : Int} (h : i < 0) : Z0 K H (.int i) false := .inl ⟨i, rfl, (decide_eq_false (by omega)).symm⟩
/-- plain parts and a bad thing behind -/
theorem badP_end (h : H a = some (.lst (vI t ++ [y]))) (hy : Z0 K H y false) (hz : t.length < 2000) : BadP K H (.ref a) := by
  refine .inr ⟨a, _, fun i => if i < t.length then decide (0 ≤ at' t i) else false, rfl, .inl (sq_of h), by rw [List.length_append, vI_len, List.length_singleton]; omega, fun i x hx => ?_, .inr ⟨t.length, by rw [List.length_append, vI_len, List.length_singleton]; omega, if_neg (by omega)⟩⟩
  by_cases z : i < t.length
  · rw [List.getElem?_append_left (by rw [vI_len]; exact z), vI_get z] at hx
    obtain rfl := Option.some.inj hx
    exact .inl ⟨_, rfl, if_pos z⟩
  · have lt := (List.getElem?_eq_some_iff.mp hx).1
    rw [List.length_append, vI_len, List.length_singleton] at lt
    obtain rfl : i = t.length := by omega
    rw [List.getElem?_append_right (by rw [vI_len]; omega), vI_len, Nat.sub_self] at hx
    obtain rfl := Option.some.inj hx
    show Z0 K H y (if t.length < t.length then _ else false)
    rw [if_neg (by omega)]
    exact hy
/-- .. in front -/
theorem badP_front (h : H a = some (.lst ([y] ++ vI t))) (hy : Z0 K H y false) (hz : t.length < 2000) : BadP K H (.ref a) := by
  refine .inr ⟨a, _, fun i => if i = 0 then false else decide (0 ≤ at' t (i - 1)), rfl, .inl (sq_of h), by rw [List.length_append, vI_len, List.length_singleton]; omega, fun i x hx => ?_, .inr ⟨0, by rw [List.length_append, vI_len, List.length_singleton]; omega, rfl⟩⟩
  cases i with
  | zero =>
    obtain rfl := Option.some.inj hx
    exact hy
  | succ i =>
    have lt := (List.getElem?_eq_some_iff.mp hx).1
    rw [List.length_append, vI_len, List.length_singleton] at lt
    have hx' : (vI t)[i]? = some x := hx
    rw [vI_get (by omega)] at hx'
    obtain rfl := Option.some.inj hx'
    exact .inl ⟨_, rfl, by
      show (if i + 1 = 0 then false else decide (0 ≤ at' t (i + 1 - 1))) = decide (0 ≤ at' t i)
      rw [if_neg (by omega), Nat.add_sub_cancel]⟩
theorem badP_ty {T : String} (h : TyX K H y (.type T)) (h1 : kitB T "list" = some false) (h2 : kitB T "tuple" = some false) : BadP K H y := .inl ⟨T, h, h1, h2⟩
theorem badP_nilL (h : H a = some (.lst [])) : BadP K H (.ref a) := .inr ⟨a, [], fun _ => true, rfl, .inl (sq_of h), by decide, fun i x hx => absurd hx (by simp), .inl rfl⟩
theorem badP_nilT (h : H a = some (.tup [])) : BadP K H (.ref a) := .inr ⟨a, [], fun _ => true, rfl, .inr (st_of h), by decide, fun i x hx => absurd hx (by simp), .inl rfl⟩
end
end K02
/-! a pick out of a display, told by what all of its things are -/
namespace K02
open PySem L2 Evl Gr ClX OpX StX LamX EXC
/-- gives a thing that is so -/
def EvS (Pd : V → Hp → Prop) (te : TE) (σ : L2.St) (H : Hp) : Prop := ∀ H1, Ex H H1 → ∀ Q : VK, (∀ v H2, Ex H1 H2 → Pd v H2 → Q v H2) → te σ H1 Q
/-- gives n things, all so -/
def EvSA (Pd : V → Hp → Prop) (n : Nat) (ta : TA) (σ : L2.St) (H : Hp) : Prop := ∀ H1, Ex H H1 → ∀ Q : List V → Hp → Prop, (∀ vs H2, Ex H1 H2 → vs.length = n → (∀ v ∈ vs, Pd v H2) → Q vs H2) → ta σ H1 Q
section
variable {K : PySem.W.Frag} {Pd : V → Hp → Prop} {σ : L2.St} {H : Hp} {te : TE} {ta : TA} {n : Nat} {v : V} {xs : List V}
theorem evs_ev (h : Ev te σ H v) (hd : ∀ H1, Ex H H1 → Pd v H1) : EvS Pd te σ H := fun H1 e Q q => h H1 e _ fun H2 e2 => q v H2 e2 (hd H2 (e.trans e2))
theorem evs_L (h : EvL te σ H xs) (hd : ∀ a H1, H a = none → Ex H H1 → H1 a = some (.lst xs) → Pd (.ref a) H1) : EvS Pd te σ H := fun H1 e Q q => h H1 e _ fun p H2 hp e2 h2 => q _ H2 e2 (hd p H2 (fresh_back e hp) (e.trans e2) h2)
theorem evs_T (h : EvA ta σ H xs) (hz : xs.length ≤ 1000) (hd : ∀ a H1, H a = none → Ex H H1 → H1 a = some (.tup xs) → Pd (.ref a) H1) : EvS Pd (tTup ta) σ H := fun H1 e Q q =>
  h H1 e _ fun H2 e2 => ⟨sz_of (by omega), fun a ha => q _ _ (e2.trans (Ex.new ha)) (hd a _ (fresh_back (e.trans e2) ha) ((e.trans e2).trans (Ex.new ha)) upd_same)⟩
theorem evs_D (hd : ∀ a H1, H a = none → Ex H H1 → H1 a = some (.dK []) → Pd (.ref a) H1) : EvS Pd tDNewK σ H := fun H1 e Q q => fun a ha => q _ _ (Ex.new ha) (hd a _ (fresh_back e ha) (e.trans (Ex.new ha)) upd_same)
theorem evsa_nil : EvSA Pd 0 tNil σ H := fun H1 e Q q => q [] H1 (Ex.refl H1) rfl fun v hv => absurd hv (by simp)
theorem evsa_cons (up : ∀ v H1 H2, Ex H1 H2 → Pd v H1 → Pd v H2) (h : EvS Pd te σ H) (hr : EvSA Pd n ta σ H) : EvSA Pd (n + 1) (tCons te ta) σ H := fun H1 e Q q =>
  h H1 e _ fun v H2 e2 hv => hr H2 (e.trans e2) _ fun vs H3 e3 len all => q (v :: vs) H3 (e2.trans e3) (congrArg (· + 1) len) fun u hu => by
    rcases List.mem_cons.mp hu with z | z
    · rw [z]
      exact up v H2 H3 e3 hv
    · exact all u z
/-- _law_pick(pen, [..]) -/
theorem pick_S {p l : Addr} {cells : List Int} {m i : Nat} {Q : VK} (up : ∀ v H1 H2, Ex H1 H2 → Pd v H1 → Pd v H2) (h : EvSA Pd (n + 1) ta σ H) (hi : σ[i]? = some (some (.ref p))) (hP : PenAt H p l cells m) (hm : m ≤ 50000) (h63 : cells.length ≤ 63) (hn : n ≤ 1000)
    (k : ∀ v H5 H', Ex H H5 → Pd v H5 → PenAt H5 p l cells m → Keep p H5 H' → PenAt H' p l cells (m + 1) → Q v H') : tCall spPick [] E0 (tCons (tVar i) (tCons (tLst ta) tNil)) σ H Q :=
  ⟨_, hi, h H (Ex.refl H) _ fun vs H2 e2 len all => ⟨sz_of (by omega), fun g hg => by
    have e3 := e2.trans (Ex.new (o := .lst vs) hg)
    have hP3 := hP.mono e3 (Nat.le_refl m)
    refine ⟨p, l, g, cells, m, vs, rfl, hP3, hm, h63, upd_same, fun z => ?_, by omega, by omega, fun ix x H' hx hP' k' => ?_⟩
    · obtain ⟨_, _, q, _⟩ := hP
      rw [z, e2 _ _ q] at hg
      cases hg
    · exact k x _ H' e3 (up x _ _ (Ex.new hg) (all x (List.mem_of_getElem? hx))) hP3 k' hP'⟩⟩
theorem tyx_keepP {p l : Addr} {cells : List Int} {m m' : Nat} {H' : Hp} {x : V} {t : Value} (hP : PenAt H p l cells m) (kp : Keep p H H') (hP' : PenAt H' p l cells m') (h : TyX K H x t) : TyX K H' x t := by
  obtain ⟨k0, r0, hp, _⟩ := hP
  obtain ⟨k1, r1, hp', _⟩ := hP'
  have n : ∀ {b : Addr} {o : HO}, H b = some o → (∀ ys, o ≠ .lst ys) → H' b = some o := fun h1 h2 => kp _ _ h1 fun z => by
    rw [z, hp] at h1
    exact h2 _ (Option.some.inj h1).symm
  cases h with
  | base b =>
    refine .base ?_
    cases b with
    | non => exact .non
    | bl b => exact .bl b
    | int i => exact .int i
    | str x => exact .str x
    | flt x => exact .flt x
    | @lst a ys q =>
      by_cases z : a = p
      · rw [z]
        exact .lst hp'
      · exact .lst (kp _ _ q z)
    | frz q => exact .frz (n q (fun ps z => by cases z))
    | tup q => exact .tup (n q (fun ps z => by cases z))
    | dK q => exact .dK (n q (fun ps z => by cases z))
    | dT q => exact .dT (n q (fun ps z => by cases z))
    | ins q a b c d f => exact .ins (n q (fun ps z => by cases z)) a b c d f
  | byt b => exact .byt b
  | set q => exact .set (n q (fun ps z => by cases z))
  | kList q c => exact .kList q c
  | kTuple q c => exact .kTuple q c
  | kDict q c => exact .kDict q c
  | fTuple q => exact .fTuple (n q (fun ps z => by cases z))
  | fDict q => exact .fDict (n q (fun ps z => by cases z))
theorem z0_keepP {p l : Addr} {cells : List Int} {m m' : Nat} {H' : Hp} {y : V} {b : Bool} (hP : PenAt H p l cells m) (kp : Keep p H H') (hP' : PenAt H' p l cells m') (h : Z0 K H y b) : Z0 K H' y b := h.imp id fun ⟨T, a, c, h1, h2⟩ => ⟨T, a, c, tyx_keepP hP kp hP' h1, h2⟩
theorem badP_keepP {p l : Addr} {cells : List Int} {m m' : Nat} {H' : Hp} {x : V} (hP : PenAt H p l cells m) (kp : Keep p H H') (hP' : PenAt H' p l cells m') (hx : x ≠ .ref p) (h : BadP K H x) : BadP K H' x := by
  rcases h with ⟨T, h1, h2⟩ | ⟨a, xs, f, rfl, h2, h3, h4, h5⟩
  · exact .inl ⟨T, tyx_keepP hP kp hP' h1, h2⟩
  · have na : a ≠ p := fun z => hx (by rw [z])
    refine .inr ⟨a, xs, f, rfl, ?_, h3, fun i y hy => z0_keepP hP kp hP' (h4 i y hy), h5⟩
    rcases h2 with (h | h) | (h | h)
    · exact .inl (.inl (h.imp (fun z => kp _ _ z na) fun ⟨o, z⟩ => ⟨o, kp _ _ z na⟩))
    · exact .inl (.inr h)
    · exact .inr (.inl (h.imp (fun z => kp _ _ z na) fun ⟨o, z⟩ => ⟨o, kp _ _ z na⟩))
    · exact .inr (.inr h)
end
end K02
namespace K02
open PySem L2 Evl Gr ClX OpX StX StM LamX EXC OwX
/-! ### _law_parts_right -/
abbrev sPar : Stmt := top 47
abbrev nPar : List Str := ["_law_pen_here", "_law_plain_here", "_law_bad", "_law_told", "_law_high", "_law_gains", "_law_heard_here"]
abbrev qPar : Str := ("_law_parts_right" : Str) ++ ".<locals>." ++ "<lambda>"
def spPar (K : PySem.W.Frag) (T : List (Addr × Str)) : Sp := fun vs H Q _ => ∃ (p a l : Addr) (cells : List Int) (m : Nat) (t g : List Int), vs = [.ref p, .ref a] ∧ PenAt H p l cells m ∧ m + 10 ≤ 50000 ∧ cells.length ≤ 63 ∧ PlN H a t g ∧ 0 < t.length ∧ g.length ≤ 4 ∧ Pos t ∧ Tabs T H ∧ ∀ H', KeepN p H H' → PenAt H' p l cells (m + 4) → Tabs T H' → Q (.bl true) H'
theorem scPar : FnScope nPar ["_law_pen_here", "_law_plain_here"] (defScope sPar) := ⟨rfl, rfl, rfl, by decide +kernel, rfl, by decide +kernel, by decide +kernel⟩
/-- gives data, one after another -/
def EvAD (K : PySem.W.Frag) (ta : TA) (σ : L2.St) (H : Hp) (ds : List PyData) : Prop := ∀ H1, Ex H H1 → ∀ Q : List V → Hp → Prop, (∀ vs H2, Ex H1 H2 → DpAll K H2 vs ds → Q vs H2) → ta σ H1 Q
section
variable {K : PySem.W.Frag} {σ : L2.St} {H : Hp} {te ta tb : TE} {tr : TA} {d : PyData} {ds : List PyData} {v : V}
theorem ead_nil : EvAD K tNil σ H [] := fun H1 e Q q => q [] H1 (Ex.refl H1) .nil
theorem ead_cons (h : EvD K te σ H d) (hr : EvAD K tr σ H ds) : EvAD K (tCons te tr) σ H (d :: ds) := fun H1 e Q q =>
  h H1 e _ fun v H2 e2 hv => hr H2 (e.trans e2) _ fun vs H3 e3 hs => q (v :: vs) H3 (e2.trans e3) (.cons (dp_up e3 _ hv) hs)
theorem ed_tupD (h : EvAD K tr σ H ds) (hz : ds.length ≤ 1000) : EvD K (tTup tr) σ H (.tuple ds) := fun H1 e Q q =>
  h H1 e _ fun vs H2 e2 hs => ⟨by rw [dpAll_len hs]; exact sz_of (by omega), fun a ha => q _ _ (e2.trans (Ex.new ha)) (.tup (st_of upd_same) (dps_up (Ex.new ha) _ hs))⟩
theorem ed_lstD (h : EvAD K tr σ H ds) (hz : ds.length ≤ 1000) : EvD K (tLst tr) σ H (.list ds) := fun H1 e Q q =>
  h H1 e _ fun vs H2 e2 hs => ⟨by rw [dpAll_len hs]; exact sz_of (by omega), fun a ha => q _ _ (e2.trans (Ex.new ha)) (.lst (sq_of upd_same) (dps_up (Ex.new ha) _ hs))⟩
theorem ed_str {z : Str} : EvD K (tC (.str z)) σ H (.str z) := ed_of ev_c fun _ _ => .str z
theorem el_catX {q : Addr} {xs ys : List V} (ha : Ev ta σ H (.ref q)) (hq : H q = some (.lst xs)) (hb : EvL tb σ H ys) (hz : xs.length + ys.length ≤ 100000) : EvL (tOp rCat ta tb) σ H (xs ++ ys) := fun H1 e Q k =>
  ha H1 e _ fun H2 e2 => hb H2 (e.trans e2) _ fun r H3 _ e3 hr => ⟨q, r, xs, ys, rfl, rfl, (e.trans (e2.trans e3)) _ _ hq, hr, sz_of hz, fun a ha => k a _ (fresh_back (e2.trans e3) ha) ((e2.trans e3).trans (Ex.new ha)) upd_same⟩
theorem el_catY {q : Addr} {xs ys : List V} (ha : EvL ta σ H xs) (hb : Ev tb σ H (.ref q)) (hq : H q = some (.lst ys)) (hz : xs.length + ys.length ≤ 100000) : EvL (tOp rCat ta tb) σ H (xs ++ ys) := fun H1 e Q k =>
  ha H1 e _ fun r H2 _ e2 hr => hb H2 (e.trans e2) _ fun H3 e3 => ⟨r, q, xs, ys, rfl, rfl, e3 _ _ hr, (e.trans (e2.trans e3)) _ _ hq, sz_of hz, fun a ha => k a _ (fresh_back (e2.trans e3) ha) ((e2.trans e3).trans (Ex.new ha)) upd_same⟩
theorem pln_mono {H' : Hp} {a : Addr} {t g : List Int} (e : Ex H H') (h : PlN H a t g) : PlN H' a t g := by
  obtain ⟨p1, q1, h1, h2, h3, h4⟩ := h
  exact ⟨p1, q1, e _ _ h1, e _ _ h2, e _ _ h3, h4⟩
theorem pln_keep {H' : Hp} {p l a : Addr} {cells : List Int} {m : Nat} {t g : List Int} (hP : PenAt H p l cells m) (kp : Keep p H H') (h : PlN H a t g) : PlN H' a t g := by
  obtain ⟨p1, q1, h1, h2, h3, h4⟩ := h
  obtain ⟨k0, r0, hp, _⟩ := hP
  have nl : ∀ {b : Addr} {xs : List Int}, H b = some (.lst (vI xs)) → b ≠ p := fun hb z => by
    rw [z, hp] at hb
    have e := HO.lst.inj (Option.some.inj hb)
    rename_i xs
    cases xs with
    | nil => cases e
    | cons x xs => cases (List.cons.inj e).1
  exact ⟨p1, q1, kp _ _ h1 (fun z => by rw [z, hp] at h1; cases h1), kp _ _ h2 (nl h2), kp _ _ h3 (nl h3), h4⟩
theorem tabs_keepP {H' : Hp} {T : List (Addr × Str)} {p l : Addr} {cells : List Int} {m : Nat} (h : Tabs T H) (hP : PenAt H p l cells m) (kp : Keep p H H') : Tabs T H' := fun q hq => by
  obtain ⟨_, _, hp, _⟩ := hP
  obtain ⟨ps, a1, a2, a3⟩ := h q hq
  refine ⟨ps, kp _ _ a1 (fun z => by rw [z, hp] at a1; cases a1), a2, fun pos cv hc => ?_⟩
  obtain ⟨cc, b1, b2⟩ := a3 pos cv hc
  exact ⟨cc, b1, kp _ _ b2 (fun z => by rw [z, hp] at b2; unfold CodeO at b2; cases b2)⟩
end
section
variable {P : Program} {w : World} {K : PySem.W.Frag} {mg : Str → Option Value} {base : Heap}
theorem ok_Par {C CG CN CT CM B f c Pc fHd fI fP T0 : Addr} {mc : Value} {fd eHd eI eP : FuncData} {T : List (Addr × Str)} {gk : List Value → List Value → List Value} (F : FunC K "_law_parts_right" "_law_parts_right" sPar f fd c) (TB : TabB base mg c Pc) (hT : (Pc, qPar) ∈ T) (hu : ∀ p ∈ T, p.1 = Pc → p.2 = qPar)
    (N : GName K mg C mc) (HK : HdK K mg B CG CN CT CM) (FH : Fun K "_law_heard" "_law_heard" sHd fHd eHd) (bH : Binds K eHd ["_law_ask"] []) (gH : mg "_law_heard" = some (.ref fHd))
    (M : Mk K C fI) (GI : FnOk P w K mg base (L2.CX P w) 4 fI eI ["self", "told", "gains"] (spInitBad K CG)) (bI : Binds K eI ["self", "told", "gains"] []) (kI : KBn K eI ["self", "told", "gains"] 1 ["told"] gk (fun vs zs => vs ++ zs ++ [.ref T0]))
    (GP : FnOk P w K mg base CX0 2 fP eP ["_law_pen_here", "_law_some"] spPick) (kP : PySem.W.keepIn K (.ref fP) = true) (bP : Binds K eP ["_law_pen_here", "_law_some"] []) (gP : mg "_law_pick" = some (.ref fP)) : FnG P w K mg base 11 f fd ["_law_pen_here", "_law_plain_here"] (spPar K T) := by
  refine F.okG scPar (fun vs H Q E h => ?_) (fun A outer s H vs Q E gd hr h => ?_)
  · obtain ⟨p, a, l, cells, m, t, g, rfl, _⟩ := h
    rfl
  · obtain ⟨p, a, l, cells, m, t, g, rfl, hP, hm, h63, hPl, t0, g4, pt, tabs, k⟩ := h
    have r2 := hr.mono (show 2 ≤ 10 by decide)
    refine ⟨_, pss_cons (ps_set (i := 2) scPar.nd rfl (.inl rfl) (pe_call GP r2 (by rfl) gP kP bP .nil pass0 (pa_cons (pv 0) (pa_cons (pe_lst (pa_cons pe_non (pa_cons pe_bl (pa_cons pe_bl (pa_cons (pe_un un_neg pe_int) (pa_cons pe_str (pa_cons (pe_tup (pa_cons pe_int pa_nil)) (pa_cons (pe_lst pa_nil) (pa_cons pe_dnewK pa_nil))))))))) pa_nil))))
      (pss_cons (ps_set (i := 3) scPar.nd rfl (.inr rfl) (pe_call GP r2 (by rfl) gP kP bP .nil pass0 (pa_cons (pv 0) (pa_cons (pe_lst (pa_cons pe_non (pa_cons pe_int (pa_cons (pe_tup pa_nil) (pa_cons (pe_lst pa_nil) (pa_cons pe_str (pa_cons pe_dnewK (pa_cons (pe_op op_cat (pe_ix ix_tup (pv 1) pe_int (fun _ _ => rfl)) (pe_lst (pa_cons (pv 2) pa_nil))) (pa_cons (pe_op op_cat (pe_lst (pa_cons (pv 2) pa_nil)) (pe_ix ix_tup (pv 1) pe_int (fun _ _ => rfl))) pa_nil))))))))) pa_nil))))
      (pss_cons (ps_set (i := 4) scPar.nd rfl (.inl rfl) (pe_call GP r2 (by rfl) gP kP bP .nil pass0 (pa_cons (pv 0) (pa_cons (pe_lst (pa_cons pe_non (pa_cons pe_bl (pa_cons (pe_un un_neg pe_int) (pa_cons pe_str (pa_cons (pe_un un_neg (pe_op op_pow pe_int pe_int)) (pa_cons (pe_tup pa_nil) (pa_cons pe_dnewK pa_nil)))))))) pa_nil))))
      (pss_cons (ps_set (i := 5) scPar.nd rfl (.inr rfl) (pe_call GP r2 (by rfl) gP kP bP .nil pass0 (pa_cons (pv 0) (pa_cons (pe_lst (pa_cons pe_non (pa_cons pe_int (pa_cons (pe_tup pa_nil) (pa_cons (pe_lst pa_nil) (pa_cons pe_str (pa_cons pe_dnewK (pa_cons (pe_op op_cat (pe_ix ix_tup (pv 1) pe_int (fun _ _ => rfl)) (pe_lst (pa_cons (pv 4) pa_nil))) (pa_cons (pe_op op_cat (pe_lst (pa_cons (pv 4) pa_nil)) (pe_ix ix_tup (pv 1) pe_int (fun _ _ => rfl))) pa_nil))))))))) pa_nil))))
      (pss_cons (ps_set (i := 6) scPar.nd rfl (.inl rfl) (pe_lst (pa_cons (pe_heardR (X := (cxOf CX0 P w K mg base nPar "_law_parts_right" (defScope sPar) f (.ref c) A outer s H E).nox) (T := T) (t := fun E2 => tMake C (spInitBad K CG) [] E2 (tCons (tVar 3) (tCons (tVar 5) tNil))) (by rfl) gH FH bH HK gd TB rfl hT hu hr (lamS_by (sc := defScope sPar) (by decide +kernel)) rfl (fun _ _ _ _ _ => rfl) (fun A2 outer2 s2 H2 E2 f2 c2 hr2 => pe_make (E := E2) M GI (hr2.mono (show 5 ≤ 8 by decide)) rfl N.g bI .nil (passes_call (takes_of rfl rfl rfl rfl) fun _ _ _ _ z => z) (pa_cons (pv 3) (pa_cons (pv 5) pa_nil)))) pa_nil)))
      (pss_cons (ps_expr (pe_bm PySem.F.plainAttrs_list PySem.F.slot_list_append PySem.F.type_list_append mt_append (pv 6) (pa_cons (pe_heardR (X := (cxOf CX0 P w K mg base nPar "_law_parts_right" (defScope sPar) f (.ref c) A outer s H E).nox) (T := T) (t := fun E2 => tMake C (spInitBad K CG) [] E2 (tCons (tOp (rIxT K) (tVar 1) (tC (.int 0))) (tCons (tVar 5) tNil))) (by rfl) gH FH bH HK gd TB rfl hT hu hr (lamS_by (sc := defScope sPar) (by decide +kernel)) rfl (fun _ _ _ _ _ => rfl) (fun A2 outer2 s2 H2 E2 f2 c2 hr2 => pe_make (E := E2) M GI (hr2.mono (show 5 ≤ 8 by decide)) rfl N.g bI .nil (passes_call (takes_of rfl rfl rfl rfl) fun _ _ _ _ z => z) (pa_cons (pe_ix (show IxR _ (rIxT K) from ix_tup) (pv 1) pe_int (fun _ _ => rfl)) (pa_cons (pv 5) pa_nil)))) pa_nil)))
      (pss_cons (ps_expr (pe_bm PySem.F.plainAttrs_list PySem.F.slot_list_append PySem.F.type_list_append mt_append (pv 6) (pa_cons (pe_heardR (X := (cxOf CX0 P w K mg base nPar "_law_parts_right" (defScope sPar) f (.ref c) A outer s H E).nox) (T := T) (t := fun E2 => tMakeK C 0 (["told"] : List Str).length (spInitBad K CG) (fun vs zs => vs ++ zs ++ [V.ref T0]) E2 tNil (tCons (tVar 3) tNil)) (by rfl) gH FH bH HK gd TB rfl hT hu hr (lamS_by (sc := defScope sPar) (by decide +kernel)) rfl (fun _ _ _ _ _ => rfl) (fun A2 outer2 s2 H2 E2 f2 c2 hr2 => pe_makeK0 (E := E2) (ks := ["told"]) M GI (hr2.mono (show 5 ≤ 8 by decide)) rfl N.g kI (passes_call (takes_of rfl rfl rfl rfl) fun _ _ _ _ z => z) (pk_cons (pv 3) pk_nil))) pa_nil)))
      (pss_one (ps_ret (pe_cmpR (op_eqD hr.units) (pv 6) (pe_lst (pa_cons (pe_tup (pa_cons pe_str (pa_cons pe_str pa_nil))) (pa_cons (pe_tup (pa_cons pe_str (pa_cons pe_str pa_nil))) (pa_cons (pe_tup (pa_cons pe_str (pa_cons pe_str pa_nil))) pa_nil)))) (nomark _)))))))))), ?_⟩
    have nP : ∀ {H' : Hp} {m' : Nat} {b : Addr}, PenAt H' p l cells m' → H' b = none → V.ref b ≠ .ref p := fun hP hn z => by
      obtain ⟨_, _, q, _⟩ := hP
      cases z
      rw [q] at hn
      cases hn
    have upZ : ∀ (v : V) (H1 H2 : Hp), Ex H1 H2 → Z0 K H1 v false → Z0 K H2 v false := fun v H1 H2 e h => h.mono e
    have upP : ∀ (v : V) (H1 H2 : Hp), Ex H1 H2 → (BadP K H1 v ∧ v ≠ .ref p) → (BadP K H2 v ∧ v ≠ .ref p) := fun v H1 H2 e h => ⟨h.1.mono e, h.2⟩
    refine q_asgR (pick_S (Pd := fun v H' => Z0 K H' v false) (n := 7) upZ (evsa_cons upZ (evs_ev ev_c fun _ _ => (z0_ty (T := "NoneType") (b := false) (c := false) (.base .non) (by decide +kernel) (by decide +kernel) rfl)) (evsa_cons upZ (evs_ev ev_c fun _ _ => (z0_ty (T := "bool") (b := true) (c := true) (.base (.bl true)) (by decide +kernel) (by decide +kernel) rfl)) (evsa_cons upZ (evs_ev ev_c fun _ _ => (z0_ty (T := "bool") (b := true) (c := true) (.base (.bl false)) (by decide +kernel) (by decide +kernel) rfl)) (evsa_cons upZ (evs_ev (ev_un (ev_c (v := .int 1)) ru_neg) fun _ _ => z0_neg (by decide)) (evsa_cons upZ (evs_ev ev_c fun _ _ => (z0_ty (T := "str") (b := false) (c := false) (.base (.str _)) (by decide +kernel) (by decide +kernel) rfl)) (evsa_cons upZ (evs_T (ea_cons ev_c ea_nil) (by show 1 ≤ 1000; decide) fun _ _ _ _ h => (z0_ty (T := "tuple") (b := false) (c := false) (.base (.tup h)) (by decide +kernel) (by decide +kernel) rfl)) (evsa_cons upZ (evs_L (el_lst ea_nil (by decide)) fun _ _ _ _ h => (z0_ty (T := "list") (b := false) (c := false) (.base (.lst h)) (by decide +kernel) (by decide +kernel) rfl)) (evsa_cons upZ (evs_D fun _ _ _ _ h => (z0_ty (T := "dict") (b := false) (c := false) (.base (.dK h)) (by decide +kernel) (by decide +kernel) rfl)) evsa_nil)))))))) rfl hP (by omega) h63 (by decide) fun bad H1 H2 e1 z1 P1 k1 P2 => ?_)
    have zb := z0_keepP P1 k1 P2 z1
    have pl2 := pln_keep P1 k1 (pln_mono e1 hPl)
    have tb2 := tabs_keepP (tabs.ext e1) P1 k1
    have kn2 : KeepN p H H2 := fun b o hb n _ => k1 _ _ (e1 _ _ hb) n
    show tSeq _ _ _ [some (.ref p), some (.ref a), some bad, none, none, none, none] H2
    have pl2' := pl2
    obtain ⟨p1, q1, hpl, hp1, hq1, t5⟩ := pl2'
    refine q_asgR (pick_S (Pd := fun v H' => BadP K H' v ∧ v ≠ .ref p) (n := 7) upP (evsa_cons upP (evs_ev ev_c fun _ _ => ⟨(badP_ty (T := "NoneType") (.base .non) (by decide +kernel) (by decide +kernel)), nofun⟩) (evsa_cons upP (evs_ev ev_c fun _ _ => ⟨(badP_ty (T := "int") (.base (.int _)) (by decide +kernel) (by decide +kernel)), nofun⟩) (evsa_cons upP (evs_T ea_nil (by decide) fun _ _ hn _ h => ⟨badP_nilT h, (nP P2 hn)⟩) (evsa_cons upP (evs_L (el_lst ea_nil (by decide)) fun _ _ hn _ h => ⟨badP_nilL h, (nP P2 hn)⟩) (evsa_cons upP (evs_ev ev_c fun _ _ => ⟨(badP_ty (T := "str") (.base (.str _)) (by decide +kernel) (by decide +kernel)), nofun⟩) (evsa_cons upP (evs_D fun _ _ hn _ h => ⟨(badP_ty (T := "dict") (.base (.dK h)) (by decide +kernel) (by decide +kernel)), (nP P2 hn)⟩) (evsa_cons upP (evs_L (el_catX (ev_op (ev_var (i := 1) rfl) ev_c (rv_ixT (st_of hpl) rfl)) hp1 (el_lst (ea_cons (ev_var (i := 2) rfl) ea_nil) (by show 1 ≤ 100000; decide)) (by rw [vI_len]; show _ + 1 ≤ _; omega)) fun _ _ hn e h => ⟨badP_end h (zb.mono e) (by omega), (nP P2 hn)⟩) (evsa_cons upP (evs_L (el_catY (el_lst (ea_cons (ev_var (i := 2) rfl) ea_nil) (by show 1 ≤ 100000; decide)) (ev_op (ev_var (i := 1) rfl) ev_c (rv_ixT (st_of hpl) rfl)) hp1 (by rw [vI_len]; show 1 + _ ≤ _; omega)) fun _ _ hn e h => ⟨badP_front h (zb.mono e) (by omega), (nP P2 hn)⟩) evsa_nil)))))))) rfl P2 (by omega) h63 (by decide) fun told H3 H4 e3 z3 P3 k3 P4 => ?_)
    have bt := badP_keepP P3 k3 P4 z3.2 z3.1
    have nt := z3.2
    have pl4 := pln_keep P3 k3 (pln_mono e3 pl2)
    have tb4 := tabs_keepP (tb2.ext e3) P3 k3
    have kn4 : KeepN p H H4 := kn2.trans fun b o hb n _ => k3 _ _ (e3 _ _ hb) n
    clear hpl hp1 hq1 zb pl2 tb2 kn2
    show tSeq _ _ _ [some (.ref p), some (.ref a), some bad, some told, none, none, none] H4
    refine q_asgR (pick_S (Pd := fun v H' => Z0 K H' v false) (n := 6) upZ (evsa_cons upZ (evs_ev ev_c fun _ _ => (z0_ty (T := "NoneType") (b := false) (c := false) (.base .non) (by decide +kernel) (by decide +kernel) rfl)) (evsa_cons upZ (evs_ev ev_c fun _ _ => (z0_ty (T := "bool") (b := true) (c := true) (.base (.bl true)) (by decide +kernel) (by decide +kernel) rfl)) (evsa_cons upZ (evs_ev (ev_un (ev_c (v := .int 1)) ru_neg) fun _ _ => z0_neg (by decide)) (evsa_cons upZ (evs_ev ev_c fun _ _ => (z0_ty (T := "str") (b := false) (c := false) (.base (.str _)) (by decide +kernel) (by decide +kernel) rfl)) (evsa_cons upZ (evs_ev (ev_un (ev_op (ev_c (v := .int 10)) (ev_c (v := .int 30)) (rv_I (C := CPow) (g := fun i j => .int (i ^ j.toNat)) (show (0 : Int) ≤ 30 ∧ (30 : Int) ≤ 1000000 ∧ (10 : Int).natAbs < 2 ^ 64 by decide))) ru_neg) fun _ _ => z0_neg (by decide +kernel)) (evsa_cons upZ (evs_T ea_nil (by decide) fun _ _ _ _ h => (z0_ty (T := "tuple") (b := false) (c := false) (.base (.tup h)) (by decide +kernel) (by decide +kernel) rfl)) (evsa_cons upZ (evs_D fun _ _ _ _ h => (z0_ty (T := "dict") (b := false) (c := false) (.base (.dK h)) (by decide +kernel) (by decide +kernel) rfl)) evsa_nil))))))) rfl P4 (by omega) h63 (by decide) fun high H5 H6 e5 z5 P5 k5 P6 => ?_)
    have zb := z0_keepP P5 k5 P6 z5
    have bt := badP_keepP P5 k5 P6 nt (bt.mono e5)
    have pl6 := pln_keep P5 k5 (pln_mono e5 pl4)
    have tb6 := tabs_keepP (tb4.ext e5) P5 k5
    have kn6 : KeepN p H H6 := kn4.trans fun b o hb n _ => k5 _ _ (e5 _ _ hb) n
    clear pl4 tb4 kn4
    show tSeq _ _ _ [some (.ref p), some (.ref a), some bad, some told, some high, none, none] H6
    have pl6' := pl6
    obtain ⟨p1, q1, hpl, hp1, hq1, t5⟩ := pl6'
    refine q_asgR (pick_S (Pd := fun v H' => BadP K H' v ∧ v ≠ .ref p) (n := 7) upP (evsa_cons upP (evs_ev ev_c fun _ _ => ⟨(badP_ty (T := "NoneType") (.base .non) (by decide +kernel) (by decide +kernel)), nofun⟩) (evsa_cons upP (evs_ev ev_c fun _ _ => ⟨(badP_ty (T := "int") (.base (.int _)) (by decide +kernel) (by decide +kernel)), nofun⟩) (evsa_cons upP (evs_T ea_nil (by decide) fun _ _ hn _ h => ⟨badP_nilT h, (nP P6 hn)⟩) (evsa_cons upP (evs_L (el_lst ea_nil (by decide)) fun _ _ hn _ h => ⟨badP_nilL h, (nP P6 hn)⟩) (evsa_cons upP (evs_ev ev_c fun _ _ => ⟨(badP_ty (T := "str") (.base (.str _)) (by decide +kernel) (by decide +kernel)), nofun⟩) (evsa_cons upP (evs_D fun _ _ hn _ h => ⟨(badP_ty (T := "dict") (.base (.dK h)) (by decide +kernel) (by decide +kernel)), (nP P6 hn)⟩) (evsa_cons upP (evs_L (el_catX (ev_op (ev_var (i := 1) rfl) ev_c (rv_ixT (st_of hpl) rfl)) hq1 (el_lst (ea_cons (ev_var (i := 4) rfl) ea_nil) (by show 1 ≤ 100000; decide)) (by rw [vI_len]; show _ + 1 ≤ _; omega)) fun _ _ hn e h => ⟨badP_end h (zb.mono e) (by omega), (nP P6 hn)⟩) (evsa_cons upP (evs_L (el_catY (el_lst (ea_cons (ev_var (i := 4) rfl) ea_nil) (by show 1 ≤ 100000; decide)) (ev_op (ev_var (i := 1) rfl) ev_c (rv_ixT (st_of hpl) rfl)) hq1 (by rw [vI_len]; show 1 + _ ≤ _; omega)) fun _ _ hn e h => ⟨badP_front h (zb.mono e) (by omega), (nP P6 hn)⟩) evsa_nil)))))))) rfl P6 (by omega) h63 (by decide) fun gains H7 H8 e7 z7 P7 k7 P8 => ?_)
    have bg := badP_keepP P7 k7 P8 z7.2 z7.1
    have bt := badP_keepP P7 k7 P8 nt (bt.mono e7)
    have pl8 := pln_keep P7 k7 (pln_mono e7 pl6)
    have tb8 := tabs_keepP (tb6.ext e7) P7 k7
    have kn8 : KeepN p H H8 := kn6.trans fun b o hb n _ => k7 _ _ (e7 _ _ hb) n
    clear hpl hp1 hq1 zb pl6 tb6 kn6
    show tSeq _ _ _ [some (.ref p), some (.ref a), some bad, some told, some high, some gains, none] H8
    obtain ⟨p1, q1, hpl, hp1, hq1, t5⟩ := pl8
    refine q_hear0 (hears_of (xs := [.str "growth", .str "told"]) tb8 fun Q1 H1 x1 T1 told' Qv => ?_) fun gg r1 H9 S9 x9 old => ?_
    · have bt1 := badP_n (Stay.of_extN x1) bt
      exact ⟨_, rfl, _, rfl, fun x dx hx hd hn => by
        have e := (Ex.new (o := .own x) hd).trans (Ex.new (o := .ins C dx []) (by rw [upd_ne hn.symm]; exact hx))
        exact ⟨x, told, gains, rfl, .inl ⟨bt1.mono e, (out_part told').mono e⟩⟩⟩
    show tSeq _ _ _ [some (.ref p), some (.ref a), some bad, some told, some high, some gains, some (.ref gg)] H9
    have k9 : KeepN gg H8 H9 := KeepN.of_ext x9
    refine q_hear S9 (by show 1 ≤ 1000; decide) rfl (hears_of (xs := [.str "growth", .str "gains"]) S9.tabs fun Q1 H1 x1 T1 told' Qv => ?_) fun r2 H10 S10 kn10 => ?_
    · have st : Stay H8 H1 := Stay.of_keepN (k9.trans (KeepN.of_ext x1)) old
      have bg1 := badP_n st bg
      have pl1 := st hpl fun ps z => by cases z
      have pt1 := st hp1 fun ps z => by cases z
      exact ⟨_, rfl, a, _, 0, .ref p1, rfl, rfl, st_of pl1, rfl, _, rfl, fun x dx hx hd hn => by
        have e := (Ex.new (o := .own x) hd).trans (Ex.new (o := .ins C dx []) (by rw [upd_ne hn.symm]; exact hx))
        exact ⟨x, .ref p1, gains, rfl, .inr ⟨p1, t, rfl, .inl (sq_of (e _ _ pt1)), t0, by omega, pt, bg1.mono e, (out_part told').mono e⟩⟩⟩
    have k10 := k9.trans kn10
    refine q_hear S10 (by show 2 ≤ 1000; decide) rfl (hears_of (xs := [.str "growth", .str "told"]) S10.tabs fun Q1 H1 x1 T1 told' Qv => ?_) fun r3 H11 S11 kn11 => ?_
    · have bt1 := badP_n (Stay.of_keepN (k10.trans (KeepN.of_ext x1)) old) bt
      exact ⟨_, rfl, rfl, rfl, fun x dx hx hd hn => by
        have e := (Ex.new (o := .own x) hd).trans (Ex.new (o := .ins C dx []) (by rw [upd_ne hn.symm]; exact hx))
        exact ⟨x, told, .ref T0, rfl, .inl ⟨bt1.mono e, (out_part told').mono e⟩⟩⟩
    have k11 := k10.trans kn11
    have dT : ∀ {r : Addr} {z : Str} {H' : Hp}, H' r = some (.tup [.str "growth", .str z]) → Dp K H' (.ref r) (.tuple [.str "growth", .str z]) := fun h => .tup (st_of h) (.cons (.str _) (.cons (.str _) .nil))
    have al := S11.all
    refine s_ret (v := .bl true) (σ := [some (.ref p), some (.ref a), some bad, some told, some high, some gains, some (.ref gg)]) (H := H11) (ev_is (ev_eqD (K := K) (ed_of (d := .list [.tuple [.str "growth", .str "told"], .tuple [.str "growth", .str "gains"], .tuple [.str "growth", .str "told"]]) (ev_var (i := 6) rfl) fun H1 e => .lst (sq_of (e _ _ S11.lst)) (.cons (dT (e _ _ (al (r1, _) (by simp)))) (.cons (dT (e _ _ (al (r2, _) (by simp)))) (.cons (dT (e _ _ (al (r3, _) (by simp)))) .nil))))
      (ed_lstD (ds := [.tuple [.str "growth", .str "told"], .tuple [.str "growth", .str "gains"], .tuple [.str "growth", .str "told"]]) (ead_cons (ed_tupD (ead_cons ed_str (ead_cons ed_str ead_nil)) (by decide)) (ead_cons (ed_tupD (ead_cons ed_str (ead_cons ed_str ead_nil)) (by decide)) (ead_cons (ed_tupD (ead_cons ed_str (ead_cons ed_str ead_nil)) (by decide)) ead_nil))) (by decide)) (by decide +kernel) (by decide +kernel)) (congrArg V.bl (by decide +kernel))) fun H12 e12 => ?_
    exact k H12 (fun b o' hb n t => e12 _ _ (k11 _ _ (kn8 _ _ hb n t) (old _ _ (kn8 _ _ hb n t) t) t)) (((pen_keepN k11 old P8).mono e12 (Nat.le_refl _)).mono (Ex.refl _) (by omega)) (S11.tabs.ext e12)
end
end K02
/-! things that are no numbers, or numbers that are so; what repr shows of them; a list of what is told of each of a row -/
namespace K02
open PySem L2 Evl Gr ClX OpX StX LamX EXC
abbrev odds' : List String := ["NoneType", "bool", "int", "str", "tuple", "list", "dict"]
/-- a text that may stand in data -/
abbrev Fit (z : Str) : Prop := z.length ≤ 100 ∧ PyData.strOk z = true
def NumV (C : Int → Prop) (H : Hp) (v : V) (d : PyData) : Prop := (v = .non ∧ d = .none) ∨ (∃ b, v = .bl b ∧ d = .bool b) ∨ (∃ i, v = .int i ∧ d = .int i ∧ C i ∧ i.natAbs.log2 < 1920 ∧ Fit (PyData.int i).shown) ∨ (∃ z : Str, v = .str z ∧ d = .str z ∧ Fit (PyData.str z).shown) ∨
  (∃ a, v = .ref a ∧ d = .tuple [.int 0] ∧ H a = some (.tup [.int 0])) ∨ (∃ a, v = .ref a ∧ d = .list [] ∧ H a = some (.lst []) ∧ a ≠ sysModules) ∨ ∃ a, v = .ref a ∧ d = .dict [] ∧ H a = some (.dK [])
section
variable {K : PySem.W.Frag} {C C' : Int → Prop} {H H' : Hp} {v : V} {d : PyData}
theorem NumV.imp (h : NumV C H v d) (hc : ∀ i, C i → C' i) : NumV C' H v d := by
  rcases h with h | h | ⟨i, h1, h2, h3, h4⟩ | h
  · exact .inl h
  · exact .inr (.inl h)
  · exact .inr (.inr (.inl ⟨i, h1, h2, hc i h3, h4⟩))
  · exact .inr (.inr (.inr h))
theorem NumV.to (h : NumV C H v d) (n : ∀ {b : Addr} {o : HO}, v = .ref b → H b = some o → (∀ ps, o ≠ .tbl ps) → H' b = some o) : NumV C H' v d := by
  rcases h with h | h | h | h | ⟨a, h1, h2, h3⟩ | ⟨a, h1, h2, h3, h4⟩ | ⟨a, h1, h2, h3⟩
  · exact .inl h
  · exact .inr (.inl h)
  · exact .inr (.inr (.inl h))
  · exact .inr (.inr (.inr (.inl h)))
  · exact .inr (.inr (.inr (.inr (.inl ⟨a, h1, h2, n h1 h3 fun ps z => by cases z⟩))))
  · exact .inr (.inr (.inr (.inr (.inr (.inl ⟨a, h1, h2, n h1 h3 (fun ps z => by cases z), h4⟩)))))
  · exact .inr (.inr (.inr (.inr (.inr (.inr ⟨a, h1, h2, n h1 h3 fun ps z => by cases z⟩)))))
theorem NumV.mono (e : Ex H H') (h : NumV C H v d) : NumV C H' v d := h.to fun _ h1 _ => e _ _ h1
theorem NumV.stay (n : Stay H H') (h : NumV C H v d) : NumV C H' v d := h.to fun _ h1 h2 => n h1 h2
theorem NumV.keep {p : Addr} (kp : Keep p H H') (hv : v ≠ .ref p) (h : NumV C H v d) : NumV C H' v d := h.to fun e h1 _ => kp _ _ h1 fun z => hv (by rw [e, z])
theorem NumV.shown (h : NumV C H v d) : Shown K H v d := by
  rcases h with ⟨rfl, rfl⟩ | ⟨b, rfl, rfl⟩ | ⟨i, rfl, rfl, _, hi, hs⟩ | ⟨z, rfl, rfl, hz⟩ | ⟨a, rfl, rfl, h⟩ | ⟨a, rfl, rfl, h, hn⟩ | ⟨a, rfl, rfl, h⟩
  · exact ⟨.non, by decide +kernel, by decide +kernel, by decide +kernel⟩
  · exact ⟨.bl b, by cases b <;> decide +kernel, by cases b <;> decide +kernel, by cases b <;> decide +kernel⟩
  · exact ⟨.int i, decide_eq_true hi, by simp [PyData.depth], Nat.le_trans hs.1 (by decide)⟩
  · exact ⟨.str z, rfl, by simp [PyData.depth], Nat.le_trans hz.1 (by decide)⟩
  · exact ⟨.tup (st_of h) (.cons (.int 0) .nil), by decide +kernel, by decide +kernel, by decide +kernel⟩
  · exact ⟨.lst (sq_of h) hn .nil, by decide +kernel, by decide +kernel, by decide +kernel⟩
  · exact ⟨.emp h, by decide +kernel, by decide +kernel, by decide +kernel⟩
theorem NumV.ty (h : NumV C H v d) : ∃ T ∈ odds', TyX K H v (.type T) ∧ (T = "int" ∨ ∃ a c, kitB T "int" = some a ∧ kitB T "bool" = some c ∧ (a && !c) = false) := by
  rcases h with ⟨rfl, rfl⟩ | ⟨b, rfl, rfl⟩ | ⟨i, rfl, rfl, _, hi, hs⟩ | ⟨z, rfl, rfl, hz⟩ | ⟨a, rfl, rfl, h⟩ | ⟨a, rfl, rfl, h, hn⟩ | ⟨a, rfl, rfl, h⟩
  · exact ⟨"NoneType", by decide, .base .non, .inr ⟨false, false, by decide +kernel, by decide +kernel, rfl⟩⟩
  · exact ⟨"bool", by decide, .base (.bl b), .inr ⟨true, true, by decide +kernel, by decide +kernel, rfl⟩⟩
  · exact ⟨"int", by decide, .base (.int i), .inl rfl⟩
  · exact ⟨"str", by decide, .base (.str z), .inr ⟨false, false, by decide +kernel, by decide +kernel, rfl⟩⟩
  · exact ⟨"tuple", by decide, .base (.tup h), .inr ⟨false, false, by decide +kernel, by decide +kernel, rfl⟩⟩
  · exact ⟨"list", by decide, .base (.lst h), .inr ⟨false, false, by decide +kernel, by decide +kernel, rfl⟩⟩
  · exact ⟨"dict", by decide, .base (.dK h), .inr ⟨false, false, by decide +kernel, by decide +kernel, rfl⟩⟩
/-- either a number that is so, or no number -/
theorem NumV.split (h : NumV C H v d) : (∃ i, v = .int i ∧ C i) ∨ ∃ (T : String) (a c : Bool), T ∈ odds' ∧ TyX K H v (.type T) ∧ kitB T "int" = some a ∧ kitB T "bool" = some c ∧ (a && !c) = false := by
  have t := h.ty (K := K)
  rcases h with ⟨rfl, rfl⟩ | ⟨b, rfl, rfl⟩ | ⟨i, rfl, rfl, hc, hi, hs⟩ | ⟨z, rfl, rfl, hz⟩ | ⟨a, rfl, rfl, h⟩ | ⟨a, rfl, rfl, h, hn⟩ | ⟨a, rfl, rfl, h⟩
  · exact .inr ⟨"NoneType", false, false, by decide, .base .non, by decide +kernel, by decide +kernel, rfl⟩
  · exact .inr ⟨"bool", true, true, by decide, .base (.bl b), by decide +kernel, by decide +kernel, rfl⟩
  · exact .inl ⟨i, rfl, hc⟩
  · exact .inr ⟨"str", false, false, by decide, .base (.str z), by decide +kernel, by decide +kernel, rfl⟩
  · exact .inr ⟨"tuple", false, false, by decide, .base (.tup h), by decide +kernel, by decide +kernel, rfl⟩
  · exact .inr ⟨"list", false, false, by decide, .base (.lst h), by decide +kernel, by decide +kernel, rfl⟩
  · exact .inr ⟨"dict", false, false, by decide, .base (.dK h), by decide +kernel, by decide +kernel, rfl⟩
theorem NumV.badN {lo hi : Int} (h : NumV C H v d) (hc : ∀ i, C i → (decide (lo ≤ i) && decide (i ≤ hi)) = false) : BadN K H lo hi v := by
  rcases h.split (K := K) with ⟨i, rfl, c⟩ | ⟨T, a, c, _, h1, h2, h3, h4⟩
  · exact .inl ⟨i, rfl, hc i c⟩
  · exact .inr ⟨T, a, c, h1, h2, h3, h4⟩
theorem NumV.bad0 (h : NumV C H v d) (hc : ∀ i, C i → i < 0) : Bad0 K H v := by
  rcases h.split (K := K) with ⟨i, rfl, c⟩ | ⟨T, a, c, _, h1, h2, h3, h4⟩
  · exact .inl ⟨i, rfl, decide_eq_false (by have := hc i c; omega)⟩
  · exact .inr ⟨T, a, c, h1, h2, h3, h4⟩
theorem NumV.ok (h : NumV C H v d) : PyData.strOk d.shown = true := by
  rcases h with ⟨rfl, rfl⟩ | ⟨b, rfl, rfl⟩ | ⟨i, rfl, rfl, hc, hi, hs⟩ | ⟨z, rfl, rfl, hz⟩ | ⟨a, rfl, rfl, h⟩ | ⟨a, rfl, rfl, h, hn⟩ | ⟨a, rfl, rfl, h⟩
  · decide +kernel
  · cases b <;> decide +kernel
  · exact hs.2
  · exact hz.2
  · decide +kernel
  · decide +kernel
  · decide +kernel
theorem NumV.left (h : NumV C H v d) : (∃ i, v = .int i) ∨ (∃ c, v = .bl c) ∨ ∃ T ∈ odds', T ≠ "int" ∧ T ≠ "bool" ∧ TyX K H v (.type T) := by
  rcases h with ⟨rfl, rfl⟩ | ⟨b, rfl, rfl⟩ | ⟨i, rfl, rfl, hc, hi, hs⟩ | ⟨z, rfl, rfl, hz⟩ | ⟨a, rfl, rfl, h⟩ | ⟨a, rfl, rfl, h, hn⟩ | ⟨a, rfl, rfl, h⟩
  · exact .inr (.inr ⟨"NoneType", by decide, by decide, by decide, .base .non⟩)
  · exact .inr (.inl ⟨b, rfl⟩)
  · exact .inl ⟨i, rfl⟩
  · exact .inr (.inr ⟨"str", by decide, by decide, by decide, .base (.str z)⟩)
  · exact .inr (.inr ⟨"tuple", by decide, by decide, by decide, .base (.tup h)⟩)
  · exact .inr (.inr ⟨"list", by decide, by decide, by decide, .base (.lst h)⟩)
  · exact .inr (.inr ⟨"dict", by decide, by decide, by decide, .base (.dK h)⟩)
theorem numV_non : NumV C H .non .none := .inl ⟨rfl, rfl⟩
theorem numV_bl {b : Bool} : NumV C H (.bl b) (.bool b) := .inr (.inl ⟨b, rfl, rfl⟩)
theorem numV_int {i : Int} (hc : C i) (h1 : i.natAbs.log2 < 1920) (h2 : Fit (PyData.int i).shown) : NumV C H (.int i) (.int i) := .inr (.inr (.inl ⟨i, rfl, rfl, hc, h1, h2⟩))
theorem numV_str {z : Str} (h : Fit (PyData.str z).shown) : NumV C H (.str z) (.str z) := .inr (.inr (.inr (.inl ⟨z, rfl, rfl, h⟩)))
theorem numV_tup {a : Addr} (h : H a = some (.tup [.int 0])) : NumV C H (.ref a) (.tuple [.int 0]) := .inr (.inr (.inr (.inr (.inl ⟨a, rfl, rfl, h⟩))))
theorem numV_lst {a : Addr} (h : H a = some (.lst [])) (hn : a ≠ sysModules) : NumV C H (.ref a) (.list []) := .inr (.inr (.inr (.inr (.inr (.inl ⟨a, rfl, rfl, h, hn⟩)))))
theorem numV_dic {a : Addr} (h : H a = some (.dK [])) : NumV C H (.ref a) (.dict []) := .inr (.inr (.inr (.inr (.inr (.inr ⟨a, rfl, rfl, h⟩)))))
end
/-! ### [(x, repr(e)) for e in a new row] -/
section
variable {K : PySem.W.Frag} {σ : L2.St} {H : Hp} {tl : TE} {xs : List V} {ds : List PyData}
/-- what is told of each -/
abbrev toldD (d : PyData) : PyData := .tuple [.str "number", .str d.shown]
theorem yes_iN {σ : L2.St} {H : Hp} {A B : Hp → Prop} (h : A H) : tYes σ H (fun b H3 => if b = true then A H3 else B H3) := iteT (A := A H) (B := B H) h
theorem lc_told {j : Nat} {Q : VK} (h : EvL tl σ H xs) (hz : xs.length ≤ 1000) (hl : xs.length = ds.length) (hs : ∀ (i : Nat) x H1, Ex H H1 → xs[i]? = some x → ∃ d, ds[i]? = some d ∧ Shown K H1 x d) (hw : ∀ x, wipe ((wipe σ [j]).set j (some x)) [j] = wipe σ [j]) (hj : ∀ x : V, ((wipe σ [j]).set j (some x))[j]? = some (some x))
    (k : ∀ D vs H', H D = none → Ex H H' → H' D = some (.lst vs) → DpAll K H' vs (ds.map toldD) → Q (.ref D) H') : tLc (iList K tl) (gName j) tYes (tTup (tCons (tC (.str "number")) (tCons (tCB (rRepr K) (tCons (tVar j) tNil)) tNil))) [j] σ H Q :=
  h H (Ex.refl H) _ fun a H1 ha e1 h1 => ⟨a, rfl, ⟨xs, sq_of h1⟩, fun Dl hD => by
    have hD0 := fresh_back e1 hD
    have na : a ≠ Dl := ne_of_none h1 hD
    refine lc_list (xs := xs) (fun i H' => ∃ ps : List Addr, H' Dl = some (.lst (ps.map V.ref)) ∧ ps.length = i ∧ Ex H H' ∧ H' a = some (.lst xs) ∧ ∀ (k : Nat) p, ps[k]? = some p → p ≠ Dl ∧ ∃ d, ds[k]? = some d ∧ H' p = some (.tup [.str "number", .str d.shown])) ⟨[], upd_same, rfl, fun c u hc => by
      rw [upd_ne (ne_of_none hc hD0)]
      exact e1 c u hc, by rw [upd_ne na]; exact h1, fun k p hk => absurd hk (by simp)⟩ (fun i H' _ q => sq_of q.choose_spec.2.2.2.1) (fun i x H' hi q => ⟨hw _, ?_⟩) (fun H' q => ?_)
    · obtain ⟨ps, h2, len, e2, h3, all⟩ := q
      refine yes_iN ?_
      obtain ⟨d, hd, sh⟩ := hs i x H' e2 hi
      have lt := (List.getElem?_eq_some_iff.mp hi).1
      refine tup_i (cons_i (ev_c H' (Ex.refl H') _ fun H5 e5 => cons_i (ev_cb (ea_cons (ev_var (hj _)) ea_nil) (rc_shown (sh.mono e5)) H5 (Ex.refl H5) _ fun H6 e6 => ⟨by show 2 ≤ sizeLine; decide, fun r hr => ?_⟩)))
      have e7 := (e5.trans e6).trans (Ex.new (o := .tup [.str "number", .str d.shown]) hr)
      have nr : r ≠ Dl := fun z => by
        have := (e5.trans e6) _ _ h2
        rw [← z, hr] at this
        cases this
      refine ⟨ps.map V.ref, e7 _ _ h2, sz_lt (by rw [List.length_map]; omega), ps ++ [r], by rw [upd_same, List.map_append]; rfl, by rw [List.length_append, len]; rfl, fun c u hc => by
        rw [upd_ne (ne_of_none hc hD0)]
        exact (e2.trans e7) c u hc, by rw [upd_ne na]; exact e7 _ _ h3, fun k p hk => ?_⟩
      rcases Nat.lt_or_ge k ps.length with lt' | ge
      · rw [List.getElem?_append_left lt'] at hk
        obtain ⟨a1, d', a2, a3⟩ := all k p hk
        exact ⟨a1, d', a2, by rw [upd_ne a1]; exact e7 _ _ a3⟩
      · rw [List.getElem?_append_right ge] at hk
        obtain ⟨z0, rfl⟩ : k - ps.length = 0 ∧ r = p := by
          cases z : k - ps.length with
          | zero => rw [z] at hk; exact ⟨rfl, Option.some.inj hk⟩
          | succ m => rw [z] at hk; cases hk
        have : k = i := by omega
        subst this
        exact ⟨nr, d, hd, by rw [upd_ne nr]; exact upd_same⟩
    · obtain ⟨ps, h2, len, e2, _, all⟩ := q
      refine k Dl _ H' hD0 e2 h2 ?_
      have gen : ∀ (ps : List Addr) (ds : List PyData), ps.length = ds.length → (∀ (k : Nat) p, ps[k]? = some p → ∃ d, ds[k]? = some d ∧ H' p = some (.tup [.str "number", .str d.shown])) → DpAll K H' (ps.map V.ref) (ds.map toldD) := by
        intro ps
        induction ps with
        | nil =>
          intro ds hl _
          cases ds with
          | nil => exact .nil
          | cons d ds => cases hl
        | cons p ps ih =>
          intro ds hl ha
          cases ds with
          | nil => cases hl
          | cons d ds =>
            obtain ⟨d', h1, h2⟩ := ha 0 p rfl
            cases h1
            exact .cons (.tup (st_of h2) (.cons (.str _) (.cons (.str _) .nil))) (ih ds (Nat.succ.inj hl) fun k q hq => ha (k + 1) q hq)
      exact gen ps ds (by omega) fun k p hk => (all k p hk).2⟩
end
/-! ### what stands -/
theorem q_asgG {te : TE} {g : TG} {tz : TS} {D : Ends} {σ : L2.St} {H : Hp} (h : te σ H fun x H1 => g x σ H1 fun σ2 H2 => tz D σ2 H2) : tSeq (tAsg te g) tz D σ H := h
theorem evs_LS {Pd : V → Hp → Prop} {σ : L2.St} {H : Hp} (hd : ∀ a H1, H a = none → Ex H H1 → H1 a = some (.lst []) → a ≠ sysModules → Pd (.ref a) H1) : EvS Pd (tLstS tNil) σ H := fun H1 e Q q =>
  ⟨by show 0 ≤ sizeLine; decide, fun a ha hn => q _ _ (Ex.new ha) (hd a _ (fresh_back e ha) (e.trans (Ex.new ha)) upd_same hn)⟩
structure NSt (T : List (Addr × Str)) (o : Addr) (io : HO) (p l : Addr) (cells : List Int) (H0 : Hp) (vs : List (V × PyData × (Int → Prop))) (m : Nat) (H : Hp) : Prop where
  ins : H o = some io
  P : PenAt H p l cells m
  tabs : Tabs T H
  kn : KeepN p H0 H
  nums : ∀ q ∈ vs, NumV q.2.2 H q.1 q.2.1 ∧ q.1 ≠ .ref p
section
variable {T : List (Addr × Str)} {o p l : Addr} {io : HO} {cells : List Int} {H0 H H' : Hp} {vs : List (V × PyData × (Int → Prop))} {m m' : Nat}
theorem NSt.ext (S : NSt T o io p l cells H0 vs m H) (e : Ex H H') : NSt T o io p l cells H0 vs m H' :=
  ⟨e _ _ S.ins, S.P.mono e (Nat.le_refl _), S.tabs.ext e, fun b u hb n t => e _ _ (S.kn b u hb n t), fun q hq => ⟨(S.nums q hq).1.mono e, (S.nums q hq).2⟩⟩
theorem NSt.keep (S : NSt T o io p l cells H0 vs m H) (no : o ≠ p) (kp : Keep p H H') (hP : PenAt H' p l cells m') : NSt T o io p l cells H0 vs m' H' :=
  ⟨kp _ _ S.ins no, hP, tabs_keepP S.tabs S.P kp, fun b u hb n t => kp _ _ (S.kn b u hb n t) n, fun q hq => ⟨(S.nums q hq).1.keep kp (S.nums q hq).2, (S.nums q hq).2⟩⟩
theorem NSt.stay (S : NSt T o io p l cells H0 vs m H) (ni : ∀ ps, io ≠ .tbl ps) (n : Stay H H') (ht : Tabs T H') : NSt T o io p l cells H0 vs m H' := by
  have hP := S.P
  obtain ⟨k, r, h1, h2, h3⟩ := hP
  exact ⟨n S.ins ni, ⟨k, r, n h1 (fun ps z => by cases z), n h2 (fun ps z => by cases z), h3⟩, ht, fun b u hb np t => n (S.kn b u hb np t) t, fun q hq => ⟨(S.nums q hq).1.stay n, (S.nums q hq).2⟩⟩
theorem NSt.add (S : NSt T o io p l cells H0 vs m H) {q : V × PyData × (Int → Prop)} (h : NumV q.2.2 H q.1 q.2.1) (hp : q.1 ≠ .ref p) : NSt T o io p l cells H0 (q :: vs) m H :=
  ⟨S.ins, S.P, S.tabs, S.kn, fun q' hq => by
    rcases List.mem_cons.mp hq with z | z
    · rw [z]
      exact ⟨h, hp⟩
    · exact S.nums q' z⟩
theorem NSt.fresh {b : Addr} (S : NSt T o io p l cells H0 vs m H) (h : H b = none) : V.ref b ≠ .ref p := fun z => by
  obtain ⟨_, _, q, _⟩ := S.P
  cases z
  rw [q] at h
  cases h
end
theorem low_told {ds : List PyData} (h : ∀ d ∈ ds, PyData.strOk d.shown = true) : SeqAt.shaped (.list (ds.map toldD)) = true := low_shaped (n := 2) (low_list fun x hx => by
  obtain ⟨d, hd, rfl⟩ := List.mem_map.mp hx
  exact low_tup fun y hy => by
    rcases List.mem_cons.mp hy with z | z
    · rw [z]
      exact low_str (by decide +kernel)
    · rw [List.mem_singleton.mp z]
      exact low_str (h d hd)) (by decide)
theorem eqv_told (d : PyData) : PyData.eqv (toldD d) (toldD d) = true := by simp [PyData.eqv, PyData.eqvAll]
theorem eqvAll_told : ∀ ds : List PyData, PyData.eqvAll (ds.map toldD) (ds.map toldD) = true
  | [] => by simp [PyData.eqvAll]
  | d :: ds => by
    rw [List.map_cons, PyData.eqvAll, eqv_told, eqvAll_told ds]
    rfl
theorem eqv_tolds (ds : List PyData) : PyData.eqv (.list (ds.map toldD)) (.list (ds.map toldD)) = true := by
  simp only [PyData.eqv]
  exact eqvAll_told ds
end K02
namespace K02
open PySem L2 Evl Gr ClX OpX StX StM LamX EXC OwX
/-! ### _law_others_right -/
abbrev sOth : Stmt := top 48
abbrev nOth : List Str := ["_law_pen_here", "_law_made", "_law_odd", "_law_heard_here"]
abbrev qOth : Str := ("_law_others_right" : Str) ++ ".<locals>." ++ "<lambda>"
/-- the types of what is not a growth -/
abbrev odds : List String := ["NoneType", "bool", "int", "str", "tuple", "list", "dict"]
def spOth (K : PySem.W.Frag) (T : List (Addr × Str)) (C : Addr) : Sp := fun vs H Q _ => ∃ (p o l : Addr) (cells : List Int) (m : Nat) (t g : List Int), vs = [.ref p, .ref o] ∧ PenAt H p l cells m ∧ m + 10 ≤ 50000 ∧ cells.length ≤ 63 ∧ GrAt K C H o t g ∧ Tabs T H ∧ ∀ H', KeepN p H H' → PenAt H' p l cells (m + 1) → Tabs T H' → Q (.bl true) H'
theorem scOth : FnScope nOth ["_law_pen_here", "_law_made"] (defScope sOth) := ⟨rfl, rfl, rfl, by decide +kernel, rfl, by decide +kernel, by decide +kernel⟩
structure OthK (P : Program) (w : World) (K : PySem.W.Frag) (mg : Str → Option Value) (base : Heap) (C CG : Addr) (mc : Value) (fAd fOr fAn fAf fAb fAt fSu pSu fP : Addr) (eAf eAb eAt eP : FuncData) : Prop where
  kT : ∀ T ∈ odds, PySem.W.kitOne K (.type T) (.ref C) = some false
  bAdd : ∀ T ∈ odds, BesideT K C "add" T
  bOr : ∀ T ∈ odds, BesideT K C "or" T
  bAnd : ∀ T ∈ odds, BesideT K C "and" T
  hAdd : Has K C fAd (PySem.dunder "add")
  hOr : Has K C fOr (PySem.dunder "or")
  hAnd : Has K C fAn (PySem.dunder "and")
  add : FnR P w K mg base (L2.CX P w) 3 fAd (spBadO K C CG)
  or_ : FnR P w K mg base (L2.CX P w) 3 fOr (spBadO K C CG)
  and_ : FnR P w K mg base (L2.CX P w) 3 fAn (spBadO K C CG)
  mAf : Meth K C "after" fAf
  after : FnOk P w K mg base (L2.CX P w) 3 fAf eAf ["self", "other"] (spBadO K C CG)
  cAf : Binds K eAf ["self", "other"] []
  mAb : Meth K C "first_above" fAb
  above : FnOk P w K mg base (L2.CX P w) 3 fAb eAb ["self", "other"] (spBadO K C CG)
  cAb : Binds K eAb ["self", "other"] []
  mAt : Meth K C "at_most" fAt
  at_ : FnOk P w K mg base (L2.CX P w) 4 fAt eAt ["self", "other"] (spBadA K C CG)
  kAt : KBn K eAt ["self", "other"] 1 ["other"] (fun us ws => us ++ ws) (fun vs zs => vs ++ zs)
  sSu : SMet K C mc "summed" pSu fSu
  sum : FnR P w K mg base (L2.CX P w) 3 fSu (spBadSumA K C CG)
  pick : FnOk P w K mg base CX0 2 fP eP ["_law_pen_here", "_law_some"] spPick
  kPick : PySem.W.keepIn K (.ref fP) = true
  bPick : Binds K eP ["_law_pen_here", "_law_some"] []
  gPick : mg "_law_pick" = some (.ref fP)
section
variable {P : Program} {w : World} {K : PySem.W.Frag} {mg : Str → Option Value} {base : Heap}
theorem ok_Oth {C CG CN CT CM B f c Pc fHd fAd fOr fAn fAf fAb fAt fSu pSu fP : Addr} {mc : Value} {fd eHd eAf eAb eAt eP : FuncData} {T : List (Addr × Str)} (F : FunC K "_law_others_right" "_law_others_right" sOth f fd c) (TB : TabB base mg c Pc) (hT : (Pc, qOth) ∈ T) (hu : ∀ p ∈ T, p.1 = Pc → p.2 = qOth)
    (N : GName K mg C mc) (G : GCls K C) (I : GIsi K C) (HK : HdK K mg B CG CN CT CM) (FH : Fun K "_law_heard" "_law_heard" sHd fHd eHd) (bH : Binds K eHd ["_law_ask"] []) (gH : mg "_law_heard" = some (.ref fHd))
    (J : OthK P w K mg base C CG mc fAd fOr fAn fAf fAb fAt fSu pSu fP eAf eAb eAt eP) : FnG P w K mg base 11 f fd ["_law_pen_here", "_law_made"] (spOth K T C) := by
  refine F.okG scOth (fun vs H Q E h => ?_) (fun A outer s H vs Q E gd hr h => ?_)
  · obtain ⟨p, o, l, cells, m, t, g, rfl, _⟩ := h
    rfl
  · obtain ⟨p, o, l, cells, m, t, g, rfl, hP, hm, h63, hG, tabs, k⟩ := h
    have r2 := hr.mono (show 2 ≤ 10 by decide)
    refine ⟨_, pss_cons (ps_set (i := 2) scOth.nd rfl (.inr rfl) (pe_call J.pick r2 (by rfl) J.gPick J.kPick J.bPick .nil pass0 (pa_cons (pv 0) (pa_cons (pe_lst (pa_cons pe_non (pa_cons pe_int (pa_cons pe_int (pa_cons pe_str (pa_cons (pe_tup (pa_cons pe_int pa_nil)) (pa_cons (pe_lst (pa_cons pe_int pa_nil)) (pa_cons pe_dnewK (pa_cons pe_bl pa_nil))))))))) pa_nil))))
      (pss_cons (ps_set (i := 3) scOth.nd rfl (.inl rfl) (pe_lst (pa_cons (pe_heardR (X := (cxOf CX0 P w K mg base nOth "_law_others_right" (defScope sOth) f (.ref c) A outer s H E).nox) (T := T) (t := fun E2 => tOp (OpX.rX ((cxOf CX0 P w K mg base nOth "_law_others_right" (defScope sOth) f (.ref c) A outer s H E).nox) C "add" (spBadO K C CG) E2) (tVar 1) (tVar 2)) (by rfl) gH FH bH HK gd TB rfl hT hu hr (lamS_by (sc := defScope sOth) (by decide +kernel)) rfl (fun _ _ _ _ _ => rfl) (fun A2 outer2 s2 H2 E2 f2 c2 hr2 => pe_op (show OpR _ _ (OpX.rX ((cxOf CX0 P w K mg base nOth "_law_others_right" (defScope sOth) f (.ref c) A outer s H E).nox) C "add" (spBadO K C CG) E2) from op_binX (E := E2) (op := .Add) J.hAdd J.add (hr2.mono (show 3 ≤ 8 by decide)) (passes_call (takes_of rfl rfl rfl rfl) fun _ _ _ _ z => z)) (pv 1) (pv 2))) pa_nil)))
      (pss_cons (ps_expr (pe_bm PySem.F.plainAttrs_list PySem.F.slot_list_append PySem.F.type_list_append mt_append (pv 3) (pa_cons (pe_heardR (X := (cxOf CX0 P w K mg base nOth "_law_others_right" (defScope sOth) f (.ref c) A outer s H E).nox) (T := T) (t := fun E2 => tOp (OpX.rX ((cxOf CX0 P w K mg base nOth "_law_others_right" (defScope sOth) f (.ref c) A outer s H E).nox) C "or" (spBadO K C CG) E2) (tVar 1) (tVar 2)) (by rfl) gH FH bH HK gd TB rfl hT hu hr (lamS_by (sc := defScope sOth) (by decide +kernel)) rfl (fun _ _ _ _ _ => rfl) (fun A2 outer2 s2 H2 E2 f2 c2 hr2 => pe_op (show OpR _ _ (OpX.rX ((cxOf CX0 P w K mg base nOth "_law_others_right" (defScope sOth) f (.ref c) A outer s H E).nox) C "or" (spBadO K C CG) E2) from op_binX (E := E2) (op := .BitOr) J.hOr J.or_ (hr2.mono (show 3 ≤ 8 by decide)) (passes_call (takes_of rfl rfl rfl rfl) fun _ _ _ _ z => z)) (pv 1) (pv 2))) pa_nil)))
      (pss_cons (ps_expr (pe_bm PySem.F.plainAttrs_list PySem.F.slot_list_append PySem.F.type_list_append mt_append (pv 3) (pa_cons (pe_heardR (X := (cxOf CX0 P w K mg base nOth "_law_others_right" (defScope sOth) f (.ref c) A outer s H E).nox) (T := T) (t := fun E2 => tOp (OpX.rX ((cxOf CX0 P w K mg base nOth "_law_others_right" (defScope sOth) f (.ref c) A outer s H E).nox) C "and" (spBadO K C CG) E2) (tVar 1) (tVar 2)) (by rfl) gH FH bH HK gd TB rfl hT hu hr (lamS_by (sc := defScope sOth) (by decide +kernel)) rfl (fun _ _ _ _ _ => rfl) (fun A2 outer2 s2 H2 E2 f2 c2 hr2 => pe_op (show OpR _ _ (OpX.rX ((cxOf CX0 P w K mg base nOth "_law_others_right" (defScope sOth) f (.ref c) A outer s H E).nox) C "and" (spBadO K C CG) E2) from op_binX (E := E2) (op := .BitAnd) J.hAnd J.and_ (hr2.mono (show 3 ≤ 8 by decide)) (passes_call (takes_of rfl rfl rfl rfl) fun _ _ _ _ z => z)) (pv 1) (pv 2))) pa_nil)))
      (pss_cons (ps_expr (pe_bm PySem.F.plainAttrs_list PySem.F.slot_list_append PySem.F.type_list_append mt_append (pv 3) (pa_cons (pe_heardR (X := (cxOf CX0 P w K mg base nOth "_law_others_right" (defScope sOth) f (.ref c) A outer s H E).nox) (T := T) (t := fun E2 => tMeth C "after" (spBadO K C CG) [] E2 (tVar 1) (tCons (tVar 2) tNil)) (by rfl) gH FH bH HK gd TB rfl hT hu hr (lamS_by (sc := defScope sOth) (by decide +kernel)) rfl (fun _ _ _ _ _ => rfl) (fun A2 outer2 s2 H2 E2 f2 c2 hr2 => pe_meth (E := E2) (pv 1) G.cls J.mAf J.after (hr2.mono (show 3 ≤ 8 by decide)) J.cAf .nil (passes_call (takes_of rfl rfl rfl rfl) fun _ _ _ _ z => z) (pa_cons (pv 2) pa_nil))) pa_nil)))
      (pss_cons (ps_expr (pe_bm PySem.F.plainAttrs_list PySem.F.slot_list_append PySem.F.type_list_append mt_append (pv 3) (pa_cons (pe_heardR (X := (cxOf CX0 P w K mg base nOth "_law_others_right" (defScope sOth) f (.ref c) A outer s H E).nox) (T := T) (t := fun E2 => tMeth C "first_above" (spBadO K C CG) [] E2 (tVar 1) (tCons (tVar 2) tNil)) (by rfl) gH FH bH HK gd TB rfl hT hu hr (lamS_by (sc := defScope sOth) (by decide +kernel)) rfl (fun _ _ _ _ _ => rfl) (fun A2 outer2 s2 H2 E2 f2 c2 hr2 => pe_meth (E := E2) (pv 1) G.cls J.mAb J.above (hr2.mono (show 3 ≤ 8 by decide)) J.cAb .nil (passes_call (takes_of rfl rfl rfl rfl) fun _ _ _ _ z => z) (pa_cons (pv 2) pa_nil))) pa_nil)))
      (pss_cons (ps_expr (pe_bm PySem.F.plainAttrs_list PySem.F.slot_list_append PySem.F.type_list_append mt_append (pv 3) (pa_cons (pe_heardR (X := (cxOf CX0 P w K mg base nOth "_law_others_right" (defScope sOth) f (.ref c) A outer s H E).nox) (T := T) (t := fun E2 => (fun σ H Q => tVar 1 σ H fun x H1 => ∃ a dx fs, x = .ref a ∧ H1 a = some (.ins C dx fs) ∧ fs.lookup ("at_most" : Str) = none ∧ (tCons (tVar 2) tNil) σ H1 fun zs H2 => zs.length = (["other"] : List Str).length ∧ spBadA K C CG ([.ref a] ++ zs) H2 Q E2)) (by rfl) gH FH bH HK gd TB rfl hT hu hr (lamS_by (sc := defScope sOth) (by decide +kernel)) rfl (fun _ _ _ _ _ => rfl) (fun A2 outer2 s2 H2 E2 f2 c2 hr2 => pe_methKE (E := E2) (pv 1) G.cls J.mAt J.at_ (hr2.mono (show 4 ≤ 8 by decide)) (passes_call (takes_of rfl rfl rfl rfl) fun _ _ _ _ z => z) J.kAt (pk_cons (pv 2) pk_nil))) pa_nil)))
      (pss_cons (ps_expr (pe_bm PySem.F.plainAttrs_list PySem.F.slot_list_append PySem.F.type_list_append mt_append (pv 3) (pa_cons (pe_heardR (X := (cxOf CX0 P w K mg base nOth "_law_others_right" (defScope sOth) f (.ref c) A outer s H E).nox) (T := T) (t := fun E2 => tSMeth C (spBadSumA K C CG) E2 (tC (.ref C)) (tCons (tVar 1) (tCons (tVar 2) (tCons (tC .non) tNil)))) (by rfl) gH FH bH HK gd TB rfl hT hu hr (lamS_by (sc := defScope sOth) (by decide +kernel)) rfl (fun _ _ _ _ _ => rfl) (fun A2 outer2 s2 H2 E2 f2 c2 hr2 => pe_smeth (E := E2) (pe_glob (v := .ref C) rfl N.g rfl) N.rd J.sSu J.sum (hr2.mono (show 3 ≤ 8 by decide)) (passes_call (takes_of rfl rfl rfl rfl) fun _ _ _ _ z => z) (pa_cons (pv 1) (pa_cons (pv 2) (pa_cons pe_non pa_nil))))) pa_nil)))
      (pss_one (ps_ret (pe_cmpR (op_eqD hr.units) (pv 3) (pe_op op_cat (pe_op op_rep (pe_lst (pa_cons (pe_tup (pa_cons pe_str (pa_cons pe_str pa_nil))) pa_nil)) pe_int) (pe_lst (pa_cons (pe_tup (pa_cons pe_str (pa_cons pe_int pa_nil))) pa_nil))) (nomark _))))))))))), ?_⟩
    refine q_asgR ⟨_, rfl, lst_i (cons_i (c_i (cons_i (c_i (cons_i (c_i (cons_i (c_i (cons_i (tup_i (cons_i (c_i ⟨by show 1 ≤ sizeLine; decide, fun t1 ht => cons_i (lst_i (cons_i (c_i ⟨by show 1 ≤ sizeLine; decide, fun b1 hb => cons_i fun d1 hd => cons_i (c_i ⟨by show 8 ≤ sizeLine; decide, fun g0 hg0 => ?_⟩)⟩)))⟩))))))))))))⟩
    have e2 := Ex.new (o := .tup [.int 0]) ht
    have h2 : upd H t1 (.tup [.int 0]) t1 = some (.tup [.int 0]) := upd_same
    generalize upd H t1 (.tup [.int 0]) = H2 at e2 h2 hb hd hg0 ⊢
    have e3 := Ex.new (o := .lst [.int 0]) hb
    have h3 : upd H2 b1 (.lst [.int 0]) b1 = some (.lst [.int 0]) := upd_same
    generalize upd H2 b1 (.lst [.int 0]) = H3 at e3 h3 hd hg0 ⊢
    have e4 := Ex.new (o := .dK []) hd
    have h4 : upd H3 d1 (.dK []) d1 = some (.dK []) := upd_same
    generalize upd H3 d1 (.dK []) = H4 at e4 h4 hg0 ⊢
    have e5 := Ex.new (o := .lst [.non, .int 0, .int 3, .str "0 then 3", .ref t1, .ref b1, .ref d1, .bl true]) hg0
    have h5 : upd H4 g0 (.lst [.non, .int 0, .int 3, .str "0 then 3", .ref t1, .ref b1, .ref d1, .bl true]) g0 = some (.lst [.non, .int 0, .int 3, .str "0 then 3", .ref t1, .ref b1, .ref d1, .bl true]) := upd_same
    generalize upd H4 g0 (.lst [.non, .int 0, .int 3, .str "0 then 3", .ref t1, .ref b1, .ref d1, .bl true]) = H5 at e5 h5 ⊢
    have E5 := ((e2.trans e3).trans e4).trans e5
    obtain ⟨dx, pt, pg, pr, hins, _⟩ := hG
    have pnew : ∀ {b : Addr} {o' : HO} {H' : Hp}, H' b = none → Ex H H' → b ≠ p := fun hn e z => by
      obtain ⟨_, _, q, _⟩ := hP
      rw [z, e _ _ q] at hn
      cases hn
    refine ⟨p, l, g0, cells, m, _, rfl, hP.mono E5 (Nat.le_refl _), by omega, h63, h5, pnew (o' := .tbl #[]) hg0 ((e2.trans e3).trans e4), by show 0 < 8; decide, by show 8 ≤ 1000000; decide, fun ix x H6 hx P6 k6 => ?_⟩
    have n1 : t1 ≠ p := pnew (o' := .tbl #[]) ht (Ex.refl H)
    have n2 : b1 ≠ p := pnew (o' := .tbl #[]) hb e2
    have n3 : d1 ≠ p := pnew (o' := .tbl #[]) hd (e2.trans e3)
    have no : o ≠ p := fun z => by
      obtain ⟨_, _, q, _⟩ := hP
      rw [z, q] at hins
      cases hins
    have ins6 := k6 _ _ (E5 _ _ hins) no
    have tabs6 : Tabs T H6 := fun q hq => by
      obtain ⟨ps, a1, a2, a3⟩ := tabs q hq
      obtain ⟨_, _, hp, _⟩ := hP
      refine ⟨ps, k6 _ _ (E5 _ _ a1) (fun z => by rw [z, hp] at a1; cases a1), a2, fun pos cv hc => ?_⟩
      obtain ⟨cc, b1, b2⟩ := a3 pos cv hc
      exact ⟨cc, b1, k6 _ _ (E5 _ _ b2) (fun z => by rw [z, hp] at b2; unfold CodeO at b2; cases b2)⟩
    obtain ⟨Ty, hTy, ty6⟩ : ∃ Ty ∈ odds, TyX K H6 x (.type Ty) := by
      have mem := List.mem_of_getElem? hx
      simp only [List.mem_cons, List.not_mem_nil, or_false] at mem
      rcases mem with h | h | h | h | h | h | h | h <;> subst h
      · exact ⟨"NoneType", by decide, .base .non⟩
      · exact ⟨"int", by decide, .base (.int 0)⟩
      · exact ⟨"int", by decide, .base (.int 3)⟩
      · exact ⟨"str", by decide, .base (.str _)⟩
      · exact ⟨"tuple", by decide, .base (.tup (k6 _ _ (((e3.trans e4).trans e5) _ _ h2) n1))⟩
      · exact ⟨"list", by decide, .base (.lst (k6 _ _ ((e4.trans e5) _ _ h3) n2))⟩
      · exact ⟨"dict", by decide, .base (.dK (k6 _ _ (e5 _ _ h4) n3))⟩
      · exact ⟨"bool", by decide, .base (.bl true)⟩
    have kT := J.kT Ty hTy
    have insC : ∀ {H' : Hp}, H' o = some (.ins C dx [("told", .ref pt), ("gains", .ref pg), ("rises", .ref pr)]) → InsC ((cxOf CX0 P w K mg base nOth "_law_others_right" (defScope sOth) f (.ref c) A outer s H E).nox) H' o C := fun h => .inr ⟨dx, _, h⟩
    show tSeq _ _ _ [some (.ref p), some (.ref o), some x, none] H6
    have noT : ∀ ps, HO.ins C dx [("told", .ref pt), ("gains", .ref pg), ("rises", .ref pr)] ≠ .tbl ps := fun ps z => by cases z
    refine q_hear0 (hears_of (xs := [.str "growth", .str "other"]) tabs6 fun Q1 H1 x1 T1 told Qv => ?_) fun g r1 H7 S7 x7 old => ?_
    · have ty := tyx_ext x1 ty6
      exact ⟨_, rfl, _, rfl, o, Ty, rfl, insC (x1 _ _ ins6 noT), ty, J.bAdd Ty hTy, o, x, rfl, ⟨Ty, ty, kT⟩, out_part told⟩
    show tSeq _ _ _ [some (.ref p), some (.ref o), some x, some (.ref g)] H7
    have k7 : KeepN g H6 H7 := KeepN.of_ext x7
    have oldo := old _ _ ins6 noT
    refine q_hear S7 (by show 1 ≤ 1000; decide) rfl (hears_of (xs := [.str "growth", .str "other"]) S7.tabs fun Q1 H1 x1 T1 told Qv => ?_) fun r2 H8 S8 kn8 => ?_
    · have kk := k7.trans (KeepN.of_ext x1)
      have ty := tyx_keepN kk old ty6
      have ins := kk _ _ ins6 oldo noT
      exact ⟨_, rfl, _, rfl, o, Ty, rfl, insC ins, ty, J.bOr Ty hTy, o, x, rfl, ⟨Ty, ty, kT⟩, out_part told⟩
    have k8 := k7.trans kn8
    refine q_hear S8 (by show 2 ≤ 1000; decide) rfl (hears_of (xs := [.str "growth", .str "other"]) S8.tabs fun Q1 H1 x1 T1 told Qv => ?_) fun r3 H9 S9 kn9 => ?_
    · have kk := k8.trans (KeepN.of_ext x1)
      have ty := tyx_keepN kk old ty6
      have ins := kk _ _ ins6 oldo noT
      exact ⟨_, rfl, _, rfl, o, Ty, rfl, insC ins, ty, J.bAnd Ty hTy, o, x, rfl, ⟨Ty, ty, kT⟩, out_part told⟩
    have k9 := k8.trans kn9
    refine q_hear S9 (by show 3 ≤ 1000; decide) rfl (hears_of (xs := [.str "growth", .str "other"]) S9.tabs fun Q1 H1 x1 T1 told Qv => ?_) fun r4 H10 S10 kn10 => ?_
    · have kk := k9.trans (KeepN.of_ext x1)
      have ty := tyx_keepN kk old ty6
      have ins := kk _ _ ins6 oldo noT
      exact ⟨_, rfl, o, dx, _, rfl, ins, rfl, _, rfl, o, x, rfl, ⟨Ty, ty, kT⟩, out_part told⟩
    have k10 := k9.trans kn10
    refine q_hear S10 (by show 4 ≤ 1000; decide) rfl (hears_of (xs := [.str "growth", .str "other"]) S10.tabs fun Q1 H1 x1 T1 told Qv => ?_) fun r5 H11 S11 kn11 => ?_
    · have kk := k10.trans (KeepN.of_ext x1)
      have ty := tyx_keepN kk old ty6
      have ins := kk _ _ ins6 oldo noT
      exact ⟨_, rfl, o, dx, _, rfl, ins, rfl, _, rfl, o, x, rfl, ⟨Ty, ty, kT⟩, out_part told⟩
    have k11 := k10.trans kn11
    refine q_hear S11 (by show 5 ≤ 1000; decide) rfl (hears_of (xs := [.str "growth", .str "other"]) S11.tabs fun Q1 H1 x1 T1 told Qv => ?_) fun r6 H12 S12 kn12 => ?_
    · have kk := k11.trans (KeepN.of_ext x1)
      have ty := tyx_keepN kk old ty6
      have ins := kk _ _ ins6 oldo noT
      exact ⟨_, rfl, o, dx, _, rfl, ins, rfl, _, rfl, rfl, o, x, dx, _, rfl, ins, rfl, ⟨Ty, ty, kT⟩, out_part told⟩
    have k12 := k11.trans kn12
    refine q_hear S12 (by show 6 ≤ 1000; decide) rfl (hears_of (xs := [.str "growth", .int 1]) S12.tabs fun Q1 H1 x1 T1 told Qv => ?_) fun r7 H13 S13 kn13 => ?_
    · have kk := k12.trans (KeepN.of_ext x1)
      have ty := tyx_keepN kk old ty6
      have ins := kk _ _ ins6 oldo noT
      exact ⟨rfl, _, rfl, _, rfl, [], [.ref o, x, .non], rfl, rfl, by show 3 ≤ sizeLine; decide, fun q hq => ⟨q, [.ref o, x, .non], 1, x, rfl, st_of upd_same, rfl, ⟨Ty, tyx_mono (Ex.new hq) ty, kT⟩, fun j y hj hy => by
        obtain rfl : j = 0 := by omega
        exact ⟨o, (Option.some.inj hy).symm, .base (.ins ((Ex.new hq) _ _ ins) G.cls I.ca I.cn I.ct I.cm)⟩, (out_part told).mono (Ex.new hq)⟩⟩
    have k13 := k12.trans kn13
    have dO : ∀ {r : Addr} {H' : Hp}, H' r = some (.tup [.str "growth", .str "other"]) → Dp K H' (.ref r) (.tuple [.str "growth", .str "other"]) := fun h => .tup (st_of h) (.cons (.str _) (.cons (.str _) .nil))
    have dI : ∀ {r : Addr} {H' : Hp}, H' r = some (.tup [.str "growth", .int 1]) → Dp K H' (.ref r) (.tuple [.str "growth", .int 1]) := fun h => .tup (st_of h) (.cons (.str _) (.cons (.int _) .nil))
    have al := S13.all
    refine s_ret (v := .bl true) (σ := [some (.ref p), some (.ref o), some x, some (.ref g)]) (H := H13) (ev_is (ev_eqD (K := K) (ed_of (d := .list [.tuple [.str "growth", .str "other"], .tuple [.str "growth", .str "other"], .tuple [.str "growth", .str "other"], .tuple [.str "growth", .str "other"], .tuple [.str "growth", .str "other"], .tuple [.str "growth", .str "other"], .tuple [.str "growth", .int 1]]) (ev_var (i := 3) rfl) fun H1 e => .lst (sq_of (e _ _ S13.lst)) (.cons (dO (e _ _ (al (r1, _) (by simp)))) (.cons (dO (e _ _ (al (r2, _) (by simp)))) (.cons (dO (e _ _ (al (r3, _) (by simp)))) (.cons (dO (e _ _ (al (r4, _) (by simp)))) (.cons (dO (e _ _ (al (r5, _) (by simp)))) (.cons (dO (e _ _ (al (r6, _) (by simp)))) (.cons (dI (e _ _ (al (r7, _) (by simp)))) .nil)))))))) (ed_new (eld_cat (eld_rep (eld_one (ds := [.str "growth", .str "other"]) (ea_cons ev_c (ea_cons ev_c ea_nil)) (fun _ _ => .cons (.str _) (.cons (.str _) .nil)) (by decide)) (ev_c (v := .int ((6 : Nat) : Int))) (by decide) (by decide)) (eld_one (ds := [.str "growth", .int 1]) (ea_cons ev_c (ea_cons ev_c ea_nil)) (fun _ _ => .cons (.str _) (.cons (.int _) .nil)) (by decide)) (by decide))) (by decide +kernel) (by decide +kernel)) (congrArg V.bl (by decide +kernel))) fun H14 e14 => ?_
    exact k H14 (fun b o' hb n t => e14 _ _ (k13 _ _ (k6 _ _ (E5 _ _ hb) n) (old _ _ (k6 _ _ (E5 _ _ hb) n) t) t)) ((pen_keepN k13 old P6).mono e14 (Nat.le_refl _)) (S13.tabs.ext e14)
end
end K02
/-! picks of numbers that may be none, heard errors of them, one after another; what was heard, compared -/
namespace K02
open PySem L2 Evl Gr ClX OpX StX StM LamX EXC OwX
def NumE (C : Int → Prop) (p : Addr) (v : V) (H : Hp) : Prop := ∃ d, NumV C H v d ∧ v ≠ .ref p
section
variable {K : PySem.W.Frag} {C C' C1 C2 : Int → Prop} {T : List (Addr × Str)} {o p l g Hb' : Addr} {io : HO} {cells : List Int} {H0 H Hb : Hp} {vs : List (V × PyData × (Int → Prop))} {m n n1 n2 i j z : Nat} {σ : L2.St} {D : Ends} {tz : TS} {ta tb : TA} {v : V} {d : PyData} {rs : List (Addr × List V)} {xs : List V} {cG cN cM : Addr} {t : XK → TE}
theorem numE_up : ∀ v H1 H2, Ex H1 H2 → NumE C p v H1 → NumE C p v H2 := fun v H1 H2 e ⟨d, h, n⟩ => ⟨d, h.mono e, n⟩
theorem nst_pick {Q : VK} (S : NSt T o io p l cells H0 vs m H) (no : o ≠ p) (h : EvSA (NumE C p) (n + 1) ta σ H) (hi : σ[z]? = some (some (.ref p))) (hm : m ≤ 50000) (h63 : cells.length ≤ 63) (hn : n ≤ 1000)
    (k : ∀ v d H', NSt T o io p l cells H0 ((v, d, C) :: vs) (m + 1) H' → Q v H') : tCall spPick [] E0 (tCons (tVar z) (tCons (tLst ta) tNil)) σ H Q :=
  pick_S numE_up h hi S.P hm h63 hn fun v H5 H' e5 hv P5 kp P' => by
    obtain ⟨d, hd, hp⟩ := hv
    exact k v d H' (((S.ext e5).add hd hp).keep no kp P')
theorem evs_num (S : NSt T o io p l cells H0 vs m H) (hq : (v, d, C) ∈ vs) (hC : ∀ i, C i → C' i) (hi : σ[j]? = some (some v)) : EvS (NumE C' p) (tVar j) σ H := evs_ev (ev_var hi) fun H1 e => ⟨d, ((S.nums _ hq).1.mono e).imp hC, (S.nums _ hq).2⟩
/-- x, y = a pick, a pick -/
theorem nst_two (S : NSt T o io p l cells H0 vs m H) (no : o ≠ p) (hA : EvSA (NumE C1 p) (n1 + 1) ta σ H) (hB : ∀ v d H', NSt T o io p l cells H0 ((v, d, C1) :: vs) (m + 1) H' → EvSA (NumE C2 p) (n2 + 1) tb σ H') (hi : σ[z]? = some (some (.ref p))) (hm : m + 1 ≤ 50000) (h63 : cells.length ≤ 63) (h1 : n1 ≤ 1000) (h2 : n2 ≤ 1000)
    (k : ∀ v1 d1 v2 d2 H', NSt T o io p l cells H0 ((v2, d2, C2) :: (v1, d1, C1) :: vs) (m + 2) H' → tz D ((σ.set i (some v1)).set j (some v2)) H') :
    tSeq (tAsg (tTup (tCons (tCall spPick [] E0 (tCons (tVar z) (tCons (tLst ta) tNil))) (tCons (tCall spPick [] E0 (tCons (tVar z) (tCons (tLst tb) tNil))) tNil))) (gTup K 2 (gCons (gName i) (gCons (gName j) gNil)))) tz D σ H :=
  q_asgG (tup_i (cons_i (nst_pick S no hA hi (by omega) h63 h1 fun v1 d1 H1 S1 => cons_i (nst_pick S1 no (hB v1 d1 H1 S1) hi hm h63 h2 fun v2 d2 H2 S2 =>
    ⟨by show 2 ≤ sizeLine; decide, fun a ha => ⟨a, [v1, v2], rfl, st_of upd_same, rfl, v1, [v2], rfl, v2, [], rfl, rfl, k v1 d1 v2 d2 _ (S2.ext (Ex.new ha))⟩⟩))))
/-! ### what is heard -/
theorem num_hear0 (hT : Tabs T H) (h : ∀ (Q1 : VK) H1, Stay H H1 → Told K cG cN cM xs H1 Q1 → ∀ Qv, t (HdE K cG cN cM Q1) σ H1 Qv)
    (k : ∀ g r H3, HrSt T g [(r, xs)] H3 → KeepN g H H3 → OldN g H → tz D (σ.set i (some (.ref g))) H3) : tSeq (tAsg (tLst (tCons (tLam T (THd K cG cN cM) t) tNil)) (gName i)) tz D σ H :=
  q_hear0 (hears_of hT fun Q1 H1 x1 T1 told Qv => h Q1 H1 (Stay.of_extN x1) told Qv) fun g r H3 S x old => k g r H3 S (KeepN.of_ext x) old
theorem num_hear (S : HrSt T g rs H) (kn : KeepN g Hb H) (old : OldN g Hb) (hz : rs.length ≤ 1000) (h0 : σ[i]? = some (some (.ref g))) (h : ∀ (Q1 : VK) H1, Stay Hb H1 → Told K cG cN cM xs H1 Q1 → ∀ Qv, t (HdE K cG cN cM Q1) σ H1 Qv)
    (k : ∀ r H3, HrSt T g (rs ++ [(r, xs)]) H3 → KeepN g Hb H3 → tz D σ H3) : tSeq (tDrop (tBM K "list" rAppend (tVar i) (tCons (tLam T (THd K cG cN cM) t) tNil))) tz D σ H :=
  q_hear S hz h0 (hears_of S.tabs fun Q1 H1 x1 T1 told Qv => h Q1 H1 (Stay.of_keepN (kn.trans (KeepN.of_ext x1)) old) told Qv) fun r H3 S3 k3 => k r H3 S3 (kn.trans k3)
abbrev numX (d : PyData) : List V := [.str "number", .str d.shown]
theorem hr_all : ∀ (rs : List (Addr × List V)) (ds : List PyData), rs.map Prod.snd = ds.map numX → (∀ q ∈ rs, H q.1 = some (.tup q.2)) → DpAll K H (rs.map fun q => V.ref q.1) (ds.map toldD)
  | [], [], _, _ => .nil
  | [], d :: ds, h, _ => by cases h
  | r :: rs, [], h, _ => by cases h
  | r :: rs, d :: ds, h, a => by
    obtain ⟨h1, h2⟩ := List.cons.inj h
    have hr := a r List.mem_cons_self
    rw [show r.2 = numX d from h1] at hr
    exact .cons (.tup (st_of hr) (.cons (.str _) (.cons (.str _) .nil))) (hr_all rs ds h2 fun q hq => a q (List.mem_cons_of_mem _ hq))
theorem hr_data {ds : List PyData} (S : HrSt T g rs H) (hl : rs.map Prod.snd = ds.map numX) : Dp K H (.ref g) (.list (ds.map toldD)) := .lst (sq_of S.lst) (hr_all rs ds hl S.all)
/-- heard != [("number", repr(x))] * 2 -/
theorem et_heard (S : HrSt T g rs H) (hl : rs.map Prod.snd = [d, d].map numX) (hs : Shown K H v d) (ok : PyData.strOk d.shown = true) (hi : σ[i]? = some (some (.ref g))) (hj : σ[j]? = some (some v)) :
    EvT (tTest (tOp (rNeD K) (tVar i) (tOp rRep (tLst (tCons (tTup (tCons (tC (.str "number")) (tCons (tCB (rRepr K) (tCons (tVar j) tNil)) tNil))) tNil)) (tC (.int 2))))) σ H false := by
  have sh : SeqAt.shaped (.list ([d, d].map toldD)) = true := low_told fun x hx => by
    have : x = d := by simpa using hx
    rw [this]
    exact ok
  refine et_is (et_test (ev_neD (d := .list ([d, d].map toldD)) (e := .list ([d, d].map toldD)) (ed_of (ev_var hi) fun H1 e => hr_data (S.ext e) hl)
    (ed_new (eld_rep (n := 2) (ds := [toldD d]) (eld_one (ds := [.str "number", .str d.shown]) (ea_cons ev_c (ea_cons (ev_cb (ea_cons (ev_var hj) ea_nil) (rc_shown hs)) ea_nil)) (fun _ _ => .cons (.str _) (.cons (.str _) .nil)) (by show 2 ≤ 1000; decide)) (ev_c (v := .int ((2 : Nat) : Int))) (by show 1 * 2 ≤ 100000; decide) (by decide))) sh sh)) ?_
  rw [eqv_tolds]
  rfl
theorem ed_told {tl : TE} {zs : List (V × PyData)} (h : EvL tl σ H (zs.map Prod.fst)) (hz : zs.length ≤ 1000) (hs : ∀ q ∈ zs, Shown K H q.1 q.2) (hw : ∀ x, wipe ((wipe σ [j]).set j (some x)) [j] = wipe σ [j]) (hj : ∀ x : V, ((wipe σ [j]).set j (some x))[j]? = some (some x)) :
    EvD K (tLc (iList K tl) (gName j) tYes (tTup (tCons (tC (.str "number")) (tCons (tCB (rRepr K) (tCons (tVar j) tNil)) tNil))) [j]) σ H (.list ((zs.map Prod.snd).map toldD)) := fun H1 e Q q =>
  lc_told (ds := zs.map Prod.snd) (h.mono e) (by rw [List.length_map]; exact hz) (by rw [List.length_map, List.length_map]) (fun i x H2 e2 hi => by
    rw [List.getElem?_map] at hi
    cases hq : zs[i]? with
    | none =>
      rw [hq] at hi
      cases hi
    | some r =>
      rw [hq] at hi
      cases hi
      exact ⟨r.2, by rw [List.getElem?_map, hq]; rfl, (hs r (List.mem_of_getElem? hq)).mono (e.trans e2)⟩) hw hj fun D' vs H' _ e' hD hd => q _ H' e' (.lst (sq_of hD) hd)
end
end K02
/-! a list of what is heard, errors and values, told as data -/
namespace K02
open PySem L2 Evl Gr ClX OpX StX StM LamX EXC OwX
/-- a value whose data stand on tuples alone -/
def Firm (K : PySem.W.Frag) (H : Hp) (v : V) (d : PyData) : Prop := (∀ H', Dp K H' v d) ∨ ∃ q xs ds, v = .ref q ∧ SqT K H q xs ∧ d = .tuple ds ∧ ∀ H', DpAll K H' xs ds
theorem Firm.mono {K : PySem.W.Frag} {H H' : Hp} {v : V} {d : PyData} (e : Ex H H') (h : Firm K H v d) : Firm K H' v d := h.imp id fun ⟨q, xs, ds, h1, h2, h3⟩ => ⟨q, xs, ds, h1, ex_t e h2, h3⟩
theorem firm_int {K : PySem.W.Frag} {H : Hp} {i : Int} : Firm K H (.int i) (.int i) := .inl fun _ => .int i
theorem firm_bl {K : PySem.W.Frag} {H : Hp} {b : Bool} : Firm K H (.bl b) (.bool b) := .inl fun _ => .bl b
theorem dpAll_intz {K : PySem.W.Frag} {H : Hp} : ∀ xs : List Int, DpAll K H (vI xs) (xs.map PyData.int)
  | [] => .nil
  | x :: xs => .cons (.int x) (dpAll_intz xs)
theorem firm_tup {K : PySem.W.Frag} {H : Hp} {q : Addr} {xs : List Int} (h : SqT K H q (vI xs)) : Firm K H (.ref q) (.tuple (xs.map .int)) := .inr ⟨q, vI xs, xs.map .int, rfl, h, rfl, fun H' => dpAll_intz xs⟩
/-- what a heard lambda says, as data -/
def HearsD (K : PySem.W.Frag) (T : List (Addr × Str)) (tl : TE) (σ : L2.St) (H : Hp) (d : PyData) : Prop := ∀ Q : VK, (∀ r H2, ExtN H H2 → Tabs T H2 → (∃ o, H2 r = some o ∧ ∀ ps, o ≠ .tbl ps) → (∀ g, (H2 g = none ∨ ∃ xs, H g = some (.lst xs)) → r ≠ g ∧ ∀ H', KeepN g H2 H' → Dp K H' (.ref r) d) → Q (.ref r) H2) → tl σ H Q
structure HrD (K : PySem.W.Frag) (T : List (Addr × Str)) (g : Addr) (rs : List (Addr × PyData)) (H : Hp) : Prop where
  tabs : Tabs T H
  lst : H g = some (.lst (rs.map fun p => .ref p.1))
  all : ∀ p ∈ rs, ∀ H', KeepN g H H' → Dp K H' (.ref p.1) p.2
section
variable {K : PySem.W.Frag} {T : List (Addr × Str)} {σ : L2.St} {H Hb : Hp} {tl : TE} {tz : TS} {D : Ends} {i : Nat} {xs : List V} {ds : List PyData} {g cG cN cM : Addr} {rs : List (Addr × PyData)} {t : XK → TE} {d : PyData}
theorem HrD.ext {H' : Hp} (h : HrD K T g rs H) (e : Ex H H') : HrD K T g rs H' := ⟨h.tabs.ext e, e _ _ h.lst, fun p hp H2 k => h.all p hp H2 ((KeepN.of_ext (.of e)).trans k)⟩
theorem hearsD_err (h : Hears T tl σ H xs) (hd : ∀ H', DpAll K H' xs ds) : HearsD K T tl σ H (.tuple ds) := fun Q q => h Q fun r H2 x2 T2 h2 => by
  refine q r H2 x2 T2 ⟨_, h2, fun ps z => by cases z⟩ fun g hg => ?_
  have ne : r ≠ g := fun z => by
    rcases hg with h | ⟨ys, h⟩
    · rw [← z, h2] at h
      cases h
    · have := x2 _ _ h fun ps z => by cases z
      rw [← z, h2] at this
      cases this
  exact ⟨ne, fun H' k => .tup (st_of (k _ _ h2 ne fun ps z => by cases z)) (hd H')⟩
theorem hearsD_val (hT : Tabs T H) (h : ∀ (Q1 : VK) H1, ExtN H H1 → Tabs T H1 → ∀ Qv : VK, (∀ v H2, Ex H1 H2 → Firm K H2 v d → Qv v H2) → t (HdE K cG cN cM Q1) σ H1 Qv) : HearsD K T (tLam T (THd K cG cN cM) t) σ H (.list [d]) := fun Q q =>
  ⟨hT, fun H1 x1 T1 => h Q H1 x1 T1 _ fun v H2 e2 hv => ⟨by show 1 ≤ sizeLine; decide, fun l hl => by
    refine q l _ (x1.trans (.of (e2.trans (Ex.new hl)))) ((T1.ext e2).ext (Ex.new hl)) ⟨_, upd_same, fun ps z => by cases z⟩ fun g hg => ?_
    have ne : l ≠ g := fun z => by
      rcases hg with h | ⟨ys, h⟩
      · rw [← z, upd_same] at h
        cases h
      · have := e2 _ _ (x1 _ _ h fun ps z => by cases z)
        rw [← z, hl] at this
        cases this
    refine ⟨ne, fun H' k => .lst (sq_of (k _ _ upd_same ne fun ps z => by cases z)) (.cons ?_ .nil)⟩
    rcases hv with hv | ⟨p, ys, es, rfl, hp, rfl, hd⟩
    · exact hv H'
    · have ng : ∀ o, H2 p = some o → (∀ zs, o ≠ .lst zs) → p ≠ g := fun o h1 h2 z => by
        rcases hg with h | ⟨zs, h⟩
        · have := (Ex.new (o := .lst [V.ref p]) hl) _ _ h1
          subst z
          rw [h] at this
          cases this
        · have := e2 _ _ (x1 _ _ h fun ps z => by cases z)
          rw [← z, h1] at this
          exact h2 _ (Option.some.inj this)
      have up : ∀ o, H2 p = some o → (∀ zs, o ≠ .lst zs) → (∀ ps, o ≠ .tbl ps) → H' p = some o := fun o h1 h2 h3 => k _ _ ((Ex.new (o := .lst [V.ref p]) hl) _ _ h1) (ng o h1 h2) h3
      refine .tup ?_ (hd H')
      exact (hp.imp fun z => z.imp (fun z => up _ z (fun ps z => by cases z) fun ps z => by cases z) fun ⟨o, z⟩ => ⟨o, up _ z (fun ps z => by cases z) fun ps z => by cases z⟩) id⟩⟩
/-- x = [the first] -/
theorem q_hearD0 (h : HearsD K T tl σ H d) (k : ∀ g r H3, HrD K T g [(r, d)] H3 → KeepN g H H3 → OldN g H → tz D (σ.set i (some (.ref g))) H3) : tSeq (tAsg (tLst (tCons tl tNil)) (gName i)) tz D σ H :=
  h _ fun r H2 x2 T2 ⟨o, h2, no⟩ hd => ⟨by show 1 ≤ sizeLine; decide, fun g hg => k g r _ ⟨T2.ext (Ex.new hg), upd_same, fun p hp H' kk => by
    obtain rfl := List.mem_singleton.mp hp
    refine (hd g (.inl hg)).2 H' fun b o hb n t => kk b o ?_ n t
    rw [upd_ne n]
    exact hb⟩ (KeepN.of_ext (x2.trans (.of (Ex.new hg)))) fun b o hb n z => by
      have := x2 b o hb n
      rw [z, hg] at this
      cases this⟩
/-- x.append(the next) -/
theorem q_hearD (S : HrD K T g rs H) (kn : KeepN g Hb H) (hz : rs.length ≤ 1000) (h0 : σ[i]? = some (some (.ref g))) (h : HearsD K T tl σ H d) (k : ∀ r H3, HrD K T g (rs ++ [(r, d)]) H3 → KeepN g Hb H3 → tz D σ H3) : tSeq (tDrop (tBM K "list" rAppend (tVar i) (tCons tl tNil))) tz D σ H := by
  refine ⟨_, h0, .inl ⟨rfl, _, sq_of S.lst⟩, h _ fun r H2 x2 T2 ⟨o, h2, no⟩ hd => ?_⟩
  have g2 := x2 _ _ S.lst fun ps z => by cases z
  obtain ⟨ne, hd⟩ := hd g (.inr ⟨_, S.lst⟩)
  have kg : KeepN g H2 (upd H2 g (.lst (rs.map (fun p => V.ref p.1) ++ [.ref r]))) := fun b o hb n _ => by
    rw [upd_ne n]
    exact hb
  refine ⟨g, _, .ref r, rfl, rfl, g2, sz_lt (by rw [List.length_map]; omega), ?_⟩
  refine k r _ ⟨tabs_upd T2 g2, by rw [upd_same, List.map_append]; rfl, fun p hp H' kk => ?_⟩ (kn.trans ((KeepN.of_ext x2).trans kg))
  rcases List.mem_append.mp hp with z | z
  · exact S.all p z H' (((KeepN.of_ext x2).trans kg).trans kk)
  · obtain rfl := List.mem_singleton.mp z
    exact hd H' (kg.trans kk)
theorem hrD_all : ∀ (rs : List (Addr × PyData)), (∀ q ∈ rs, Dp K H (.ref q.1) q.2) → DpAll K H (rs.map fun q => V.ref q.1) (rs.map Prod.snd)
  | [], _ => .nil
  | r :: rs, a => .cons (a r List.mem_cons_self) (hrD_all rs fun q hq => a q (List.mem_cons_of_mem _ hq))
theorem hrD_data (S : HrD K T g rs H) : Dp K H (.ref g) (.list (rs.map Prod.snd)) := .lst (sq_of S.lst) (hrD_all rs fun q hq => S.all q hq H (KeepN.of_ext (.of (Ex.refl H))))
end
end K02
/-! growths of a known normal form -/
namespace K02
open PySem Gr L2
def leastB (n : Nat) (g : List Int) : Bool := (List.range n).all fun q => q == 0 || n % q != 0 || (List.range n).any fun i => decide (i + q < n) && !(at' g (i + q) == at' g i)
theorem least_by {g : List Int} {n : Nat} (h : g.length = n) (h0 : 0 < n) (c : leastB n g = true) : Least (dif g) g.length := by
  have le : ∀ q, 0 < q → Pd (dif g) q → g.length ≤ q := by
    intro q hq hp
    have p2 := Pd.gcd q g.length hp dif_pd
    have g0 : 0 < Nat.gcd q g.length := Nat.gcd_pos_of_pos_left _ hq
    have gd : Nat.gcd q g.length ∣ g.length := Nat.gcd_dvd_right _ _
    rcases Nat.lt_or_ge (Nat.gcd q g.length) g.length with lt | ge
    · exfalso
      have a := List.all_eq_true.mp c (Nat.gcd q g.length) (List.mem_range.mpr (by omega))
      have per := p2.per
      generalize Nat.gcd q g.length = z at a per g0 gd lt
      rw [show (z == 0) = false from beq_false_of_ne (by omega), show (n % z != 0) = false by rw [← h, Nat.mod_eq_zero_of_dvd gd]; rfl] at a
      obtain ⟨i, _, hi⟩ := List.any_eq_true.mp (show _ = true from a)
      obtain ⟨h1, h2⟩ := Bool.and_eq_true_iff.mp hi
      have h1 := of_decide_eq_true h1
      have := per i (by omega)
      rw [this] at h2
      simp at h2
    · exact Nat.le_trans ge (Nat.gcd_le_left _ hq)
  exact ⟨by omega, dif_pd, le⟩
theorem nf_by {t g : List Int} (n : Nat) (h : g.length = n) (h0 : 0 < n) (c : leastB n g = true) (t0 : 0 < t.length) (few : t.length = 1 ∨ at' t (t.length - 1) - at' t (t.length - 2) ≠ Gr.lst g) : NF t g := ⟨t0, by omega, least_by h h0 c, few⟩
theorem grF_known {K : PySem.W.Frag} {C o : Addr} {H : Hp} {F : Nat → Int} {t g : List Int} (h : GrF K C H o F) (nf : NF t g) (hv : ∀ n, val t g n = F n) : GrAt K C H o t g := by
  obtain ⟨t', g', a, _, v⟩ := h
  obtain ⟨e1, e2⟩ := nf_one (grAt_nf a).1 nf fun n => (v n).trans (hv n).symm
  rw [← e1, ← e2]
  exact a
example : NF [0, 5, 0] [1] := nf_by 1 rfl (by decide) (by decide +kernel) (by decide) (.inr (by decide +kernel))
example : NF [0] [3, 3, 4] := nf_by 3 rfl (by decide) (by decide +kernel) (by decide) (.inl rfl)
end K02
namespace K02
open PySem L2 Evl Gr ClX
/-- one, and nought behind it -/
def stp (n : Nat) : List Int := (List.range n).map fun i => if i = 0 then 1 else 0
theorem stp_len {n : Nat} : (stp n).length = n := by unfold stp; rw [List.length_map, List.length_range]
section
variable {K : PySem.W.Frag} {σ : L2.St} {H : Hp}
theorem EvP.tupL {te tb : TE} {x : Int} {g : List Int} (h : Ev te σ H (.int x)) (h' : ∀ H1, Ex H H1 → EvL tb σ H1 (vI g)) : EvP K (tCons (tTup (tCons te tNil)) (tCons tb tNil)) σ H [x] g := fun H1 e Q q =>
  eu_tup (σ := σ) (H := H) (ea_cons h ea_nil) (Nat.le_of_ble_eq_true rfl) H1 e _ fun p H2 _ e2 h2 => h' H2 (e.trans e2) H2 (Ex.refl H2) _ fun r H3 _ e3 h3 =>
    q p r H3 (e2.trans e3) (.inr (st_of (e3 _ _ h2))) (.inl (sq_of h3))
end
section
variable {P : Program} {w : World} {K : PySem.W.Frag} {mg : Str → Option Value} {base : Heap}
/-! ### Growth.steps -/
def spSteps (K : PySem.W.Frag) (C : Addr) : Sp := fun vs H Q _ => ∃ m : Nat, vs = [.int (m : Int)] ∧ 0 < m ∧ m ≤ 2000 ∧ RetG K C (val [0] (stp m)) H Q
theorem scSteps : FnScope ["many", "at"] ["many"] (defScope (sGr 19)) := ⟨rfl, rfl, rfl, by decide +kernel, rfl, by decide +kernel, by decide +kernel⟩
theorem ok_Steps {C f fI fZ : Addr} {mc : Value} {fd fdI fdZ : FuncData} (F : Fun K "steps" "Growth.steps" (sGr 19) f fd) (range : mg "range" = none) (N : GName K mg C mc) (M : Mk K C fI)
    (GI : FnOk P w K mg base CX0 4 fI fdI ["self", "told", "gains"] (spInit K C)) (bI : Binds K fdI ["self", "told", "gains"] [])
    (GZ : FnOk P w K mg base CX0 1 fZ fdZ ["value"] (spIsInt K)) (kZ : PySem.W.keepIn K (.ref fZ) = true) (bZ : Binds K fdZ ["value"] []) (gZ : mg "is_integer" = some (.ref fZ)) :
    FnOk P w K mg base CX0 6 f fd ["many"] (spSteps K C) := by
  obtain ⟨mu, cm⟩ := N.most
  refine F.ok scSteps (fun vs H Q E h => ?_) (fun cdv A outer s H vs Q E hr h => ?_)
  · obtain ⟨x, rfl, _⟩ := h
    rfl
  · obtain ⟨m, rfl, m0, m1, k⟩ := h
    refine ⟨_, pss_cons (ps_if (PW.pt (pw_or (pt_not (pt_val (pe_call GZ (hr.mono (by decide)) (by rfl) gZ kZ bZ .nil pass0 (pa_cons (pv 0) pa_nil)))) (pw_or1 (pt_not (pt_chain op_le op_le pe_int (pv 0) (pe_cval (pe_glob (v := .ref C) rfl N.g rfl))))))) (pss_one ps_no) pss_nil)
      (pss_one (ps_ret (pe_make M GI hr (by rfl) N.g bI .nil pass0 (pa_cons (pe_tup (pa_cons pe_int pa_nil)) (pa_cons (pe_lc (own := [("at", 1)]) (g := gName 1) rfl scSteps.nd (pi_range1 (by rfl) range (pa_cons (pv 0) pa_nil)) (blkOk_by (own := [("at", 1)]) (N := ["many", "at"]) (sc := defScope (sGr 19)) (by decide +kernel))
        (fun _ _ _ _ _ => pg_name (i := 1) scSteps.nd rfl (Or.inl rfl)) (fun _ _ _ _ _ => pts_nil) (fun _ _ _ _ _ => pe_ifExp (pt_cmpR op_eq (pv 1) pe_int (nomark _)) pe_int pe_int)) pa_nil))))), ?_⟩
    refine q_when (b := false) (et_is (et_or (et_not (et_B (ev_call (z := .bl true) (ea_cons (ev_var rfl) ea_nil) (spv_isInt (.base (.int _)) kit_int_int kit_int_bool)))) (fun _ => et_not (et_test (ev_chain ev_c (ev_var rfl) (ev_cval ev_c N.rd cm))))) (by
      rw [decide_eq_true (by omega : (1 : Int) ≤ (m : Int)), decide_eq_true (by omega : (m : Int) ≤ 2000)]
      rfl)) (fun hb => absurd hb (by decide)) (fun _ H1 e1 => ?_)
    have c1 : ∀ H2, Ex H1 H2 → EvL (tLc (iRng1 (tCons (tVar 0) tNil)) (gName 1) tYes (tIf (tTest (tOp rEq (tVar 1) (tC (.int 0)))) (tC (.int 1)) (tC (.int 0))) [1]) [some (.int (m : Int)), none] H2 (vI (stp m)) := fun H2 _ => by
      have z := el_lcR1 (σ := [some (.int (m : Int)), none]) (H := H2) (t := tYes) (te := tIf (tTest (tOp rEq (tVar 1) (tC (.int 0)))) (tC (.int 1)) (tC (.int 0))) (ta := tCons (tVar 0) tNil) (j := 1) (vs := [1]) (n := (m : Int)) (fun _ => true) (fun i => V.int (if i = 0 then 1 else 0))
        (ea_cons (ev_var rfl) ea_nil) (by omega) (fun _ => rfl) (fun i H1 _ _ => et_none) (fun i H3 _ _ _ => by
          by_cases h : i = 0
          · subst h
            exact ev_if (b := true) (et_is (et_test (ev_op (ev_var rfl) ev_c (rv_eq rfl))) (by rw [vint_inj]; rfl)) (fun _ => ev_c) (fun hb => absurd hb (by decide))
          · rw [if_neg h]
            exact ev_if (b := false) (et_is (et_test (ev_op (ev_var rfl) ev_c (rv_eq rfl))) (by rw [vint_inj, decide_eq_false (by omega)])) (fun hb => absurd hb (by decide)) (fun _ => ev_c))
      rw [given_all, Int.toNat_natCast] at z
      have e : vI (stp m) = (List.range m).map fun i => V.int (if i = 0 then 1 else 0) := by
        unfold vI stp
        rw [List.map_map]
        rfl
      rw [e]
      exact z
    refine eg_make (K := K) (C := C) (σ := [some (.int (m : Int)), none]) (H := H1) (t := [0]) (g := stp m) (f := val [0] (stp m)) (EvP.tupL ev_c c1) Nat.one_pos (Nat.le_of_ble_eq_true rfl) (by rw [stp_len]; exact m0) (by rw [stp_len]; exact m1)
      (fun i hi => by
        have z : i = 0 := by
          have : i < 1 := hi
          omega
        subst z
        exact Int.le_refl 0) (fun i hi => by
        rw [stp_len] at hi
        have e : at' (stp m) i = if i = 0 then 1 else 0 := at_map_range hi
        rw [e]
        by_cases h : i = 0
        · rw [if_pos h]; decide
        · rw [if_neg h]; decide) (fun n => rfl) H1 (Ex.refl H1) _ fun o H2 ho e2 gr => k o H2 (fresh_back e1 ho) (e1.trans e2) gr
end
end K02
/-! the normal forms that the law asks for -/
namespace K02
open PySem Gr L2
theorem Pd.dvd {d : Nat → Int} {q a : Nat} (h : Pd d q) (hd : q ∣ a) : Pd d a := by
  obtain ⟨j, rfl⟩ := hd
  intro k
  rw [Nat.mul_comm]
  exact h.mul j k
/-- the least period, by two witnesses -/
theorem least_pair {g : List Int} {n a b i j : Nat} (h : g.length = n) (h0 : 0 < n) (hd : ∀ q, q < n → q ∣ n → q ∣ a ∨ q ∣ b) (ha : i + a < n) (wa : at' g (i + a) ≠ at' g i) (hb : j + b < n) (wb : at' g (j + b) ≠ at' g j) : Least (dif g) g.length := by
  refine ⟨by omega, dif_pd, fun q hq hp => ?_⟩
  have p2 := Pd.gcd q g.length hp dif_pd
  have gd : Nat.gcd q g.length ∣ g.length := Nat.gcd_dvd_right _ _
  rcases Nat.lt_or_ge (Nat.gcd q g.length) g.length with lt | ge
  · exfalso
    rcases hd (Nat.gcd q g.length) (by omega) (by rw [← h]; exact gd) with z | z
    · exact wa ((Pd.dvd p2 z).per i (by omega))
    · exact wb ((Pd.dvd p2 z).per j (by omega))
  · exact Nat.le_trans ge (Nat.gcd_le_left _ hq)
theorem at_map {f : Nat → Int} {m i : Nat} (h : i < m) : at' ((List.range m).map f) i = f i := by
  unfold at'
  rw [List.getD_eq_getElem?_getD, List.getElem?_map, List.getElem?_range h]
  rfl
/-- one at each multiple of a, and of b -/
def sumG (a b m : Nat) : List Int := (List.range m).map fun n => (if n % a = 0 then 1 else 0) + (if n % b = 0 then 1 else 0)
theorem sumG_len {a b m : Nat} : (sumG a b m).length = m := by unfold sumG; rw [List.length_map, List.length_range]
theorem dvd2000 : ∀ q, q < 2000 → q ∣ 2000 → q ∣ 1000 ∨ q ∣ 400 := by decide +kernel
theorem least_16_125 : Least (dif (sumG 16 125 2000)) (sumG 16 125 2000).length := least_pair (a := 1000) (b := 400) (i := 0) (j := 0) sumG_len (by decide) dvd2000 (by decide) (by unfold sumG; rw [at_map (by decide), at_map (by decide)]; decide) (by decide) (by unfold sumG; rw [at_map (by decide), at_map (by decide)]; decide)
theorem least_2000_1000 : Least (dif (sumG 2000 1000 2000)) (sumG 2000 1000 2000).length := least_pair (a := 1000) (b := 400) (i := 0) (j := 0) sumG_len (by decide) dvd2000 (by decide) (by unfold sumG; rw [at_map (by decide), at_map (by decide)]; decide) (by decide) (by unfold sumG; rw [at_map (by decide), at_map (by decide)]; decide)
theorem nf_16_125 : NF [0] (sumG 16 125 2000) := ⟨by decide, by rw [sumG_len]; decide, least_16_125, .inl rfl⟩
theorem nf_2000_1000 : NF [0] (sumG 2000 1000 2000) := ⟨by decide, by rw [sumG_len]; decide, least_2000_1000, .inl rfl⟩
theorem dif_stp {m k : Nat} (h : 0 < m) : dif (stp m) k = if k % m = 0 then 1 else 0 := by
  unfold dif
  rw [stp_len]
  unfold stp
  exact at_map (Nat.mod_lt _ h)
theorem dif_sumG {a b m k : Nat} (h : 0 < m) (ha : a ∣ m) (hb : b ∣ m) : dif (sumG a b m) k = dif (stp a) k + dif (stp b) k := by
  have a0 := Nat.pos_of_dvd_of_pos ha h
  have b0 := Nat.pos_of_dvd_of_pos hb h
  rw [dif_stp a0, dif_stp b0]
  unfold dif
  rw [sumG_len]
  unfold sumG
  rw [at_map (Nat.mod_lt _ h), Nat.mod_mod_of_dvd _ ha, Nat.mod_mod_of_dvd _ hb]
theorem acc_two {d e f : Nat → Int} (h : ∀ k, d k = e k + f k) : ∀ n, acc d n = acc e n + acc f n
  | 0 => by show (0 : Int) = 0 + 0; rfl
  | n + 1 => by
    show acc d n + d n = (acc e n + e n) + (acc f n + f n)
    rw [acc_two h n, h n]
    omega
theorem val_sumG {a b m : Nat} (h : 0 < m) (ha : a ∣ m) (hb : b ∣ m) (n : Nat) : val [0] (sumG a b m) n = val [0] (stp a) n + val [0] (stp b) n := by
  have z := fun g => val_ge (t := [0]) (g := g) (by decide) n
  have e : ([0] : List Int).length - 1 + n = n := by show 0 + n = n; omega
  rw [e] at z
  have y : acc (dif (sumG a b m)) n = acc (dif (stp a)) n + acc (dif (stp b)) n := acc_two (fun k => dif_sumG h ha hb) n
  rw [z, z, z, y]
  have l : lst [0] = 0 := rfl
  rw [l]
  omega
theorem nf_steps {m : Nat} (h : 0 < m) : NF [0] (stp m) := by
  refine ⟨by decide, by rw [stp_len]; exact h, ⟨by rw [stp_len]; exact h, dif_pd, fun q hq hp => ?_⟩, .inl rfl⟩
  rw [stp_len]
  have z := hp 0
  rw [dif_stp h, dif_stp h, Nat.zero_add, Nat.zero_mod, if_pos rfl] at z
  by_cases c : q % m = 0
  · exact Nat.le_of_dvd hq (Nat.dvd_of_mod_eq_zero c)
  · rw [if_neg c] at z
    exact absurd z (by decide)
theorem nf_hump : NF [0, 5, 0] [1] := nf_by 1 rfl (by decide) (by decide +kernel) (by decide) (.inr (by decide +kernel))
theorem nf_slow : NF [0] [3, 3, 4] := nf_by 3 rfl (by decide) (by decide +kernel) (by decide) (.inl rfl)
theorem nf_late : NF [1999] [2, 2, 3] := nf_by 3 rfl (by decide) (by decide +kernel) (by decide) (.inl rfl)
theorem nf_later : NF [2000] [2, 2, 3] := nf_by 3 rfl (by decide) (by decide +kernel) (by decide) (.inl rfl)
end K02
/-! fields of new growths of a known normal form -/
namespace K02
open PySem Gr L2 Evl ClX
section
variable {K : PySem.W.Frag} {C : Addr} {σ : L2.St} {H : Hp} {te : TE} {F : Nat → Int} {t g : List Int}
/-- len(x.told) of a new growth -/
theorem ev_lenTold (h : EvG K C te σ H F) (nf : NF t g) (hv : ∀ n, val t g n = F n) (G : GCls K C) : Ev (tCB (fun xs H Q => ∃ p ys, xs = [V.ref p] ∧ (SqL K H p ys ∨ SqT K H p ys) ∧ Q (.int ys.length) H) (tCons (tFld K te "told") tNil)) σ H (.int (t.length : Int)) := fun H1 e Q q =>
  h H1 e _ fun o H2 _ e2 hF => by
    obtain ⟨dx, p, q', r, h1, h2, h3, h4, _⟩ := grF_known hF nf hv
    exact ev_lenF (σ := σ) (H := H2) (ta := tC (.ref o)) (f := "told") ev_c h1 G.cls G.told rfl h2 H2 (Ex.refl H2) Q fun H3 e3 => q H3 (e2.trans e3)
/-- len(x.gains) -/
theorem ev_lenGains (h : EvG K C te σ H F) (nf : NF t g) (hv : ∀ n, val t g n = F n) (G : GCls K C) : Ev (tCB (fun xs H Q => ∃ p ys, xs = [V.ref p] ∧ (SqL K H p ys ∨ SqT K H p ys) ∧ Q (.int ys.length) H) (tCons (tFld K te "gains") tNil)) σ H (.int (g.length : Int)) := fun H1 e Q q =>
  h H1 e _ fun o H2 _ e2 hF => by
    obtain ⟨dx, p, q', r, h1, h2, h3, h4, _⟩ := grF_known hF nf hv
    exact ev_lenF (σ := σ) (H := H2) (ta := tC (.ref o)) (f := "gains") ev_c h1 G.cls G.gains rfl h3 H2 (Ex.refl H2) Q fun H3 e3 => q H3 (e2.trans e3)
/-- x.told, x.gains -/
theorem eu_told (h : EvG K C te σ H F) (nf : NF t g) (hv : ∀ n, val t g n = F n) (G : GCls K C) : ∀ H1, Ex H H1 → ∀ Q : VK, (∀ p H2, Ex H1 H2 → SqT K H2 p (vI t) → Q (.ref p) H2) → tFld K te "told" σ H1 Q := fun H1 e Q q =>
  h H1 e _ fun o H2 _ e2 hF => by
    obtain ⟨dx, p, q', r, h1, h2, h3, h4, _⟩ := grF_known hF nf hv
    exact ev_fld (σ := σ) (H := H2) (ta := tC (.ref o)) (f := "told") ev_c h1 G.cls G.told rfl H2 (Ex.refl H2) Q fun H3 e3 => q p H3 (e2.trans e3) (ex_t e3 h2)
theorem eu_gains (h : EvG K C te σ H F) (nf : NF t g) (hv : ∀ n, val t g n = F n) (G : GCls K C) : ∀ H1, Ex H H1 → ∀ Q : VK, (∀ p H2, Ex H1 H2 → SqT K H2 p (vI g) → Q (.ref p) H2) → tFld K te "gains" σ H1 Q := fun H1 e Q q =>
  h H1 e _ fun o H2 _ e2 hF => by
    obtain ⟨dx, p, q', r, h1, h2, h3, h4, _⟩ := grF_known hF nf hv
    exact ev_fld (σ := σ) (H := H2) (ta := tC (.ref o)) (f := "gains") ev_c h1 G.cls G.gains rfl H2 (Ex.refl H2) Q fun H3 e3 => q q' H3 (e2.trans e3) (ex_t e3 h3)
end
end K02
namespace K02
open PySem L2 Evl Gr ClX OpX StX OwX
abbrev sOuter : Stmt := top 30
section
variable {K : PySem.W.Frag} {σ : L2.St} {H : Hp} {ta tb : TE}
abbrev rMinV : List V → Hp → VK → Prop := fun xs H Q => ∃ i j, xs = [V.int i, V.int j] ∧ Q (.int (if j < i then j else i)) H
theorem ev_min2 {i j : Int} (ha : Ev ta σ H (.int i)) (hb : Ev tb σ H (.int j)) : Ev (tCB rMinV (tCons ta (tCons tb tNil))) σ H (.int (if j < i then j else i)) := fun H1 e Q q =>
  ha H1 e _ fun H2 e2 => hb H2 (e.trans e2) _ fun H3 e3 => ⟨i, j, rfl, q H3 (e2.trans e3)⟩
/-- one of two pairs, taken apart -/
theorem q_pair {tt : TT} {tx ty tx' ty' : TE} {c : Bool} {x y x' y' : V} {i j : Nat} {tz : TS} {D : Ends} (h : EvT tt σ H c) (hx : c = true → Ev tx σ H x ∧ Ev ty σ H y) (hy : c = false → Ev tx' σ H x' ∧ Ev ty' σ H y')
    (k : ∀ H1, Ex H H1 → tz D ((σ.set i (some (if c then x else x'))).set j (some (if c then y else y'))) H1) :
    tSeq (tAsg (tIf tt (tTup (tCons tx (tCons ty tNil))) (tTup (tCons tx' (tCons ty' tNil)))) (gTup K 2 (gCons (gName i) (gCons (gName j) gNil)))) tz D σ H := h H (Ex.refl H) _ fun H1 e1 => by
  have fin : ∀ {a b : V} {t1 t2 : TE}, Ev t1 σ H a → Ev t2 σ H b → (∀ H1, Ex H H1 → tz D ((σ.set i (some a)).set j (some b)) H1) → tTup (tCons t1 (tCons t2 tNil)) σ H1 fun v H2 => gTup K 2 (gCons (gName i) (gCons (gName j) gNil)) v σ H2 fun σ' H' => tz D σ' H' := fun {a b t1 t2} h1 h2 kk =>
    eu_tup (σ := σ) (H := H) (ea_cons h1 (ea_cons h2 ea_nil)) (Nat.le_of_ble_eq_true rfl) H1 e1 _ fun p H2 _ e2 hp => ⟨p, [a, b], rfl, st_of hp, rfl, _, _, rfl, _, _, rfl, rfl, kk H2 (e1.trans e2)⟩
  cases c with
  | true => exact fin (hx rfl).1 (hx rfl).2 k
  | false => exact fin (hy rfl).1 (hy rfl).2 k
end
section
variable {P : Program} {w : World} {K : PySem.W.Frag} {mg : Str → Option Value} {base : Heap}
/-! ### outer_parts -/
def spOuter (K : PySem.W.Frag) (C : Addr) : Sp := fun vs H Q _ => ∃ (o u : Addr) (up : Bool) (t g t' g' : List Int) (b L : Nat), vs = [.ref o, .ref u, .bl up] ∧ Two K C H o u t g t' g' b L ∧ (rate g L = rate g' L ∨ Ord (val t g) (val t' g')) ∧
  (rate g L - rate g' L < 1073741824 ∧ rate g' L - rate g L < 1073741824) ∧
  ∀ r p q b' l' H', Ex H H' → SqT K H' r [.ref p, .ref q] → SqL K H' p (vI (pT (fun n => pk up (val t g n) (val t' g' n)) b')) → SqL K H' q (vI (pG (fun n => pk up (val t g n) (val t' g' n)) b' l')) → 0 < b' → b' ≤ 2000 → 0 < l' → l' ≤ 2000 →
    (∀ n, val (pT (fun n => pk up (val t g n) (val t' g' n)) b') (pG (fun n => pk up (val t g n) (val t' g' n)) b' l') n = pk up (val t g n) (val t' g' n)) → Q (.ref r) H'
abbrev nOuter : List Str := ["one", "other", "is_greatest", "lead", "begin", "many", "fast", "slow", "last", "crossing", "lefts", "rights", "left", "right"]
theorem scOuter : FnScope nOuter ["one", "other", "is_greatest"] (defScope sOuter) := ⟨rfl, rfl, rfl, by decide +kernel, rfl, by decide +kernel, by decide +kernel⟩
theorem ok_Outer {C f : Addr} {fd : FuncData} (F : Fun K "outer_parts" "outer_parts" sOuter f fd) (T : GlbS mg) (DV : GlbV mg) (min_ : mg "min" = none) (GL : GlbL mg) (G : GCls K C)
    (LL : Gfn P w K mg base 2 "lead_of" ["one", "other"] (spLead K C)) (LB : Gfn P w K mg base 1 "begin_of_both" ["one", "other"] (spBegin K C)) (LC : Gfn P w K mg base 1 "common_length" ["one", "other"] (spCommon K C))
    (LA' : Gfn P w K mg base 3 "last_number_above" ["one", "other"] (spLast K C)) (LF : Gfn P w K mg base 1 "first_values" ["one", "many"] (spFirst K C)) (LP : Gfn P w K mg base 1 "parted" ["values", "many"] (spPart K)) :
    FnOk P w K mg base CX0 4 f fd ["one", "other", "is_greatest"] (spOuter K C) := by
  obtain ⟨fL, fdL, GLd, kL, bL, gL⟩ := LL
  obtain ⟨fB, fdB, GB, kB, bB, gB⟩ := LB
  obtain ⟨fC, fdC, GC, kC, bC, gC⟩ := LC
  obtain ⟨fA, fdA, GA, kA, bA, gA⟩ := LA'
  obtain ⟨fF, fdF, GF, kF, bF, gF⟩ := LF
  obtain ⟨fP, fdP, GP, kP, bP, gP⟩ := LP
  obtain ⟨mt, gm⟩ := GL.most
  refine F.ok scOuter (fun vs H Q E h => ?_) (fun cdv A outer s H vs Q E hr h => ?_)
  · obtain ⟨o, u, up, t, g, t', g', b, L, rfl, _⟩ := h
    rfl
  · obtain ⟨o, u, up, t, g, t', g', b, L, rfl, hT, hX, hD, k⟩ := h
    have r1 := hr.mono (show 1 ≤ 3 by decide)
    have r2 := hr.mono (show 2 ≤ 3 by decide)
    refine ⟨_, pss_cons (ps_set (i := 3) scOuter.nd rfl (.inl rfl) (pe_call GLd r2 (by rfl) gL kL bL .nil pass0 (pa_cons (pv 0) (pa_cons (pv 1) pa_nil))))
      (pss_cons (ps_set (i := 4) scOuter.nd rfl (.inl rfl) (pe_call GB r1 (by rfl) gB kB bB .nil pass0 (pa_cons (pv 0) (pa_cons (pv 1) pa_nil))))
      (pss_cons (ps_set (i := 5) scOuter.nd rfl (.inl rfl) (pe_op op_add (pv 4) (pe_call GC r1 (by rfl) gC kC bC .nil pass0 (pa_cons (pv 0) (pa_cons (pv 1) pa_nil)))))
      (pss_cons (ps_if (pt_cmpR op_ne (pv 3) pe_int (nomark _))
        (pss_cons (ps_asg (pe_ifExp (pt_cmpR op_gt (pv 3) pe_int (nomark _)) (pe_tup (pa_cons (pv 0) (pa_cons (pv 1) pa_nil))) (pe_tup (pa_cons (pv 1) (pa_cons (pv 0) pa_nil)))) (pg_tup rfl (pgs_cons (pg_name (i := 6) scOuter.nd rfl (.inl rfl)) (pgs_cons (pg_name (i := 7) scOuter.nd rfl (.inl rfl)) pgs_nil))))
        (pss_cons (ps_set (i := 8) scOuter.nd rfl (.inl rfl) (pe_ifExp (pt_val (pv 2)) (pv 6) (pv 7)))
        (pss_cons (ps_set (i := 9) scOuter.nd rfl (.inl rfl) (pe_call GA hr (by rfl) gA kA bA .nil pass0 (pa_cons (pv 7) (pa_cons (pv 6) pa_nil))))
        (pss_cons (ps_if (pt_cmpR op_gt (pe_op op_add (pv 9) pe_int) (pe_glob (v := .int 2000) rfl gm ⟨_, rfl⟩) (nomark _)) (pss_one ps_no) pss_nil)
        (pss_cons (ps_set (i := 4) scOuter.nd rfl (.inl rfl) (pe_callB (call_max2 rfl) (by rfl) DV.max (by decide +kernel) (pa_cons (pe_callB call_len_seq (by rfl) T.len PySem.boot_len (pa_cons (pe_fld (pv 8) rfl) pa_nil)) (pa_cons (pe_op op_add (pv 9) pe_int) pa_nil))))
        (pss_one (ps_set (i := 5) scOuter.nd rfl (.inl rfl) (pe_op op_add (pv 4) (pe_callB call_len_seq (by rfl) T.len PySem.boot_len (pa_cons (pe_fld (pv 8) rfl) pa_nil)))))))))) pss_nil)
      (pss_cons (ps_par (i := 10) (j := 11) rfl scOuter.nd rfl rfl (by decide) (by rfl) (by rfl) (pa_cons (pe_call GF r1 (by rfl) gF kF bF .nil pass0 (pa_cons (pv 0) (pa_cons (pv 5) pa_nil))) (pa_cons (pe_call GF r1 (by rfl) gF kF bF .nil pass0 (pa_cons (pv 1) (pa_cons (pv 5) pa_nil))) pa_nil)) (by rfl))
      (pss_cons (ps_if (pt_val (pv 2))
        (pss_one (ps_ret (pe_call GP r1 (by rfl) gP kP bP .nil pass0 (pa_cons (pe_lc (own := [("left", 12), ("right", 13)]) (g := gTup K 2 (gCons (gName 12) (gCons (gName 13) gNil))) rfl scOuter.nd (pi_zip (by rfl) DV.zip (pa_cons (pv 10) (pa_cons (pv 11) pa_nil)))
            (blkOk_by (own := [("left", 12), ("right", 13)]) (N := nOuter) (sc := defScope sOuter) (by decide +kernel))
            (fun _ _ _ _ _ => pg_tup rfl (pgs_cons (pg_name (i := 12) scOuter.nd rfl (Or.inl rfl)) (pgs_cons (pg_name (i := 13) scOuter.nd rfl (Or.inl rfl)) pgs_nil))) (fun _ _ _ _ _ => pts_nil)
            (fun _ _ _ _ _ => pe_callB (call_max2 rfl) (by rfl) DV.max (by decide +kernel) (pa_cons (pv 12) (pa_cons (pv 13) pa_nil)))) (pa_cons (pv 4) pa_nil))))) pss_nil)
      (pss_one (ps_ret (pe_call GP r1 (by rfl) gP kP bP .nil pass0 (pa_cons (pe_lc (own := [("left", 12), ("right", 13)]) (g := gTup K 2 (gCons (gName 12) (gCons (gName 13) gNil))) rfl scOuter.nd (pi_zip (by rfl) DV.zip (pa_cons (pv 10) (pa_cons (pv 11) pa_nil)))
            (blkOk_by (own := [("left", 12), ("right", 13)]) (N := nOuter) (sc := defScope sOuter) (by decide +kernel))
            (fun _ _ _ _ _ => pg_tup rfl (pgs_cons (pg_name (i := 12) scOuter.nd rfl (Or.inl rfl)) (pgs_cons (pg_name (i := 13) scOuter.nd rfl (Or.inl rfl)) pgs_nil))) (fun _ _ _ _ _ => pts_nil)
            (fun _ _ _ _ _ => pe_callB (call_min2 rfl) (by rfl) min_ (by decide +kernel) (pa_cons (pv 12) (pa_cons (pv 13) pa_nil)))) (pa_cons (pv 4) pa_nil)))))))))), ?_⟩
    have few := hT.few
    have b1 := hT.b1
    have b0 := hT.b0
    have L0 := hT.l0
    obtain ⟨nf1, t2, g2, sm1⟩ := grAt_nf hT.one
    obtain ⟨nf2, t2', g2', sm2⟩ := grAt_nf hT.other
    obtain ⟨ld, hld⟩ : ∃ ld : Int, ld = rate g L - rate g' L := ⟨_, rfl⟩
    refine q_asg (v := .int ld) (hld ▸ ev_call (ea_cons (ev_var rfl) (ea_cons (ev_var rfl) ea_nil)) (fun H1 e Q q E => ⟨o, u, t, g, t', g', b, L, rfl, hT.mono e, q⟩)) fun H1 e1 => ?_
    refine q_asg (v := .int (b : Int)) (ev_call (ea_cons (ev_var rfl) (ea_cons (ev_var rfl) ea_nil)) (fun H2 e Q q E => ⟨o, u, t, g, t', g', rfl, hT.one.mono (e1.trans e), hT.other.mono (e1.trans e), by rw [← hT.hb]; exact q⟩)) fun H2 e2 => ?_
    refine q_asg (v := .int ((b + L : Nat) : Int)) (ev_is (ev_op (y := .int (L : Int)) (ev_var rfl) (ev_call (ea_cons (ev_var rfl) (ea_cons (ev_var rfl) ea_nil)) (fun H3 e Q q E => ⟨o, u, t, g, t', g', rfl, hT.one.mono ((e1.trans e2).trans e), hT.other.mono ((e1.trans e2).trans e), by rw [← hT.hL]; exact hT.few, by rw [← hT.hL]; exact q⟩)) rv_I0) rfl) fun H3 e3 => ?_
    have E3 := (e1.trans e2).trans e3
    have T3 := hT.mono E3
    refine q_join (fun σ' H' => ∃ (x6 x7 x8 x9 : Option V) (b' l' : Nat), σ' = [some (.ref o), some (.ref u), some (.bl up), some (.int ld), some (.int (b' : Int)), some (.int ((b' + l' : Nat) : Int)), x6, x7, x8, x9, none, none, none, none] ∧ Ex H3 H' ∧ 0 < b' ∧ b' ≤ 2000 ∧ 0 < l' ∧ l' ≤ 2000 ∧
      ∀ n, val (pT (fun n => pk up (val t g n) (val t' g' n)) b') (pG (fun n => pk up (val t g n) (val t' g' n)) b' l') n = pk up (val t g n) (val t' g' n)) ?_ fun rest => ?_
    · -- the values of both, and the parts
      rintro σ' H4 ⟨x6, x7, x8, x9, b', l', rfl, e4, b0', b1', l0', l1', hv⟩
      refine q_par (cons_i ⟨_, rfl, _, rfl, o, b' + l', t, g, rfl, T3.one.mono e4, by omega, fun x H5 _ e5 hx => cons_i ⟨_, rfl, _, rfl, u, b' + l', t', g', rfl, (T3.other.mono e4).mono e5, by omega, fun y H6 _ e6 hy => ⟨_, _, rfl, ?_⟩⟩⟩)
      have hx6 := sq_of (K := K) (e6 _ _ hx)
      have hy6 := sq_of (K := K) hy
      have E6 := (e4.trans e5).trans e6
      show tSeq _ _ _ [some (.ref o), some (.ref u), some (.bl up), some (.int ld), some (.int (b' : Int)), some (.int ((b' + l' : Nat) : Int)), x6, x7, x8, x9, some (.ref x), some (.ref y), none, none] H6
      have two : ∀ {te : TE} {H7 : Hp}, Ex H6 H7 → (∀ n H8, Ev te [some (.ref o), some (.ref u), some (.bl up), some (.int ld), some (.int (b' : Int)), some (.int ((b' + l' : Nat) : Int)), x6, x7, x8, x9, some (.ref x), some (.ref y), some (.int (val t g n)), some (.int (val t' g' n))] H8 (.int (pk up (val t g n) (val t' g' n)))) →
          EvL (tLc (iZip K (tCons (tVar 10) (tCons (tVar 11) tNil))) (gTup K 2 (gCons (gName 12) (gCons (gName 13) gNil))) tYes te [12, 13]) [some (.ref o), some (.ref u), some (.bl up), some (.int ld), some (.int (b' : Int)), some (.int ((b' + l' : Nat) : Int)), x6, x7, x8, x9, some (.ref x), some (.ref y), none, none] H7 (vI (pT (fun n => pk up (val t g n) (val t' g' n)) (b' + l'))) := fun {te H7} e7 ht =>
        el_both (K := K) (C := C) (o := o) (u := u) (t := t) (g := g) (t' := t') (g' := g') (m := b' + l') (f := fun n => pk up (val t g n) (val t' g' n))
          (fun H8 e8 Q8 q8 => ⟨_, rfl, _, rfl, q8 x y H8 (Ex.refl H8) (ex_l (e7.trans e8) hx6) (ex_l (e7.trans e8) hy6)⟩) (by omega) (fun _ _ => rfl) (fun n H8 _ _ => ht n H8)
      have fin : ∀ {te : TE} {H7 : Hp} {D : Ends}, Ex H6 H7 → EvL te [some (.ref o), some (.ref u), some (.bl up), some (.int ld), some (.int (b' : Int)), some (.int ((b' + l' : Nat) : Int)), x6, x7, x8, x9, some (.ref x), some (.ref y), none, none] H7 (vI (pT (fun n => pk up (val t g n) (val t' g' n)) (b' + l'))) → D.rt = Q →
          tRet (tCall (spPart K) [] E0 (tCons te (tCons (tVar 4) tNil))) D [some (.ref o), some (.ref u), some (.bl up), some (.int ld), some (.int (b' : Int)), some (.int ((b' + l' : Nat) : Int)), x6, x7, x8, x9, some (.ref x), some (.ref y), none, none] H7 := fun {te H7 D} e7 hl hQ =>
        hl H7 (Ex.refl H7) _ fun z H8 _ e8 hz => ⟨_, rfl, z, b', l', fun n => pk up (val t g n) (val t' g' n), rfl, sq_of hz, b0', by omega, fun r p q H9 e9 hr9 hp9 hq9 => by
          rw [hQ]
          exact k r p q b' l' H9 (E3.trans (E6.trans ((e7.trans e8).trans e9))) hr9 hp9 hq9 b0' b1' l0' l1' hv⟩
      cases up with
      | true =>
        refine q_when (et_B (b := true) (ev_var rfl)) (fun _ H7 e7 => ?_) (fun hb => absurd hb (by decide))
        exact fin e7 (two e7 fun n H8 => ev_max2 (ev_var rfl) (ev_var rfl)) rfl
      | false =>
        refine q_when (et_B (b := false) (ev_var rfl)) (fun hb => absurd hb (by decide)) (fun _ H7 e7 => ?_)
        exact fin e7 (two e7 fun n H8 => ev_min2 (ev_var rfl) (ev_var rfl)) rfl
    · -- where they cross
      have Two3 := hT.mono E3
      refine q_if (b := !decide (V.int ld = V.int 0)) (et_test (ev_op (ev_var rfl) ev_c (rv_ne rfl))) (fun hb H4 e4 => ?_) (fun hb H4 e4 => ?_)
      · have ld0 : ld ≠ 0 := fun z => by rw [z, decide_eq_true rfl] at hb; cases hb
        have hO : Ord (val t g) (val t' g') := hX.resolve_left fun z => ld0 (by omega)
        obtain ⟨x, y, tf, gf, ts, gs, hx6, hx7, TF, lt, fw, ord, hpk⟩ : ∃ (x y : Addr) (tf gf ts gs : List Int), (if decide (ld > 0) then V.ref o else V.ref u) = V.ref x ∧ (if decide (ld > 0) then V.ref u else V.ref o) = V.ref y ∧ Two K C H4 x y tf gf ts gs b L ∧ rate gs L < rate gf L ∧ rate gf L - rate gs L < 1073741824 ∧
            (∀ n, 1998 < n → val ts gs n ≤ val tf gf n) ∧ (∀ n, pk up (val t g n) (val t' g' n) = pk up (val tf gf n) (val ts gs n)) := by
          by_cases c : ld > 0
          · rw [decide_eq_true c]
            exact ⟨o, u, t, g, t', g', rfl, rfl, Two3.mono e4, by omega, by omega, ord_lead hO hT.rnd1 hT.rnd2 (by omega), fun n => rfl⟩
          · rw [decide_eq_false c]
            exact ⟨u, o, t', g', t, g, rfl, rfl, (Two3.mono e4).swap, by omega, by omega, ord_lead hO.symm hT.rnd2 hT.rnd1 (by omega), fun n => pk_comm⟩
        dsimp only
        refine q_pair (c := decide (ld > 0)) (x := .ref o) (y := .ref u) (x' := .ref u) (y' := .ref o) (et_test (ev_op (ev_var rfl) ev_c rv_I0)) (fun _ => ⟨ev_var rfl, ev_var rfl⟩) (fun _ => ⟨ev_var rfl, ev_var rfl⟩) fun H5 e5 => ?_
        rw [hx6, hx7]
        have T5 := TF.mono e5
        obtain ⟨z, tz, gz, hz8, hz, zb, hzv⟩ : ∃ (z : Addr) (tz gz : List Int), (if up then V.ref x else V.ref y) = V.ref z ∧ GrAt K C H5 z tz gz ∧ tz.length ≤ b ∧ ∀ n, val ts gs n ≤ val tf gf n → pk up (val t g n) (val t' g' n) = val tz gz n := by
          have hb' := T5.hb
          cases up with
          | true => exact ⟨x, tf, gf, rfl, T5.one, by omega, fun n h => (hpk n).trans (pk_ge h)⟩
          | false => exact ⟨y, ts, gs, rfl, T5.other, by omega, fun n h => (hpk n).trans (pk_ge h)⟩
        refine q_asg (v := .ref z) (ev_if (b := up) (et_B (ev_var rfl)) (fun h => by subst h; rw [← hz8]; exact ev_var rfl) (fun h => by subst h; rw [← hz8]; exact ev_var rfl)) fun H6 e6 => ?_
        have T6 := T5.mono e6
        obtain ⟨znf, zt2, zg2, _⟩ := grAt_nf hz
        refine q_call (vs := [.ref y, .ref x]) (ea_cons (ev_var rfl) (ea_cons (ev_var rfl) ea_nil)) fun H7 e7 => ⟨y, x, ts, gs, tf, gf, b, L, rfl, (T6.mono e7).swap, lt, fw, fun last la H8 e8 => ?_⟩
        have above : ∀ n : Nat, 0 < val ts gs n - val tf gf n → (n : Int) ≤ last := fun n h => la_end la L0 n h
        have ends : -1 ≤ last ∧ last ≤ 1998 := by
          rcases la.is with h | ⟨m, h, hm⟩
          · omega
          · have hm' : 0 < val ts gs m - val tf gf m := hm
            have : ¬ 1998 < m := fun z => by have := ord m z; omega
            omega
        obtain ⟨c, hc⟩ := Int.eq_ofNat_of_zero_le (show 0 ≤ last + 1 by omega)
        have hc1 : c ≤ 1999 := by omega
        have hl : last = (c : Int) - 1 := by omega
        subst hl
        refine q_when (et_test (ev_op (ev_op (ev_var rfl) ev_c rv_I0) ev_c rv_I0)) (fun hb9 H9 e9 => ?_) (fun hb9 H9 e9 => ?_)
        · have := of_decide_eq_true hb9
          omega
        have hz9 := (((hz.mono e6).mono e7).mono e8).mono e9
        obtain ⟨dx, p, q, r, h1, h2, h3, h4, nf, t2', g2', sm⟩ := hz9
        obtain ⟨b', hb'⟩ : ∃ b' : Nat, b' = max tz.length (c + 1) := ⟨_, rfl⟩
        refine q_asg (v := .int (b' : Int)) (ev_is (ev_max2 (ev_lenF (ev_var rfl) h1 G.cls G.told rfl h2) (ev_op (ev_var rfl) ev_c rv_I0)) ?_) fun H10 e10 => ?_
        · congr 1
          split <;> omega
        have z0 := znf.told
        have zg0 := znf.gains
        refine s_asg (ev_is (ev_op (ev_var rfl) (ev_lenF (ev_var rfl) (e10 _ _ h1) G.cls G.gains rfl (ex_t e10 h3)) rv_I0) (show V.int _ = V.int ((b' + gz.length : Nat) : Int) from rfl)) fun H11 e11 => rest _ _ ⟨some (.ref x), some (.ref y), some (.ref z), some (.int ((c : Int) - 1)), b', gz.length, rfl, ?_, by omega, by omega, zg0, by omega, ?_⟩
        · exact e4.trans (e5.trans (e6.trans (e7.trans (e8.trans (e9.trans (e10.trans e11))))))
        · exact val_outer z0 zg0 (c := c) (fun n hn => hzv n (by
            have : ¬ 0 < val ts gs n - val tf gf n := fun z => by have := above n z; omega
            omega)) (by omega) (by omega)
      · have ld0 : ld = 0 := by
          rcases Decidable.em (ld = 0) with z | z
          · exact z
          · rw [decide_eq_false (fun h => z (V.int.inj h))] at hb
            cases hb
        exact rest _ _ ⟨none, none, none, none, b, L, rfl, e4, b0, b1, L0, few, fun n => val_rnd b0 L0 (rnd_pk hT.rnd1 (by rw [show rate g L = rate g' L by omega]; exact hT.rnd2)) n⟩
end
end K02
/-! gains that are too many in common: what refuses them -/
namespace K02
open PySem L2 Evl Gr ClX OpX StX OwX StM
/-- an error of the class at C with two fields goes out -/
def Out2 (C : Addr) (n m : Str) (v u : V) (H : Hp) (E : XK) : Prop := ∀ d H', H d = none → Ex H H' → H' d = some (.xd [(m, u), (n, v)]) → E (.ref C) (some d) H'
theorem Out2.mono {C : Addr} {n m : Str} {v u : V} {H H' : Hp} {E : XK} (e : Ex H H') (h : Out2 C n m v u H E) : Out2 C n m v u H' E := fun d H2 hd e2 h2 => h d H2 (fresh_back e hd) (e.trans e2) h2
theorem raise_two {C : Addr} {n m : Str} {σ : L2.St} {H : Hp} {E : XK} {v u : V} {ta : TA} (h : EvA ta σ H [v, u]) (b : Out2 C n m v u H E) : tMkO C (spI2 C n m) [] ta σ H (fun cls d H' => E cls d H') :=
  h H (Ex.refl H) _ fun H1 e1 => ⟨by show 2 ≤ 1000; decide, fun a ha => ⟨a, v, u, rfl, upd_same, fun d hd hda => ⟨rfl, d, [(m, u), (n, v)], by rw [upd_ne hda.symm, upd_same], by exact upd_same, by rw [upd_ne hda] at hd; exact hd, by
    rw [upd_ne hda] at hd
    refine b d _ (fresh_back e1 hd) (fun c w hc => ?_) ?_
    · have hc1 := e1 _ _ hc
      have na : c ≠ a := ne_of_none hc1 ha
      have nd : c ≠ d := ne_of_none hc1 hd
      rw [upd_ne nd, del_ne na, upd_ne nd, upd_ne na, upd_ne nd, upd_ne na]
      exact hc1
    · exact upd_same⟩⟩⟩
/-- an error class of two fields -/
structure GTwo (P : Program) (w : World) (K : PySem.W.Frag) (mg : Str → Option Value) (base : Heap) (x n m : Str) (CN fN : Addr) (fdN : FuncData) : Prop where
  ox : OexC K CN
  init : PySem.W.findIn K (.ref CN) "__init__" = some (some (.ref fN))
  ty : PySem.W.typeIn K (.ref fN) = some (.type "function")
  ok : FnOk P w K mg base CX0 1 fN fdN ["self", n, m] (spI2 CN n m)
  b : Binds K fdN ["self", n, m] []
  g : mg x = some (.ref CN)
/-- a def of the module that raises, found by its name -/
def GfnX (P : Program) (w : World) (K : PySem.W.Frag) (mg : Str → Option Value) (base : Heap) (k : Nat) (name : Str) (ps : List Str) (sp : Sp) : Prop :=
  ∃ f fd, FnOk P w K mg base (L2.CX P w) k f fd ps sp ∧ PySem.W.keepIn K (.ref f) = true ∧ Binds K fd ps [] ∧ mg name = some (.ref f)
/-- TooMany("gains", 2000) goes out -/
abbrev OutG (cM : Addr) (H : Hp) (E : XK) : Prop := Out2 cM "what" "most" (.str "gains") (.int 2000) H E
abbrev OutT (cM : Addr) (H : Hp) (E : XK) : Prop := Out2 cM "what" "most" (.str "told") (.int 2000) H E
structure Wide2 (K : PySem.W.Frag) (C : Addr) (H : Hp) (o u : Addr) : Prop where
  ex : ∃ t g t' g', GrAt K C H o t g ∧ GrAt K C H u t' g' ∧ 2000 < Nat.lcm g.length g'.length
theorem Wide2.mono {K : PySem.W.Frag} {C o u : Addr} {H H' : Hp} (e : Ex H H') (h : Wide2 K C H o u) : Wide2 K C H' o u := by
  obtain ⟨t, g, t', g', h1, h2, h3⟩ := h.ex
  exact ⟨t, g, t', g', h1.mono e, h2.mono e, h3⟩
def spWideG (K : PySem.W.Frag) (C cM : Addr) : Sp := fun vs H _ E => ∃ o u, vs = [.ref o, .ref u] ∧ Wide2 K C H o u ∧ OutG cM H E
section
variable {P : Program} {w : World} {K : PySem.W.Frag} {mg : Str → Option Value} {base : Heap}
theorem far_Common {C f cM fM : Addr} {fd fdM : FuncData} (F : Fun K "common_length" "common_length" sCommon f fd) (T : GlbS mg) (L : GlbL mg) (G : GCls K C) (B : GTwo P w K mg base "TooMany" "what" "most" cM fM fdM) : FnOk P w K mg base (L2.CX P w) 3 f fd ["one", "other"] (spWideG K C cM) := by
  obtain ⟨mt, gm⟩ := L.most
  refine F.okX scCommon (fun vs H Q E h => ?_) (fun cdv A outer s H vs Q E hr h => ?_)
  · obtain ⟨o, u, rfl, _⟩ := h
    rfl
  · obtain ⟨o, u, rfl, hW, kE⟩ := h
    refine ⟨_, pss_cons (ps_set (i := 2) scCommon.nd rfl (.inl rfl) (pe_callBfun cr_lcm (by rfl) L.lcm (pa_cons (pe_callB call_len_seq (by rfl) T.len PySem.boot_len (pa_cons (pe_fld (pv 0) rfl) pa_nil)) (pa_cons (pe_callB call_len_seq (by rfl) T.len PySem.boot_len (pa_cons (pe_fld (pv 1) rfl) pa_nil)) pa_nil))))
      (pss_cons (ps_if (pt_cmpR op_gt (pv 2) (pe_glob (v := .int 2000) rfl gm ⟨_, rfl⟩) (nomark _)) (pss_one (ps_raise rfl (takes_of rfl rfl rfl rfl) (pmk_oex B.ox B.init B.ty B.ok hr B.b .nil pass0 (by rfl) B.g (pa_cons pe_str (pa_cons (pe_glob (v := .int 2000) (by rfl) gm ⟨_, rfl⟩) pa_nil))))) pss_nil)
      (pss_one ps_no)), ?_⟩
    obtain ⟨t, g, t', g', hO, hU, hl⟩ := hW.ex
    obtain ⟨dx, p, q, r, h1, h2, h3, h4, nf, t2, g2, sm⟩ := hO
    obtain ⟨dx', p', q', r', h1', h2', h3', h4', nf', t2', g2', sm'⟩ := hU
    refine q_asg (ev_cb (ea_cons (ev_lenF (ev_var rfl) h1 G.cls G.gains rfl h3) (ea_cons (ev_lenF (ev_var rfl) h1' G.cls G.gains rfl h3') ea_nil)) (fun H1 e Q q => ⟨_, _, rfl, by omega, by omega, q H1 (Ex.refl H1)⟩)) fun H1 e1 => ?_
    refine q_when (et_test (ev_op (ev_var rfl) ev_c rv_I0)) (fun ht H2 e2 => ?_) (fun ht H2 e2 => ?_)
    · exact raise_two (ea_cons ev_c (ea_cons ev_c ea_nil)) (kE.mono (e1.trans e2))
    · have := of_decide_eq_false ht
      omega
/-- begin_of_both, of growths that have too many gains in common -/
theorem ev_begin2 {C o u : Addr} {σ : L2.St} {H : Hp} (hW : Wide2 K C H o u) (h0 : σ[0]? = some (some (.ref o))) (h1 : σ[1]? = some (some (.ref u))) : ∃ b : Nat, Ev (tCall (spBegin K C) [] E0 (tCons (tVar 0) (tCons (tVar 1) tNil))) σ H (.int (b : Int)) := by
  obtain ⟨t, g, t', g', hO, hU, _⟩ := hW.ex
  exact ⟨max t.length t'.length, ev_call (ea_cons (ev_var h0) (ea_cons (ev_var h1) ea_nil)) fun H1 e Q q E => ⟨o, u, t, g, t', g', rfl, hO.mono e, hU.mono e, q⟩⟩
theorem far_Sum {C f cM : Addr} {fd : FuncData} (F : Fun K "summed_parts" "summed_parts" sSum f fd) (LB : Gfn P w K mg base 1 "begin_of_both" ["one", "other"] (spBegin K C)) (LC : GfnX P w K mg base 3 "common_length" ["one", "other"] (spWideG K C cM)) :
    FnOk P w K mg base (L2.CX P w) 4 f fd ["one", "other"] (spWideG K C cM) := by
  obtain ⟨fB, fdB, GB, kB, bB, gB⟩ := LB
  obtain ⟨fC, fdC, GC, kC, bC, gC⟩ := LC
  refine F.okX scSum (fun vs H Q E h => ?_) (fun cdv A outer s H vs Q E hr h => ?_)
  · obtain ⟨o, u, rfl, _⟩ := h
    rfl
  · obtain ⟨o, u, rfl, hW, kE⟩ := h
    refine ⟨_, pss_cons (ps_set (i := 2) scSum.nd rfl (.inl rfl) (pe_call GB (hr.mono (by decide)) (by rfl) gB kB bB .nil pass0 (pa_cons (pv 0) (pa_cons (pv 1) pa_nil))))
      (pss_cons (ps_set (i := 3) scSum.nd rfl (.inl rfl) (pe_op op_add (pv 2) (pe_call (E := E) GC hr (by rfl) gC kC bC .nil (passes_call (takes_of rfl rfl rfl rfl) fun _ _ _ _ z => z) (pa_cons (pv 0) (pa_cons (pv 1) pa_nil)))))
      (pss_cons ps_no (pss_one ps_no))), ?_⟩
    obtain ⟨b, hb⟩ := ev_begin2 (σ := [some (.ref o), some (.ref u), none, none, none, none, none]) hW rfl rfl
    refine q_asg hb fun H1 e1 => ?_
    exact ⟨_, rfl, _, rfl, _, rfl, o, u, rfl, hW.mono e1, kE.mono e1⟩
theorem far_Gaps {C f cM : Addr} {fd : FuncData} (F : Fun K "gaps_of" "gaps_of" sGaps f fd) (LB : Gfn P w K mg base 1 "begin_of_both" ["one", "other"] (spBegin K C)) (LC : GfnX P w K mg base 3 "common_length" ["one", "other"] (spWideG K C cM)) :
    FnOk P w K mg base (L2.CX P w) 4 f fd ["one", "other"] (spWideG K C cM) := by
  obtain ⟨fB, fdB, GB, kB, bB, gB⟩ := LB
  obtain ⟨fC, fdC, GC, kC, bC, gC⟩ := LC
  refine F.okX scGaps (fun vs H Q E h => ?_) (fun cdv A outer s H vs Q E hr h => ?_)
  · obtain ⟨o, u, rfl, _⟩ := h
    rfl
  · obtain ⟨o, u, rfl, hW, kE⟩ := h
    refine ⟨_, pss_cons (ps_set (i := 2) scGaps.nd rfl (.inl rfl) (pe_op op_add (pe_call GB (hr.mono (by decide)) (by rfl) gB kB bB .nil pass0 (pa_cons (pv 0) (pa_cons (pv 1) pa_nil))) (pe_call (E := E) GC hr (by rfl) gC kC bC .nil (passes_call (takes_of rfl rfl rfl rfl) fun _ _ _ _ z => z) (pa_cons (pv 0) (pa_cons (pv 1) pa_nil)))))
      (pss_one ps_no), ?_⟩
    obtain ⟨b, hb⟩ := ev_begin2 (σ := [some (.ref o), some (.ref u), none, none, none]) hW rfl rfl
    exact hb H (Ex.refl H) _ fun H1 e1 => ⟨_, rfl, _, rfl, o, u, rfl, hW.mono e1, kE.mono e1⟩
theorem far_Lead {C f cM : Addr} {fd : FuncData} (F : Fun K "lead_of" "lead_of" sLead f fd) (LC : GfnX P w K mg base 3 "common_length" ["one", "other"] (spWideG K C cM)) :
    FnOk P w K mg base (L2.CX P w) 4 f fd ["one", "other"] (spWideG K C cM) := by
  obtain ⟨fC, fdC, GC, kC, bC, gC⟩ := LC
  refine F.okX scLead (fun vs H Q E h => ?_) (fun cdv A outer s H vs Q E hr h => ?_)
  · obtain ⟨o, u, rfl, _⟩ := h
    rfl
  · obtain ⟨o, u, rfl, hW, kE⟩ := h
    refine ⟨_, pss_cons (ps_set (i := 2) scLead.nd rfl (.inl rfl) (pe_call (E := E) GC hr (by rfl) gC kC bC .nil (passes_call (takes_of rfl rfl rfl rfl) fun _ _ _ _ z => z) (pa_cons (pv 0) (pa_cons (pv 1) pa_nil)))) (pss_one ps_no), ?_⟩
    exact ⟨_, rfl, _, rfl, o, u, rfl, hW, kE⟩
end
end K02
/-! +, |, & and at_most of growths that have too many gains in common -/
namespace K02
open PySem L2 Evl Gr ClX OpX StX OwX StM
def spWideO (K : PySem.W.Frag) (C cM : Addr) : Sp := fun vs H _ E => ∃ o u up, vs = [.ref o, .ref u, .bl up] ∧ Wide2 K C H o u ∧ OutG cM H E
abbrev nFirstAb : List Str := ["one", "other", "gaps", "at", "gap", "lead", "length"]
theorem scFirstAb : FnScope nFirstAb ["one", "other"] (defScope sFirstAb) := ⟨rfl, rfl, rfl, by decide +kernel, rfl, by decide +kernel, by decide +kernel⟩
theorem wide_one {K : PySem.W.Frag} {C o u : Addr} {H : Hp} (hW : Wide2 K C H o u) : ∃ t g, GrAt K C H u t g := by
  obtain ⟨t, g, t', g', hO, hU, _⟩ := hW.ex
  exact ⟨t', g', hU⟩
section
variable {P : Program} {w : World} {K : PySem.W.Frag} {mg : Str → Option Value} {base : Heap}
theorem far_First {C f cM : Addr} {fd : FuncData} (F : Fun K "first_number_above" "first_number_above" sFirstAb f fd) (LG : GfnX P w K mg base 4 "gaps_of" ["one", "other"] (spWideG K C cM)) :
    FnOk P w K mg base (L2.CX P w) 5 f fd ["one", "other"] (spWideG K C cM) := by
  obtain ⟨fG, fdG, GG, kG, bG, gG⟩ := LG
  refine F.okX scFirstAb (fun vs H Q E h => ?_) (fun cdv A outer s H vs Q E hr h => ?_)
  · obtain ⟨o, u, rfl, _⟩ := h
    rfl
  · obtain ⟨o, u, rfl, hW, kE⟩ := h
    refine ⟨_, pss_cons (ps_set (i := 2) scFirstAb.nd rfl (.inr rfl) (pe_call (E := E) GG hr (by rfl) gG kG bG .nil (passes_call (takes_of rfl rfl rfl rfl) fun _ _ _ _ z => z) (pa_cons (pv 0) (pa_cons (pv 1) pa_nil))))
      (pss_cons ps_no (pss_cons ps_no (pss_cons ps_no (pss_cons ps_no (pss_one ps_no))))), ?_⟩
    exact ⟨_, rfl, _, rfl, o, u, rfl, hW, kE⟩
theorem far_Above {C f cM : Addr} {mc : Value} {fd : FuncData} (F : Fun K "first_above" "Growth.first_above" (sGr 12) f fd) (N : GName K mg C mc) (G : GCls K C) (I : GIsi K C) (inst : mg "isinstance" = none) (LA : GfnX P w K mg base 5 "first_number_above" ["one", "other"] (spWideG K C cM)) :
    FnOk P w K mg base (L2.CX P w) 6 f fd ["self", "other"] (spWideG K C cM) := by
  obtain ⟨fA, fdA, GA, kA, bA, gA⟩ := LA
  refine F.okX scBadAbove (fun vs H Q E h => ?_) (fun cdv A outer s H vs Q E hr h => ?_)
  · obtain ⟨o, u, rfl, _⟩ := h
    rfl
  · obtain ⟨o, u, rfl, hW, kE⟩ := h
    refine ⟨_, pss_cons (ps_if (pt_not (pt_val (pe_callB call_isi (by rfl) inst (by decide +kernel) (pa_cons (pv 1) (pa_cons (pe_glob (v := .ref C) rfl N.g rfl) pa_nil))))) (pss_one ps_no) pss_nil)
      (pss_one (ps_ret (pe_call (E := E) GA hr (by rfl) gA kA bA .nil (passes_call (takes_of rfl rfl rfl rfl) fun _ _ _ _ z => z) (pa_cons (pv 0) (pa_cons (pv 1) pa_nil))))), ?_⟩
    obtain ⟨t', g', hU⟩ := wide_one hW
    refine q_when (b := false) (et_is (et_not (et_B (ev_isG (K := K) (σ := [some (.ref o), some (.ref u)]) (ta := tVar 1) G I (ev_var rfl) hU))) rfl) (fun z => absurd z (by decide)) fun _ H1 e1 => ?_
    exact ⟨_, rfl, _, rfl, o, u, rfl, hW.mono e1, kE.mono e1⟩
theorem far_At {C f cM fA : Addr} {fd fdA : FuncData} (F : Fun K "at_most" "Growth.at_most" (sGr 13) f fd) (cl : Cls K C) (mA : Meth K C "first_above" fA) (GA : FnOk P w K mg base (L2.CX P w) 6 fA fdA ["self", "other"] (spWideG K C cM)) (bA : Binds K fdA ["self", "other"] []) :
    FnOk P w K mg base (L2.CX P w) 7 f fd ["self", "other"] (spWideG K C cM) := by
  refine F.okX scBadAt (fun vs H Q E h => ?_) (fun cdv A outer s H vs Q E hr h => ?_)
  · obtain ⟨o, u, rfl, _⟩ := h
    rfl
  · obtain ⟨o, u, rfl, hW, kE⟩ := h
    refine ⟨_, pss_one (ps_ret (pe_cmpR op_isN (pe_meth (E := E) (pv 0) cl mA GA hr bA .nil (passes_call (takes_of rfl rfl rfl rfl) fun _ _ _ _ z => z) (pa_cons (pv 1) pa_nil)) pe_non (nomark _))), ?_⟩
    obtain ⟨t, g, t', g', hO, hU, hl⟩ := hW.ex
    have hO0 := hO
    obtain ⟨dx, p, q, r, h1, _⟩ := hO
    exact ⟨_, rfl, o, dx, _, rfl, h1, rfl, _, rfl, o, u, rfl, hW, kE⟩
theorem far_Outer {C f cM : Addr} {fd : FuncData} (F : Fun K "outer_parts" "outer_parts" sOuter f fd) (LL : GfnX P w K mg base 4 "lead_of" ["one", "other"] (spWideG K C cM)) :
    FnOk P w K mg base (L2.CX P w) 5 f fd ["one", "other", "is_greatest"] (spWideO K C cM) := by
  obtain ⟨fL, fdL, GL, kL, bL, gL⟩ := LL
  refine F.okX scOuter (fun vs H Q E h => ?_) (fun cdv A outer s H vs Q E hr h => ?_)
  · obtain ⟨o, u, up, rfl, _⟩ := h
    rfl
  · obtain ⟨o, u, up, rfl, hW, kE⟩ := h
    refine ⟨_, pss_cons (ps_set (i := 3) scOuter.nd rfl (.inl rfl) (pe_call (E := E) GL hr (by rfl) gL kL bL .nil (passes_call (takes_of rfl rfl rfl rfl) fun _ _ _ _ z => z) (pa_cons (pv 0) (pa_cons (pv 1) pa_nil))))
      (pss_cons ps_no (pss_cons ps_no (pss_cons ps_no (pss_cons ps_no (pss_cons ps_no (pss_one ps_no)))))), ?_⟩
    exact ⟨_, rfl, _, rfl, o, u, rfl, hW, kE⟩
theorem far_Add {C f cM : Addr} {mc : Value} {fd : FuncData} (F : Fun K "__add__" "Growth.__add__" (sGr 5) f fd) (N : GName K mg C mc) (G : GCls K C) (I : GIsi K C) (inst : mg "isinstance" = none) (LS : GfnX P w K mg base 4 "summed_parts" ["one", "other"] (spWideG K C cM)) :
    FnOk P w K mg base (L2.CX P w) 6 f fd ["self", "other"] (spWideG K C cM) := by
  obtain ⟨fS, fdS, GS, kS, bS, gS⟩ := LS
  refine F.okX scBadAdd (fun vs H Q E h => ?_) (fun cdv A outer s H vs Q E hr h => ?_)
  · obtain ⟨o, u, rfl, _⟩ := h
    rfl
  · obtain ⟨o, u, rfl, hW, kE⟩ := h
    refine ⟨_, pss_cons (ps_if (pt_not (pt_val (pe_callB call_isi (by rfl) inst (by decide +kernel) (pa_cons (pv 1) (pa_cons (pe_glob (v := .ref C) rfl N.g rfl) pa_nil))))) (pss_one ps_no) pss_nil)
      (pss_cons (ps_asg (pe_call (E := E) GS (hr.mono (by decide)) (by rfl) gS kS bS .nil (passes_call (takes_of rfl rfl rfl rfl) fun _ _ _ _ z => z) (pa_cons (pv 0) (pa_cons (pv 1) pa_nil))) (pg_tup rfl (pgs_cons (pg_name (i := 2) scBadAdd.nd rfl (.inl rfl)) (pgs_cons (pg_name (i := 3) scBadAdd.nd rfl (.inl rfl)) pgs_nil))))
      (pss_one ps_no)), ?_⟩
    obtain ⟨t', g', hU⟩ := wide_one hW
    refine q_when (b := false) (et_is (et_not (et_B (ev_isG (K := K) (σ := [some (.ref o), some (.ref u), none, none]) (ta := tVar 1) G I (ev_var rfl) hU))) rfl) (fun z => absurd z (by decide)) fun _ H1 e1 => ?_
    exact ⟨_, rfl, _, rfl, o, u, rfl, hW.mono e1, kE.mono e1⟩
theorem far_Or {C f cM : Addr} {mc : Value} {fd : FuncData} (F : Fun K "__or__" "Growth.__or__" (sGr 6) f fd) (N : GName K mg C mc) (G : GCls K C) (I : GIsi K C) (inst : mg "isinstance" = none) (LO : GfnX P w K mg base 5 "outer_parts" ["one", "other", "is_greatest"] (spWideO K C cM)) :
    FnOk P w K mg base (L2.CX P w) 6 f fd ["self", "other"] (spWideG K C cM) := by
  obtain ⟨fS, fdS, GS, kS, bS, gS⟩ := LO
  refine F.okX scBadOr (fun vs H Q E h => ?_) (fun cdv A outer s H vs Q E hr h => ?_)
  · obtain ⟨o, u, rfl, _⟩ := h
    rfl
  · obtain ⟨o, u, rfl, hW, kE⟩ := h
    refine ⟨_, pss_cons (ps_if (pt_not (pt_val (pe_callB call_isi (by rfl) inst (by decide +kernel) (pa_cons (pv 1) (pa_cons (pe_glob (v := .ref C) rfl N.g rfl) pa_nil))))) (pss_one ps_no) pss_nil)
      (pss_cons (ps_asg (pe_call (E := E) GS (hr.mono (by decide)) (by rfl) gS kS bS .nil (passes_call (takes_of rfl rfl rfl rfl) fun _ _ _ _ z => z) (pa_cons (pv 0) (pa_cons (pv 1) (pa_cons pe_bl pa_nil)))) (pg_tup rfl (pgs_cons (pg_name (i := 2) scBadOr.nd rfl (.inl rfl)) (pgs_cons (pg_name (i := 3) scBadOr.nd rfl (.inl rfl)) pgs_nil))))
      (pss_one ps_no)), ?_⟩
    obtain ⟨t', g', hU⟩ := wide_one hW
    refine q_when (b := false) (et_is (et_not (et_B (ev_isG (K := K) (σ := [some (.ref o), some (.ref u), none, none]) (ta := tVar 1) G I (ev_var rfl) hU))) rfl) (fun z => absurd z (by decide)) fun _ H1 e1 => ?_
    exact ⟨_, rfl, _, rfl, o, u, true, rfl, hW.mono e1, kE.mono e1⟩
end
end K02
namespace Gr
/-- the values of one at those of another -/
def cmp (f h : Nat → Int) (n : Nat) : Int := f (h n).toNat
theorem val_add {t g : List Int} (t0 : 0 < t.length) {x : Nat} (hx : t.length - 1 ≤ x) (j : Nat) : val t g (x + j * g.length) = val t g x + (j : Int) * acc (dif g) g.length := by
  obtain ⟨k, rfl⟩ : ∃ k, x = t.length - 1 + k := ⟨x - (t.length - 1), by omega⟩
  rw [Nat.add_assoc, val_ge t0, val_ge t0, Nat.add_comm k, acc_mul dif_pd]
  omega
theorem val_up {t g : List Int} (t0 : 0 < t.length) (g0 : 0 < g.length) (pos : ∀ i, i < g.length → 0 ≤ at' g i) {x : Nat} (hx : t.length - 1 ≤ x) : ∀ k, val t g x ≤ val t g (x + k)
  | 0 => Int.le_refl _
  | k + 1 => by
    have ih := val_up t0 g0 pos hx k
    have r := rise_ge (g := g) t0 (n := x + k) (by omega)
    unfold rise at r
    have p := pos _ (Nat.mod_lt (x + k - (t.length - 1)) g0)
    have e : dif g (x + k - (t.length - 1)) = at' g ((x + k - (t.length - 1)) % g.length) := rfl
    rw [Nat.add_assoc] at r
    rw [e] at r
    show val t g x ≤ val t g (x + (k + 1))
    omega
theorem toNat_add {x : Int} (h : 0 ≤ x) {y : Nat} : (x + (y : Int)).toNat = x.toNat + y := by omega
/-- the rises of the one at the other come round -/
theorem cmp_per {t g t' g' : List Int} (t0 : 0 < t.length) (t0' : 0 < t'.length) (g0' : 0 < g'.length) (pos' : ∀ i, i < g'.length → 0 ≤ at' g' i) {b T j : Nat} (hb : t'.length ≤ b) (hv : (t.length : Int) - 1 ≤ val t' g' (b - 1))
    (hT : (T : Int) * acc (dif g') g'.length = ((j * g.length : Nat) : Int)) (n : Nat) (hn : b - 1 ≤ n) :
    cmp (val t g) (val t' g') (n + T * g'.length) = cmp (val t g) (val t' g') n + (j : Int) * acc (dif g) g.length := by
  have up : ∀ m, b - 1 ≤ m → (t.length : Int) - 1 ≤ val t' g' m := fun m hm => by
    have := val_up t0' g0' pos' (x := b - 1) (by omega) (m - (b - 1))
    rw [show b - 1 + (m - (b - 1)) = m by omega] at this
    omega
  have u := up n hn
  unfold cmp
  rw [val_add t0' (by omega) T, hT, toNat_add (by omega), val_add t0 (by omega) j]
theorem cmp_rise {t g t' g' : List Int} (t0 : 0 < t.length) (t0' : 0 < t'.length) (g0' : 0 < g'.length) (pos' : ∀ i, i < g'.length → 0 ≤ at' g' i) {b T j : Nat} (hb : t'.length ≤ b) (hv : (t.length : Int) - 1 ≤ val t' g' (b - 1))
    (hT : (T : Int) * acc (dif g') g'.length = ((j * g.length : Nat) : Int)) (n : Nat) (hn : b - 1 ≤ n) :
    cmp (val t g) (val t' g') (n + T * g'.length + 1) - cmp (val t g) (val t' g') (n + T * g'.length) = cmp (val t g) (val t' g') (n + 1) - cmp (val t g) (val t' g') n := by
  have a := cmp_per t0 t0' g0' pos' hb hv hT n hn
  have c := cmp_per t0 t0' g0' pos' hb hv hT (n + 1) (by omega)
  rw [show n + 1 + T * g'.length = n + T * g'.length + 1 by omega] at c
  omega
/-- gains whose sum is nothing -/
theorem acc_nn {g : List Int} (g0 : 0 < g.length) (pos : ∀ i, i < g.length → 0 ≤ at' g i) : ∀ k, 0 ≤ acc (dif g) k
  | 0 => Int.le_refl 0
  | k + 1 => by
    have ih := acc_nn g0 pos k
    have p := pos _ (Nat.mod_lt k g0)
    show 0 ≤ acc (dif g) k + at' g (k % g.length)
    omega
theorem acc_up {g : List Int} (g0 : 0 < g.length) (pos : ∀ i, i < g.length → 0 ≤ at' g i) (k : Nat) : ∀ m, acc (dif g) k ≤ acc (dif g) (k + m)
  | 0 => Int.le_refl _
  | m + 1 => by
    have ih := acc_up g0 pos k m
    have p := pos _ (Nat.mod_lt (k + m) g0)
    show acc (dif g) k ≤ acc (dif g) (k + m) + at' g ((k + m) % g.length)
    omega
theorem val_flat {t g : List Int} (t0 : 0 < t.length) (g0 : 0 < g.length) (pos : ∀ i, i < g.length → 0 ≤ at' g i) (z : acc (dif g) g.length = 0) {n : Nat} (hn : t.length - 1 ≤ n) : val t g n = lst t := by
  obtain ⟨k, rfl⟩ : ∃ k, n = t.length - 1 + k := ⟨n - (t.length - 1), by omega⟩
  rw [val_ge t0]
  have e := Nat.mod_add_div k g.length
  have a : acc (dif g) k = acc (dif g) (k % g.length) := by
    have := acc_mul (d := dif g) (p := g.length) dif_pd (k / g.length) (k % g.length)
    rw [z, Int.mul_zero, Int.zero_add, Nat.mul_comm, Nat.add_comm, e] at this
    exact this
  have l := Nat.mod_lt k g0
  have b := acc_up g0 pos (k % g.length) (g.length - k % g.length)
  rw [show k % g.length + (g.length - k % g.length) = g.length by omega, z] at b
  have c := acc_nn g0 pos (k % g.length)
  omega
theorem cmp_flat {t g t' g' : List Int} (t0' : 0 < t'.length) (g0' : 0 < g'.length) (pos' : ∀ i, i < g'.length → 0 ≤ at' g' i) (z : acc (dif g') g'.length = 0) (n : Nat) :
    val (t'.map fun v => val t g v.toNat) [0] n = cmp (val t g) (val t' g') n := by
  have len : (t'.map fun v => val t g v.toNat).length = t'.length := List.length_map _
  have at_ : ∀ i, i < t'.length → at' (t'.map fun v => val t g v.toNat) i = val t g (at' t' i).toNat := fun i hi => by
    unfold at'
    rw [List.getD_eq_getElem?_getD, List.getD_eq_getElem?_getD, List.getElem?_map, List.getElem?_eq_getElem hi]
    rfl
  unfold cmp
  rcases Nat.lt_or_ge n t'.length with h | h
  · rw [val_lt (by rw [len]; exact h), at_ n h, val_lt h]
  · rw [val_flat (t := t'.map fun v => val t g v.toNat) (g := [0]) (by rw [len]; exact t0') Nat.one_pos (fun i hi => by
      have : i = 0 := by
        have : i < 1 := hi
        omega
      subst this
      exact Int.le_refl 0) rfl (by rw [len]; omega), val_flat t0' g0' pos' z (by omega)]
    unfold lst
    rw [len, at_ _ (by omega)]
/-- how far the other must go until the one's gains are reached -/
theorem reach {t' g' : List Int} (t0' : 0 < t'.length) (g0' : 0 < g'.length) (pt : ∀ i, i < t'.length → 0 ≤ at' t' i) (s : 0 < acc (dif g') g'.length) (a : Nat) : (a : Int) ≤ val t' g' (t'.length - 1 + a * g'.length) := by
  rw [val_add t0' (Nat.le_refl _) a, val_lt (by omega)]
  have p := pt (t'.length - 1) (by omega)
  have q : (a : Int) * 1 ≤ (a : Int) * acc (dif g') g'.length := Int.mul_le_mul_of_nonneg_left (by omega) (by omega)
  omega
end Gr
namespace Gr
/-- values that some told ones (a at most) and some gains (their number divides l, none above r) give -/
def Fm (f : Nat → Int) (a l r : Nat) : Prop := ∃ t g : List Int, 0 < t.length ∧ t.length ≤ a ∧ 0 < g.length ∧ g.length ∣ l ∧ (∀ i, i < g.length → 0 ≤ at' g i ∧ at' g i ≤ (r : Int)) ∧ (∀ i, i < t.length → 0 ≤ at' t i) ∧ ∀ n, val t g n = f n
theorem val_nn {t g : List Int} (t0 : 0 < t.length) (g0 : 0 < g.length) (pos : ∀ i, i < g.length → 0 ≤ at' g i) (pt : ∀ i, i < t.length → 0 ≤ at' t i) (n : Nat) : 0 ≤ val t g n := by
  rcases Nat.lt_or_ge n t.length with h | h
  · rw [val_lt h]
    exact pt n h
  · have := val_up t0 g0 pos (x := t.length - 1) (Nat.le_refl _) (n - (t.length - 1))
    rw [show t.length - 1 + (n - (t.length - 1)) = n by omega, val_lt (by omega)] at this
    have p := pt (t.length - 1) (by omega)
    omega
theorem Fm.nn {f : Nat → Int} {a l r : Nat} (h : Fm f a l r) (n : Nat) : 0 ≤ f n := by
  obtain ⟨t, g, t0, _, g0, _, bg, pt, e⟩ := h
  rw [← e]
  exact val_nn t0 g0 (fun i hi => (bg i hi).1) pt n
theorem Fm.tail {f : Nat → Int} {a l r : Nat} (h : Fm f a l r) : Tail f (r : Int) := by
  obtain ⟨t, g, t0, _, g0, _, bg, _, e⟩ := h
  have z : val t g = f := funext e
  rw [← z]
  exact tail_val t0 g0 bg
theorem Fm.per {f : Nat → Int} {a l r : Nat} (h : Fm f a l r) {k : Nat} (hk : l ∣ k) : PerT f k := by
  obtain ⟨t, g, t0, _, g0, d, _, _, e⟩ := h
  have z : val t g = f := funext e
  rw [← z]
  exact perT_val t0 (Nat.dvd_trans d hk)
theorem Fm.mono {f : Nat → Int} {a l r a' l' r' : Nat} (h : Fm f a l r) (ha : a ≤ a') (hl : l ∣ l') (hr : r ≤ r') : Fm f a' l' r' := by
  obtain ⟨t, g, t0, t1, g0, d, bg, pt, e⟩ := h
  exact ⟨t, g, t0, Nat.le_trans t1 ha, g0, Nat.dvd_trans d hl, fun i hi => ⟨(bg i hi).1, Int.le_trans (bg i hi).2 (by omega)⟩, pt, e⟩
theorem Fm.nf {f : Nat → Int} {a l r : Nat} (h : Fm f a l r) {t g : List Int} (nf : NF t g) (e : ∀ n, val t g n = f n) : t.length ≤ a ∧ g.length ∣ l ∧ ∀ i, i < g.length → 0 ≤ at' g i ∧ at' g i ≤ (r : Int) := by
  refine ⟨?_, nf_dvd nf e (h.per (Nat.dvd_refl l)), fun i hi => gains_tail nf.told e h.tail i hi⟩
  obtain ⟨t', g', t0, t1, g0, d, bg, pt, e'⟩ := h
  refine Nat.le_trans ?_ t1
  have dv : g.length ∣ g'.length := nf_dvd nf (fun n => (e n).trans (e' n).symm) (perT_val t0 (Nat.dvd_refl _))
  have ee : ∀ n, val t g n = val t' g' n := fun n => (e n).trans (e' n).symm
  rcases Nat.lt_or_ge t'.length t.length with hl | hl
  · exfalso
    rcases nf.few with z | z
    · omega
    · apply z
      have a : rise t g (t.length - 2) = at' t (t.length - 1) - at' t (t.length - 2) := by
        unfold rise
        rw [show t.length - 2 + 1 = t.length - 1 by omega, val_lt (by omega), val_lt (by omega)]
      obtain ⟨c, hc⟩ := dv
      have g1 := nf.gains
      have c0 : 0 < c := Nat.pos_of_ne_zero fun z => by
        rw [z, Nat.mul_zero] at hc
        omega
      have b : rise t g (t.length - 2 + g'.length) = lst g := by
        rw [rise_ge nf.told (by omega), show t.length - 2 + g'.length - (t.length - 1) = g'.length - 1 by omega]
        have : g'.length - 1 = g.length - 1 + (c - 1) * g.length := by
          obtain ⟨d, rfl⟩ : ∃ d, c = d + 1 := ⟨c - 1, by omega⟩
          rw [hc, Nat.mul_comm, Nat.succ_mul, Nat.add_sub_cancel]
          omega
        rw [this, dif_pd.mul, dif_lt (by omega)]
        rfl
      have p : rise t' g' (t.length - 2 + g'.length) = rise t' g' (t.length - 2) := rise_pd t0 (Nat.dvd_refl _) (by omega)
      have re : ∀ n, rise t g n = rise t' g' n := fun n => by unfold rise; rw [ee, ee]
      rw [← a, ← b, re, re]
      exact p.symm
  · exact hl
theorem val_most {t g : List Int} {r : Nat} (t0 : 0 < t.length) (g0 : 0 < g.length) (bg : ∀ i, i < g.length → 0 ≤ at' g i ∧ at' g i ≤ (r : Int)) {x : Nat} (hx : t.length - 1 ≤ x) : ∀ d : Nat, val t g (x + d) - val t g x ≤ ((d * r : Nat) : Int)
  | 0 => by
    rw [Nat.zero_mul]
    show val t g x - val t g x ≤ 0
    omega
  | d + 1 => by
    have ih := val_most t0 g0 bg hx d
    have q := rise_ge (g := g) t0 (n := x + d) (by omega)
    unfold rise at q
    have p := (bg _ (Nat.mod_lt (x + d - (t.length - 1)) g0)).2
    have e : dif g (x + d - (t.length - 1)) = at' g ((x + d - (t.length - 1)) % g.length) := rfl
    rw [e] at q
    rw [Nat.succ_mul]
    show val t g (x + d + 1) - val t g x ≤ ((d * r + r : Nat) : Int)
    omega
/-- what the greatest common divisor makes of two numbers -/
theorem gcd_turn {L S : Nat} (hL : 0 < L) : L / Nat.gcd L S * S = S / Nat.gcd L S * L := by
  obtain ⟨p, hp⟩ := Nat.gcd_dvd_left L S
  obtain ⟨q, hq⟩ := Nat.gcd_dvd_right L S
  have g0 := Nat.gcd_pos_of_pos_left S hL
  have e1 : L / Nat.gcd L S = p := Nat.div_eq_of_eq_mul_right g0 hp
  have e2 : S / Nat.gcd L S = q := Nat.div_eq_of_eq_mul_right g0 hq
  rw [e1, e2]
  calc p * S = p * (Nat.gcd L S * q) := by rw [← hq]
    _ = q * (Nat.gcd L S * p) := by rw [Nat.mul_left_comm, Nat.mul_comm p q, Nat.mul_left_comm q]
    _ = q * L := by rw [← hp]
theorem gcd_turn_dvd {L S : Nat} : L / Nat.gcd L S ∣ L := Nat.div_dvd_of_dvd (Nat.gcd_dvd_left L S)
/-- the values of the one at the other's, once more such -/
theorem Fm.cmp {f h : Nat → Int} {a l r a' l' r' : Nat} (hf : Fm f a l r) (hh : Fm h a' l' r') (l0' : 0 < l') : Fm (cmp f h) (a' + a * l') (l' * l) (r' * r) := by
  obtain ⟨t, g, t0, t1, g0, d, bg, pt, e⟩ := hf
  obtain ⟨t', g', t0', t1', g0', d', bg', pt', e'⟩ := hh
  have ef : val t g = f := funext e
  have eh : val t' g' = h := funext e'
  have pos := fun i hi => (bg i hi).1
  have pos' := fun i hi => (bg' i hi).1
  have nnF : ∀ n, 0 ≤ Gr.cmp f h n := fun n => by
    unfold Gr.cmp
    rw [← ef]
    exact val_nn t0 g0 pos pt _
  have s0 := acc_nn g0' pos' g'.length
  rcases Int.lt_or_le 0 (acc (dif g') g'.length) with s | s
  · obtain ⟨S, hS⟩ := Int.eq_ofNat_of_zero_le s0
    have T0 : 0 < g.length / Nat.gcd g.length S := Nat.div_pos (Nat.le_of_dvd g0 (Nat.gcd_dvd_left _ _)) (Nat.gcd_pos_of_pos_left _ g0)
    have gl : g'.length ≤ l' := Nat.le_of_dvd l0' d'
    have hT : ((g.length / Nat.gcd g.length S : Nat) : Int) * acc (dif g') g'.length = ((S / Nat.gcd g.length S * g.length : Nat) : Int) := by
      rw [hS, ← gcd_turn g0]
      rfl
    have rc := reach t0' g0' pt' s t.length
    have hv : (t.length : Int) - 1 ≤ val t' g' (t'.length + t.length * g'.length - 1) := by
      rw [show t'.length + t.length * g'.length - 1 = t'.length - 1 + t.length * g'.length by omega]
      omega
    have rise_ := cmp_rise t0 t0' g0' pos' (b := t'.length + t.length * g'.length) (by omega) hv hT
    rw [ef, eh] at rise_
    refine ⟨pT (Gr.cmp f h) (t'.length + t.length * g'.length), pG (Gr.cmp f h) (t'.length + t.length * g'.length) (g.length / Nat.gcd g.length S * g'.length), by rw [pT_len]; omega, ?_, by rw [pG_len]; exact Nat.mul_pos T0 g0', ?_, fun i hi => ?_, fun i hi => ?_, val_parted (by omega) (Nat.mul_pos T0 g0') rise_⟩
    · rw [pT_len]
      exact Nat.add_le_add t1' (Nat.mul_le_mul t1 gl)
    · rw [pG_len, Nat.mul_comm]
      exact Nat.mul_dvd_mul d' (Nat.dvd_trans gcd_turn_dvd d)
    · rw [pG_len] at hi
      have ea : at' (pG (Gr.cmp f h) (t'.length + t.length * g'.length) (g.length / Nat.gcd g.length S * g'.length)) i = Gr.cmp f h (t'.length + t.length * g'.length + i) - Gr.cmp f h (t'.length + t.length * g'.length + i - 1) := at_map_range hi
      rw [ea]
      obtain ⟨n, hn⟩ : ∃ n, n = t'.length + t.length * g'.length + i - 1 := ⟨_, rfl⟩
      rw [← hn, show t'.length + t.length * g'.length + i = n + 1 by omega]
      have up := val_up t0' g0' pos' (x := t'.length + t.length * g'.length - 1) (by omega) (n - (t'.length + t.length * g'.length - 1))
      rw [show t'.length + t.length * g'.length - 1 + (n - (t'.length + t.length * g'.length - 1)) = n by omega] at up
      have r1 := val_up t0' g0' pos' (x := n) (by omega) 1
      have r2 := val_most t0' g0' bg' (x := n) (by omega) 1
      rw [Nat.one_mul] at r2
      unfold Gr.cmp
      rw [← ef, ← eh]
      obtain ⟨k, hk⟩ : ∃ k : Nat, (val t' g' (n + 1)).toNat = (val t' g' n).toNat + k := ⟨(val t' g' (n + 1)).toNat - (val t' g' n).toNat, by omega⟩
      have kr : k ≤ r' := by omega
      rw [hk]
      have a1 := val_up t0 g0 pos (x := (val t' g' n).toNat) (by omega) k
      have a2 := val_most t0 g0 bg (x := (val t' g' n).toNat) (by omega) k
      have a3 : k * r ≤ r' * r := Nat.mul_le_mul_right r kr
      omega
    · rw [pT_len] at hi
      rw [pT_at hi]
      exact nnF i
  · have z : acc (dif g') g'.length = 0 := by omega
    refine ⟨t'.map fun v => val t g v.toNat, [0], by rw [List.length_map]; exact t0', by rw [List.length_map]; exact Nat.le_trans t1' (Nat.le_add_right _ _), Nat.one_pos, Nat.one_dvd _, fun i hi => ?_, fun i hi => ?_, fun n => ?_⟩
    · have : i = 0 := by
        have : i < 1 := hi
        omega
      subst this
      show (0 : Int) ≤ 0 ∧ (0 : Int) ≤ _
      omega
    · rw [List.length_map] at hi
      unfold at'
      rw [List.getD_eq_getElem?_getD, List.getElem?_map, List.getElem?_eq_getElem hi]
      exact val_nn t0 g0 pos pt _
    · rw [cmp_flat t0' g0' pos' z, ef, eh]
end Gr
namespace K02
open PySem L2 Evl Gr ClX OpX StX OwX StM
theorem tup_iA {t : TA} {σ : L2.St} {H : Hp} {Q : VK} (h : t σ H fun xs H1 => xs.length ≤ sizeLine ∧ ∀ l, H1 l = none → Q (.ref l) (upd H1 l (.tup xs))) : tTup t σ H Q := h
theorem call_i {sp : Sp} {dvs : List V} {E : XK} {ta : TA} {σ : L2.St} {H : Hp} {Q : VK} (h : ta σ H fun vs H1 => sp (vs ++ dvs) H1 Q E) : tCall sp dvs E ta σ H Q := h
theorem s_retA {te : TE} {σ : L2.St} {H : Hp} {D : Ends} (h : te σ H D.rt) : tRet te D σ H := h
theorem rc_gcd {a b : Nat} {H : Hp} : RC rGcd [.int (a : Int), .int (b : Int)] H (.int ((Nat.gcd a b : Nat) : Int)) := fun H1 _ Q q => ⟨_, _, rfl, by rw [Int.natAbs_natCast, Int.natAbs_natCast]; exact q H1 (Ex.refl H1)⟩
section
variable {P : Program} {w : World} {K : PySem.W.Frag} {mg : Str → Option Value} {base : Heap}
/-! ### composed_parts -/
abbrev sComp : Stmt := top 31
abbrev nComp : List Str := ["one", "other", "turns", "length", "values", "begin", "value"]
theorem scComp : FnScope nComp ["one", "other"] (defScope sComp) := ⟨rfl, rfl, rfl, by decide +kernel, rfl, by decide +kernel, by decide +kernel⟩
def spComp (K : PySem.W.Frag) (C : Addr) : Sp := fun vs H Q _ => ∃ (o u : Addr) (t g t' g' : List Int), vs = [.ref o, .ref u] ∧ GrAt K C H o t g ∧ GrAt K C H u t' g' ∧ Pos t' ∧ g'.length * g.length ≤ 2000 ∧ t'.length + t.length * g'.length ≤ 2000 ∧
  ∀ r p q ts gs H', Ex H H' → SqT K H' r [.ref p, .ref q] → Sq K H' p (vI ts) → Sq K H' q (vI gs) → 0 < ts.length → ts.length ≤ 2000 → 0 < gs.length → gs.length ≤ 2000 → (∀ n, val ts gs n = cmp (val t g) (val t' g') n) → Q (.ref r) H'
theorem ok_Comp {C f fV fF fP : Addr} {fd fdV fdF fdP : FuncData} (F : Fun K "composed_parts" "composed_parts" sComp f fd) (T : GlbS mg) (gcd_ : mg "gcd" = some (.builtin "math.gcd")) (most : ∃ t, mg "MOST_PARTS" = some (.int 2000 t)) (G : GCls K C)
    (GV : FnOk P w K mg base CX0 1 fV fdV ["one", "n"] (spVal K C)) (kV : PySem.W.keepIn K (.ref fV) = true) (bV : Binds K fdV ["one", "n"] []) (gV : mg "value_at" = some (.ref fV))
    (GF : FnOk P w K mg base CX0 1 fF fdF ["one", "many"] (spFirst K C)) (kF : PySem.W.keepIn K (.ref fF) = true) (bF : Binds K fdF ["one", "many"] []) (gF : mg "first_values" = some (.ref fF))
    (GP : FnOk P w K mg base CX0 1 fP fdP ["values", "many"] (spPart K)) (kP : PySem.W.keepIn K (.ref fP) = true) (bP : Binds K fdP ["values", "many"] []) (gP : mg "parted" = some (.ref fP)) :
    FnOk P w K mg base CX0 2 f fd ["one", "other"] (spComp K C) := by
  obtain ⟨mt, gm⟩ := most
  refine F.ok scComp (fun vs H Q E h => ?_) (fun cdv A outer s H vs Q E hr h => ?_)
  · obtain ⟨o, u, t, g, t', g', rfl, _⟩ := h
    rfl
  · obtain ⟨o, u, t, g, t', g', rfl, hO, hU, pt', few, near, k⟩ := h
    refine ⟨_, pss_cons (ps_if (pt_cmpR op_eq (pe_ix ix_seq (pe_fld (pv 1) rfl) (pe_un un_neg pe_int) (fun _ _ => rfl)) pe_int (nomark _))
        (pss_one (ps_ret (pe_tup (pa_cons (pe_lc (own := [("value", 6)]) (g := gName 6) rfl scComp.nd (pi_seq (pe_fld (pv 1) rfl)) (blkOk_by (own := [("value", 6)]) (N := nComp) (sc := defScope sComp) (by decide +kernel))
              (fun _ _ _ _ _ => pg_name (i := 6) scComp.nd rfl (Or.inl rfl)) (fun _ _ _ _ _ => pts_nil) (fun _ _ _ _ _ => pe_call GV hr (by rfl) gV kV bV .nil pass0 (pa_cons (pv 0) (pa_cons (pv 6) pa_nil))))
            (pa_cons (pe_tup (pa_cons pe_int pa_nil)) pa_nil))))) pss_nil)
      (pss_cons (ps_set (i := 2) scComp.nd rfl (.inl rfl) (pe_op op_fdiv (pe_callB call_len_seq (by rfl) T.len PySem.boot_len (pa_cons (pe_fld (pv 0) rfl) pa_nil)) (pe_callBfun cr_gcd (by rfl) gcd_ (pa_cons (pe_callB call_len_seq (by rfl) T.len PySem.boot_len (pa_cons (pe_fld (pv 0) rfl) pa_nil)) (pa_cons (pe_ix ix_seq (pe_fld (pv 1) rfl) (pe_un un_neg pe_int) (fun _ _ => rfl)) pa_nil)))))
      (pss_cons (ps_set (i := 3) scComp.nd rfl (.inl rfl) (pe_op op_mul (pe_callB call_len_seq (by rfl) T.len PySem.boot_len (pa_cons (pe_fld (pv 1) rfl) pa_nil)) (pv 2)))
      (pss_cons (ps_if (pt_cmpR op_gt (pv 3) (pe_glob (v := .int 2000) (by rfl) gm ⟨_, rfl⟩) (nomark _)) (pss_one ps_no) pss_nil)
      (pss_cons (ps_set (i := 4) scComp.nd rfl (.inl rfl) (pe_call GF hr (by rfl) gF kF bF .nil pass0 (pa_cons (pv 1) (pa_cons (pe_glob (v := .int 2000) (by rfl) gm ⟨_, rfl⟩) pa_nil))))
      (pss_cons (ps_set (i := 5) scComp.nd rfl (.inl rfl) (pe_callB call_len_seq (by rfl) T.len PySem.boot_len (pa_cons (pe_fld (pv 1) rfl) pa_nil)))
      (pss_cons (ps_while PassesOwn.never (PW.pt (pw_and (pt_cmpR op_le (pv 5) (pe_glob (v := .int 2000) (by rfl) gm ⟨_, rfl⟩) (nomark _)) (pw_and1 (pt_cmpR op_lt (pe_ix ix_list (pv 4) (pe_op op_sub (pv 5) pe_int) (fun _ _ => rfl)) (pe_op op_sub (pe_callB call_len_seq (by rfl) T.len PySem.boot_len (pa_cons (pe_fld (pv 0) rfl) pa_nil)) pe_int) (nomark _)))))
          (pss_one (ps_aug (i := 5) scComp.nd rfl (.inl rfl) pe_int ip_add)))
      (pss_cons (ps_if (pt_cmpR op_gt (pv 5) (pe_glob (v := .int 2000) (by rfl) gm ⟨_, rfl⟩) (nomark _)) (pss_one ps_no) pss_nil)
      (pss_one (ps_ret (pe_call GP hr (by rfl) gP kP bP .nil pass0 (pa_cons (pe_lc (own := [("value", 6)]) (g := gName 6) rfl scComp.nd (pi_list (pe_call GF hr (by rfl) gF kF bF .nil pass0 (pa_cons (pv 1) (pa_cons (pe_op op_add (pv 5) (pv 3)) pa_nil)))) (blkOk_by (own := [("value", 6)]) (N := nComp) (sc := defScope sComp) (by decide +kernel))
              (fun _ _ _ _ _ => pg_name (i := 6) scComp.nd rfl (Or.inl rfl)) (fun _ _ _ _ _ => pts_nil) (fun _ _ _ _ _ => pe_call GV hr (by rfl) gV kV bV .nil pass0 (pa_cons (pv 0) (pa_cons (pv 6) pa_nil)))) (pa_cons (pv 5) pa_nil)))))))))))), ?_⟩
    have hO0 := hO
    have hU0 := hU
    obtain ⟨dx, p, q, r, h1, h2, h3, h4, nf, t2, g2, sm⟩ := hO
    obtain ⟨dx', p', q', r', h1', h2', h3', h4', nf', t2', g2', sm'⟩ := hU
    have t0 := nf.told
    have g0 := nf.gains
    have t0' := nf'.told
    have g0' := nf'.gains
    have pos' := fun i hi => (sm' i hi).1
    obtain ⟨S, hS⟩ := Int.eq_ofNat_of_zero_le (acc_nn g0' pos' g'.length)
    have evS : ∀ {σ : L2.St} {H' : Hp}, σ[1]? = some (some (.ref u)) → Ex H H' → Ev (tOp (rIx K) (tFld K (tVar 1) "rises") (tUn (rU fun i => .int (-i)) (tC (.int 1)))) σ H' (.int (S : Int)) := fun {σ H'} h0 e => by
      refine ev_op (ev_fld (ev_var h0) (e _ _ h1') G.cls G.rises rfl) (ev_un ev_c ru_neg) (rv_ix (v := .int (S : Int)) (.inr (ex_t e h4')) ?_)
      have rl := ris_len (g := g')
      have z := atI_vlast (g := ris g') (by omega)
      rw [ris_at (by omega), show (ris g').length - 1 = g'.length by omega, hS] at z
      exact z
    have lenO : ∀ {σ : L2.St} {H' : Hp}, σ[0]? = some (some (.ref o)) → Ex H H' → Ev (tCB (fun xs H Q => ∃ p ys, xs = [V.ref p] ∧ (SqL K H p ys ∨ SqT K H p ys) ∧ Q (.int ys.length) H) (tCons (tFld K (tVar 0) "gains") tNil)) σ H' (.int (g.length : Int)) := fun h0 e => ev_lenF (ev_var h0) (e _ _ h1) G.cls G.gains rfl (ex_t e h3)
    have inner : ∀ {σ : L2.St} {H' : Hp} {x : Int}, σ[0]? = some (some (.ref o)) → σ[6]? = some (some (.int x)) → 0 ≤ x → Ex H H' → Ev (tCall (spVal K C) [] E0 (tCons (tVar 0) (tCons (tVar 6) tNil))) σ H' (.int (val t g x.toNat)) := fun {σ H' x} h0 h6 hx e H1 e1 Q1 q1 =>
      ⟨_, h0, _, h6, o, x.toNat, t, g, by rw [Int.toNat_of_nonneg hx]; rfl, hO0.mono (e.trans e1), q1⟩
    refine q_when (et_test (ev_op (evS rfl (Ex.refl H)) ev_c (rv_eq rfl))) (fun hb H1 e1 => ?_) (fun hb H1 e1 => ?_)
    · have z : S = 0 := by
        have := V.int.inj (of_decide_eq_true hb)
        omega
      subst z
      have L := el_lcQ (K := K) (σ := [some (.ref o), some (.ref u), none, none, none, none, none]) (H := H1) (te := tCall (spVal K C) [] E0 (tCons (tVar 0) (tCons (tVar 6) tNil))) (tl := tFld K (tVar 1) "told") (j := 6) (vs := [6]) (fun i => V.int (val t g (at' t' i).toNat))
        (ev_fld (ev_var rfl) (e1 _ _ h1') G.cls G.told rfl) (.inr (ex_t e1 h2')) (by rw [vI_len]; omega) (fun _ => rfl) (fun i x H2 e2 hx => by
          have hi : i < t'.length := by
            have := (List.getElem?_eq_some_iff.mp hx).1
            rwa [vI_len] at this
          rw [vI_get hi] at hx
          obtain rfl := Option.some.inj hx
          exact inner rfl rfl (pt' i hi) (e1.trans e2))
      have ee : (List.range (vI t').length).map (fun i => V.int (val t g (at' t' i).toNat)) = vI (t'.map fun v => val t g v.toNat) := by
        unfold vI
        rw [List.map_map]
        refine List.ext_getElem (by rw [List.length_map, List.length_range, List.length_map, List.length_map]) fun i a1 a2 => ?_
        rw [List.length_map] at a2
        rw [List.getElem_map, List.getElem_map, List.getElem_range]
        show V.int (val t g (at' t' i).toNat) = V.int (val t g (t'[i]).toNat)
        unfold at'
        rw [List.getD_eq_getElem?_getD, List.getElem?_eq_getElem a2]
        rfl
      rw [ee] at L
      refine s_retA (tup_iA (cons_i (L H1 (Ex.refl H1) _ fun a H2 ha e2 ha2 => cons_i (tup_iA (cons_i (c_i ⟨by show 1 ≤ sizeLine; decide, fun b hb => ⟨by show 2 ≤ sizeLine; decide, fun rr hr => ?_⟩⟩))))))
      have e3 := Ex.new (o := .tup [V.int 0]) hb
      have e4 := Ex.new (o := .tup [V.ref a, V.ref b]) hr
      exact k rr a b (t'.map fun v => val t g v.toNat) [0] _ ((e1.trans e2).trans (e3.trans e4)) (st_of upd_same) (.inl (sq_of (e4 _ _ (e3 _ _ ha2)))) (.inr (st_of (e4 _ _ upd_same))) (by rw [List.length_map]; exact t0') (by rw [List.length_map]; exact t2') (by decide) (by decide)
        (cmp_flat t0' g0' pos' (by rw [hS]; rfl))
    · have s1 : 0 < S := Nat.pos_of_ne_zero fun z => by
        subst z
        exact absurd (of_decide_eq_false hb) (fun h => h rfl)
      obtain ⟨T, hT⟩ : ∃ T, T = g.length / Nat.gcd g.length S := ⟨_, rfl⟩
      have gg := Nat.gcd_pos_of_pos_left S g0
      have gle : Nat.gcd g.length S ≤ g.length := Nat.le_of_dvd g0 (Nat.gcd_dvd_left _ _)
      have T0 : 0 < T := by rw [hT]; exact Nat.div_pos gle gg
      have Tle : T ≤ g.length := by rw [hT]; exact Nat.div_le_self _ _
      have M2 : g'.length * T ≤ 2000 := Nat.le_trans (Nat.mul_le_mul_left _ Tle) few
      have M0 : 0 < T * g'.length := Nat.mul_pos T0 g0'
      have M2' : T * g'.length ≤ 2000 := by rw [Nat.mul_comm]; exact M2
      have turn : (T : Int) * acc (dif g') g'.length = ((S / Nat.gcd g.length S * g.length : Nat) : Int) := by
        rw [hS, hT, ← gcd_turn g0]
        rfl
      refine q_asg (v := .int (T : Int)) (ev_is (ev_op (lenO rfl e1) (ev_cb (ea_cons (lenO rfl e1) (ea_cons (evS rfl e1) ea_nil)) rc_gcd) (rv_I ⟨by omega, by omega⟩)) (by rw [hT]; rfl)) fun H2 e2 => ?_
      have E2 := e1.trans e2
      refine q_asg (v := .int ((T * g'.length : Nat) : Int)) (ev_is (ev_op (ev_lenF (ev_var rfl) (E2 _ _ h1') G.cls G.gains rfl (ex_t E2 h3')) (ev_var rfl) (rv_I (.inl ⟨by omega, by omega⟩))) (by rw [Nat.mul_comm T]; rfl)) fun H3 e3 => ?_
      have E3 := E2.trans e3
      refine q_when (et_test (ev_op (ev_var rfl) ev_c rv_I0)) (fun ht H4 e4 => ?_) (fun _ H4 e4 => ?_)
      · have := of_decide_eq_true ht
        omega
      have E4 := E3.trans e4
      refine q_call (vs := [.ref u, .int ((2000 : Nat) : Int)]) (ea_cons (ev_var rfl) (ea_cons ev_c ea_nil)) fun H5 e5 => ⟨u, 2000, t', g', rfl, hU0.mono (E4.trans e5), by decide, fun vl H6 _ e6 hvl => ?_⟩
      have E6 := (E4.trans e5).trans e6
      refine q_asg (v := .int (t'.length : Int)) (ev_lenF (ev_var rfl) (E6 _ _ h1') G.cls G.told rfl (ex_t E6 h2')) fun H7 e7 => ?_
      have E7 := E6.trans e7
      have rc := reach t0' g0' pt' (by rw [hS]; omega) t.length
      refine q_while (fun m σ' H' => ∃ b : Nat, m = t'.length + t.length * g'.length - b ∧ t'.length ≤ b ∧ b ≤ t'.length + t.length * g'.length ∧ σ' = [some (.ref o), some (.ref u), some (.int (T : Int)), some (.int ((T * g'.length : Nat) : Int)), some (.ref vl), some (.int (b : Int)), none] ∧ Ex H7 H') _ ⟨t'.length, rfl, Nat.le_refl _, Nat.le_add_right _ _, rfl, Ex.refl H7⟩ ?_
      rintro m σ' H8 ⟨b, rfl, b1, b2, rfl, e8⟩
      have E8 := E7.trans e8
      have hvl8 : SqL K H8 vl (vI (pT (val t' g') 2000)) := sq_of ((e7.trans e8) _ _ hvl)
      refine ⟨decide ((b : Int) ≤ 2000) && decide (val t' g' (b - 1) < (t.length : Int) - 1), et_and (et_test (ev_op (ev_var rfl) ev_c rv_I0)) fun hbb => et_test (ev_op (x := .int (val t' g' (b - 1))) (ev_op (y := .int ((b - 1 : Nat) : Int)) (ev_var rfl) (ev_is (ev_op (ev_var rfl) ev_c rv_I0) (by congr 1; omega)) (rv_ixL hvl8 (atI_nat (by
          have := of_decide_eq_true hbb
          rw [vI_get (by rw [pT_len]; omega), pT_at (by omega)])))) (ev_op (ev_lenF (ev_var rfl) (E8 _ _ h1) G.cls G.told rfl (ex_t E8 h2)) ev_c rv_I0) rv_I0), fun hb2 H9 e9 => ?_, fun hb2 H9 e9 => ?_⟩
      · obtain ⟨_, c2⟩ := Bool.and_eq_true_iff.mp hb2
        have c2 := of_decide_eq_true c2
        have lt : b < t'.length + t.length * g'.length := by
          rcases Nat.lt_or_ge b (t'.length + t.length * g'.length) with h | h
          · exact h
          · have : b - 1 = t'.length - 1 + t.length * g'.length := by omega
            rw [this] at c2
            omega
        refine ⟨fun σ2 H2 => ∃ c : Nat, c = b + 1 ∧ σ2 = [some (.ref o), some (.ref u), some (.int (T : Int)), some (.int ((T * g'.length : Nat) : Int)), some (.ref vl), some (.int (c : Int)), none] ∧ Ex H7 H2, ?_, ?_⟩
        · rintro σ2 H10 ⟨c, rfl, rfl, e10⟩
          exact ⟨_, by omega, b + 1, rfl, by omega, lt, rfl, e10⟩
        · exact s_aug (a := (b : Int)) (b := 1) rfl ev_c fun H10 e10 => ⟨b + 1, rfl, rfl, (e8.trans e9).trans e10⟩
      · have b2000 : b ≤ 2000 := by omega
        have hv : (t.length : Int) - 1 ≤ val t' g' (b - 1) := by
          rcases Bool.and_eq_false_iff.mp hb2 with h | h
          · exact absurd (show (b : Int) ≤ 2000 by omega) (of_decide_eq_false h)
          · have := of_decide_eq_false h
            omega
        have E9 := E8.trans e9
        refine q_when (et_test (ev_op (ev_var rfl) ev_c rv_I0)) (fun ht H10 e10 => ?_) (fun _ H10 e10 => ?_)
        · have := of_decide_eq_true ht
          omega
        have E10 := E9.trans e10
        have rise_ := cmp_rise t0 t0' g0' pos' b1 hv turn
        have L := el_lcNL (K := K) (σ := [some (.ref o), some (.ref u), some (.int (T : Int)), some (.int ((T * g'.length : Nat) : Int)), some (.ref vl), some (.int (b : Int)), none]) (H := H10) (t := tYes) (te := tCall (spVal K C) [] E0 (tCons (tVar 0) (tCons (tVar 6) tNil))) (tl := tCall (spFirst K C) [] E0 (tCons (tVar 1) (tCons (tOp (rI0 fun i j => .int (i + j)) (tVar 5) (tVar 3)) tNil))) (j := 6) (vs := [6]) (xs := vI (pT (val t' g') (b + T * g'.length))) (fun _ => true) (fun i => V.int (cmp (val t g) (val t' g') i))
          (fun H11 e11 Q11 q11 => ⟨_, rfl, _, rfl, _, rfl, ⟨b, ((T * g'.length : Nat) : Int), rfl, rfl, u, b + T * g'.length, t', g', rfl, hU0.mono (E10.trans e11), by omega, fun a H12 ha e12 h12 => q11 a H12 ha e12 h12⟩⟩) (by rw [vI_len, pT_len]; omega) (fun _ => rfl) (fun _ _ _ _ _ => et_none)
          (fun i x H11 e11 hx _ => by
            have hi : i < b + T * g'.length := by
              have := (List.getElem?_eq_some_iff.mp hx).1
              rwa [vI_len, pT_len] at this
            rw [vI_get (by rw [pT_len]; exact hi), pT_at hi] at hx
            obtain rfl := Option.some.inj hx
            exact inner rfl rfl (val_nn t0' g0' pos' pt' i) (E10.trans e11))
        rw [given_all, vI_len, pT_len] at L
        have ee : (List.range (b + T * g'.length)).map (fun i => V.int (cmp (val t g) (val t' g') i)) = vI (pT (cmp (val t g) (val t' g')) (b + T * g'.length)) := by
          unfold vI pT
          rw [List.map_map]
          rfl
        rw [ee] at L
        refine s_retA (call_i (cons_i (L H10 (Ex.refl H10) _ fun x H11 _ e11 hx => ⟨_, rfl, x, b, T * g'.length, cmp (val t g) (val t' g'), rfl, sq_of hx, by omega, by omega, fun r2 p2 q2 H12 e12 hr2 hp2 hq2 => ?_⟩)))
        exact k r2 p2 q2 _ _ H12 ((E10.trans e11).trans e12) hr2 (.inl hp2) (.inl hq2) (by rw [pT_len]; omega) (by rw [pT_len]; exact b2000) (by rw [pG_len]; exact M0) (by rw [pG_len]; exact M2') (val_parted (by omega) M0 rise_)
end
end K02
/-! a composition that has too many gains, or too many told values -/
namespace K02
open PySem L2 Evl Gr ClX OpX StX OwX StM
structure Far2 (K : PySem.W.Frag) (C cM : Addr) (H : Hp) (o u : Addr) (E : XK) : Prop where
  ex : ∃ t g t' g', ∃ S : Nat, GrAt K C H o t g ∧ GrAt K C H u t' g' ∧ acc (dif g') g'.length = (S : Int) ∧ 0 < S ∧ ((2000 < g'.length * (g.length / Nat.gcd g.length S) ∧ OutG cM H E) ∨
    (g'.length * (g.length / Nat.gcd g.length S) ≤ 2000 ∧ (∀ n, t'.length ≤ n + 1 → n < 2000 → val t' g' n < (t.length : Int) - 1) ∧ OutT cM H E))
theorem Far2.mono {K : PySem.W.Frag} {C cM o u : Addr} {H H' : Hp} {E : XK} (e : Ex H H') (h : Far2 K C cM H o u E) : Far2 K C cM H' o u E := by
  obtain ⟨t, g, t', g', S, h1, h2, h3, h4, h5⟩ := h.ex
  exact ⟨t, g, t', g', S, h1.mono e, h2.mono e, h3, h4, h5.imp (fun z => ⟨z.1, z.2.mono e⟩) fun z => ⟨z.1, z.2.1, z.2.2.mono e⟩⟩
def spFarC (K : PySem.W.Frag) (C cM : Addr) : Sp := fun vs H _ E => ∃ o u, vs = [.ref o, .ref u] ∧ Far2 K C cM H o u E
section
variable {P : Program} {w : World} {K : PySem.W.Frag} {mg : Str → Option Value} {base : Heap}
theorem far_Comp {C f cM fM : Addr} {fd fdM : FuncData} (F : Fun K "composed_parts" "composed_parts" sComp f fd) (T : GlbS mg) (gcd_ : mg "gcd" = some (.builtin "math.gcd")) (most : ∃ t, mg "MOST_PARTS" = some (.int 2000 t)) (G : GCls K C)
    (B : GTwo P w K mg base "TooMany" "what" "most" cM fM fdM) (LF : Gfn P w K mg base 1 "first_values" ["one", "many"] (spFirst K C)) : FnOk P w K mg base (L2.CX P w) 3 f fd ["one", "other"] (spFarC K C cM) := by
  obtain ⟨fF, fdF, GF, kF, bF, gF⟩ := LF
  obtain ⟨mt, gm⟩ := most
  refine F.okX scComp (fun vs H Q E h => ?_) (fun cdv A outer s H vs Q E hr h => ?_)
  · obtain ⟨o, u, rfl, _⟩ := h
    rfl
  · obtain ⟨o, u, rfl, hW⟩ := h
    refine ⟨_, pss_cons (ps_if (pt_cmpR op_eq (pe_ix ix_seq (pe_fld (pv 1) rfl) (pe_un un_neg pe_int) (fun _ _ => rfl)) pe_int (nomark _)) (pss_one ps_no) pss_nil)
      (pss_cons (ps_set (i := 2) scComp.nd rfl (.inl rfl) (pe_op op_fdiv (pe_callB call_len_seq (by rfl) T.len PySem.boot_len (pa_cons (pe_fld (pv 0) rfl) pa_nil)) (pe_callBfun cr_gcd (by rfl) gcd_ (pa_cons (pe_callB call_len_seq (by rfl) T.len PySem.boot_len (pa_cons (pe_fld (pv 0) rfl) pa_nil)) (pa_cons (pe_ix ix_seq (pe_fld (pv 1) rfl) (pe_un un_neg pe_int) (fun _ _ => rfl)) pa_nil)))))
      (pss_cons (ps_set (i := 3) scComp.nd rfl (.inl rfl) (pe_op op_mul (pe_callB call_len_seq (by rfl) T.len PySem.boot_len (pa_cons (pe_fld (pv 1) rfl) pa_nil)) (pv 2)))
      (pss_cons (ps_if (pt_cmpR op_gt (pv 3) (pe_glob (v := .int 2000) (by rfl) gm ⟨_, rfl⟩) (nomark _)) (pss_one (ps_raise rfl (takes_of rfl rfl rfl rfl) (pmk_oex B.ox B.init B.ty B.ok hr B.b .nil pass0 (by rfl) B.g (pa_cons pe_str (pa_cons (pe_glob (v := .int 2000) (by rfl) gm ⟨_, rfl⟩) pa_nil))))) pss_nil)
      (pss_cons (ps_set (i := 4) scComp.nd rfl (.inl rfl) (pe_call GF (hr.mono (by decide)) (by rfl) gF kF bF .nil pass0 (pa_cons (pv 1) (pa_cons (pe_glob (v := .int 2000) (by rfl) gm ⟨_, rfl⟩) pa_nil))))
      (pss_cons (ps_set (i := 5) scComp.nd rfl (.inl rfl) (pe_callB call_len_seq (by rfl) T.len PySem.boot_len (pa_cons (pe_fld (pv 1) rfl) pa_nil)))
      (pss_cons (ps_while (passes_of rfl) (PW.pt (pw_and (pt_cmpR op_le (pv 5) (pe_glob (v := .int 2000) (by rfl) gm ⟨_, rfl⟩) (nomark _)) (pw_and1 (pt_cmpR op_lt (pe_ix ix_list (pv 4) (pe_op op_sub (pv 5) pe_int) (fun _ _ => rfl)) (pe_op op_sub (pe_callB call_len_seq (by rfl) T.len PySem.boot_len (pa_cons (pe_fld (pv 0) rfl) pa_nil)) pe_int) (nomark _)))))
          (pss_one (ps_aug (i := 5) scComp.nd rfl (.inl rfl) pe_int ip_add)))
      (pss_cons (ps_if (pt_cmpR op_gt (pv 5) (pe_glob (v := .int 2000) (by rfl) gm ⟨_, rfl⟩) (nomark _)) (pss_one (ps_raise rfl (takes_of rfl rfl rfl rfl) (pmk_oex B.ox B.init B.ty B.ok hr B.b .nil pass0 (by rfl) B.g (pa_cons pe_str (pa_cons (pe_glob (v := .int 2000) (by rfl) gm ⟨_, rfl⟩) pa_nil))))) pss_nil)
      (pss_one ps_no)))))))), ?_⟩
    obtain ⟨t, g, t', g', S, hO, hU, hS, s1, hx⟩ := hW.ex
    have hO0 := hO
    have hU0 := hU
    obtain ⟨dx, p, q, r, h1, h2, h3, h4, nf, t2, g2, sm⟩ := hO
    obtain ⟨dx', p', q', r', h1', h2', h3', h4', nf', t2', g2', sm'⟩ := hU
    have t0 := nf.told
    have g0 := nf.gains
    have t0' := nf'.told
    have g0' := nf'.gains
    have evS : ∀ {σ : L2.St} {H' : Hp}, σ[1]? = some (some (.ref u)) → Ex H H' → Ev (tOp (rIx K) (tFld K (tVar 1) "rises") (tUn (rU fun i => .int (-i)) (tC (.int 1)))) σ H' (.int (S : Int)) := fun {σ H'} h0 e => by
      refine ev_op (ev_fld (ev_var h0) (e _ _ h1') G.cls G.rises rfl) (ev_un ev_c ru_neg) (rv_ix (v := .int (S : Int)) (.inr (ex_t e h4')) ?_)
      have rl := ris_len (g := g')
      have z := atI_vlast (g := ris g') (by omega)
      rw [ris_at (by omega), show (ris g').length - 1 = g'.length by omega, hS] at z
      exact z
    have lenO : ∀ {σ : L2.St} {H' : Hp}, σ[0]? = some (some (.ref o)) → Ex H H' → Ev (tCB (fun xs H Q => ∃ p ys, xs = [V.ref p] ∧ (SqL K H p ys ∨ SqT K H p ys) ∧ Q (.int ys.length) H) (tCons (tFld K (tVar 0) "gains") tNil)) σ H' (.int (g.length : Int)) := fun h0 e => ev_lenF (ev_var h0) (e _ _ h1) G.cls G.gains rfl (ex_t e h3)
    refine q_when (b := false) (et_is (et_test (ev_op (evS rfl (Ex.refl H)) ev_c (rv_eq rfl))) (decide_eq_false fun z => by
      have := V.int.inj z
      omega)) (fun z => absurd z (by decide)) fun _ H1 e1 => ?_
    obtain ⟨T, hT⟩ : ∃ T, T = g.length / Nat.gcd g.length S := ⟨_, rfl⟩
    rw [← hT] at hx
    have gg := Nat.gcd_pos_of_pos_left S g0
    have gle : Nat.gcd g.length S ≤ g.length := Nat.le_of_dvd g0 (Nat.gcd_dvd_left _ _)
    have Tle : T ≤ g.length := by rw [hT]; exact Nat.div_le_self _ _
    refine q_asg (v := .int (T : Int)) (ev_is (ev_op (lenO rfl e1) (ev_cb (ea_cons (lenO rfl e1) (ea_cons (evS rfl e1) ea_nil)) rc_gcd) (rv_I ⟨by omega, by omega⟩)) (by rw [hT]; rfl)) fun H2 e2 => ?_
    have E2 := e1.trans e2
    refine q_asg (v := .int ((T * g'.length : Nat) : Int)) (ev_is (ev_op (ev_lenF (ev_var rfl) (E2 _ _ h1') G.cls G.gains rfl (ex_t E2 h3')) (ev_var rfl) (rv_I (.inl ⟨by omega, by omega⟩))) (by rw [Nat.mul_comm T]; rfl)) fun H3 e3 => ?_
    have E3 := E2.trans e3
    rw [Nat.mul_comm] at hx
    rcases hx with ⟨far, kE⟩ | ⟨few, low, kE⟩
    · refine q_when (b := true) (et_is (et_test (ev_op (ev_var rfl) ev_c rv_I0)) (decide_eq_true (by omega))) (fun _ H4 e4 => ?_) (fun z => absurd z (by decide))
      exact raise_two (ea_cons ev_c (ea_cons ev_c ea_nil)) (kE.mono (E3.trans e4))
    · refine q_when (b := false) (et_is (et_test (ev_op (ev_var rfl) ev_c rv_I0)) (decide_eq_false (by omega))) (fun z => absurd z (by decide)) (fun _ H4 e4 => ?_)
      have E4 := E3.trans e4
      refine q_call (vs := [.ref u, .int ((2000 : Nat) : Int)]) (ea_cons (ev_var rfl) (ea_cons ev_c ea_nil)) fun H5 e5 => ⟨u, 2000, t', g', rfl, hU0.mono (E4.trans e5), by decide, fun vl H6 _ e6 hvl => ?_⟩
      have E6 := (E4.trans e5).trans e6
      refine q_asg (v := .int (t'.length : Int)) (ev_lenF (ev_var rfl) (E6 _ _ h1') G.cls G.told rfl (ex_t E6 h2')) fun H7 e7 => ?_
      have E7 := E6.trans e7
      refine q_while (fun m σ' H' => ∃ b : Nat, m = 2001 - b ∧ t'.length ≤ b ∧ b ≤ 2001 ∧ σ' = [some (.ref o), some (.ref u), some (.int (T : Int)), some (.int ((T * g'.length : Nat) : Int)), some (.ref vl), some (.int (b : Int)), none] ∧ Ex H7 H') _ ⟨t'.length, rfl, Nat.le_refl _, by omega, rfl, Ex.refl H7⟩ ?_
      rintro m σ' H8 ⟨b, rfl, b1, b2, rfl, e8⟩
      have E8 := E7.trans e8
      have hvl8 : SqL K H8 vl (vI (pT (val t' g') 2000)) := sq_of ((e7.trans e8) _ _ hvl)
      refine ⟨decide ((b : Int) ≤ 2000) && decide (val t' g' (b - 1) < (t.length : Int) - 1), et_and (et_test (ev_op (ev_var rfl) ev_c rv_I0)) fun hbb => et_test (ev_op (x := .int (val t' g' (b - 1))) (ev_op (y := .int ((b - 1 : Nat) : Int)) (ev_var rfl) (ev_is (ev_op (ev_var rfl) ev_c rv_I0) (by congr 1; omega)) (rv_ixL hvl8 (atI_nat (by
          have := of_decide_eq_true hbb
          rw [vI_get (by rw [pT_len]; omega), pT_at (by omega)])))) (ev_op (ev_lenF (ev_var rfl) (E8 _ _ h1) G.cls G.told rfl (ex_t E8 h2)) ev_c rv_I0) rv_I0), fun hb2 H9 e9 => ?_, fun hb2 H9 e9 => ?_⟩
      · obtain ⟨c1, _⟩ := Bool.and_eq_true_iff.mp hb2
        have c1 := of_decide_eq_true c1
        refine ⟨fun σ2 H2 => ∃ c : Nat, c = b + 1 ∧ σ2 = [some (.ref o), some (.ref u), some (.int (T : Int)), some (.int ((T * g'.length : Nat) : Int)), some (.ref vl), some (.int (c : Int)), none] ∧ Ex H7 H2, ?_, ?_⟩
        · rintro σ2 H10 ⟨c, rfl, rfl, e10⟩
          exact ⟨_, by omega, b + 1, rfl, by omega, by omega, rfl, e10⟩
        · exact s_aug (a := (b : Int)) (b := 1) rfl ev_c fun H10 e10 => ⟨b + 1, rfl, rfl, (e8.trans e9).trans e10⟩
      · have b2001 : 2000 < b := by
          rcases Nat.lt_or_ge 2000 b with h | h
          · exact h
          · have z := low (b - 1) (by omega) (by omega)
            rw [decide_eq_true (show (b : Int) ≤ 2000 by omega), decide_eq_true z] at hb2
            cases hb2
        refine q_when (b := true) (et_is (et_test (ev_op (ev_var rfl) ev_c rv_I0)) (decide_eq_true (by omega))) (fun _ H10 e10 => ?_) (fun z => absurd z (by decide))
        exact raise_two (ea_cons ev_c (ea_cons ev_c ea_nil)) (kE.mono ((E8.trans e9).trans e10))
end
end K02
namespace Gr
theorem tail_many {f : Nat → Int} {m : Nat} {B : Int} (h : ∀ n, m ≤ n → 0 ≤ f (n + 1) - f n ∧ f (n + 1) - f n ≤ B) {n : Nat} (hn : m ≤ n) : ∀ k : Nat, 0 ≤ f (n + k) - f n ∧ f (n + k) - f n ≤ (k : Int) * B
  | 0 => by rw [Nat.add_zero, show ((0 : Nat) : Int) = 0 from rfl, Int.zero_mul]; omega
  | k + 1 => by
    have a := tail_many h hn k
    have b := h (n + k) (by omega)
    rw [show ((k + 1 : Nat) : Int) = (k : Int) + 1 from rfl, Int.add_mul, Int.one_mul, ← Nat.add_assoc]
    omega
theorem rate_tail {t g : List Int} (t0 : 0 < t.length) (g0 : 0 < g.length) {L : Nat} (h : g.length ∣ L) {B : Int} (tl : Tail (val t g) B) : 0 ≤ rate g L ∧ rate g L ≤ (L : Int) * B := by
  obtain ⟨m, hm⟩ := tl
  have a := tail_many hm (n := max m (t.length - 1)) (by omega) L
  rw [val_round t0 g0 h (by omega)] at a
  omega
theorem perT_pk {up : Bool} {f f' : Nat → Int} (h : EqR f f' ∨ Ord f f') (p : PerT f 12) (p' : PerT f' 12) : PerT (fun n => pk up (f n) (f' n)) 12 := by
  obtain ⟨a, ha⟩ := p
  obtain ⟨c, hc⟩ := p'
  rcases h with ⟨m, hm⟩ | h | h
  · refine ⟨max a (max c m), fun n hn => ?_⟩
    have h1 := hm n (by omega)
    have h2 := hm (n + 1) (by omega)
    have h3 := ha n (by omega)
    show pk up (f (n + 12 + 1)) (f' (n + 12 + 1)) - pk up (f (n + 12)) (f' (n + 12)) = pk up (f (n + 1)) (f' (n + 1)) - pk up (f n) (f' n)
    rw [show n + 1 + 12 = n + 12 + 1 by omega] at h2
    rw [show f (n + 12 + 1) = f (n + 1) + (f (n + 12) - f n) by omega, show f' (n + 12 + 1) = f' (n + 1) + (f (n + 12) - f n) by omega, pk_add, show f' (n + 12) = f' n + (f (n + 12) - f n) by omega]
    have : pk up (f (n + 12)) (f' n + (f (n + 12) - f n)) = pk up (f n) (f' n) + (f (n + 12) - f n) := by
      rw [← pk_add]
      congr 1
      omega
    rw [this]
    omega
  · refine ⟨max 1999 (max a c), fun n hn => ?_⟩
    show pk up (f (n + 12 + 1)) (f' (n + 12 + 1)) - pk up (f (n + 12)) (f' (n + 12)) = pk up (f (n + 1)) (f' (n + 1)) - pk up (f n) (f' n)
    rw [pk_ge (h _ (by omega)), pk_ge (h _ (by omega)), pk_ge (h _ (by omega)), pk_ge (h n (by omega))]
    cases up
    · exact hc n (by omega)
    · exact ha n (by omega)
  · refine ⟨max 1999 (max a c), fun n hn => ?_⟩
    show pk up (f (n + 12 + 1)) (f' (n + 12 + 1)) - pk up (f (n + 12)) (f' (n + 12)) = pk up (f (n + 1)) (f' (n + 1)) - pk up (f n) (f' n)
    rw [pk_le (h _ (by omega)), pk_le (h _ (by omega)), pk_le (h _ (by omega)), pk_le (h n (by omega))]
    cases up
    · exact ha n (by omega)
    · exact hc n (by omega)
theorem tail_pk {up : Bool} {f f' : Nat → Int} {B : Int} (h : Tail f B) (h' : Tail f' B) : Tail (fun n => pk up (f n) (f' n)) B := by
  obtain ⟨m, hm⟩ := h
  obtain ⟨c, hc⟩ := h'
  exact ⟨max m c, fun n hn => pk_step (hm n (by omega)) (hc n (by omega))⟩
theorem le_high {a b : Int} : a ≤ pk true a b ∧ b ≤ pk true a b := by
  show a ≤ (if b > a then b else a) ∧ b ≤ (if b > a then b else a)
  split <;> omega
theorem low_le {a b : Int} : pk false a b ≤ a ∧ pk false a b ≤ b := by
  show (if b < a then b else a) ≤ a ∧ (if b < a then b else a) ≤ b
  split <;> omega
theorem high_low {a b : Int} : pk true a b + pk false a b = a + b := by
  show (if b > a then b else a) + (if b < a then b else a) = a + b
  split <;> split <;> omega
theorem high_one {a b : Int} : pk true (pk true a b) a = pk true a b := pk_ge le_high.1
theorem high_low1 {a b : Int} : pk false (pk true a b) a = a := pk_ge le_high.1
theorem pk_self {up : Bool} {a : Int} : pk up a a = a := by
  rw [pk_ge (Int.le_refl a)]
  cases up <;> rfl
end Gr
namespace K02
open PySem L2 Evl Gr ClX OpX StX OwX
section
variable {P : Program} {w : World} {K : PySem.W.Frag} {mg : Str → Option Value} {base : Heap}
theorem two_of {C o u : Addr} {H : Hp} {t g t' g' : List Int} {f f' : Nat → Int} {l : Nat} (hO : GrAt K C H o t g) (hU : GrAt K C H u t' g') (v : ∀ n, val t g n = f n) (v' : ∀ n, val t' g' n = f' n) (l0 : 0 < l) (l1 : l ≤ 2000) (d : PerT f l) (d' : PerT f' l) :
    Nat.lcm g.length g'.length ∣ l ∧ Two K C H o u t g t' g' (max t.length t'.length) (Nat.lcm g.length g'.length) := by
  have a := Nat.lcm_dvd (nf_dvd (grAt_nf hO).1 v d) (nf_dvd (grAt_nf hU).1 v' d')
  exact ⟨a, hO, hU, rfl, rfl, Nat.le_trans (Nat.le_of_dvd l0 a) l1⟩
def spPk (up : Bool) (K : PySem.W.Frag) (C : Addr) : Sp := fun vs H Q _ => ∃ (o u : Addr) (f f' : Nat → Int), vs = [.ref o, .ref u] ∧ GrF K C H o f ∧ GrF K C H u f' ∧ PerT f 12 ∧ PerT f' 12 ∧ Tail f 1000000 ∧ Tail f' 1000000 ∧ (EqR f f' ∨ Ord f f') ∧ (∀ n, 0 ≤ f n) ∧ (∀ n, 0 ≤ f' n) ∧
  RetG K C (fun n => pk up (f n) (f' n)) H Q
theorem scPk (up : Bool) : FnScope ["self", "other", "told", "gains"] ["self", "other"] (defScope (sGr (if up then 6 else 7))) := by cases up <;> exact ⟨rfl, rfl, rfl, by decide +kernel, rfl, by decide +kernel, by decide +kernel⟩
/-- both read alike -/
theorem pk_read {up : Bool} {C o u : Addr} {H : Hp} {t g t' g' : List Int} {f f' : Nat → Int} {Q : VK} {D : Ends} {tu : TS} (G : GCls K C) (I : GIsi K C) (hO : GrAt K C H o t g) (hU : GrAt K C H u t' g') (p1 : Pos t) (p2 : Pos t') (v1 : ∀ n, val t g n = f n) (v2 : ∀ n, val t' g' n = f' n)
    (d1 : PerT f 12) (d2 : PerT f' 12) (tl1 : Tail f 1000000) (tl2 : Tail f' 1000000) (hx : EqR f f' ∨ Ord f f') (n1 : ∀ n, 0 ≤ f n) (n2 : ∀ n, 0 ≤ f' n) (k : RetG K C (fun n => pk up (f n) (f' n)) H Q) (hQ : D.rt = Q) :
    tSeq (tIfS (tNot (tB (tCB (rIsi K) (tCons (tVar 1) (tCons (tC (.ref C)) tNil))))) tu tNext) (tSeq (tAsg (tCall (spOuter K C) [] E0 (tCons (tVar 0) (tCons (tVar 1) (tCons (tC (.bl up)) tNil)))) (gTup K 2 (gCons (gName 2) (gCons (gName 3) gNil))))
      (tRet (tMake C (spInit K C) [] E0 (tCons (tVar 2) (tCons (tVar 3) tNil))))) D [some (.ref o), some (.ref u), none, none] H := by
  obtain ⟨lc, T⟩ := two_of hO hU v1 v2 (by decide) (by decide) d1 d2
  have e1 : val t g = f := funext v1
  have e2 : val t' g' = f' := funext v2
  have q1 := (grAt_nf hO).1
  have q2 := (grAt_nf hU).1
  have L12 : Nat.lcm g.length g'.length ≤ 12 := Nat.le_of_dvd (by decide) lc
  have r1 := rate_tail q1.told q1.gains (Nat.dvd_lcm_left g.length g'.length) (e1 ▸ tl1)
  have r2 := rate_tail q2.told q2.gains (Nat.dvd_lcm_right g.length g'.length) (e2 ▸ tl2)
  have hX : rate g (Nat.lcm g.length g'.length) = rate g' (Nat.lcm g.length g'.length) ∨ Ord (val t g) (val t' g') := by
    rw [e1, e2]
    refine hx.imp (fun h => ?_) id
    have a := T.rnd1
    have b := T.rnd2
    rw [e1] at a
    rw [e2] at b
    exact lead_zero h a b
  refine q_when (et_not (et_B (ev_isG G I (ev_var rfl) hU))) (fun hb => absurd hb (by decide)) (fun _ H1 e3 => ?_)
  refine ⟨_, rfl, _, rfl, o, u, up, t, g, t', g', _, _, rfl, T.mono e3, hX, ⟨by omega, by omega⟩, fun r p q b l' H2 e4 hr2 hp hq b0 b1 l0' l1' hv => ?_⟩
  rw [e1, e2] at hp hq hv
  refine ⟨r, [.ref p, .ref q], rfl, hr2, rfl, _, _, rfl, _, _, rfl, rfl, ?_⟩
  refine eg_make (K := K) (C := C) (σ := [some (.ref o), some (.ref u), some (.ref p), some (.ref q)]) (H := H2) (ta := tCons (tVar 2) (tCons (tVar 3) tNil)) (EvP.pair (ev_var rfl) (ev_var rfl) (.inl hp) (.inl hq)) (by rw [pT_len]; exact b0) (by rw [pT_len]; exact b1) (by rw [pG_len]; exact l0') (by rw [pG_len]; exact l1')
    (fun i hi => by
      rw [pT_len] at hi
      rw [pT_at hi]
      exact pk_pos (n1 i) (n2 i)) (fun i hi => ?_) hv H2 (Ex.refl H2) _ fun x H3 hx e5 gr => by
        rw [hQ]
        exact k x H3 (fresh_back (e3.trans e4) hx) ((e3.trans e4).trans e5) gr
  have := gains_tail (by rw [pT_len]; exact b0) hv (tail_pk (up := up) tl1 tl2) i hi
  exact ⟨this.1, Int.le_trans this.2 (by decide)⟩
theorem ok_Or {C f fI : Addr} {mc : Value} {fd fdI : FuncData} (F : Fun K "__or__" "Growth.__or__" (sGr 6) f fd) (N : GName K mg C mc) (G : GCls K C) (I : GIsi K C) (TT : GlbT mg) (M : Mk K C fI)
    (GI : FnOk P w K mg base CX0 4 fI fdI ["self", "told", "gains"] (spInit K C)) (bI : Binds K fdI ["self", "told", "gains"] [])
    (LO : Gfn P w K mg base 4 "outer_parts" ["one", "other", "is_greatest"] (spOuter K C)) : FnOk P w K mg base CX0 6 f fd ["self", "other"] (spPk true K C) := by
  obtain ⟨fO, fdO, GO, kO, bO, gO⟩ := LO
  refine F.ok (scPk true) (fun vs H Q E h => ?_) (fun cdv A outer s H vs Q E hr h => ?_)
  · obtain ⟨o, u, f1, f2, rfl, _⟩ := h
    rfl
  · obtain ⟨o, u, f1, f2, rfl, ⟨t, g, hO, p1, v1⟩, ⟨t', g', hU, p2, v2⟩, d1, d2, tl1, tl2, hx, n1, n2, k⟩ := h
    refine ⟨_, pss_cons (ps_if (pt_not (pt_val (pe_callB call_isi (by rfl) TT.inst (by decide +kernel) (pa_cons (pv 1) (pa_cons (pe_glob (v := .ref C) rfl N.g rfl) pa_nil))))) (pss_one ps_no) pss_nil)
      (pss_cons (ps_asg (pe_call GO (hr.mono (by decide)) (by rfl) gO kO bO .nil pass0 (pa_cons (pv 0) (pa_cons (pv 1) (pa_cons pe_bl pa_nil)))) (pg_tup rfl (pgs_cons (pg_name (i := 2) (scPk true).nd rfl (.inl rfl)) (pgs_cons (pg_name (i := 3) (scPk true).nd rfl (.inl rfl)) pgs_nil))))
      (pss_one (ps_ret (pe_make M GI hr (by rfl) N.g bI .nil pass0 (pa_cons (pv 2) (pa_cons (pv 3) pa_nil)))))), ?_⟩
    exact pk_read G I hO hU p1 p2 v1 v2 d1 d2 tl1 tl2 hx n1 n2 k rfl
theorem ok_And {C f fI : Addr} {mc : Value} {fd fdI : FuncData} (F : Fun K "__and__" "Growth.__and__" (sGr 7) f fd) (N : GName K mg C mc) (G : GCls K C) (I : GIsi K C) (TT : GlbT mg) (M : Mk K C fI)
    (GI : FnOk P w K mg base CX0 4 fI fdI ["self", "told", "gains"] (spInit K C)) (bI : Binds K fdI ["self", "told", "gains"] [])
    (LO : Gfn P w K mg base 4 "outer_parts" ["one", "other", "is_greatest"] (spOuter K C)) : FnOk P w K mg base CX0 6 f fd ["self", "other"] (spPk false K C) := by
  obtain ⟨fO, fdO, GO, kO, bO, gO⟩ := LO
  refine F.ok (scPk false) (fun vs H Q E h => ?_) (fun cdv A outer s H vs Q E hr h => ?_)
  · obtain ⟨o, u, f1, f2, rfl, _⟩ := h
    rfl
  · obtain ⟨o, u, f1, f2, rfl, ⟨t, g, hO, p1, v1⟩, ⟨t', g', hU, p2, v2⟩, d1, d2, tl1, tl2, hx, n1, n2, k⟩ := h
    refine ⟨_, pss_cons (ps_if (pt_not (pt_val (pe_callB call_isi (by rfl) TT.inst (by decide +kernel) (pa_cons (pv 1) (pa_cons (pe_glob (v := .ref C) rfl N.g rfl) pa_nil))))) (pss_one ps_no) pss_nil)
      (pss_cons (ps_asg (pe_call GO (hr.mono (by decide)) (by rfl) gO kO bO .nil pass0 (pa_cons (pv 0) (pa_cons (pv 1) (pa_cons pe_bl pa_nil)))) (pg_tup rfl (pgs_cons (pg_name (i := 2) (scPk false).nd rfl (.inl rfl)) (pgs_cons (pg_name (i := 3) (scPk false).nd rfl (.inl rfl)) pgs_nil))))
      (pss_one (ps_ret (pe_make M GI hr (by rfl) N.g bI .nil pass0 (pa_cons (pv 2) (pa_cons (pv 3) pa_nil)))))), ?_⟩
    exact pk_read G I hO hU p1 p2 v1 v2 d1 d2 tl1 tl2 hx n1 n2 k rfl
end
end K02
/-! growths that cross too late; after, | and & of what refuses -/
namespace K02
open PySem L2 Evl Gr ClX OpX StX OwX StM
structure Cross2 (K : PySem.W.Frag) (C : Addr) (H : Hp) (o u : Addr) : Prop where
  ex : ∃ t g t' g' b L, Two K C H o u t g t' g' b L ∧ (rate g L - rate g' L < 1073741824 ∧ rate g' L - rate g L < 1073741824) ∧
    ((rate g' L < rate g L ∧ ∀ last : Int, LA (fun n => val t' g' n - val t g n) b L (b + L) last → 1998 < last) ∨ (rate g L < rate g' L ∧ ∀ last : Int, LA (fun n => val t g n - val t' g' n) b L (b + L) last → 1998 < last))
theorem Cross2.mono {K : PySem.W.Frag} {C o u : Addr} {H H' : Hp} (e : Ex H H') (h : Cross2 K C H o u) : Cross2 K C H' o u := by
  obtain ⟨t, g, t', g', b, L, h1, h2⟩ := h.ex
  exact ⟨t, g, t', g', b, L, h1.mono e, h2⟩
theorem cross_one {K : PySem.W.Frag} {C o u : Addr} {H : Hp} (hW : Cross2 K C H o u) : ∃ t g, GrAt K C H u t g := by
  obtain ⟨t, g, t', g', b, L, h1, h2⟩ := hW.ex
  exact ⟨t', g', h1.other⟩
def spLateO (K : PySem.W.Frag) (C cM : Addr) : Sp := fun vs H _ E => ∃ o u up, vs = [.ref o, .ref u, .bl up] ∧ Cross2 K C H o u ∧ OutT cM H E
def spLate (K : PySem.W.Frag) (C cM : Addr) : Sp := fun vs H _ E => ∃ o u, vs = [.ref o, .ref u] ∧ Cross2 K C H o u ∧ OutT cM H E
section
variable {P : Program} {w : World} {K : PySem.W.Frag} {mg : Str → Option Value} {base : Heap}
theorem late_Outer {C f cM fM : Addr} {fd fdM : FuncData} (F : Fun K "outer_parts" "outer_parts" sOuter f fd) (GL : GlbL mg) (B : GTwo P w K mg base "TooMany" "what" "most" cM fM fdM)
    (LL : Gfn P w K mg base 2 "lead_of" ["one", "other"] (spLead K C)) (LB : Gfn P w K mg base 1 "begin_of_both" ["one", "other"] (spBegin K C)) (LC : Gfn P w K mg base 1 "common_length" ["one", "other"] (spCommon K C))
    (LA' : Gfn P w K mg base 3 "last_number_above" ["one", "other"] (spLast K C)) : FnOk P w K mg base (L2.CX P w) 5 f fd ["one", "other", "is_greatest"] (spLateO K C cM) := by
  obtain ⟨fL, fdL, GLd, kL, bL, gL⟩ := LL
  obtain ⟨fB, fdB, GB, kB, bB, gB⟩ := LB
  obtain ⟨fC, fdC, GC, kC, bC, gC⟩ := LC
  obtain ⟨fA, fdA, GA, kA, bA, gA⟩ := LA'
  obtain ⟨mt, gm⟩ := GL.most
  refine F.okX scOuter (fun vs H Q E h => ?_) (fun cdv A outer s H vs Q E hr h => ?_)
  · obtain ⟨o, u, up, rfl, _⟩ := h
    rfl
  · obtain ⟨o, u, up, rfl, hW, kE⟩ := h
    have r1 := hr.mono (show 1 ≤ 4 by decide)
    have r2 := hr.mono (show 2 ≤ 4 by decide)
    have r3 := hr.mono (show 3 ≤ 4 by decide)
    refine ⟨_, pss_cons (ps_set (i := 3) scOuter.nd rfl (.inl rfl) (pe_call GLd r2 (by rfl) gL kL bL .nil pass0 (pa_cons (pv 0) (pa_cons (pv 1) pa_nil))))
      (pss_cons (ps_set (i := 4) scOuter.nd rfl (.inl rfl) (pe_call GB r1 (by rfl) gB kB bB .nil pass0 (pa_cons (pv 0) (pa_cons (pv 1) pa_nil))))
      (pss_cons (ps_set (i := 5) scOuter.nd rfl (.inl rfl) (pe_op op_add (pv 4) (pe_call GC r1 (by rfl) gC kC bC .nil pass0 (pa_cons (pv 0) (pa_cons (pv 1) pa_nil)))))
      (pss_cons (ps_if (pt_cmpR op_ne (pv 3) pe_int (nomark _))
        (pss_cons (ps_asg (pe_ifExp (pt_cmpR op_gt (pv 3) pe_int (nomark _)) (pe_tup (pa_cons (pv 0) (pa_cons (pv 1) pa_nil))) (pe_tup (pa_cons (pv 1) (pa_cons (pv 0) pa_nil)))) (pg_tup rfl (pgs_cons (pg_name (i := 6) scOuter.nd rfl (.inl rfl)) (pgs_cons (pg_name (i := 7) scOuter.nd rfl (.inl rfl)) pgs_nil))))
        (pss_cons (ps_set (i := 8) scOuter.nd rfl (.inl rfl) (pe_ifExp (pt_val (pv 2)) (pv 6) (pv 7)))
        (pss_cons (ps_set (i := 9) scOuter.nd rfl (.inl rfl) (pe_call GA r3 (by rfl) gA kA bA .nil pass0 (pa_cons (pv 7) (pa_cons (pv 6) pa_nil))))
        (pss_cons (ps_if (pt_cmpR op_gt (pe_op op_add (pv 9) pe_int) (pe_glob (v := .int 2000) rfl gm ⟨_, rfl⟩) (nomark _)) (pss_one (ps_raise rfl (takes_of rfl rfl rfl rfl) (pmk_oex B.ox B.init B.ty B.ok (hr.mono (by decide)) B.b .nil pass0 (by rfl) B.g (pa_cons pe_str (pa_cons (pe_glob (v := .int 2000) (by rfl) gm ⟨_, rfl⟩) pa_nil))))) pss_nil)
        (pss_cons ps_no (pss_one ps_no)))))) pss_nil)
      (pss_cons ps_no (pss_cons ps_no (pss_one ps_no)))))), ?_⟩
    obtain ⟨t, g, t', g', b, L, hT, hD, hc⟩ := hW.ex
    obtain ⟨ld, hld⟩ : ∃ ld : Int, ld = rate g L - rate g' L := ⟨_, rfl⟩
    obtain ⟨x, y, ts, gs, tf, gf, hx, hy, TF, lt, fw, hcr⟩ : ∃ (x y : Addr) (ts gs tf gf : List Int), (if decide (ld > 0) = true then V.ref o else V.ref u) = V.ref x ∧ (if decide (ld > 0) = true then V.ref u else V.ref o) = V.ref y ∧ Two K C H y x ts gs tf gf b L ∧ rate gs L < rate gf L ∧ rate gf L - rate gs L < 1073741824 ∧
        ∀ last : Int, LA (fun n => val ts gs n - val tf gf n) b L (b + L) last → 1998 < last := by
      rcases hc with ⟨h1, h2⟩ | ⟨h1, h2⟩
      · have : decide (ld > 0) = true := decide_eq_true (by omega)
        exact ⟨o, u, t', g', t, g, if_pos this, if_pos this, hT.swap, h1, hD.1, h2⟩
      · have : ¬ decide (ld > 0) = true := fun z => by
          have := of_decide_eq_true z
          omega
        exact ⟨u, o, t, g, t', g', if_neg this, if_neg this, hT, h1, hD.2, h2⟩
    have ne : ld ≠ 0 := by
      rcases hc with ⟨h1, _⟩ | ⟨h1, _⟩ <;> omega
    refine q_asg (v := .int ld) (hld ▸ ev_call (ea_cons (ev_var rfl) (ea_cons (ev_var rfl) ea_nil)) (fun H1 e Q q E => ⟨o, u, t, g, t', g', b, L, rfl, hT.mono e, q⟩)) fun H1 e1 => ?_
    refine q_asg (v := .int (b : Int)) (ev_call (ea_cons (ev_var rfl) (ea_cons (ev_var rfl) ea_nil)) (fun H2 e Q q E => ⟨o, u, t, g, t', g', rfl, hT.one.mono (e1.trans e), hT.other.mono (e1.trans e), by rw [← hT.hb]; exact q⟩)) fun H2 e2 => ?_
    refine q_asg (v := .int ((b + L : Nat) : Int)) (ev_is (ev_op (y := .int (L : Int)) (ev_var rfl) (ev_call (ea_cons (ev_var rfl) (ea_cons (ev_var rfl) ea_nil)) (fun H3 e Q q E => ⟨o, u, t, g, t', g', rfl, hT.one.mono ((e1.trans e2).trans e), hT.other.mono ((e1.trans e2).trans e), by rw [← hT.hL]; exact hT.few, by rw [← hT.hL]; exact q⟩)) rv_I0) rfl) fun H3 e3 => ?_
    have E3 := (e1.trans e2).trans e3
    refine q_when (b := true) (et_is (et_test (ev_op (ev_var rfl) ev_c (rv_ne rfl))) (by
      rw [decide_eq_false (fun z => ne (V.int.inj z))]
      rfl)) (fun _ H4 e4 => ?_) (fun z => absurd z (by decide))
    refine q_pair (c := decide (ld > 0)) (x := .ref o) (y := .ref u) (x' := .ref u) (y' := .ref o) (et_test (ev_op (ev_var rfl) ev_c rv_I0)) (fun _ => ⟨ev_var rfl, ev_var rfl⟩) (fun _ => ⟨ev_var rfl, ev_var rfl⟩) fun H5 e5 => ?_
    rw [hx, hy]
    refine q_asg (v := if up then .ref x else .ref y) (ev_if (b := up) (et_B (ev_var rfl)) (fun h => by subst h; exact ev_var rfl) (fun h => by subst h; exact ev_var rfl)) fun H6 e6 => ?_
    refine q_call (vs := [.ref y, .ref x]) (ea_cons (ev_var rfl) (ea_cons (ev_var rfl) ea_nil)) fun H7 e7 => ⟨y, x, ts, gs, tf, gf, b, L, rfl, TF.mono (E3.trans (e4.trans (e5.trans (e6.trans e7)))), lt, fw, fun last la H8 e8 => ?_⟩
    have far := hcr last la
    refine q_when (b := true) (et_is (et_test (ev_op (ev_op (ev_var rfl) ev_c rv_I0) ev_c rv_I0)) (decide_eq_true (by omega))) (fun _ H9 e9 => ?_) (fun z => absurd z (by decide))
    exact raise_two (ea_cons ev_c (ea_cons ev_c ea_nil)) (kE.mono (E3.trans (e4.trans (e5.trans (e6.trans (e7.trans (e8.trans e9)))))))
theorem late_Or {C f cM : Addr} {mc : Value} {fd : FuncData} (F : Fun K "__or__" "Growth.__or__" (sGr 6) f fd) (N : GName K mg C mc) (G : GCls K C) (I : GIsi K C) (inst : mg "isinstance" = none) (LO : GfnX P w K mg base 5 "outer_parts" ["one", "other", "is_greatest"] (spLateO K C cM)) :
    FnOk P w K mg base (L2.CX P w) 6 f fd ["self", "other"] (spLate K C cM) := by
  obtain ⟨fS, fdS, GS, kS, bS, gS⟩ := LO
  refine F.okX scBadOr (fun vs H Q E h => ?_) (fun cdv A outer s H vs Q E hr h => ?_)
  · obtain ⟨o, u, rfl, _⟩ := h
    rfl
  · obtain ⟨o, u, rfl, hW, kE⟩ := h
    refine ⟨_, pss_cons (ps_if (pt_not (pt_val (pe_callB call_isi (by rfl) inst (by decide +kernel) (pa_cons (pv 1) (pa_cons (pe_glob (v := .ref C) rfl N.g rfl) pa_nil))))) (pss_one ps_no) pss_nil)
      (pss_cons (ps_asg (pe_call (E := E) GS (hr.mono (by decide)) (by rfl) gS kS bS .nil (passes_call (takes_of rfl rfl rfl rfl) fun _ _ _ _ z => z) (pa_cons (pv 0) (pa_cons (pv 1) (pa_cons pe_bl pa_nil)))) (pg_tup rfl (pgs_cons (pg_name (i := 2) scBadOr.nd rfl (.inl rfl)) (pgs_cons (pg_name (i := 3) scBadOr.nd rfl (.inl rfl)) pgs_nil))))
      (pss_one ps_no)), ?_⟩
    obtain ⟨t', g', hU⟩ := cross_one hW
    refine q_when (b := false) (et_is (et_not (et_B (ev_isG (K := K) (σ := [some (.ref o), some (.ref u), none, none]) (ta := tVar 1) G I (ev_var rfl) hU))) rfl) (fun z => absurd z (by decide)) fun _ H1 e1 => ?_
    exact ⟨_, rfl, _, rfl, o, u, true, rfl, hW.mono e1, kE.mono e1⟩
theorem late_And {C f cM : Addr} {mc : Value} {fd : FuncData} (F : Fun K "__and__" "Growth.__and__" (sGr 7) f fd) (N : GName K mg C mc) (G : GCls K C) (I : GIsi K C) (inst : mg "isinstance" = none) (LO : GfnX P w K mg base 5 "outer_parts" ["one", "other", "is_greatest"] (spLateO K C cM)) :
    FnOk P w K mg base (L2.CX P w) 6 f fd ["self", "other"] (spLate K C cM) := by
  obtain ⟨fS, fdS, GS, kS, bS, gS⟩ := LO
  refine F.okX scBadAnd (fun vs H Q E h => ?_) (fun cdv A outer s H vs Q E hr h => ?_)
  · obtain ⟨o, u, rfl, _⟩ := h
    rfl
  · obtain ⟨o, u, rfl, hW, kE⟩ := h
    refine ⟨_, pss_cons (ps_if (pt_not (pt_val (pe_callB call_isi (by rfl) inst (by decide +kernel) (pa_cons (pv 1) (pa_cons (pe_glob (v := .ref C) rfl N.g rfl) pa_nil))))) (pss_one ps_no) pss_nil)
      (pss_cons (ps_asg (pe_call (E := E) GS (hr.mono (by decide)) (by rfl) gS kS bS .nil (passes_call (takes_of rfl rfl rfl rfl) fun _ _ _ _ z => z) (pa_cons (pv 0) (pa_cons (pv 1) (pa_cons pe_bl pa_nil)))) (pg_tup rfl (pgs_cons (pg_name (i := 2) scBadAnd.nd rfl (.inl rfl)) (pgs_cons (pg_name (i := 3) scBadAnd.nd rfl (.inl rfl)) pgs_nil))))
      (pss_one ps_no)), ?_⟩
    obtain ⟨t', g', hU⟩ := cross_one hW
    refine q_when (b := false) (et_is (et_not (et_B (ev_isG (K := K) (σ := [some (.ref o), some (.ref u), none, none]) (ta := tVar 1) G I (ev_var rfl) hU))) rfl) (fun z => absurd z (by decide)) fun _ H1 e1 => ?_
    exact ⟨_, rfl, _, rfl, o, u, false, rfl, hW.mono e1, kE.mono e1⟩
theorem far_After {C f cM : Addr} {mc : Value} {fd : FuncData} (F : Fun K "after" "Growth.after" (sGr 10) f fd) (N : GName K mg C mc) (G : GCls K C) (I : GIsi K C) (inst : mg "isinstance" = none) (LS : GfnX P w K mg base 3 "composed_parts" ["one", "other"] (spFarC K C cM)) :
    FnOk P w K mg base (L2.CX P w) 6 f fd ["self", "other"] (spFarC K C cM) := by
  obtain ⟨fS, fdS, GS, kS, bS, gS⟩ := LS
  refine F.okX scBadAfter (fun vs H Q E h => ?_) (fun cdv A outer s H vs Q E hr h => ?_)
  · obtain ⟨o, u, rfl, _⟩ := h
    rfl
  · obtain ⟨o, u, rfl, hW⟩ := h
    refine ⟨_, pss_cons (ps_if (pt_not (pt_val (pe_callB call_isi (by rfl) inst (by decide +kernel) (pa_cons (pv 1) (pa_cons (pe_glob (v := .ref C) rfl N.g rfl) pa_nil))))) (pss_one ps_no) pss_nil)
      (pss_cons (ps_asg (pe_call (E := E) GS (hr.mono (by decide)) (by rfl) gS kS bS .nil (passes_call (takes_of rfl rfl rfl rfl) fun _ _ _ _ z => z) (pa_cons (pv 0) (pa_cons (pv 1) pa_nil))) (pg_tup rfl (pgs_cons (pg_name (i := 2) scBadAfter.nd rfl (.inl rfl)) (pgs_cons (pg_name (i := 3) scBadAfter.nd rfl (.inl rfl)) pgs_nil))))
      (pss_one ps_no)), ?_⟩
    obtain ⟨t, g, t', g', S, _, hU, _⟩ := hW.ex
    refine q_when (b := false) (et_is (et_not (et_B (ev_isG (K := K) (σ := [some (.ref o), some (.ref u), none, none]) (ta := tVar 1) G I (ev_var rfl) hU))) rfl) (fun z => absurd z (by decide)) fun _ H1 e1 => ?_
    exact ⟨_, rfl, _, rfl, o, u, rfl, hW.mono e1⟩
end
end K02
/-! what the law's own growths refuse -/
namespace K02
open PySem Gr L2
section
variable {K : PySem.W.Frag} {C cM o u : Addr} {H : Hp} {E : XK}
theorem wide_steps (hO : GrF K C H o (val [0] (stp 43))) (hU : GrF K C H u (val [0] (stp 47))) : Wide2 K C H o u :=
  ⟨⟨[0], stp 43, [0], stp 47, grF_known hO (nf_steps (by decide)) fun _ => rfl, grF_known hU (nf_steps (by decide)) fun _ => rfl, by rw [stp_len, stp_len]; decide⟩⟩
theorem far_steps (hO : GrF K C H o (val [0] (stp 43))) (hU : GrF K C H u (val [0] (stp 47))) (k : OutG cM H E) : Far2 K C cM H o u E :=
  ⟨⟨[0], stp 43, [0], stp 47, 1, grF_known hO (nf_steps (by decide)) fun _ => rfl, grF_known hU (nf_steps (by decide)) fun _ => rfl, by decide +kernel, by decide, .inl ⟨by rw [stp_len, stp_len]; decide, k⟩⟩⟩
/-! ### noughts, then one more each -/
theorem at_rep {m i : Nat} : at' (List.replicate m (0 : Int)) i = 0 := by
  unfold at'
  rw [List.getD_eq_getElem?_getD]
  rcases Nat.lt_or_ge i m with h | h
  · rw [List.getElem?_eq_getElem (by rw [List.length_replicate]; exact h), List.getElem_replicate]
    rfl
  · rw [List.getElem?_eq_none (by rw [List.length_replicate]; exact h)]
    rfl
theorem nf_flat {m : Nat} (h : 0 < m) : NF (List.replicate m (0 : Int)) [1] := nf_by 1 rfl (by decide) (by decide +kernel) (by rw [List.length_replicate]; exact h) (.inr (by
  rw [at_rep, at_rep]
  decide +kernel))
theorem val_flat {m n : Nat} (h : 0 < m) : val (List.replicate m (0 : Int)) [1] n = if n < m then 0 else ((n - m + 1 : Nat) : Int) := by
  by_cases c : n < m
  · rw [val_lt (by rw [List.length_replicate]; exact c), at_rep, if_pos c]
  · rw [val_far (by rw [List.length_replicate]; exact h) (by rw [List.length_replicate]; omega), if_neg c, List.length_replicate]
    have l : Gr.lst (List.replicate m (0 : Int)) = 0 := at_rep
    have a : acc (dif [1]) ([1] : List Int).length = 1 := by decide +kernel
    rw [l, a, show ([1] : List Int).length = 1 from rfl, Nat.div_one, Nat.mod_one]
    show (0 : Int) + ((n - m + 1 : Nat) : Int) * 1 + 0 = _
    omega
theorem far_flat {m : Nat} (h1 : 1999 ≤ m) (hO : GrAt K C H o [0, 5, 0] [1]) (hU : GrAt K C H u (List.replicate m (0 : Int)) [1]) (k : OutT cM H E) : Far2 K C cM H o u E :=
  ⟨⟨[0, 5, 0], [1], List.replicate m 0, [1], 1, hO, hU, by decide +kernel, by decide, .inr ⟨by decide, fun n h2 h3 => by
    rw [List.length_replicate] at h2
    rw [val_flat (by omega)]
    show _ < (2 : Int)
    split <;> omega, k⟩⟩⟩
/-! ### what crosses at 1999 -/
theorem late_above : 0 < val [2000] [2, 2, 3] 1999 - val [0] [3, 3, 4] 1999 := by
  rw [val_far (by decide) (by decide), val_far (by decide) (by decide)]
  decide +kernel
theorem la_late {last : Int} (h : LA (fun n => val [2000] [2, 2, 3] n - val [0] [3, 3, 4] n) 1 3 (1 + 3) last) : 1998 < last := by
  have := h.far 1 (by decide) (by decide) 666 late_above
  omega
theorem cross_one_ (hO : GrAt K C H o [0] [3, 3, 4]) (hU : GrAt K C H u [2000] [2, 2, 3]) : Cross2 K C H o u :=
  ⟨⟨[0], [3, 3, 4], [2000], [2, 2, 3], 1, 3, ⟨hO, hU, by decide, by decide +kernel, by decide⟩, by decide +kernel, .inl ⟨by decide +kernel, fun last la => la_late la⟩⟩⟩
theorem cross_two_ (hO : GrAt K C H o [2000] [2, 2, 3]) (hU : GrAt K C H u [0] [3, 3, 4]) : Cross2 K C H o u :=
  ⟨⟨[2000], [2, 2, 3], [0], [3, 3, 4], 1, 3, ⟨hO, hU, by decide, by decide +kernel, by decide⟩, by decide +kernel, .inr ⟨by decide +kernel, fun last la => la_late la⟩⟩⟩
/-! ### ramps that cross late, and a growth that begins high -/
theorem nf_ramp {a b : Int} : NF [a] [b] := nf_by 1 rfl (by decide) rfl Nat.one_pos (.inl rfl)
theorem ramp_above : 0 < val [2001] [2] 2000 - val [0] [3] 2000 := by
  rw [val_far (by decide) (by decide), val_far (by decide) (by decide)]
  decide +kernel
theorem la_ramp {last : Int} (h : LA (fun n => val [2001] [2] n - val [0] [3] n) 1 1 (1 + 1) last) : 1998 < last := by
  have := h.far 1 (by decide) (by decide) 1999 ramp_above
  omega
theorem cross_ramp (hO : GrAt K C H o [0] [3]) (hU : GrAt K C H u [2001] [2]) : Cross2 K C H o u :=
  ⟨⟨[0], [3], [2001], [2], 1, 1, ⟨hO, hU, by decide, by decide +kernel, by decide⟩, by decide +kernel, .inl ⟨by decide +kernel, fun last la => la_ramp la⟩⟩⟩
theorem nf_high {v : Int} {m : Nat} (h : 0 < m) : NF [v] (stp m) := ⟨Nat.one_pos, by rw [stp_len]; exact h, (nf_steps h).least, .inl rfl⟩
theorem wide_high {v : Int} (hO : GrAt K C H o [v] (stp 43)) (hU : GrF K C H u (val [0] (stp 47))) : Wide2 K C H o u :=
  ⟨⟨[v], stp 43, [0], stp 47, hO, grF_known hU (nf_steps (by decide)) fun _ => rfl, by rw [stp_len, stp_len]; decide⟩⟩
end
end K02
namespace K02
open PySem L2 Evl Gr ClX OpX StX OwX StM
section
variable {P : Program} {w : World} {K : PySem.W.Frag} {mg : Str → Option Value} {base : Heap}
/-! ### composed_parts -/
def spCompB (K : PySem.W.Frag) (C : Addr) : Sp := fun vs H Q _ => ∃ (o u : Addr) (t g t' g' : List Int), vs = [.ref o, .ref u] ∧ GrAt K C H o t g ∧ GrAt K C H u t' g' ∧ Pos t' ∧ g'.length * g.length ≤ 2000 ∧ (∃ B, t'.length ≤ B ∧ B ≤ 2000 ∧ (t.length : Int) - 1 ≤ val t' g' (B - 1)) ∧
  ∀ r p q ts gs H', Ex H H' → SqT K H' r [.ref p, .ref q] → Sq K H' p (vI ts) → Sq K H' q (vI gs) → 0 < ts.length → ts.length ≤ 2000 → 0 < gs.length → gs.length ≤ 2000 → (∀ n, val ts gs n = cmp (val t g) (val t' g') n) → Q (.ref r) H'
theorem ok_CompB {C f fV fF fP : Addr} {fd fdV fdF fdP : FuncData} (F : Fun K "composed_parts" "composed_parts" sComp f fd) (T : GlbS mg) (gcd_ : mg "gcd" = some (.builtin "math.gcd")) (most : ∃ t, mg "MOST_PARTS" = some (.int 2000 t)) (G : GCls K C)
    (GV : FnOk P w K mg base CX0 1 fV fdV ["one", "n"] (spVal K C)) (kV : PySem.W.keepIn K (.ref fV) = true) (bV : Binds K fdV ["one", "n"] []) (gV : mg "value_at" = some (.ref fV))
    (GF : FnOk P w K mg base CX0 1 fF fdF ["one", "many"] (spFirst K C)) (kF : PySem.W.keepIn K (.ref fF) = true) (bF : Binds K fdF ["one", "many"] []) (gF : mg "first_values" = some (.ref fF))
    (GP : FnOk P w K mg base CX0 1 fP fdP ["values", "many"] (spPart K)) (kP : PySem.W.keepIn K (.ref fP) = true) (bP : Binds K fdP ["values", "many"] []) (gP : mg "parted" = some (.ref fP)) :
    FnOk P w K mg base CX0 2 f fd ["one", "other"] (spCompB K C) := by
  obtain ⟨mt, gm⟩ := most
  refine F.ok scComp (fun vs H Q E h => ?_) (fun cdv A outer s H vs Q E hr h => ?_)
  · obtain ⟨o, u, t, g, t', g', rfl, _⟩ := h
    rfl
  · obtain ⟨o, u, t, g, t', g', rfl, hO, hU, pt', few, ⟨B, B1, B2, near⟩, k⟩ := h
    refine ⟨_, pss_cons (ps_if (pt_cmpR op_eq (pe_ix ix_seq (pe_fld (pv 1) rfl) (pe_un un_neg pe_int) (fun _ _ => rfl)) pe_int (nomark _))
        (pss_one (ps_ret (pe_tup (pa_cons (pe_lc (own := [("value", 6)]) (g := gName 6) rfl scComp.nd (pi_seq (pe_fld (pv 1) rfl)) (blkOk_by (own := [("value", 6)]) (N := nComp) (sc := defScope sComp) (by decide +kernel))
              (fun _ _ _ _ _ => pg_name (i := 6) scComp.nd rfl (Or.inl rfl)) (fun _ _ _ _ _ => pts_nil) (fun _ _ _ _ _ => pe_call GV hr (by rfl) gV kV bV .nil pass0 (pa_cons (pv 0) (pa_cons (pv 6) pa_nil))))
            (pa_cons (pe_tup (pa_cons pe_int pa_nil)) pa_nil))))) pss_nil)
      (pss_cons (ps_set (i := 2) scComp.nd rfl (.inl rfl) (pe_op op_fdiv (pe_callB call_len_seq (by rfl) T.len PySem.boot_len (pa_cons (pe_fld (pv 0) rfl) pa_nil)) (pe_callBfun cr_gcd (by rfl) gcd_ (pa_cons (pe_callB call_len_seq (by rfl) T.len PySem.boot_len (pa_cons (pe_fld (pv 0) rfl) pa_nil)) (pa_cons (pe_ix ix_seq (pe_fld (pv 1) rfl) (pe_un un_neg pe_int) (fun _ _ => rfl)) pa_nil)))))
      (pss_cons (ps_set (i := 3) scComp.nd rfl (.inl rfl) (pe_op op_mul (pe_callB call_len_seq (by rfl) T.len PySem.boot_len (pa_cons (pe_fld (pv 1) rfl) pa_nil)) (pv 2)))
      (pss_cons (ps_if (pt_cmpR op_gt (pv 3) (pe_glob (v := .int 2000) (by rfl) gm ⟨_, rfl⟩) (nomark _)) (pss_one ps_no) pss_nil)
      (pss_cons (ps_set (i := 4) scComp.nd rfl (.inl rfl) (pe_call GF hr (by rfl) gF kF bF .nil pass0 (pa_cons (pv 1) (pa_cons (pe_glob (v := .int 2000) (by rfl) gm ⟨_, rfl⟩) pa_nil))))
      (pss_cons (ps_set (i := 5) scComp.nd rfl (.inl rfl) (pe_callB call_len_seq (by rfl) T.len PySem.boot_len (pa_cons (pe_fld (pv 1) rfl) pa_nil)))
      (pss_cons (ps_while PassesOwn.never (PW.pt (pw_and (pt_cmpR op_le (pv 5) (pe_glob (v := .int 2000) (by rfl) gm ⟨_, rfl⟩) (nomark _)) (pw_and1 (pt_cmpR op_lt (pe_ix ix_list (pv 4) (pe_op op_sub (pv 5) pe_int) (fun _ _ => rfl)) (pe_op op_sub (pe_callB call_len_seq (by rfl) T.len PySem.boot_len (pa_cons (pe_fld (pv 0) rfl) pa_nil)) pe_int) (nomark _)))))
          (pss_one (ps_aug (i := 5) scComp.nd rfl (.inl rfl) pe_int ip_add)))
      (pss_cons (ps_if (pt_cmpR op_gt (pv 5) (pe_glob (v := .int 2000) (by rfl) gm ⟨_, rfl⟩) (nomark _)) (pss_one ps_no) pss_nil)
      (pss_one (ps_ret (pe_call GP hr (by rfl) gP kP bP .nil pass0 (pa_cons (pe_lc (own := [("value", 6)]) (g := gName 6) rfl scComp.nd (pi_list (pe_call GF hr (by rfl) gF kF bF .nil pass0 (pa_cons (pv 1) (pa_cons (pe_op op_add (pv 5) (pv 3)) pa_nil)))) (blkOk_by (own := [("value", 6)]) (N := nComp) (sc := defScope sComp) (by decide +kernel))
              (fun _ _ _ _ _ => pg_name (i := 6) scComp.nd rfl (Or.inl rfl)) (fun _ _ _ _ _ => pts_nil) (fun _ _ _ _ _ => pe_call GV hr (by rfl) gV kV bV .nil pass0 (pa_cons (pv 0) (pa_cons (pv 6) pa_nil)))) (pa_cons (pv 5) pa_nil)))))))))))), ?_⟩
    have hO0 := hO
    have hU0 := hU
    obtain ⟨dx, p, q, r, h1, h2, h3, h4, nf, t2, g2, sm⟩ := hO
    obtain ⟨dx', p', q', r', h1', h2', h3', h4', nf', t2', g2', sm'⟩ := hU
    have t0 := nf.told
    have g0 := nf.gains
    have t0' := nf'.told
    have g0' := nf'.gains
    have pos' := fun i hi => (sm' i hi).1
    obtain ⟨S, hS⟩ := Int.eq_ofNat_of_zero_le (acc_nn g0' pos' g'.length)
    have evS : ∀ {σ : L2.St} {H' : Hp}, σ[1]? = some (some (.ref u)) → Ex H H' → Ev (tOp (rIx K) (tFld K (tVar 1) "rises") (tUn (rU fun i => .int (-i)) (tC (.int 1)))) σ H' (.int (S : Int)) := fun {σ H'} h0 e => by
      refine ev_op (ev_fld (ev_var h0) (e _ _ h1') G.cls G.rises rfl) (ev_un ev_c ru_neg) (rv_ix (v := .int (S : Int)) (.inr (ex_t e h4')) ?_)
      have rl := ris_len (g := g')
      have z := atI_vlast (g := ris g') (by omega)
      rw [ris_at (by omega), show (ris g').length - 1 = g'.length by omega, hS] at z
      exact z
    have lenO : ∀ {σ : L2.St} {H' : Hp}, σ[0]? = some (some (.ref o)) → Ex H H' → Ev (tCB (fun xs H Q => ∃ p ys, xs = [V.ref p] ∧ (SqL K H p ys ∨ SqT K H p ys) ∧ Q (.int ys.length) H) (tCons (tFld K (tVar 0) "gains") tNil)) σ H' (.int (g.length : Int)) := fun h0 e => ev_lenF (ev_var h0) (e _ _ h1) G.cls G.gains rfl (ex_t e h3)
    have inner : ∀ {σ : L2.St} {H' : Hp} {x : Int}, σ[0]? = some (some (.ref o)) → σ[6]? = some (some (.int x)) → 0 ≤ x → Ex H H' → Ev (tCall (spVal K C) [] E0 (tCons (tVar 0) (tCons (tVar 6) tNil))) σ H' (.int (val t g x.toNat)) := fun {σ H' x} h0 h6 hx e H1 e1 Q1 q1 =>
      ⟨_, h0, _, h6, o, x.toNat, t, g, by rw [Int.toNat_of_nonneg hx]; rfl, hO0.mono (e.trans e1), q1⟩
    refine q_when (et_test (ev_op (evS rfl (Ex.refl H)) ev_c (rv_eq rfl))) (fun hb H1 e1 => ?_) (fun hb H1 e1 => ?_)
    · have z : S = 0 := by
        have := V.int.inj (of_decide_eq_true hb)
        omega
      subst z
      have L := el_lcQ (K := K) (σ := [some (.ref o), some (.ref u), none, none, none, none, none]) (H := H1) (te := tCall (spVal K C) [] E0 (tCons (tVar 0) (tCons (tVar 6) tNil))) (tl := tFld K (tVar 1) "told") (j := 6) (vs := [6]) (fun i => V.int (val t g (at' t' i).toNat))
        (ev_fld (ev_var rfl) (e1 _ _ h1') G.cls G.told rfl) (.inr (ex_t e1 h2')) (by rw [vI_len]; omega) (fun _ => rfl) (fun i x H2 e2 hx => by
          have hi : i < t'.length := by
            have := (List.getElem?_eq_some_iff.mp hx).1
            rwa [vI_len] at this
          rw [vI_get hi] at hx
          obtain rfl := Option.some.inj hx
          exact inner rfl rfl (pt' i hi) (e1.trans e2))
      have ee : (List.range (vI t').length).map (fun i => V.int (val t g (at' t' i).toNat)) = vI (t'.map fun v => val t g v.toNat) := by
        unfold vI
        rw [List.map_map]
        refine List.ext_getElem (by rw [List.length_map, List.length_range, List.length_map, List.length_map]) fun i a1 a2 => ?_
        rw [List.length_map] at a2
        rw [List.getElem_map, List.getElem_map, List.getElem_range]
        show V.int (val t g (at' t' i).toNat) = V.int (val t g (t'[i]).toNat)
        unfold at'
        rw [List.getD_eq_getElem?_getD, List.getElem?_eq_getElem a2]
        rfl
      rw [ee] at L
      refine s_retA (tup_iA (cons_i (L H1 (Ex.refl H1) _ fun a H2 ha e2 ha2 => cons_i (tup_iA (cons_i (c_i ⟨by show 1 ≤ sizeLine; decide, fun b hb => ⟨by show 2 ≤ sizeLine; decide, fun rr hr => ?_⟩⟩))))))
      have e3 := Ex.new (o := .tup [V.int 0]) hb
      have e4 := Ex.new (o := .tup [V.ref a, V.ref b]) hr
      exact k rr a b (t'.map fun v => val t g v.toNat) [0] _ ((e1.trans e2).trans (e3.trans e4)) (st_of upd_same) (.inl (sq_of (e4 _ _ (e3 _ _ ha2)))) (.inr (st_of (e4 _ _ upd_same))) (by rw [List.length_map]; exact t0') (by rw [List.length_map]; exact t2') (by decide) (by decide)
        (cmp_flat t0' g0' pos' (by rw [hS]; rfl))
    · have s1 : 0 < S := Nat.pos_of_ne_zero fun z => by
        subst z
        exact absurd (of_decide_eq_false hb) (fun h => h rfl)
      obtain ⟨T, hT⟩ : ∃ T, T = g.length / Nat.gcd g.length S := ⟨_, rfl⟩
      have gg := Nat.gcd_pos_of_pos_left S g0
      have gle : Nat.gcd g.length S ≤ g.length := Nat.le_of_dvd g0 (Nat.gcd_dvd_left _ _)
      have T0 : 0 < T := by rw [hT]; exact Nat.div_pos gle gg
      have Tle : T ≤ g.length := by rw [hT]; exact Nat.div_le_self _ _
      have M2 : g'.length * T ≤ 2000 := Nat.le_trans (Nat.mul_le_mul_left _ Tle) few
      have M0 : 0 < T * g'.length := Nat.mul_pos T0 g0'
      have M2' : T * g'.length ≤ 2000 := by rw [Nat.mul_comm]; exact M2
      have turn : (T : Int) * acc (dif g') g'.length = ((S / Nat.gcd g.length S * g.length : Nat) : Int) := by
        rw [hS, hT, ← gcd_turn g0]
        rfl
      refine q_asg (v := .int (T : Int)) (ev_is (ev_op (lenO rfl e1) (ev_cb (ea_cons (lenO rfl e1) (ea_cons (evS rfl e1) ea_nil)) rc_gcd) (rv_I ⟨by omega, by omega⟩)) (by rw [hT]; rfl)) fun H2 e2 => ?_
      have E2 := e1.trans e2
      refine q_asg (v := .int ((T * g'.length : Nat) : Int)) (ev_is (ev_op (ev_lenF (ev_var rfl) (E2 _ _ h1') G.cls G.gains rfl (ex_t E2 h3')) (ev_var rfl) (rv_I (.inl ⟨by omega, by omega⟩))) (by rw [Nat.mul_comm T]; rfl)) fun H3 e3 => ?_
      have E3 := E2.trans e3
      refine q_when (et_test (ev_op (ev_var rfl) ev_c rv_I0)) (fun ht H4 e4 => ?_) (fun _ H4 e4 => ?_)
      · have := of_decide_eq_true ht
        omega
      have E4 := E3.trans e4
      refine q_call (vs := [.ref u, .int ((2000 : Nat) : Int)]) (ea_cons (ev_var rfl) (ea_cons ev_c ea_nil)) fun H5 e5 => ⟨u, 2000, t', g', rfl, hU0.mono (E4.trans e5), by decide, fun vl H6 _ e6 hvl => ?_⟩
      have E6 := (E4.trans e5).trans e6
      refine q_asg (v := .int (t'.length : Int)) (ev_lenF (ev_var rfl) (E6 _ _ h1') G.cls G.told rfl (ex_t E6 h2')) fun H7 e7 => ?_
      have E7 := E6.trans e7
      have rc := reach t0' g0' pt' (by rw [hS]; omega) t.length
      refine q_while (fun m σ' H' => ∃ b : Nat, m = B - b ∧ t'.length ≤ b ∧ b ≤ B ∧ σ' = [some (.ref o), some (.ref u), some (.int (T : Int)), some (.int ((T * g'.length : Nat) : Int)), some (.ref vl), some (.int (b : Int)), none] ∧ Ex H7 H') _ ⟨t'.length, rfl, Nat.le_refl _, B1, rfl, Ex.refl H7⟩ ?_
      rintro m σ' H8 ⟨b, rfl, b1, b2, rfl, e8⟩
      have E8 := E7.trans e8
      have hvl8 : SqL K H8 vl (vI (pT (val t' g') 2000)) := sq_of ((e7.trans e8) _ _ hvl)
      refine ⟨decide ((b : Int) ≤ 2000) && decide (val t' g' (b - 1) < (t.length : Int) - 1), et_and (et_test (ev_op (ev_var rfl) ev_c rv_I0)) fun hbb => et_test (ev_op (x := .int (val t' g' (b - 1))) (ev_op (y := .int ((b - 1 : Nat) : Int)) (ev_var rfl) (ev_is (ev_op (ev_var rfl) ev_c rv_I0) (by congr 1; omega)) (rv_ixL hvl8 (atI_nat (by
          have := of_decide_eq_true hbb
          rw [vI_get (by rw [pT_len]; omega), pT_at (by omega)])))) (ev_op (ev_lenF (ev_var rfl) (E8 _ _ h1) G.cls G.told rfl (ex_t E8 h2)) ev_c rv_I0) rv_I0), fun hb2 H9 e9 => ?_, fun hb2 H9 e9 => ?_⟩
      · obtain ⟨_, c2⟩ := Bool.and_eq_true_iff.mp hb2
        have c2 := of_decide_eq_true c2
        have lt : b < B := by
          rcases Nat.lt_or_ge b B with h | h
          · exact h
          · have : b = B := by omega
            rw [this] at c2
            omega
        refine ⟨fun σ2 H2 => ∃ c : Nat, c = b + 1 ∧ σ2 = [some (.ref o), some (.ref u), some (.int (T : Int)), some (.int ((T * g'.length : Nat) : Int)), some (.ref vl), some (.int (c : Int)), none] ∧ Ex H7 H2, ?_, ?_⟩
        · rintro σ2 H10 ⟨c, rfl, rfl, e10⟩
          exact ⟨_, by omega, b + 1, rfl, by omega, lt, rfl, e10⟩
        · exact s_aug (a := (b : Int)) (b := 1) rfl ev_c fun H10 e10 => ⟨b + 1, rfl, rfl, (e8.trans e9).trans e10⟩
      · have b2000 : b ≤ 2000 := by omega
        have hv : (t.length : Int) - 1 ≤ val t' g' (b - 1) := by
          rcases Bool.and_eq_false_iff.mp hb2 with h | h
          · exact absurd (show (b : Int) ≤ 2000 by omega) (of_decide_eq_false h)
          · have := of_decide_eq_false h
            omega
        have E9 := E8.trans e9
        refine q_when (et_test (ev_op (ev_var rfl) ev_c rv_I0)) (fun ht H10 e10 => ?_) (fun _ H10 e10 => ?_)
        · have := of_decide_eq_true ht
          omega
        have E10 := E9.trans e10
        have rise_ := cmp_rise t0 t0' g0' pos' b1 hv turn
        have L := el_lcNL (K := K) (σ := [some (.ref o), some (.ref u), some (.int (T : Int)), some (.int ((T * g'.length : Nat) : Int)), some (.ref vl), some (.int (b : Int)), none]) (H := H10) (t := tYes) (te := tCall (spVal K C) [] E0 (tCons (tVar 0) (tCons (tVar 6) tNil))) (tl := tCall (spFirst K C) [] E0 (tCons (tVar 1) (tCons (tOp (rI0 fun i j => .int (i + j)) (tVar 5) (tVar 3)) tNil))) (j := 6) (vs := [6]) (xs := vI (pT (val t' g') (b + T * g'.length))) (fun _ => true) (fun i => V.int (cmp (val t g) (val t' g') i))
          (fun H11 e11 Q11 q11 => ⟨_, rfl, _, rfl, _, rfl, ⟨b, ((T * g'.length : Nat) : Int), rfl, rfl, u, b + T * g'.length, t', g', rfl, hU0.mono (E10.trans e11), by omega, fun a H12 ha e12 h12 => q11 a H12 ha e12 h12⟩⟩) (by rw [vI_len, pT_len]; omega) (fun _ => rfl) (fun _ _ _ _ _ => et_none)
          (fun i x H11 e11 hx _ => by
            have hi : i < b + T * g'.length := by
              have := (List.getElem?_eq_some_iff.mp hx).1
              rwa [vI_len, pT_len] at this
            rw [vI_get (by rw [pT_len]; exact hi), pT_at hi] at hx
            obtain rfl := Option.some.inj hx
            exact inner rfl rfl (val_nn t0' g0' pos' pt' i) (E10.trans e11))
        rw [given_all, vI_len, pT_len] at L
        have ee : (List.range (b + T * g'.length)).map (fun i => V.int (cmp (val t g) (val t' g') i)) = vI (pT (cmp (val t g) (val t' g')) (b + T * g'.length)) := by
          unfold vI pT
          rw [List.map_map]
          rfl
        rw [ee] at L
        refine s_retA (call_i (cons_i (L H10 (Ex.refl H10) _ fun x H11 _ e11 hx => ⟨_, rfl, x, b, T * g'.length, cmp (val t g) (val t' g'), rfl, sq_of hx, by omega, by omega, fun r2 p2 q2 H12 e12 hr2 hp2 hq2 => ?_⟩)))
        exact k r2 p2 q2 _ _ H12 ((E10.trans e11).trans e12) hr2 (.inl hp2) (.inl hq2) (by rw [pT_len]; omega) (by rw [pT_len]; exact b2000) (by rw [pG_len]; exact M0) (by rw [pG_len]; exact M2') (val_parted (by omega) M0 rise_)
end
end K02
namespace K02
open PySem L2 Evl Gr ClX OpX StX OwX StM
section
variable {P : Program} {w : World} {K : PySem.W.Frag} {mg : Str → Option Value} {base : Heap}
/-! ### Growth.after -/
def spAfter (K : PySem.W.Frag) (C : Addr) : Sp := fun vs H Q _ => ∃ (o u : Addr) (f h : Nat → Int) (a l r a' l' r' : Nat), vs = [.ref o, .ref u] ∧ GrF K C H o f ∧ GrF K C H u h ∧ Fm f a l r ∧ Fm h a' l' r' ∧ 0 < l ∧ 0 < l' ∧ l' * l ≤ 2000 ∧ a' + a * l' ≤ 2000 ∧ r' * r ≤ 4000000000000000 ∧ RetG K C (cmp f h) H Q
theorem scAfter : FnScope ["self", "other", "told", "gains"] ["self", "other"] (defScope (sGr 10)) := ⟨rfl, rfl, rfl, by decide +kernel, rfl, by decide +kernel, by decide +kernel⟩
theorem ok_After {C f fI fS : Addr} {mc : Value} {fd fdI fdS : FuncData} (F : Fun K "after" "Growth.after" (sGr 10) f fd) (N : GName K mg C mc) (G : GCls K C) (I : GIsi K C) (TT : GlbT mg) (M : Mk K C fI)
    (GI : FnOk P w K mg base CX0 4 fI fdI ["self", "told", "gains"] (spInit K C)) (bI : Binds K fdI ["self", "told", "gains"] [])
    (GS : FnOk P w K mg base CX0 2 fS fdS ["one", "other"] (spComp K C)) (kS : PySem.W.keepIn K (.ref fS) = true) (bS : Binds K fdS ["one", "other"] []) (gS : mg "composed_parts" = some (.ref fS)) :
    FnOk P w K mg base CX0 6 f fd ["self", "other"] (spAfter K C) := by
  refine F.ok scAfter (fun vs H Q E h => ?_) (fun cdv A outer s H vs Q E hr h => ?_)
  · obtain ⟨o, u, f1, f2, a, l, r, a', l', r', rfl, _⟩ := h
    rfl
  · obtain ⟨o, u, f1, f2, a, l, r, a', l', r', rfl, ⟨t, g, hO, p1, v1⟩, ⟨t', g', hU, p2, v2⟩, F1, F2, l0, l0', few, near, low, k⟩ := h
    refine ⟨_, pss_cons (ps_if (pt_not (pt_val (pe_callB call_isi (by rfl) TT.inst (by decide +kernel) (pa_cons (pv 1) (pa_cons (pe_glob (v := .ref C) rfl N.g rfl) pa_nil))))) (pss_one ps_no) pss_nil)
      (pss_cons (ps_asg (pe_call GS (hr.mono (by decide)) (by rfl) gS kS bS .nil pass0 (pa_cons (pv 0) (pa_cons (pv 1) pa_nil))) (pg_tup rfl (pgs_cons (pg_name (i := 2) scAfter.nd rfl (.inl rfl)) (pgs_cons (pg_name (i := 3) scAfter.nd rfl (.inl rfl)) pgs_nil))))
      (pss_one (ps_ret (pe_make M GI hr (by rfl) N.g bI .nil pass0 (pa_cons (pv 2) (pa_cons (pv 3) pa_nil)))))), ?_⟩
    have hO' := hO
    have hU' := hU
    obtain ⟨_, _, _, _, _, _, _, _, nf1, _, _, _⟩ := hO'
    obtain ⟨_, _, _, _, _, _, _, _, nf2, _, _, _⟩ := hU'
    obtain ⟨x1, x2, x3⟩ := F1.nf nf1 v1
    obtain ⟨y1, y2, y3⟩ := F2.nf nf2 v2
    have x2' := Nat.le_of_dvd l0 x2
    have y2' := Nat.le_of_dvd l0' y2
    have e1 : val t g = f1 := funext v1
    have e2 : val t' g' = f2 := funext v2
    have FC := F1.cmp F2 l0'
    refine q_when (et_not (et_B (ev_isG G I (ev_var rfl) hU))) (fun hb => absurd hb (by decide)) (fun _ H1 e1' => ?_)
    refine ⟨_, rfl, _, rfl, o, u, t, g, t', g', rfl, hO.mono e1', hU.mono e1', p2, Nat.le_trans (Nat.mul_le_mul y2' x2') few, Nat.le_trans (Nat.add_le_add y1 (Nat.mul_le_mul x1 y2')) near, fun rr pp qq ts gs H2 e2' hr2 hp hq b0 b1 l0x l1x hv => ?_⟩
    rw [e1, e2] at hv
    refine ⟨rr, [.ref pp, .ref qq], rfl, hr2, rfl, _, _, rfl, _, _, rfl, rfl, ?_⟩
    refine eg_make (K := K) (C := C) (σ := [some (.ref o), some (.ref u), some (.ref pp), some (.ref qq)]) (H := H2) (ta := tCons (tVar 2) (tCons (tVar 3) tNil)) (EvP.pair (ev_var rfl) (ev_var rfl) hp hq) b0 b1 l0x l1x
      (fun i hi => by
        have := hv i
        rw [val_lt hi] at this
        rw [this]
        exact FC.nn i) (fun i hi => gains_tail b0 hv (FC.tail.mono (by omega)) i hi) hv H2 (Ex.refl H2) _ fun x H3 hx e3 gr => k x H3 (fresh_back (e1'.trans e2') hx) ((e1'.trans e2').trans e3) gr
end
section
variable {K : PySem.W.Frag} {C : Addr} {σ : L2.St} {H : Hp} {ta tb : TE} {tk : TA} {f h : Nat → Int} {a l r a' l' r' : Nat}
theorem er_after (ha : EvR K C ta σ H f) (hb : EvR K C tb σ H h) (F1 : Fm f a l r) (F2 : Fm h a' l' r') (l0 : 0 < l) (l0' : 0 < l') (few : l' * l ≤ 2000) (near : a' + a * l' ≤ 2000) (low : r' * r ≤ 4000000000000000) :
    EvR K C (tMeth C "after" (spAfter K C) [] E0 ta (tCons tb tNil)) σ H (cmp f h) := fun H1 e Q q => ha H1 e _ fun o H2 e2 g1 => by
  obtain ⟨dx, p, q', r', h1⟩ := g1.ins
  exact ⟨o, dx, _, rfl, h1, rfl, hb H2 (e.trans e2) _ fun u H3 e3 g2 => ⟨o, u, f, h, _, _, _, _, _, _, rfl, g1.mono e3, g2, F1, F2, l0, l0', few, near, low, fun x H4 _ e4 gr => q x H4 ((e2.trans e3).trans e4) gr⟩⟩
theorem er_afterK {o : Addr} (ha : EvR K C ta σ H f) (hb : EvR K C tb σ H h) (F1 : Fm f a l r) (F2 : Fm h a' l' r') (l0 : 0 < l) (l0' : 0 < l') (few : l' * l ≤ 2000) (near : a' + a * l' ≤ 2000) (low : r' * r ≤ 4000000000000000) :
    EvR K C (fun σ H Q => ta σ H fun x H1 => ∃ a dx fs, x = .ref a ∧ H1 a = some (.ins C dx fs) ∧ fs.lookup ("after" : Str) = none ∧ (tCons tb tNil) σ H1 fun zs H2 => zs.length = (["other"] : List Str).length ∧ spAfter K C ([.ref a] ++ zs) H2 Q E0) σ H (cmp f h) := fun H1 e Q q => ha H1 e _ fun o H2 e2 g1 => by
  obtain ⟨dx, p, q', r', h1⟩ := g1.ins
  exact ⟨o, dx, _, rfl, h1, rfl, hb H2 (e.trans e2) _ fun u H3 e3 g2 => ⟨rfl, o, u, f, h, _, _, _, _, _, _, rfl, g1.mono e3, g2, F1, F2, l0, l0', few, near, low, fun x H4 _ e4 gr => q x H4 ((e2.trans e3).trans e4) gr⟩⟩
end
end K02
namespace K02
open PySem L2 Evl Gr ClX OpX StX OwX StM
section
variable {P : Program} {w : World} {K : PySem.W.Frag} {mg : Str → Option Value} {base : Heap}
/-! Growth.after, up to two thousand told values -/
def spAfterB (K : PySem.W.Frag) (C : Addr) : Sp := fun vs H Q _ => ∃ (o u : Addr) (t g t' g' : List Int), vs = [.ref o, .ref u] ∧ GrAt K C H o t g ∧ GrAt K C H u t' g' ∧ Pos t' ∧ g'.length * g.length ≤ 2000 ∧ (∃ B, t'.length ≤ B ∧ B ≤ 2000 ∧ (t.length : Int) - 1 ≤ val t' g' (B - 1)) ∧
  (∀ n, 0 ≤ cmp (val t g) (val t' g') n) ∧ Tail (cmp (val t g) (val t' g')) 4000000000000000 ∧ RetG K C (cmp (val t g) (val t' g')) H Q
theorem ok_AfterB {C f fI fS : Addr} {mc : Value} {fd fdI fdS : FuncData} (F : Fun K "after" "Growth.after" (sGr 10) f fd) (N : GName K mg C mc) (G : GCls K C) (I : GIsi K C) (TT : GlbT mg) (M : Mk K C fI)
    (GI : FnOk P w K mg base CX0 4 fI fdI ["self", "told", "gains"] (spInit K C)) (bI : Binds K fdI ["self", "told", "gains"] [])
    (GS : FnOk P w K mg base CX0 2 fS fdS ["one", "other"] (spCompB K C)) (kS : PySem.W.keepIn K (.ref fS) = true) (bS : Binds K fdS ["one", "other"] []) (gS : mg "composed_parts" = some (.ref fS)) :
    FnOk P w K mg base CX0 6 f fd ["self", "other"] (spAfterB K C) := by
  refine F.ok scAfter (fun vs H Q E h => ?_) (fun cdv A outer s H vs Q E hr h => ?_)
  · obtain ⟨o, u, t, g, t', g', rfl, _⟩ := h
    rfl
  · obtain ⟨o, u, t, g, t', g', rfl, hO, hU, p2, few, near, nn, tl, k⟩ := h
    refine ⟨_, pss_cons (ps_if (pt_not (pt_val (pe_callB call_isi (by rfl) TT.inst (by decide +kernel) (pa_cons (pv 1) (pa_cons (pe_glob (v := .ref C) rfl N.g rfl) pa_nil))))) (pss_one ps_no) pss_nil)
      (pss_cons (ps_asg (pe_call GS (hr.mono (by decide)) (by rfl) gS kS bS .nil pass0 (pa_cons (pv 0) (pa_cons (pv 1) pa_nil))) (pg_tup rfl (pgs_cons (pg_name (i := 2) scAfter.nd rfl (.inl rfl)) (pgs_cons (pg_name (i := 3) scAfter.nd rfl (.inl rfl)) pgs_nil))))
      (pss_one (ps_ret (pe_make M GI hr (by rfl) N.g bI .nil pass0 (pa_cons (pv 2) (pa_cons (pv 3) pa_nil)))))), ?_⟩
    refine q_when (et_not (et_B (ev_isG G I (ev_var rfl) hU))) (fun hb => absurd hb (by decide)) (fun _ H1 e1' => ?_)
    refine ⟨_, rfl, _, rfl, o, u, t, g, t', g', rfl, hO.mono e1', hU.mono e1', p2, few, near, fun rr pp qq ts gs H2 e2' hr2 hp hq b0 b1 l0x l1x hv => ?_⟩
    refine ⟨rr, [.ref pp, .ref qq], rfl, hr2, rfl, _, _, rfl, _, _, rfl, rfl, ?_⟩
    refine eg_make (K := K) (C := C) (σ := [some (.ref o), some (.ref u), some (.ref pp), some (.ref qq)]) (H := H2) (ta := tCons (tVar 2) (tCons (tVar 3) tNil)) (EvP.pair (ev_var rfl) (ev_var rfl) hp hq) b0 b1 l0x l1x
      (fun i hi => by
        have := hv i
        rw [val_lt hi] at this
        rw [this]
        exact nn i) (fun i hi => gains_tail b0 hv tl i hi) hv H2 (Ex.refl H2) _ fun x H3 hx e3 gr => k x H3 (fresh_back (e1'.trans e2') hx) ((e1'.trans e2').trans e3) gr
end
end K02
/-! a hump behind many noughts -/
namespace K02
open PySem Gr L2
theorem val_hump (n : Nat) : val [0, 5, 0] [1] n = if n = 0 then 0 else if n = 1 then 5 else ((n - 2 : Nat) : Int) := by
  match n with
  | 0 => rfl
  | 1 => rfl
  | 2 => rfl
  | n + 3 =>
    rw [val_far (by decide) (by show 3 ≤ n + 3; omega)]
    have a : acc (dif [1]) ([1] : List Int).length = 1 := by decide +kernel
    rw [a, show ([1] : List Int).length = 1 from rfl, Nat.div_one, Nat.mod_one, if_neg (by omega), if_neg (by omega)]
    show (0 : Int) + ((n + 3 - 3 + 1 : Nat) : Int) * 1 + 0 = _
    omega
theorem val_behind (n : Nat) : cmp (val [0, 5, 0] [1]) (val (List.replicate 1998 (0 : Int)) [1]) n = if n < 1998 then 0 else if n = 1998 then 5 else ((n - 1999 : Nat) : Int) := by
  show val [0, 5, 0] [1] (val (List.replicate 1998 (0 : Int)) [1] n).toNat = _
  rw [val_flat (by decide)]
  by_cases c : n < 1998
  · rw [if_pos c, if_pos c]
    rfl
  · rw [if_neg c, if_neg c, Int.toNat_natCast, val_hump, if_neg (by omega)]
    by_cases d : n = 1998
    · rw [if_pos (by omega), if_pos d]
    · rw [if_neg (by omega), if_neg d]
      congr 1
theorem behind_nn (n : Nat) : 0 ≤ cmp (val [0, 5, 0] [1]) (val (List.replicate 1998 (0 : Int)) [1]) n := by
  rw [val_behind]
  split
  · decide
  · split
    · decide
    · omega
def behindT : List Int := List.replicate 1998 0 ++ [5, 0]
theorem behind_len : behindT.length = 2000 := by unfold behindT; rw [List.length_append, List.length_replicate]; rfl
theorem at_behind {i : Nat} (h : i < 2000) : at' behindT i = if i < 1998 then 0 else if i = 1998 then 5 else 0 := by
  unfold at' behindT
  rw [List.getD_eq_getElem?_getD]
  by_cases c : i < 1998
  · rw [List.getElem?_append_left (by rw [List.length_replicate]; exact c), List.getElem?_eq_getElem (by rw [List.length_replicate]; exact c), List.getElem_replicate, if_pos c]
    rfl
  · rw [List.getElem?_append_right (by rw [List.length_replicate]; omega), List.length_replicate, if_neg c]
    rcases (by omega : i = 1998 ∨ i = 1999) with rfl | rfl <;> rfl
theorem nf_behind : NF behindT [1] := nf_by 1 rfl (by decide) rfl (by rw [behind_len]; decide) (.inr (by
  rw [behind_len, at_behind (by decide), at_behind (by decide)]
  decide +kernel))
theorem val_behindT (n : Nat) : val behindT [1] n = cmp (val [0, 5, 0] [1]) (val (List.replicate 1998 (0 : Int)) [1]) n := by
  rw [val_behind]
  rcases Nat.lt_or_ge n 2000 with c | c
  · rw [val_lt (by rw [behind_len]; exact c), at_behind c]
    by_cases d : n < 1998
    · rw [if_pos d, if_pos d]
    · rw [if_neg d, if_neg d]
      by_cases e : n = 1998
      · rw [if_pos e, if_pos e]
      · rw [if_neg e, if_neg e, show n - 1999 = 0 by omega]
        rfl
  · rw [val_far (by rw [behind_len]; decide) (by rw [behind_len]; exact c), behind_len, if_neg (by omega), if_neg (by omega)]
    have l : Gr.lst behindT = 0 := by
      unfold Gr.lst
      rw [behind_len, at_behind (by decide)]
      rfl
    have a : acc (dif [1]) ([1] : List Int).length = 1 := by decide +kernel
    rw [l, a, show ([1] : List Int).length = 1 from rfl, Nat.div_one, Nat.mod_one]
    show (0 : Int) + ((n - 2000 + 1 : Nat) : Int) * 1 + 0 = _
    omega
end K02
/-! many squares -/
namespace K02
open PySem Gr L2
def sqT (m : Nat) : List Int := (List.range m).map fun (n : Nat) => (n : Int) * (n : Int)
theorem sqT_len {m : Nat} : (sqT m).length = m := by unfold sqT; rw [List.length_map, List.length_range]
theorem at_sqT {m i : Nat} (h : i < m) : at' (sqT m) i = (i : Int) * i := by unfold sqT; exact at_map h
def longG : List Int := 1 :: List.replicate 49 2
theorem nf_long : NF (sqT 1990) longG := nf_by 50 (by decide +kernel) (by decide) (by decide +kernel) (by rw [sqT_len]; decide) (.inr (by
  rw [sqT_len, at_sqT (by decide), at_sqT (by decide)]
  decide +kernel))
theorem nf_squares : NF (sqT 2000) [0] := nf_by 1 rfl (by decide) (by decide +kernel) (by rw [sqT_len]; decide) (.inr (by
  rw [sqT_len, at_sqT (by decide), at_sqT (by decide)]
  decide +kernel))
theorem val_id (n : Nat) : val [0] [1] n = (n : Int) := by
  have z := val_ge (t := [0]) (g := [1]) (by decide) n
  rw [show ([0] : List Int).length - 1 + n = n by show 0 + n = n; omega] at z
  have a : ∀ n, acc (dif [1]) n = (n : Int) := fun n => by
    induction n with
    | zero => rfl
    | succ n ih =>
      show acc (dif [1]) n + dif [1] n = _
      rw [ih]
      have : dif [1] n = 1 := by
        unfold dif
        rw [show ([1] : List Int).length = 1 from rfl, Nat.mod_one]
        rfl
      rw [this]
      omega
  rw [z, a]
  show (0 : Int) + _ = _
  omega
theorem cmp_id {f : Nat → Int} (h : ∀ n, 0 ≤ f n) (n : Nat) : cmp (val [0] [1]) f n = f n := by
  show val [0] [1] (f n).toNat = f n
  rw [val_id, Int.toNat_of_nonneg (h n)]
theorem sq_nn {m i : Nat} (h : i < m) : 0 ≤ at' (sqT m) i := by
  rw [at_sqT h]
  exact Int.mul_nonneg (Int.natCast_nonneg i) (Int.natCast_nonneg i)
end K02
namespace Gr
theorem Fm.of {f : Nat → Int} {b l r : Nat} (b0 : 0 < b) (l0 : 0 < l) (nn : ∀ n, 0 ≤ f n) (ri : ∀ n, b - 1 ≤ n → f (n + l + 1) - f (n + l) = f (n + 1) - f n) (st : ∀ n, b - 1 ≤ n → 0 ≤ f (n + 1) - f n ∧ f (n + 1) - f n ≤ (r : Int)) : Fm f b l r := by
  refine ⟨pT f b, pG f b l, by rw [pT_len]; exact b0, by rw [pT_len]; exact Nat.le_refl _, by rw [pG_len]; exact l0, by rw [pG_len]; exact Nat.dvd_refl _, fun i hi => ?_, fun i hi => ?_, val_parted b0 l0 ri⟩
  · rw [pG_len] at hi
    have ea : at' (pG f b l) i = f (b + i) - f (b + i - 1) := at_map_range hi
    rw [ea]
    have := st (b + i - 1) (by omega)
    rwa [show b + i - 1 + 1 = b + i by omega] at this
  · rw [pT_len] at hi
    rw [pT_at hi]
    exact nn i
theorem Fm.rise {f : Nat → Int} {a l r : Nat} (h : Fm f a l r) (n : Nat) (hn : a - 1 ≤ n) : f (n + l + 1) - f (n + l) = f (n + 1) - f n := by
  obtain ⟨t, g, t0, t1, g0, d, bg, pt, e⟩ := h
  have := rise_pd (t := t) (g := g) t0 d (n := n) (by omega)
  rw [← e, ← e, ← e, ← e]
  exact this
theorem Fm.step {f : Nat → Int} {a l r : Nat} (h : Fm f a l r) (n : Nat) (hn : a - 1 ≤ n) : 0 ≤ f (n + 1) - f n ∧ f (n + 1) - f n ≤ (r : Int) := by
  obtain ⟨t, g, t0, t1, g0, d, bg, pt, e⟩ := h
  have q := rise_ge (g := g) t0 (n := n) (by omega)
  unfold Gr.rise at q
  rw [← e, ← e, q]
  exact bg _ (Nat.mod_lt _ g0)
theorem Fm.pd {f : Nat → Int} {a l r : Nat} (h : Fm f a l r) (n : Nat) (hn : a - 1 ≤ n) : ∀ j, f (n + j * l + 1) - f (n + j * l) = f (n + 1) - f n
  | 0 => by rw [Nat.zero_mul]; rfl
  | j + 1 => by
    rw [Nat.succ_mul, ← Nat.add_assoc, h.rise (n + j * l) (by omega)]
    exact h.pd n hn j
theorem Fm.pdv {f : Nat → Int} {a l r L : Nat} (h : Fm f a l r) (hL : l ∣ L) (n : Nat) (hn : a - 1 ≤ n) : f (n + L + 1) - f (n + L) = f (n + 1) - f n := by
  obtain ⟨j, rfl⟩ := hL
  rw [Nat.mul_comm]
  exact h.pd n hn j
theorem Fm.a0 {f : Nat → Int} {a l r : Nat} (h : Fm f a l r) : 0 < a := by
  obtain ⟨t, g, t0, t1, _⟩ := h
  omega
theorem Fm.add {f g : Nat → Int} {a l r l' r' L : Nat} (h : Fm f a l r) (h' : Fm g a l' r') (L0 : 0 < L) (hL : l ∣ L) (hL' : l' ∣ L) : Fm (fun n => f n + g n) a L (r + r') := by
  refine .of h.a0 L0 (fun n => Int.add_nonneg (h.nn n) (h'.nn n)) (fun n hn => ?_) (fun n hn => ?_)
  · have x := h.pdv hL n hn
    have y := h'.pdv hL' n hn
    show f (n + L + 1) + g (n + L + 1) - (f (n + L) + g (n + L)) = f (n + 1) + g (n + 1) - (f n + g n)
    omega
  · have x := h.step n hn
    have y := h'.step n hn
    show 0 ≤ f (n + 1) + g (n + 1) - (f n + g n) ∧ f (n + 1) + g (n + 1) - (f n + g n) ≤ _
    omega
theorem Fm.sc3 {f : Nat → Int} {a l r : Nat} (h : Fm f a l r) (l0 : 0 < l) : Fm (fun n => ((3 : Nat) : Int) * f n) a l (3 * r) := by
  refine .of h.a0 l0 (fun n => by have := h.nn n; show 0 ≤ (3 : Int) * f n; omega) (fun n hn => ?_) (fun n hn => ?_)
  · have x := h.rise n hn
    show (3 : Int) * f (n + l + 1) - 3 * f (n + l) = 3 * f (n + 1) - 3 * f n
    omega
  · have x := h.step n hn
    show 0 ≤ (3 : Int) * f (n + 1) - 3 * f n ∧ (3 : Int) * f (n + 1) - 3 * f n ≤ _
    omega
theorem Fm.tail_eq {f g : Nat → Int} {a l r b : Nat} (h : Fm f a l r) (l0 : 0 < l) (b0 : 0 < b) (nn : ∀ n, 0 ≤ g n) (e : ∀ n, b - 1 ≤ n → g n = f n) (hb : a ≤ b) : Fm g b l r := by
  refine .of b0 l0 nn (fun n hn => ?_) (fun n hn => ?_)
  · rw [e _ (by omega), e _ (by omega), e _ (by omega), e _ hn]
    exact h.rise n (by omega)
  · rw [e _ (by omega), e _ hn]
    exact h.step n (by omega)
/-- how two growths stand to each other -/
def Rel (f g : Nat → Int) : Prop := (∀ n, 4 ≤ n → f n ≤ g n) ∨ (∀ n, 4 ≤ n → g n ≤ f n) ∨ ∀ x y, f x - f y = g x - g y
theorem pk_up (a b : Int) : pk true a b = if a ≤ b then b else a := by
  unfold pk
  by_cases h : a ≤ b
  · rw [if_pos h]
    by_cases h2 : a = b
    · subst h2
      simp
    · simp
      omega
  · rw [if_neg h]
    simp
    omega
theorem Fm.pk {f g : Nat → Int} {a l r l' r' L R : Nat} (h : Fm f a l r) (h' : Fm g a l' r') (a5 : a ≤ 5) (L0 : 0 < L) (hL : l ∣ L) (hL' : l' ∣ L) (hR : r ≤ R) (hR' : r' ≤ R) (x : Rel f g) : Fm (fun n => Gr.pk true (f n) (g n)) 5 L R := by
  have nn : ∀ n, 0 ≤ Gr.pk true (f n) (g n) := fun n => by
    rw [pk_up]
    have := h.nn n
    have := h'.nn n
    split <;> omega
  have H := h.mono (Nat.le_refl a) hL hR
  have H' := h'.mono (Nat.le_refl a) hL' hR'
  rcases x with x | x | x
  · exact H'.tail_eq L0 (by decide) nn (fun n hn => by rw [pk_up, if_pos (x n hn)]) a5
  · refine H.tail_eq L0 (by decide) nn (fun n hn => ?_) a5
    rw [pk_up]
    have := x n hn
    split <;> omega
  · by_cases c : f 0 ≤ g 0
    · exact H'.tail_eq L0 (by decide) nn (fun n hn => by
        have := x n 0
        rw [pk_up, if_pos (by omega)]) a5
    · refine H.tail_eq L0 (by decide) nn (fun n hn => ?_) a5
      have := x n 0
      rw [pk_up, if_neg (by omega)]
theorem Rel.ord {f g : Nat → Int} (x : Rel f g) : EqR f g ∨ Ord f g := by
  rcases x with x | x | x
  · exact .inr (.inr fun n hn => x n (by omega))
  · exact .inr (.inl fun n hn => x n (by omega))
  · exact .inl ⟨0, fun n _ => x _ _⟩
theorem Rel.cmp {f g h : Nat → Int} (x : Rel f g) (hh : ∀ n, 1998 < n → 4 ≤ h n) : EqR (cmp f h) (cmp g h) ∨ Ord (cmp f h) (cmp g h) := by
  rcases x with x | x | x
  · exact .inr (.inr fun n hn => x _ (by have := hh n hn; omega))
  · exact .inr (.inl fun n hn => x _ (by have := hh n hn; omega))
  · exact .inl ⟨0, fun n _ => x _ _⟩
theorem Fm.ramp (x : Nat) : Fm (fun n => (x : Int) + n * ((1 : Nat) : Int)) 1 1 1 := by
  refine .of Nat.one_pos Nat.one_pos (fun n => ?_) (fun n _ => ?_) (fun n _ => ?_)
  · show 0 ≤ (x : Int) + (n : Int) * 1
    omega
  · show (x : Int) + ((n + 1 + 1 : Nat) : Int) * 1 - ((x : Int) + ((n + 1 : Nat) : Int) * 1) = (x : Int) + ((n + 1 : Nat) : Int) * 1 - ((x : Int) + (n : Int) * 1)
    omega
  · show 0 ≤ (x : Int) + ((n + 1 : Nat) : Int) * 1 - ((x : Int) + (n : Int) * 1) ∧ (x : Int) + ((n + 1 : Nat) : Int) * 1 - ((x : Int) + (n : Int) * 1) ≤ 1
    omega
end Gr
/-! values that cross at 1999; stairs of 20; sums of stairs -/
namespace K02
open Gr
def tbl (f : Nat → Int) (m : Nat) : List Int := (List.range m).map f
theorem tbl_len {f : Nat → Int} {m : Nat} : (tbl f m).length = m := by unfold tbl; rw [List.length_map, List.length_range]
theorem at_tbl {f : Nat → Int} {m i : Nat} (h : i < m) : at' (tbl f m) i = f i := at_map h
theorem val_tbl {f F : Nat → Int} {m : Nat} {g : List Int} (h0 : 0 < m) (h1 : ∀ n, n < m → F n = f n) (h2 : ∀ k, F (m - 1 + k) = f (m - 1) + acc (dif g) k) (n : Nat) : val (tbl f m) g n = F n := by
  rcases Nat.lt_or_ge n m with c | c
  · rw [val_lt (by rw [tbl_len]; exact c), at_tbl c, h1 n c]
  · have z := val_ge (t := tbl f m) (g := g) (by rw [tbl_len]; exact h0) (n - (m - 1))
    rw [tbl_len, show m - 1 + (n - (m - 1)) = n by omega] at z
    have y := h2 (n - (m - 1))
    rw [show m - 1 + (n - (m - 1)) = n by omega] at y
    rw [z, y]
    unfold Gr.lst
    rw [tbl_len, at_tbl (by omega)]
theorem nf_tbl {f : Nat → Int} {m : Nat} {g : List Int} {k : Nat} (h : g.length = k) (h0 : 0 < k) (c : leastB k g = true) (m2 : 2 ≤ m) (few : f (m - 1) - f (m - 2) ≠ Gr.lst g) : NF (tbl f m) g :=
  nf_by k h h0 c (by rw [tbl_len]; omega) (.inr (by rw [tbl_len, at_tbl (by omega), at_tbl (by omega)]; exact few))
/-! ### three gains -/
theorem dif3 {a b c : Int} (n : Nat) : dif [a, b, c] n = if n % 3 = 0 then a else if n % 3 = 1 then b else c := by
  unfold dif
  rw [show ([a, b, c] : List Int).length = 3 from rfl]
  rcases (by omega : n % 3 = 0 ∨ n % 3 = 1 ∨ n % 3 = 2) with h | h | h <;> rw [h] <;> rfl
theorem acc3 {a b c : Int} {F : Nat → Int} (h0 : F 0 = 0) (h : ∀ n, F (n + 1) - F n = if n % 3 = 0 then a else if n % 3 = 1 then b else c) : ∀ n, acc (dif [a, b, c]) n = F n
  | 0 => h0.symm
  | n + 1 => by
    show acc (dif [a, b, c]) n + dif [a, b, c] n = F (n + 1)
    rw [acc3 h0 h n, dif3, ← h n]
    omega
theorem acc_334 : ∀ n : Nat, acc (dif [3, 3, 4]) n = 3 * (n : Int) + ((n / 3 : Nat) : Int) := acc3 (by decide) fun n => by
  show 3 * ((n + 1 : Nat) : Int) + (((n + 1) / 3 : Nat) : Int) - (3 * (n : Int) + ((n / 3 : Nat) : Int)) = _
  split
  · omega
  · split <;> omega
theorem acc_223 : ∀ n : Nat, acc (dif [2, 2, 3]) n = 2 * (n : Int) + ((n / 3 : Nat) : Int) := acc3 (by decide) fun n => by
  show 2 * ((n + 1 : Nat) : Int) + (((n + 1) / 3 : Nat) : Int) - (2 * (n : Int) + ((n / 3 : Nat) : Int)) = _
  split
  · omega
  · split <;> omega
theorem acc_343 : ∀ n : Nat, acc (dif [3, 4, 3]) n = 3 * (n : Int) + (((n + 1) / 3 : Nat) : Int) := acc3 (by decide) fun n => by
  show 3 * ((n + 1 : Nat) : Int) + (((n + 1 + 1) / 3 : Nat) : Int) - (3 * (n : Int) + (((n + 1) / 3 : Nat) : Int)) = _
  split
  · omega
  · split <;> omega
theorem acc_232 : ∀ n : Nat, acc (dif [2, 3, 2]) n = 2 * (n : Int) + (((n + 1) / 3 : Nat) : Int) := acc3 (by decide) fun n => by
  show 2 * ((n + 1 : Nat) : Int) + (((n + 1 + 1) / 3 : Nat) : Int) - (2 * (n : Int) + (((n + 1) / 3 : Nat) : Int)) = _
  split
  · omega
  · split <;> omega
theorem val_at1 {a : Int} {g : List Int} (n : Nat) : val [a] g n = a + acc (dif g) n := by
  have z := val_ge (t := [a]) (g := g) Nat.one_pos n
  rw [show ([a] : List Int).length - 1 + n = n from Nat.zero_add n] at z
  exact z
theorem val_slow (n : Nat) : val [0] [3, 3, 4] n = 3 * (n : Int) + ((n / 3 : Nat) : Int) := by rw [val_at1, acc_334]; omega
theorem val_late (n : Nat) : val [1999] [2, 2, 3] n = 1999 + 2 * (n : Int) + ((n / 3 : Nat) : Int) := by rw [val_at1, acc_223]; omega
def orT : List Int := tbl (fun n => 1999 + 2 * (n : Int) + ((n / 3 : Nat) : Int)) 2000
def andT : List Int := tbl (fun n => 3 * (n : Int) + ((n / 3 : Nat) : Int)) 2000
theorem nf_orT : NF orT [3, 4, 3] := nf_tbl (k := 3) rfl (by decide) (by decide +kernel) (by decide) (by decide +kernel)
theorem nf_andT : NF andT [2, 3, 2] := nf_tbl (k := 3) rfl (by decide) (by decide +kernel) (by decide) (by decide +kernel)
theorem pk_t (a b : Int) : pk true a b = if b > a then b else a := by unfold pk; rw [if_pos rfl]
theorem pk_f (a b : Int) : pk false a b = if b < a then b else a := by unfold pk; rw [if_neg (by decide)]
theorem val_orT (n : Nat) : val orT [3, 4, 3] n = pk true (val [0] [3, 3, 4] n) (val [1999] [2, 2, 3] n) := by
  refine val_tbl (F := fun n => pk true (val [0] [3, 3, 4] n) (val [1999] [2, 2, 3] n)) (by decide) (fun n hn => ?_) (fun k => ?_) n
  · show pk true (val [0] [3, 3, 4] n) (val [1999] [2, 2, 3] n) = _
    rw [pk_t, val_slow, val_late]
    split <;> omega
  · show pk true (val [0] [3, 3, 4] (2000 - 1 + k)) (val [1999] [2, 2, 3] (2000 - 1 + k)) = _
    rw [pk_t, val_slow, val_late, acc_343]
    split <;> omega
theorem val_andT (n : Nat) : val andT [2, 3, 2] n = pk false (val [1999] [2, 2, 3] n) (val [0] [3, 3, 4] n) := by
  refine val_tbl (F := fun n => pk false (val [1999] [2, 2, 3] n) (val [0] [3, 3, 4] n)) (by decide) (fun n hn => ?_) (fun k => ?_) n
  · show pk false (val [1999] [2, 2, 3] n) (val [0] [3, 3, 4] n) = _
    rw [pk_f, val_slow, val_late]
    split <;> omega
  · show pk false (val [1999] [2, 2, 3] (2000 - 1 + k)) (val [0] [3, 3, 4] (2000 - 1 + k)) = _
    rw [pk_f, val_slow, val_late, acc_232]
    split <;> omega
theorem ord_late : Ord (val [0] [3, 3, 4]) (val [1999] [2, 2, 3]) := .inl fun n hn => by
  rw [val_slow, val_late]
  omega
/-! ### ramps -/
def rampT : List Int := tbl (fun n => 1999 + (n : Int) * 2) 2000
theorem acc_one {a : Int} (n : Nat) : acc (dif [a]) n = (n : Int) * a := by
  have z := val_one (x := 0) (y := a) n
  rw [val_at1] at z
  omega
theorem nf_rampT : NF rampT [3] := nf_tbl (k := 1) rfl (by decide) (by decide +kernel) (by decide) (by decide +kernel)
theorem val_rampT (n : Nat) : val rampT [3] n = pk true (((0 : Nat) : Int) + n * ((3 : Nat) : Int)) (((1999 : Nat) : Int) + n * ((2 : Nat) : Int)) := by
  refine val_tbl (F := fun (n : Nat) => pk true (((0 : Nat) : Int) + n * ((3 : Nat) : Int)) (((1999 : Nat) : Int) + n * ((2 : Nat) : Int))) (by decide) (fun n hn => ?_) (fun k => ?_) n
  · show pk true (((0 : Nat) : Int) + n * ((3 : Nat) : Int)) (((1999 : Nat) : Int) + n * ((2 : Nat) : Int)) = _
    rw [pk_t]
    split <;> omega
  · show pk true (((0 : Nat) : Int) + ((2000 - 1 + k : Nat) : Int) * ((3 : Nat) : Int)) (((1999 : Nat) : Int) + ((2000 - 1 + k : Nat) : Int) * ((2 : Nat) : Int)) = _
    rw [pk_t, acc_one]
    split <;> omega
theorem ord_ramp : Ord (fun n : Nat => ((0 : Nat) : Int) + n * ((3 : Nat) : Int)) (fun n : Nat => ((1999 : Nat) : Int) + n * ((2 : Nat) : Int)) := .inl fun n hn => by
  show ((1999 : Nat) : Int) + (n : Int) * ((2 : Nat) : Int) ≤ ((0 : Nat) : Int) + (n : Int) * ((3 : Nat) : Int)
  omega
theorem fm_ramp (x y : Nat) : Fm (fun n : Nat => (x : Int) + n * (y : Int)) 1 1 y := by
  refine ⟨[(x : Int)], [(y : Int)], Nat.one_pos, Nat.le_refl _, Nat.one_pos, Nat.dvd_refl _, fun i hi => ?_, fun i hi => ?_, fun n => val_one n⟩
  · obtain rfl : i = 0 := by
      have : i < 1 := hi
      omega
    show (0 : Int) ≤ (y : Int) ∧ (y : Int) ≤ (y : Int)
    omega
  · obtain rfl : i = 0 := by
      have : i < 1 := hi
      omega
    show (0 : Int) ≤ (x : Int)
    omega
/-! ### stairs -/
theorem at_stp {m i : Nat} (h : i < m) : at' (stp m) i = if i = 0 then 1 else 0 := by unfold stp; exact at_map h
theorem fm_steps {m : Nat} (h : 0 < m) : Fm (val [0] (stp m)) 1 m 1 := by
  refine ⟨[0], stp m, Nat.one_pos, Nat.le_refl _, by rw [stp_len]; exact h, by rw [stp_len]; exact Nat.dvd_refl _, fun i hi => ?_, fun i hi => ?_, fun _ => rfl⟩
  · rw [stp_len] at hi
    rw [at_stp hi]
    split <;> decide
  · obtain rfl : i = 0 := by
      have : i < 1 := hi
      omega
    exact Int.le_refl 0
theorem acc_stp {m : Nat} {F : Nat → Int} (h : 0 < m) (h0 : F 0 = 0) (hs : ∀ n, F (n + 1) - F n = if n % m = 0 then 1 else 0) : ∀ n, acc (dif (stp m)) n = F n
  | 0 => h0.symm
  | n + 1 => by
    show acc (dif (stp m)) n + dif (stp m) n = F (n + 1)
    rw [acc_stp h h0 hs n, dif_stp h, ← hs n]
    omega
theorem val_40 (n : Nat) : val [0] (stp 40) n = (((n + 39) / 40 : Nat) : Int) := by
  rw [val_at1, acc_stp (F := fun n => (((n + 39) / 40 : Nat) : Int)) (by decide) (by decide) (fun n => by
    show (((n + 1 + 39) / 40 : Nat) : Int) - (((n + 39) / 40 : Nat) : Int) = _
    split <;> omega)]
  omega
theorem stp2 : stp 2 = [1, 0] := by decide +kernel
theorem val_2 (n : Nat) : val [0] (stp 2) n = (((n + 1) / 2 : Nat) : Int) := by
  rw [val_at1, acc_stp (F := fun n => (((n + 1) / 2 : Nat) : Int)) (by decide) (by decide) (fun n => by
    show (((n + 1 + 1) / 2 : Nat) : Int) - (((n + 1) / 2 : Nat) : Int) = _
    split <;> omega)]
  omega
theorem val_20_40 (n : Nat) : val [0] (stp 2) n = cmp (val [0] (stp 40)) (fun n : Nat => ((0 : Nat) : Int) + n * ((20 : Nat) : Int)) n := by
  show _ = val [0] (stp 40) (((0 : Nat) : Int) + (n : Int) * ((20 : Nat) : Int)).toNat
  rw [val_2, val_40]
  omega
/-! ### long rows -/
theorem fm_of {t g : List Int} {r : Nat} (t0 : 0 < t.length) (g0 : 0 < g.length) (bg : ∀ i, i < g.length → 0 ≤ at' g i ∧ at' g i ≤ (r : Int)) (pt : ∀ i, i < t.length → 0 ≤ at' t i) : Fm (val t g) t.length g.length r := ⟨t, g, t0, Nat.le_refl _, g0, Nat.dvd_refl _, bg, pt, fun _ => rfl⟩
theorem longG_lo : ∀ i, i < longG.length → 0 ≤ at' longG i ∧ at' longG i ≤ ((2 : Nat) : Int) := by decide +kernel
theorem fm_long : Fm (val (sqT 1990) longG) 1990 50 2 := by
  have z := fm_of (t := sqT 1990) (g := longG) (r := 2) (by rw [sqT_len]; decide) (by decide) longG_lo (fun i hi => by rw [sqT_len] at hi; exact sq_nn hi)
  rw [sqT_len] at z
  exact z
theorem fm_id : Fm (val [0] [1]) 1 1 1 := by
  have z := fm_ramp 0 1
  have e : (fun n : Nat => ((0 : Nat) : Int) + n * ((1 : Nat) : Int)) = val [0] [1] := funext fun n => (val_one n).symm
  rw [e] at z
  exact z
theorem fm_flat {m : Nat} (h : 0 < m) : Fm (val (List.replicate m (0 : Int)) [1]) m 1 1 := by
  have z := fm_of (t := List.replicate m (0 : Int)) (g := [1]) (r := 1) (by rw [List.length_replicate]; exact h) (by decide) (by decide +kernel) (fun i hi => by rw [at_rep]; exact Int.le_refl 0)
  rw [List.length_replicate] at z
  exact z
theorem tail_behind : Tail (cmp (val [0, 5, 0] [1]) (val (List.replicate 1998 (0 : Int)) [1])) 4000000000000000 := ⟨2000, fun n hn => by
  rw [val_behind, val_behind, if_neg (by omega), if_neg (by omega), if_neg (by omega), if_neg (by omega)]
  omega⟩
theorem tail_id : Tail (cmp (val [0] [1]) (val (sqT 1990) longG)) 4000000000000000 := by
  have e : cmp (val [0] [1]) (val (sqT 1990) longG) = val (sqT 1990) longG := funext fun n => cmp_id fm_long.nn n
  rw [e]
  exact fm_long.tail.mono (by decide)
theorem id_nn (n : Nat) : 0 ≤ cmp (val [0] [1]) (val (sqT 1990) longG) n := by
  rw [cmp_id fm_long.nn]
  exact fm_long.nn n
end K02
/-! new parts, growths of a known form, data; one heard lambda after another -/
namespace K02
open PySem L2 Evl Gr ClX OpX StX StM LamX EXC OwX
section
variable {K : PySem.W.Frag} {C : Addr} {σ : L2.St} {H H' : Hp} {ta tb te : TE} {tt : TA} {t g t' g' : List Int} {f f' : Nat → Int} {x : Int} {n i j : Nat} {D : Ends} {tz : TS}
/-! ### parts -/
/-- gives a list or a tuple of these ints -/
def EvQ (K : PySem.W.Frag) (te : TE) (σ : L2.St) (H : Hp) (t : List Int) : Prop := ∀ H1, Ex H H1 → ∀ Q : VK, (∀ a H2, Ex H1 H2 → Sq K H2 a (vI t) → Q (.ref a) H2) → te σ H1 Q
theorem eq_L (h : EvL te σ H (vI t)) : EvQ K te σ H t := fun H1 e Q q => h H1 e _ fun p H2 _ e2 h2 => q p H2 e2 (.inl (sq_of h2))
theorem eq_T (h : EvA tt σ H (vI t)) (hl : (vI t).length ≤ 100000) : EvQ K (tTup tt) σ H t := fun H1 e Q q => eu_tup h hl H1 e _ fun p H2 _ e2 h2 => q p H2 e2 (.inr (st_of h2))
theorem EvQ.pair (ha : EvQ K ta σ H t) (hb : EvQ K tb σ H g) : EvP K (tCons ta (tCons tb tNil)) σ H t g := fun H1 e Q q => ha H1 e _ fun a H2 e2 sa => hb H2 (e.trans e2) _ fun b H3 e3 sb => q a b H3 (e2.trans e3) (sa.mono e3) sb
theorem EvQ.one (ha : EvQ K ta σ H t) : EvP1 K (tCons ta tNil) σ H t := fun H1 e Q q => ha H1 e _ fun a H2 e2 sa => q a H2 e2 sa
theorem el_repI (ha : EvL ta σ H (vI [x])) (hb : ∀ H1, Ex H H1 → Ev tb σ H1 (.int (n : Int))) (hn : n ≤ 100000) : EvL (tOp rRep ta tb) σ H (vI (List.replicate n x)) := fun H1 e Q q =>
  ha H1 e _ fun p H2 hp e2 h2 => hb H2 (e.trans e2) H2 (Ex.refl H2) _ fun H3 e3 => ⟨p, (n : Int), vI [x], rfl, rfl, e3 _ _ h2, by omega, by omega, by rw [vI_len, Int.toNat_natCast]; exact sz_of (by show 1 * n ≤ 100000; omega), fun a ha => q a _ (fresh_back (e2.trans e3) ha) ((e2.trans e3).trans (Ex.new ha)) (by
    rw [upd_same, Int.toNat_natCast, show vI [x] = [V.int x] from rfl, List.flatten_replicate_singleton]
    unfold vI
    rw [List.map_replicate])⟩
theorem el_catI {xs ys : List Int} (ha : EvL ta σ H (vI xs)) (hb : EvL tb σ H (vI ys)) (hz : xs.length + ys.length ≤ 100000) : EvL (tOp rCat ta tb) σ H (vI (xs ++ ys)) := fun H1 e Q k =>
  ha H1 e _ fun p H2 _ e2 hp => hb H2 (e.trans e2) _ fun r H3 _ e3 hr => ⟨p, r, vI xs, vI ys, rfl, rfl, e3 _ _ hp, hr, by rw [vI_len, vI_len]; exact sz_of hz, fun a ha => k a _ (fresh_back (e2.trans e3) ha) ((e2.trans e3).trans (Ex.new ha)) (by rw [upd_same]; unfold vI; rw [List.map_append])⟩
theorem el_one (h : Ev te σ H (.int x)) : EvL (tLst (tCons te tNil)) σ H (vI [x]) := el_lst (ea_cons h ea_nil) (Nat.le_of_ble_eq_true rfl)
/-- [i * i for i in range(m)] -/
theorem el_sq {m : Nat} (hm : m ≤ 40000) (hw : ∀ x, wipe ((wipe σ [j]).set j (some x)) [j] = wipe σ [j]) (hj : ∀ x : V, ((wipe σ [j]).set j (some x))[j]? = some (some x)) :
    EvL (tLc (iRng1 (tCons (tC (.int (m : Int))) tNil)) (gName j) tYes (tOp (rI CMul fun i j => .int (i * j)) (tVar j) (tVar j)) [j]) σ H (vI (sqT m)) := by
  have z := el_lcR1 (σ := σ) (H := H) (t := tYes) (te := tOp (rI CMul fun i j => .int (i * j)) (tVar j) (tVar j)) (ta := tCons (tC (.int (m : Int))) tNil) (j := j) (vs := [j]) (n := (m : Int)) (fun _ => true) (fun i => V.int ((i : Int) * (i : Int)))
    (ea_cons ev_c ea_nil) (by omega) hw (fun i H1 _ _ => et_none) (fun i H3 _ hi _ => ev_op (ev_var (hj _)) (ev_var (hj _)) (rv_I (.inl ⟨by omega, by omega⟩)))
  rw [given_all, Int.toNat_natCast] at z
  have e : vI (sqT m) = (List.range m).map fun (i : Nat) => V.int ((i : Int) * (i : Int)) := by
    unfold vI sqT
    rw [List.map_map]
    rfl
  rw [e]
  exact z
/-! ### growths -/
/-- gives a growth of this normal form -/
def EvK (K : PySem.W.Frag) (C : Addr) (te : TE) (σ : L2.St) (H : Hp) (t g : List Int) : Prop := ∀ H1, Ex H H1 → ∀ Q : VK, (∀ o H2, Ex H1 H2 → GrAt K C H2 o t g → Q (.ref o) H2) → te σ H1 Q
theorem ek_var {o : Addr} (h0 : σ[i]? = some (some (.ref o))) (h : GrAt K C H o t g) : EvK K C (tVar i) σ H t g := fun H1 e Q q => ⟨_, h0, q o H1 (Ex.refl H1) (h.mono e)⟩
theorem ek_new (h : EvR K C te σ H f) (nf : NF t g) (hv : ∀ n, val t g n = f n) : EvK K C te σ H t g := fun H1 e Q q => h H1 e _ fun o H2 e2 go => q o H2 e2 (grF_known go nf hv)
theorem EvK.mono (h : EvK K C te σ H t g) (e : Ex H H') : EvK K C te σ H' t g := fun H1 e1 => h H1 (e.trans e1)
theorem pos_of (h : GrAt K C H o t g) (pt : Pos t) : GrF K C H o (val t g) := ⟨t, g, h, pt, fun _ => rfl⟩
theorem er_k (h : EvK K C te σ H t g) (pt : Pos t) : EvR K C te σ H (val t g) := fun H1 e Q q => h H1 e _ fun o H2 e2 go => q o H2 e2 (pos_of go pt)
theorem grAt_n {o : Addr} (n : Stay H H') (h : GrAt K C H o t g) : GrAt K C H' o t g := by
  have up : ∀ {q : Addr} {ys : List V}, SqT K H q ys → SqT K H' q ys := fun {q ys} s => s.imp (fun z => z.imp (fun z => n z fun ps z => by cases z) fun ⟨o, z⟩ => ⟨o, n z fun ps z => by cases z⟩) id
  obtain ⟨dx, p, q, r, h1, h2, h3, h4, h5⟩ := h
  exact ⟨dx, p, q, r, n h1 (fun ps z => by cases z), up h2, up h3, up h4, h5⟩
theorem grF_n {o : Addr} (n : Stay H H') (h : GrF K C H o f) : GrF K C H' o f := by
  obtain ⟨t, g, h1, h2⟩ := h
  exact ⟨t, g, grAt_n n h1, h2⟩
/-- o.after(u), told by the forms -/
theorem er_afterB (ha : EvK K C ta σ H t g) (hb : EvK K C tb σ H t' g') (pt : Pos t') (few : g'.length * g.length ≤ 2000) (near : ∃ B, t'.length ≤ B ∧ B ≤ 2000 ∧ (t.length : Int) - 1 ≤ val t' g' (B - 1))
    (nn : ∀ n, 0 ≤ cmp (val t g) (val t' g') n) (tl : Tail (cmp (val t g) (val t' g')) 4000000000000000) : EvR K C (tMeth C "after" (spAfterB K C) [] E0 ta (tCons tb tNil)) σ H (cmp (val t g) (val t' g')) := fun H1 e Q q => ha H1 e _ fun o H2 e2 g1 => by
  have g1' := g1
  obtain ⟨dx, p, q', r', h1, _⟩ := g1'
  exact ⟨o, dx, _, rfl, h1, rfl, hb H2 (e.trans e2) _ fun u H3 e3 g2 => ⟨o, u, t, g, t', g', rfl, g1.mono e3, g2, pt, few, near, nn, tl, fun x H4 _ e4 gr => q x H4 ((e2.trans e3).trans e4) gr⟩⟩
/-- C.ramp(y), C.ramp(y, x), C.steps(m) -/
abbrev spRamp0 (K : PySem.W.Frag) (C : Addr) : Sp := fun vs H Q E => spRamp K C (vs ++ [.int 0]) H Q E
theorem er_ramp0 {y : Nat} (hy : y ≤ 4000000000000000) : EvR K C (tSMeth C (spRamp0 K C) E0 (tC (.ref C)) (tCons (tC (.int (y : Int))) tNil)) σ H (fun n => ((0 : Nat) : Int) + n * (y : Int)) := fun H1 e Q q => ⟨rfl, 0, y, rfl, hy, fun o H2 _ e2 gr => q o H2 e2 gr⟩
theorem er_ramp2 {y x : Nat} (hy : y ≤ 4000000000000000) : EvR K C (tSMeth C (spRamp K C) E0 (tC (.ref C)) (tCons (tC (.int (y : Int))) (tCons (tC (.int (x : Int))) tNil))) σ H (fun n => (x : Int) + n * (y : Int)) := fun H1 e Q q => ⟨rfl, x, y, rfl, hy, fun o H2 _ e2 gr => q o H2 e2 gr⟩
theorem er_stairs {m : Nat} (h0 : 0 < m) (h1 : m ≤ 2000) : EvR K C (tSMeth C (spSteps K C) E0 (tC (.ref C)) (tCons (tC (.int (m : Int))) tNil)) σ H (val [0] (stp m)) := fun H1 e Q q => ⟨rfl, m, rfl, h0, h1, fun o H2 _ e2 gr => q o H2 e2 gr⟩
/-- len(x.told), len(x.gains), x.told, x.gains -/
theorem ev_lenToldR (h : EvR K C te σ H f) (nf : NF t g) (hv : ∀ n, val t g n = f n) (G : GCls K C) : Ev (tCB (fun xs H Q => ∃ p ys, xs = [V.ref p] ∧ (SqL K H p ys ∨ SqT K H p ys) ∧ Q (.int ys.length) H) (tCons (tFld K te "told") tNil)) σ H (.int (t.length : Int)) := fun H1 e Q q =>
  h H1 e _ fun o H2 e2 hF => by
    obtain ⟨dx, p, q', r, h1, h2, h3, h4, _⟩ := grF_known hF nf hv
    exact ev_lenF (σ := σ) (H := H2) (ta := tC (.ref o)) (f := "told") ev_c h1 G.cls G.told rfl h2 H2 (Ex.refl H2) Q fun H3 e3 => q H3 (e2.trans e3)
theorem ev_lenGainsR (h : EvR K C te σ H f) (nf : NF t g) (hv : ∀ n, val t g n = f n) (G : GCls K C) : Ev (tCB (fun xs H Q => ∃ p ys, xs = [V.ref p] ∧ (SqL K H p ys ∨ SqT K H p ys) ∧ Q (.int ys.length) H) (tCons (tFld K te "gains") tNil)) σ H (.int (g.length : Int)) := fun H1 e Q q =>
  h H1 e _ fun o H2 e2 hF => by
    obtain ⟨dx, p, q', r, h1, h2, h3, h4, _⟩ := grF_known hF nf hv
    exact ev_lenF (σ := σ) (H := H2) (ta := tC (.ref o)) (f := "gains") ev_c h1 G.cls G.gains rfl h3 H2 (Ex.refl H2) Q fun H3 e3 => q H3 (e2.trans e3)
theorem etu_toldR (G : GCls K C) (h : EvR K C te σ H f) (nf : NF t g) (hv : ∀ n, val t g n = f n) : EvTu K (tFld K te "told") σ H (vI t) := fun H1 e Q q =>
  h H1 e _ fun o H2 e2 hF => by
    obtain ⟨dx, p, q', r, h1, h2, h3, h4, _⟩ := grF_known hF nf hv
    exact ev_fld (σ := σ) (H := H2) (ta := tC (.ref o)) (f := "told") ev_c h1 G.cls G.told rfl H2 (Ex.refl H2) Q fun H3 e3 => q p H3 (e2.trans e3) (ex_t e3 h2)
theorem etu_gainsR (G : GCls K C) (h : EvR K C te σ H f) (nf : NF t g) (hv : ∀ n, val t g n = f n) : EvTu K (tFld K te "gains") σ H (vI g) := fun H1 e Q q =>
  h H1 e _ fun o H2 e2 hF => by
    obtain ⟨dx, p, q', r, h1, h2, h3, h4, _⟩ := grF_known hF nf hv
    exact ev_fld (σ := σ) (H := H2) (ta := tC (.ref o)) (f := "gains") ev_c h1 G.cls G.gains rfl H2 (Ex.refl H2) Q fun H3 e3 => q q' H3 (e2.trans e3) (ex_t e3 h3)
/-- i, j = (two new growths) -/
theorem q_twoG (ha : EvR K C ta σ H f) (hb : ∀ H1, Ex H H1 → EvR K C tb σ H1 f') (k : ∀ o u H2, Ex H H2 → GrF K C H2 o f → GrF K C H2 u f' → tz D ((σ.set i (some (.ref o))).set j (some (.ref u))) H2) :
    tSeq (tAsg (tTup (tCons ta (tCons tb tNil))) (gTup K 2 (gCons (gName i) (gCons (gName j) gNil)))) tz D σ H :=
  q_asgG (tup_i (cons_i (ha H (Ex.refl H) _ fun o H1 e1 g1 => cons_i (hb H1 e1 H1 (Ex.refl H1) _ fun u H2 e2 g2 =>
    ⟨by show 2 ≤ sizeLine; decide, fun a ha => ⟨a, [.ref o, .ref u], rfl, st_of upd_same, rfl, .ref o, [.ref u], rfl, .ref u, [], rfl, rfl, k o u _ ((e1.trans e2).trans (Ex.new ha)) ((g1.mono e2).mono (Ex.new ha)) (g2.mono (Ex.new ha))⟩⟩))))
end
section
variable {X : Cx} {C : Addr} {σ : L2.St} {H : Hp} {ta tb : TE} {f f' : Nat → Int}
theorem er_pk {up : Bool} (ha : EvR X.K C ta σ H f) (hb : EvR X.K C tb σ H f') (d1 : PerT f 12) (d2 : PerT f' 12) (t1 : Tail f 1000000) (t2 : Tail f' 1000000) (hx : EqR f f' ∨ Ord f f') (n1 : ∀ n, 0 ≤ f n) (n2 : ∀ n, 0 ≤ f' n) :
    EvR X.K C (tOp (rS X C (spPk up X.K C) E0) ta tb) σ H (fun n => pk up (f n) (f' n)) := fun H1 e Q q =>
  ha H1 e _ fun o H2 e2 go => hb H2 (e.trans e2) _ fun u H3 e3 gu => ⟨o, u, rfl, rfl, gr_ins (go.mono e3), gr_ins gu, o, u, f, f', rfl, go.mono e3, gu, d1, d2, t1, t2, hx, n1, n2, fun a H4 _ e4 gr => q a H4 ((e2.trans e3).trans e4) gr⟩
end
/-! ### data -/
/-- gives things that are these -/
def EvDA (K : PySem.W.Frag) (ta : TA) (σ : L2.St) (H : Hp) (ds : List PyData) : Prop := ∀ H1, Ex H H1 → ∀ Q : List V → Hp → Prop, (∀ vs H2, Ex H1 H2 → DpAll K H2 vs ds → Q vs H2) → ta σ H1 Q
section
variable {K : PySem.W.Frag} {σ : L2.St} {H : Hp} {te : TE} {ta : TA} {d : PyData} {ds : List PyData} {b : Bool} {x : Int}
theorem eda_nil : EvDA K tNil σ H [] := fun H1 e Q q => q [] H1 (Ex.refl H1) .nil
theorem eda_cons (h : EvD K te σ H d) (hr : EvDA K ta σ H ds) : EvDA K (tCons te ta) σ H (d :: ds) := fun H1 e Q q => h H1 e _ fun v H2 e2 hv => hr H2 (e.trans e2) _ fun vs H3 e3 hvs => q (v :: vs) H3 (e2.trans e3) (.cons (dp_up e3 d hv) hvs)
theorem eld_lst (h : EvDA K ta σ H ds) (hz : ds.length ≤ 1000) : EvLD K (tLst ta) σ H ds := fun H1 e Q q => h H1 e _ fun vs H2 e2 hvs => ⟨sz_of (by rw [dpAll_len hvs]; omega), fun p hp => q p vs _ (fresh_back e2 hp) (e2.trans (Ex.new hp)) upd_same (dps_up (Ex.new hp) ds hvs)⟩
theorem ed_lst (h : EvDA K ta σ H ds) (hz : ds.length ≤ 1000) : EvD K (tLst ta) σ H (.list ds) := ed_new (eld_lst h hz)
theorem ed_tup (h : EvDA K ta σ H ds) (hz : ds.length ≤ 1000) : EvD K (tTup ta) σ H (.tuple ds) := fun H1 e Q q => h H1 e _ fun vs H2 e2 hvs => ⟨sz_of (by rw [dpAll_len hvs]; omega), fun p hp => q _ _ (e2.trans (Ex.new hp)) (.tup (st_of upd_same) (dps_up (Ex.new hp) ds hvs))⟩
theorem ed_int : EvD K (tC (.int x)) σ H (.int x) := ed_of ev_c fun _ _ => .int x
theorem ed_bl : EvD K (tC (.bl b)) σ H (.bool b) := ed_of ev_c fun _ _ => .bl b
theorem ed_ints {xs : List Int} (h : EvTu K te σ H (vI xs)) : EvD K te σ H (.tuple (xs.map .int)) := ed_T h fun _ _ => dpAll_intz xs
end
/-! ### heard -/
/-- gives a thing that is d and stands alone -/
def EvF (K : PySem.W.Frag) (te : TE) (σ : L2.St) (H : Hp) (d : PyData) : Prop := ∀ Q : VK, (∀ v H2, Ex H H2 → Firm K H2 v d → Q v H2) → te σ H Q
section
variable {K : PySem.W.Frag} {σ : L2.St} {H Hb : Hp} {te : TE} {d : PyData} {x : Int} {b : Bool} {T : List (Addr × Str)} {cG cN cM g : Addr} {tz : TS} {D : Ends} {i : Nat} {t : XK → TE} {xs : List V} {ds : List PyData} {rs : List (Addr × PyData)}
theorem ef_int (h : Ev te σ H (.int x)) : EvF K te σ H (.int x) := fun Q q => h H (Ex.refl H) _ fun H1 e => q _ H1 e firm_int
theorem ef_bl (h : Ev te σ H (.bl b)) : EvF K te σ H (.bool b) := fun Q q => h H (Ex.refl H) _ fun H1 e => q _ H1 e firm_bl
theorem ef_tup {ys : List Int} (h : EvTu K te σ H (vI ys)) : EvF K te σ H (.tuple (ys.map .int)) := fun Q q => h H (Ex.refl H) _ fun p H1 e hp => q _ H1 e (firm_tup hp)
theorem out_many {Q : VK} {v u : V} (h : Told K cG cN cM [.str "many", v, u] H Q) : Out2 cM "what" "most" v u H (HdE K cG cN cM Q) := fun d H' _ e hd => ⟨d, rfl, .inr (.inr ⟨rfl, u, v, hd, fun H2 l e2 h2 => h.k l H2 (e.trans e2) h2⟩)⟩
theorem val_hear0 (hT : Tabs T H) (h : ∀ H1, Stay H H1 → EvF K te σ H1 d) (k : ∀ g r H3, HrD K T g [(r, .list [d])] H3 → KeepN g H H3 → OldN g H → tz D (σ.set i (some (.ref g))) H3) : tSeq (tAsg (tLst (tCons (tLam T (THd K cG cN cM) (fun _ => te)) tNil)) (gName i)) tz D σ H :=
  q_hearD0 (hearsD_val hT fun Q1 H1 x1 T1 Qv q => h H1 (Stay.of_extN x1) Qv q) k
theorem val_hear (S : HrD K T g rs H) (kn : KeepN g Hb H) (old : OldN g Hb) (hz : rs.length ≤ 1000) (h0 : σ[i]? = some (some (.ref g))) (h : ∀ H1, Stay Hb H1 → EvF K te σ H1 d) (k : ∀ r H3, HrD K T g (rs ++ [(r, .list [d])]) H3 → KeepN g Hb H3 → tz D σ H3) :
    tSeq (tDrop (tBM K "list" rAppend (tVar i) (tCons (tLam T (THd K cG cN cM) (fun _ => te)) tNil))) tz D σ H :=
  q_hearD S kn hz h0 (hearsD_val S.tabs fun Q1 H1 x1 T1 Qv q => h H1 (Stay.of_keepN (kn.trans (KeepN.of_ext x1)) old) Qv q) k
theorem err_hear0 (hT : Tabs T H) (hd : ∀ H', DpAll K H' xs ds) (h : ∀ (Q1 : VK) H1, Stay H H1 → Told K cG cN cM xs H1 Q1 → ∀ Qv, t (HdE K cG cN cM Q1) σ H1 Qv) (k : ∀ g r H3, HrD K T g [(r, .tuple ds)] H3 → KeepN g H H3 → OldN g H → tz D (σ.set i (some (.ref g))) H3) :
    tSeq (tAsg (tLst (tCons (tLam T (THd K cG cN cM) t) tNil)) (gName i)) tz D σ H :=
  q_hearD0 (hearsD_err (hears_of hT fun Q1 H1 x1 T1 told Qv => h Q1 H1 (Stay.of_extN x1) told Qv) hd) k
theorem err_hear (S : HrD K T g rs H) (kn : KeepN g Hb H) (old : OldN g Hb) (hz : rs.length ≤ 1000) (h0 : σ[i]? = some (some (.ref g))) (hd : ∀ H', DpAll K H' xs ds) (h : ∀ (Q1 : VK) H1, Stay Hb H1 → Told K cG cN cM xs H1 Q1 → ∀ Qv, t (HdE K cG cN cM Q1) σ H1 Qv)
    (k : ∀ r H3, HrD K T g (rs ++ [(r, .tuple ds)]) H3 → KeepN g Hb H3 → tz D σ H3) : tSeq (tDrop (tBM K "list" rAppend (tVar i) (tCons (tLam T (THd K cG cN cM) t) tNil))) tz D σ H :=
  q_hearD S kn hz h0 (hearsD_err (hears_of S.tabs fun Q1 H1 x1 T1 told Qv => h Q1 H1 (Stay.of_keepN (kn.trans (KeepN.of_ext x1)) old) told Qv) hd) k
end
/-! ### what goes out of a lambda -/
section
variable {X : Cx} {K : PySem.W.Frag} {C cM : Addr} {σ : L2.St} {H : Hp} {ta tb : TE} {t g t' g' : List Int} {f f' : Nat → Int} {E : XK} {Q : VK}
theorem gr_insK {o : Addr} (h : GrAt X.K C H o t g) : InsC X H o C := by
  obtain ⟨dx, p, q, r, h1, _⟩ := h
  exact .inr ⟨dx, _, h1⟩
theorem er_far (ha : EvK K C ta σ H t g) (hb : EvK K C tb σ H t' g') (hx : ∀ H3 o u, Ex H H3 → GrAt K C H3 o t g → GrAt K C H3 u t' g' → Far2 K C cM H3 o u E) : tMeth C "after" (spFarC K C cM) [] E ta (tCons tb tNil) σ H Q := ha H (Ex.refl H) _ fun o H2 e2 g1 => by
  have g1' := g1
  obtain ⟨dx, p, q', r', h1, _⟩ := g1'
  exact ⟨o, dx, _, rfl, h1, rfl, hb H2 e2 _ fun u H3 e3 g2 => ⟨o, u, rfl, hx H3 o u (e2.trans e3) (g1.mono e3) g2⟩⟩
theorem er_late (ha : EvK X.K C ta σ H t g) (hb : EvK X.K C tb σ H t' g') (hx : ∀ H3 o u, GrAt X.K C H3 o t g → GrAt X.K C H3 u t' g' → Cross2 X.K C H3 o u) (k : OutT cM H E) : tOp (rS X C (spLate X.K C cM) E) ta tb σ H Q := ha H (Ex.refl H) _ fun o H2 e2 g1 =>
  hb H2 e2 _ fun u H3 e3 g2 => ⟨o, u, rfl, rfl, gr_insK (g1.mono e3), gr_insK g2, o, u, rfl, hx H3 o u (g1.mono e3) g2, k.mono (e2.trans e3)⟩
theorem er_wide (ha : EvK X.K C ta σ H t g) (hb : EvK X.K C tb σ H t' g') (hl : 2000 < Nat.lcm g.length g'.length) (k : OutG cM H E) : tOp (rS X C (spWideG X.K C cM) E) ta tb σ H Q := ha H (Ex.refl H) _ fun o H2 e2 g1 =>
  hb H2 e2 _ fun u H3 e3 g2 => ⟨o, u, rfl, rfl, gr_insK (g1.mono e3), gr_insK g2, o, u, rfl, ⟨t, g, t', g', g1.mono e3, g2, hl⟩, k.mono (e2.trans e3)⟩
theorem er_wideM {m : Str} (ha : EvK K C ta σ H t g) (hb : EvK K C tb σ H t' g') (hl : 2000 < Nat.lcm g.length g'.length) (hm : ∀ p q r : Addr, ([("told", V.ref p), ("gains", V.ref q), ("rises", V.ref r)] : List (Str × V)).lookup m = none) (k : OutG cM H E) : tMeth C m (spWideG K C cM) [] E ta (tCons tb tNil) σ H Q := ha H (Ex.refl H) _ fun o H2 e2 g1 => by
  have g1' := g1
  obtain ⟨dx, p, q', r', h1, _⟩ := g1'
  exact ⟨o, dx, _, rfl, h1, hm _ _ _, hb H2 e2 _ fun u H3 e3 g2 => ⟨o, u, rfl, ⟨t, g, t', g', g1.mono e3, g2, hl⟩, k.mono (e2.trans e3)⟩⟩
end
/-! ### what is not deep -/
theorem Low.mono {n m : Nat} {d : PyData} (h : Low n d) (hn : n ≤ m) : Low m d := ⟨h.1, Nat.le_trans h.2 hn⟩
theorem low_bl {b : Bool} : Low 0 (.bool b) := ⟨by simp [PyData.canLay0], by simp [PyData.depth]⟩
theorem lo_nil {n : Nat} : ∀ d ∈ ([] : List PyData), Low n d := fun d h => absurd h (by simp)
theorem lo_cons {n m : Nat} {d : PyData} {ds : List PyData} (h : Low m d) (hm : m ≤ n) (hr : ∀ e ∈ ds, Low n e) : ∀ e ∈ d :: ds, Low n e := fun e he => by
  rcases List.mem_cons.mp he with z | z
  · rw [z]
    exact h.mono hm
  · exact hr e z
theorem low_ints {xs : List Int} : Low 1 (.tuple (xs.map .int)) := low_tup (n := 0) fun d hd => by
  obtain ⟨i, _, rfl⟩ := List.mem_map.mp hd
  exact low_int i
theorem low_many {w : Str} {k : Int} (h : PyData.strOk w = true) : Low 1 (.tuple [.str "many", .str w, .int k]) := low_tup (lo_cons (low_str (by decide +kernel)) (Nat.le_refl 0) (lo_cons (low_str h) (Nat.le_refl 0) (lo_cons (low_int k) (Nat.le_refl 0) lo_nil)))
theorem eqv_low {n : Nat} {d : PyData} (h : Low n d) : PyData.eqv d d = true := PySem.SeqAt.eqv_refl d h.1
end K02
namespace K02
open PySem L2 Evl Gr ClX OpX StX StM LamX EXC OwX
/-! ### _law_told_right -/
abbrev sTol : Stmt := top 50
abbrev nTol : List Str := ["_law_hump", "_law_slow", "_law_long", "_law_late", "_law_later", "_law_heard_here", "_law_at"]
abbrev qTol : Str := ("_law_told_right" : Str) ++ ".<locals>." ++ "<lambda>"
def spTol (T : List (Addr × Str)) : Sp := fun vs H Q _ => vs = [] ∧ Tabs T H ∧ ∀ H', Q (.bl true) H'
theorem scTol : FnScope nTol [] (defScope sTol) := ⟨rfl, rfl, rfl, by decide +kernel, rfl, by decide +kernel, by decide +kernel⟩
abbrev rLenQ (K : PySem.W.Frag) : List V → Hp → VK → Prop := fun xs H Q => ∃ p ys, xs = [V.ref p] ∧ (SqL K H p ys ∨ SqT K H p ys) ∧ Q (.int ys.length) H
/-- what the law's own growths are asked -/
structure GrK (P : Program) (w : World) (K : PySem.W.Frag) (mg : Str → Option Value) (base : Heap) (C cM : Addr) (mc : Value) (fI T0 fAf fOr fAn fAd fRa pRa fSt pSt fEq : Addr) (eI eAf : FuncData) : Prop where
  maker : Mk K C fI
  init : FnOk P w K mg base CX0 4 fI eI ["self", "told", "gains"] (spInit K C)
  bIn : Binds K eI ["self", "told", "gains"] []
  bIn1 : Binds K eI ["self", "told", "gains"] [.ref T0]
  t0 : ∀ H, Sq K H T0 (vI [0])
  mAf : Meth K C "after" fAf
  afB : FnOk P w K mg base CX0 6 fAf eAf ["self", "other"] (spAfterB K C)
  afX : FnOk P w K mg base (L2.CX P w) 6 fAf eAf ["self", "other"] (spFarC K C cM)
  cAf : Binds K eAf ["self", "other"] []
  sf : PySem.W.selfFirst K C = true
  hOr : Has K C fOr (PySem.dunder "or")
  orV : FnR P w K mg base CX0 6 fOr (spPk true K C)
  orL : FnR P w K mg base (L2.CX P w) 6 fOr (spLate K C cM)
  orW : FnR P w K mg base (L2.CX P w) 6 fOr (spWideG K C cM)
  hAn : Has K C fAn (PySem.dunder "and")
  anV : FnR P w K mg base CX0 6 fAn (spPk false K C)
  anL : FnR P w K mg base (L2.CX P w) 6 fAn (spLate K C cM)
  hAd : Has K C fAd (PySem.dunder "add")
  adV : FnR P w K mg base CX0 6 fAd (spAdd K C)
  adW : FnR P w K mg base (L2.CX P w) 6 fAd (spWideG K C cM)
  sRa : SMet K C mc "ramp" pRa fRa
  ramp0 : FnR P w K mg base CX0 6 fRa (spRamp0 K C)
  ramp : FnR P w K mg base CX0 6 fRa (spRamp K C)
  sSt : SMet K C mc "steps" pSt fSt
  steps : FnR P w K mg base CX0 6 fSt (spSteps K C)
  ne : GNe K C fEq
  eq : FnR P w K mg base CX0 1 fEq (spGEq K C)
section
variable {K : PySem.W.Frag} {C : Addr} {σ : L2.St} {H : Hp} {ta tb : TE} {t g : List Int}
theorem er_mk (ha : EvQ K ta σ H t) (hb : EvQ K tb σ H g) (t0 : 0 < t.length) (t1 : t.length ≤ 2000) (g0 : 0 < g.length) (g1 : g.length ≤ 2000) (pt : ∀ i, i < t.length → 0 ≤ at' t i) (sm : ∀ i, i < g.length → 0 ≤ at' g i ∧ at' g i ≤ 4000000000000000) :
    EvR K C (tMake C (spInit K C) [] E0 (tCons ta (tCons tb tNil))) σ H (val t g) := (eg_make (ha.pair hb) t0 t1 g0 g1 pt sm fun _ => rfl).any
theorem ek_flat {m : Nat} (h0 : 0 < m) (h1 : m ≤ 2000) : EvK K C (tMake C (spInit K C) [] E0 (tCons (tOp rRep (tLst (tCons (tC (.int 0)) tNil)) (tC (.int (m : Int)))) (tCons (tTup (tCons (tC (.int 1)) tNil)) tNil))) σ H (List.replicate m 0) [1] :=
  ek_new (er_mk (eq_L (el_repI (el_one ev_c) (fun _ _ => ev_c) (by omega))) (eq_T (ea_cons ev_c ea_nil) (by decide)) (by rw [List.length_replicate]; exact h0) (by rw [List.length_replicate]; exact h1) (by decide) (by decide) (fun i _ => by rw [at_rep]; exact Int.le_refl 0) (by decide +kernel)) (nf_flat h0) fun _ => rfl
end
theorem fm_slow : Fm (val [0] [3, 3, 4]) 1 3 4 := fm_of (by decide) (by decide) (by decide +kernel) (by decide +kernel)
theorem fm_late : Fm (val [1999] [2, 2, 3]) 1 3 3 := fm_of (by decide) (by decide) (by decide +kernel) (by decide +kernel)
theorem pos_sq {m : Nat} : Pos (sqT m) := fun i hi => by
  rw [sqT_len] at hi
  exact sq_nn hi
theorem pos_one {x : Int} (h : 0 ≤ x) : Pos [x] := fun i hi => by
  obtain rfl : i = 0 := by
    have : i < 1 := hi
    omega
  exact h
abbrev manyD (w : Str) : PyData := .tuple [.str "many", .str w, .int 2000]
section
variable {P : Program} {w : World} {K : PySem.W.Frag} {mg : Str → Option Value} {base : Heap}
theorem ok_Tol {C CG CN CT CM B f c Pc fHd fI T0 fAf fOr fAn fAd fRa pRa fSt pSt fEq : Addr} {mc : Value} {fd eHd eI eAf : FuncData} {T : List (Addr × Str)} (F : FunC K "_law_told_right" "_law_told_right" sTol f fd c) (TB : TabB base mg c Pc) (hT : (Pc, qTol) ∈ T) (hu : ∀ p ∈ T, p.1 = Pc → p.2 = qTol)
    (N : GName K mg C mc) (G : GCls K C) (TS : GlbS mg) (HK : HdK K mg B CG CN CT CM) (FH : Fun K "_law_heard" "_law_heard" sHd fHd eHd) (bH : Binds K eHd ["_law_ask"] []) (gH : mg "_law_heard" = some (.ref fHd))
    (J : GrK P w K mg base C CM mc fI T0 fAf fOr fAn fAd fRa pRa fSt pSt fEq eI eAf) : FnG P w K mg base 11 f fd [] (spTol T) := by
  refine F.okG scTol (fun vs H Q E h => ?_) (fun A outer s H vs Q E gd hr h => ?_)
  · obtain ⟨rfl, _⟩ := h
    rfl
  · obtain ⟨rfl, tabs, k⟩ := h
    have r5 := hr.mono (show 5 ≤ 10 by decide)
    refine ⟨_, pss_cons (ps_asg (pe_tup (pa_cons (pe_make J.maker J.init r5 (by rfl) N.g J.bIn .nil pass0 (pa_cons (pe_tup (pa_cons pe_int (pa_cons pe_int (pa_cons pe_int pa_nil)))) (pa_cons (pe_tup (pa_cons pe_int pa_nil)) pa_nil))) (pa_cons (pe_make J.maker J.init r5 (by rfl) N.g J.bIn .nil pass0 (pa_cons (pe_tup (pa_cons pe_int pa_nil)) (pa_cons (pe_tup (pa_cons pe_int (pa_cons pe_int (pa_cons pe_int pa_nil)))) pa_nil))) pa_nil))) (pg_tup rfl (pgs_cons (pg_name (i := 0) scTol.nd rfl (.inr rfl)) (pgs_cons (pg_name (i := 1) scTol.nd rfl (.inr rfl)) pgs_nil))))
      (pss_cons (ps_set (i := 2) scTol.nd rfl (.inr rfl) (pe_make J.maker J.init r5 (by rfl) N.g J.bIn .nil pass0 (pa_cons (pe_lc (own := [("_law_at", 6)]) (g := gName 6) rfl scTol.nd (pi_range1 (by rfl) TS.range (pa_cons pe_int pa_nil)) (blkOk_by (own := [("_law_at", 6)]) (N := nTol) (sc := defScope sTol) (by decide +kernel)) (fun _ _ _ _ _ => pg_name (i := 6) scTol.nd rfl (Or.inl rfl)) (fun _ _ _ _ _ => pts_nil) (fun _ _ _ _ _ => pe_op op_mul (pv 6) (pv 6))) (pa_cons (pe_op op_cat (pe_lst (pa_cons pe_int pa_nil)) (pe_op op_rep (pe_lst (pa_cons pe_int pa_nil)) pe_int)) pa_nil))))
      (pss_cons (ps_asg (pe_tup (pa_cons (pe_make J.maker J.init r5 (by rfl) N.g J.bIn .nil pass0 (pa_cons (pe_tup (pa_cons pe_int pa_nil)) (pa_cons (pe_tup (pa_cons pe_int (pa_cons pe_int (pa_cons pe_int pa_nil)))) pa_nil))) (pa_cons (pe_make J.maker J.init r5 (by rfl) N.g J.bIn .nil pass0 (pa_cons (pe_tup (pa_cons pe_int pa_nil)) (pa_cons (pe_tup (pa_cons pe_int (pa_cons pe_int (pa_cons pe_int pa_nil)))) pa_nil))) pa_nil))) (pg_tup rfl (pgs_cons (pg_name (i := 3) scTol.nd rfl (.inr rfl)) (pgs_cons (pg_name (i := 4) scTol.nd rfl (.inr rfl)) pgs_nil))))
      (pss_cons (ps_set (i := 5) scTol.nd rfl (.inl rfl) (pe_lst (pa_cons (pe_heardR (X := (cxOf CX0 P w K mg base nTol "_law_told_right" (defScope sTol) f (.ref c) A outer s H E).nox) (T := T) (t := fun E2 => tFld K (tMeth C "after" (spAfterB K C) [] E0 (tVar 0) (tCons (tMake C (spInit K C) [] E0 (tCons (tOp rRep (tLst (tCons (tC (.int 0)) tNil)) (tC (.int 1998))) (tCons (tTup (tCons (tC (.int 1)) tNil)) tNil))) tNil)) "told") (by rfl) gH FH bH HK gd TB rfl hT hu hr (lamS_by (sc := defScope sTol) (by decide +kernel)) rfl (fun _ _ _ _ _ => rfl) (fun A2 outer2 s2 H2 E2 f2 c2 hr2 => pe_fld (pe_meth  (pv 0) G.cls J.mAf J.afB (hr2.mono (show 6 ≤ 8 by decide)) J.cAf .nil pass0 (pa_cons (pe_make J.maker J.init (hr2.mono (show 5 ≤ 8 by decide)) (by rfl) N.g J.bIn .nil pass0 (pa_cons (pe_op op_rep (pe_lst (pa_cons pe_int pa_nil)) pe_int) (pa_cons (pe_tup (pa_cons pe_int pa_nil)) pa_nil))) pa_nil)) rfl)) pa_nil)))
      (pss_cons (ps_expr (pe_bm PySem.F.plainAttrs_list PySem.F.slot_list_append PySem.F.type_list_append mt_append (pv 5) (pa_cons (pe_heardR (X := (cxOf CX0 P w K mg base nTol "_law_told_right" (defScope sTol) f (.ref c) A outer s H E).nox) (T := T) (t := fun E2 => tOp (rEqO ((cxOf CX0 P w K mg base nTol "_law_told_right" (defScope sTol) f (.ref c) A outer s H E).nox) C (spGEq K C) E0) (tMeth C "after" (spAfterB K C) [] E0 (tSMeth C (spRamp0 K C) E0 (tC (.ref C)) (tCons (tC (.int 1)) tNil)) (tCons (tVar 2) tNil)) (tVar 2)) (by rfl) gH FH bH HK gd TB rfl hT hu hr (lamS_by (sc := defScope sTol) (by decide +kernel)) rfl (fun _ _ _ _ _ => rfl) (fun A2 outer2 s2 H2 E2 f2 c2 hr2 => pe_cmpR (show OpR _ _ (rEqO ((cxOf CX0 P w K mg base nTol "_law_told_right" (defScope sTol) f (.ref c) A outer s H E).nox) C (spGEq K C) E0) from op_eqO (E := E0) (op := .Eq) (fun _ _ => rfl) J.ne.has J.eq (hr2.mono (show 1 ≤ 8 by decide)) pass0) (pe_meth (pe_smeth (pe_glob (v := .ref C) rfl N.g rfl) N.rd J.sRa J.ramp0 (hr2.mono (show 6 ≤ 8 by decide)) pass0 (pa_cons pe_int pa_nil)) G.cls J.mAf J.afB (hr2.mono (show 6 ≤ 8 by decide)) J.cAf .nil pass0 (pa_cons (pv 2) pa_nil)) (pv 2) (nomark _))) pa_nil)))
      (pss_cons (ps_expr (pe_bm PySem.F.plainAttrs_list PySem.F.slot_list_append PySem.F.type_list_append mt_append (pv 5) (pa_cons (pe_heardR (X := (cxOf CX0 P w K mg base nTol "_law_told_right" (defScope sTol) f (.ref c) A outer s H E).nox) (T := T) (t := fun E2 => tCB (rLenQ K) (tCons (tFld K (tOp (rS ((cxOf CX0 P w K mg base nTol "_law_told_right" (defScope sTol) f (.ref c) A outer s H E).nox) C (spPk true K C) E0) (tVar 1) (tVar 3)) "told") tNil)) (by rfl) gH FH bH HK gd TB rfl hT hu hr (lamS_by (sc := defScope sTol) (by decide +kernel)) rfl (fun _ _ _ _ _ => rfl) (fun A2 outer2 s2 H2 E2 f2 c2 hr2 => pe_callB call_len_seq (by rfl) TS.len PySem.boot_len (pa_cons (pe_fld (pe_op (show OpR _ _ (rS ((cxOf CX0 P w K mg base nTol "_law_told_right" (defScope sTol) f (.ref c) A outer s H E).nox) C (spPk true K C) E0) from op_binS (E := E0) (op := .BitOr) J.sf J.hOr J.orV (hr2.mono (show 6 ≤ 8 by decide)) pass0) (pv 1) (pv 3)) rfl) pa_nil))) pa_nil)))
      (pss_cons (ps_expr (pe_bm PySem.F.plainAttrs_list PySem.F.slot_list_append PySem.F.type_list_append mt_append (pv 5) (pa_cons (pe_heardR (X := (cxOf CX0 P w K mg base nTol "_law_told_right" (defScope sTol) f (.ref c) A outer s H E).nox) (T := T) (t := fun E2 => tCB (rLenQ K) (tCons (tFld K (tOp (rS ((cxOf CX0 P w K mg base nTol "_law_told_right" (defScope sTol) f (.ref c) A outer s H E).nox) C (spPk false K C) E0) (tVar 3) (tVar 1)) "told") tNil)) (by rfl) gH FH bH HK gd TB rfl hT hu hr (lamS_by (sc := defScope sTol) (by decide +kernel)) rfl (fun _ _ _ _ _ => rfl) (fun A2 outer2 s2 H2 E2 f2 c2 hr2 => pe_callB call_len_seq (by rfl) TS.len PySem.boot_len (pa_cons (pe_fld (pe_op (show OpR _ _ (rS ((cxOf CX0 P w K mg base nTol "_law_told_right" (defScope sTol) f (.ref c) A outer s H E).nox) C (spPk false K C) E0) from op_binS (E := E0) (op := .BitAnd) J.sf J.hAn J.anV (hr2.mono (show 6 ≤ 8 by decide)) pass0) (pv 3) (pv 1)) rfl) pa_nil))) pa_nil)))
      (pss_cons (ps_if (pt_cmpR (op_neD hr.units) (pv 5) (pe_lst (pa_cons (pe_lst (pa_cons (pe_tupleOf (by rfl) TS.tuple (pe_op op_cat (pe_op op_rep (pe_lst (pa_cons pe_int pa_nil)) pe_int) (pe_lst (pa_cons pe_int (pa_cons pe_int pa_nil))))) pa_nil)) (pa_cons (pe_lst (pa_cons pe_bl pa_nil)) (pa_cons (pe_lst (pa_cons pe_int pa_nil)) (pa_cons (pe_lst (pa_cons pe_int pa_nil)) pa_nil))))) (nomark _)) (pss_one (ps_ret pe_bl)) pss_nil)
      (pss_cons (ps_set (i := 5) scTol.nd rfl (.inl rfl) (pe_lst (pa_cons (pe_heardR (X := (cxOf CX0 P w K mg base nTol "_law_told_right" (defScope sTol) f (.ref c) A outer s H E).nox) (T := T) (t := fun E2 => tMeth C "after" (spFarC K C CM) [] E2 (tVar 0) (tCons (tMake C (spInit K C) [] E0 (tCons (tOp rRep (tLst (tCons (tC (.int 0)) tNil)) (tC (.int 1999))) (tCons (tTup (tCons (tC (.int 1)) tNil)) tNil))) tNil)) (by rfl) gH FH bH HK gd TB rfl hT hu hr (lamS_by (sc := defScope sTol) (by decide +kernel)) rfl (fun _ _ _ _ _ => rfl) (fun A2 outer2 s2 H2 E2 f2 c2 hr2 => (pe_meth (E := E2) (pv 0) G.cls J.mAf J.afX (hr2.mono (show 6 ≤ 8 by decide)) J.cAf .nil (passes_call (takes_of rfl rfl rfl rfl) fun _ _ _ _ z => z) (pa_cons (pe_make J.maker J.init (hr2.mono (show 5 ≤ 8 by decide)) (by rfl) N.g J.bIn .nil pass0 (pa_cons (pe_op op_rep (pe_lst (pa_cons pe_int pa_nil)) pe_int) (pa_cons (pe_tup (pa_cons pe_int pa_nil)) pa_nil))) pa_nil)))) pa_nil)))
      (pss_cons (ps_expr (pe_bm PySem.F.plainAttrs_list PySem.F.slot_list_append PySem.F.type_list_append mt_append (pv 5) (pa_cons (pe_heardR (X := (cxOf CX0 P w K mg base nTol "_law_told_right" (defScope sTol) f (.ref c) A outer s H E).nox) (T := T) (t := fun E2 => tMeth C "after" (spFarC K C CM) [] E2 (tVar 0) (tCons (tMake C (spInit K C) [] E0 (tCons (tOp rRep (tLst (tCons (tC (.int 0)) tNil)) (tC (.int 2000))) (tCons (tTup (tCons (tC (.int 1)) tNil)) tNil))) tNil)) (by rfl) gH FH bH HK gd TB rfl hT hu hr (lamS_by (sc := defScope sTol) (by decide +kernel)) rfl (fun _ _ _ _ _ => rfl) (fun A2 outer2 s2 H2 E2 f2 c2 hr2 => (pe_meth (E := E2) (pv 0) G.cls J.mAf J.afX (hr2.mono (show 6 ≤ 8 by decide)) J.cAf .nil (passes_call (takes_of rfl rfl rfl rfl) fun _ _ _ _ z => z) (pa_cons (pe_make J.maker J.init (hr2.mono (show 5 ≤ 8 by decide)) (by rfl) N.g J.bIn .nil pass0 (pa_cons (pe_op op_rep (pe_lst (pa_cons pe_int pa_nil)) pe_int) (pa_cons (pe_tup (pa_cons pe_int pa_nil)) pa_nil))) pa_nil)))) pa_nil)))
      (pss_cons (ps_expr (pe_bm PySem.F.plainAttrs_list PySem.F.slot_list_append PySem.F.type_list_append mt_append (pv 5) (pa_cons (pe_heardR (X := (cxOf CX0 P w K mg base nTol "_law_told_right" (defScope sTol) f (.ref c) A outer s H E).nox) (T := T) (t := fun E2 => (tOp (rS ((cxOf CX0 P w K mg base nTol "_law_told_right" (defScope sTol) f (.ref c) A outer s H E).nox) C (spLate K C CM) E2) (tVar 1) (tVar 4))) (by rfl) gH FH bH HK gd TB rfl hT hu hr (lamS_by (sc := defScope sTol) (by decide +kernel)) rfl (fun _ _ _ _ _ => rfl) (fun A2 outer2 s2 H2 E2 f2 c2 hr2 => (pe_op (show OpR _ _ (rS ((cxOf CX0 P w K mg base nTol "_law_told_right" (defScope sTol) f (.ref c) A outer s H E).nox) C (spLate K C CM) E2) from op_binS (E := E2) (op := .BitOr) J.sf J.hOr J.orL (hr2.mono (show 6 ≤ 8 by decide)) (passes_call (takes_of rfl rfl rfl rfl) fun _ _ _ _ z => z)) (pv 1) (pv 4)))) pa_nil)))
      (pss_cons (ps_expr (pe_bm PySem.F.plainAttrs_list PySem.F.slot_list_append PySem.F.type_list_append mt_append (pv 5) (pa_cons (pe_heardR (X := (cxOf CX0 P w K mg base nTol "_law_told_right" (defScope sTol) f (.ref c) A outer s H E).nox) (T := T) (t := fun E2 => (tOp (rS ((cxOf CX0 P w K mg base nTol "_law_told_right" (defScope sTol) f (.ref c) A outer s H E).nox) C (spLate K C CM) E2) (tVar 4) (tVar 1))) (by rfl) gH FH bH HK gd TB rfl hT hu hr (lamS_by (sc := defScope sTol) (by decide +kernel)) rfl (fun _ _ _ _ _ => rfl) (fun A2 outer2 s2 H2 E2 f2 c2 hr2 => (pe_op (show OpR _ _ (rS ((cxOf CX0 P w K mg base nTol "_law_told_right" (defScope sTol) f (.ref c) A outer s H E).nox) C (spLate K C CM) E2) from op_binS (E := E2) (op := .BitAnd) J.sf J.hAn J.anL (hr2.mono (show 6 ≤ 8 by decide)) (passes_call (takes_of rfl rfl rfl rfl) fun _ _ _ _ z => z)) (pv 4) (pv 1)))) pa_nil)))
      (pss_one (ps_ret (pe_cmpR (op_eqD hr.units) (pv 5) (pe_op op_rep (pe_lst (pa_cons (pe_tup (pa_cons pe_str (pa_cons pe_str (pa_cons pe_int pa_nil)))) pa_nil)) pe_int) (nomark _))))))))))))))), ?_⟩
    refine q_twoG (er_mk (t := [0, 5, 0]) (g := [1]) (eq_T (ea_cons ev_c (ea_cons ev_c (ea_cons ev_c ea_nil))) (by decide)) (eq_T (ea_cons ev_c ea_nil) (by decide)) (by decide) (by decide) (by decide) (by decide) (by decide +kernel) (by decide +kernel))
      (fun H1 e1 => er_mk (t := [0]) (g := [3, 3, 4]) (eq_T (ea_cons ev_c ea_nil) (by decide)) (eq_T (ea_cons ev_c (ea_cons ev_c (ea_cons ev_c ea_nil))) (by decide)) (by decide) (by decide) (by decide) (by decide) (by decide +kernel) (by decide +kernel)) fun o u H2 e2 gO gU => ?_
    show tSeq _ _ _ [some (.ref o), some (.ref u), none, none, none, none, none] H2
    refine q_asgR (er_mk (t := sqT 1990) (g := longG) (eq_L (el_sq (m := 1990) (j := 6) (by decide) (fun _ => rfl) (fun _ => rfl))) (eq_L (el_catI (xs := [1]) (ys := List.replicate 49 2) (el_one ev_c) (el_repI (n := 49) (el_one ev_c) (fun _ _ => ev_c) (by decide)) (by decide)))
      (by rw [sqT_len]; decide) (by rw [sqT_len]; decide) (by decide) (by decide) pos_sq (fun i hi => ⟨(longG_lo i hi).1, Int.le_trans (longG_lo i hi).2 (by decide)⟩) H2 (Ex.refl H2) _ fun l H3 e3 gL => ?_)
    show tSeq _ _ _ [some (.ref o), some (.ref u), some (.ref l), none, none, none, none] H3
    refine q_twoG (er_mk (t := [1999]) (g := [2, 2, 3]) (eq_T (ea_cons ev_c ea_nil) (by decide)) (eq_T (ea_cons ev_c (ea_cons ev_c (ea_cons ev_c ea_nil))) (by decide)) (by decide) (by decide) (by decide) (by decide) (by decide +kernel) (by decide +kernel))
      (fun H1 e1 => er_mk (t := [2000]) (g := [2, 2, 3]) (eq_T (ea_cons ev_c ea_nil) (by decide)) (eq_T (ea_cons ev_c (ea_cons ev_c (ea_cons ev_c ea_nil))) (by decide)) (by decide) (by decide) (by decide) (by decide) (by decide +kernel) (by decide +kernel)) fun a b H4 e4 gA gB => ?_
    show tSeq _ _ _ [some (.ref o), some (.ref u), some (.ref l), some (.ref a), some (.ref b), none, none] H4
    have tabs4 := ((tabs.ext e2).ext e3).ext e4
    have hO := grF_known (gO.mono (e3.trans e4)) nf_hump fun _ => rfl
    have hU := grF_known (gU.mono (e3.trans e4)) nf_slow fun _ => rfl
    have hL := grF_known (gL.mono e4) nf_long fun _ => rfl
    have hA := grF_known gA nf_late fun _ => rfl
    have hB := grF_known gB nf_later fun _ => rfl
    clear gO gU gL gA gB
    refine val_hear0 (d := .tuple (behindT.map .int)) tabs4 (fun H1 st => ef_tup (etu_toldR G (er_afterB (ek_var rfl (grAt_n st hO)) (ek_flat (m := 1998) (by decide) (by decide)) (fun i _ => by rw [at_rep]; exact Int.le_refl 0) (by decide)
      ⟨2000, by rw [List.length_replicate]; decide, by decide, by rw [val_flat (by decide), if_neg (by decide)]; decide⟩ behind_nn tail_behind) nf_behind val_behindT)) fun g1 r1 H5 S1 k1 old1 => ?_
    show tSeq _ _ _ [some (.ref o), some (.ref u), some (.ref l), some (.ref a), some (.ref b), some (.ref g1), none] H5
    refine val_hear (d := .bool true) S1 k1 old1 (by show 1 ≤ 1000; decide) rfl (fun H1 st => ef_bl (ev_eqR (X := (cxOf CX0 P w K mg base nTol "_law_told_right" (defScope sTol) f (.ref c) A outer s H E).nox) ((er_afterB (ek_new (er_ramp0 (y := 1) (by decide)) (nf_ramp (a := 0) (b := 1)) fun n => val_one n) (ek_var rfl (grAt_n st hL)) pos_sq (by decide)
      ⟨1990, by rw [sqT_len]; exact Nat.le_refl _, by decide, by have := fm_long.nn (1990 - 1); show ((1 : Nat) : Int) - 1 ≤ _; omega⟩ id_nn tail_id).is fun n => cmp_id fm_long.nn n) (er_k (ek_var rfl (grAt_n st hL)) pos_sq) J.ne.nf)) fun r2 H6 S2 k2 => ?_
    refine val_hear (d := .int 2000) S2 k2 old1 (by show 2 ≤ 1000; decide) rfl (fun H1 st => ef_int (ev_is (ev_lenToldR (er_pk (X := (cxOf CX0 P w K mg base nTol "_law_told_right" (defScope sTol) f (.ref c) A outer s H E).nox) (up := true) (er_k (ek_var rfl (grAt_n st hU)) (pos_one (by decide))) (er_k (ek_var rfl (grAt_n st hA)) (pos_one (by decide))) (fm_slow.per (by decide)) (fm_late.per (by decide)) (fm_slow.tail.mono (by decide)) (fm_late.tail.mono (by decide)) (.inr ord_late) fm_slow.nn fm_late.nn) nf_orT val_orT G)
      (by unfold orT; rw [tbl_len]; rfl))) fun r3 H7 S3 k3 => ?_
    refine val_hear (d := .int 2000) S3 k3 old1 (by show 3 ≤ 1000; decide) rfl (fun H1 st => ef_int (ev_is (ev_lenToldR (er_pk (X := (cxOf CX0 P w K mg base nTol "_law_told_right" (defScope sTol) f (.ref c) A outer s H E).nox) (up := false) (er_k (ek_var rfl (grAt_n st hA)) (pos_one (by decide))) (er_k (ek_var rfl (grAt_n st hU)) (pos_one (by decide))) (fm_late.per (by decide)) (fm_slow.per (by decide)) (fm_late.tail.mono (by decide)) (fm_slow.tail.mono (by decide)) (.inr ord_late.symm) fm_late.nn fm_slow.nn) nf_andT val_andT G)
      (by unfold andT; rw [tbl_len]; rfl))) fun r4 H8 S4 k4 => ?_
    have lo : Low 3 (.list [.list [.tuple (behindT.map .int)], .list [.bool true], .list [.int 2000], .list [.int 2000]]) := low_list (n := 2) (lo_cons (low_list (n := 1) (lo_cons low_ints (Nat.le_refl 1) lo_nil)) (Nat.le_refl 2) (lo_cons (low_list (n := 0) (lo_cons low_bl (Nat.le_refl 0) lo_nil)) (by decide)
      (lo_cons (low_list (n := 0) (lo_cons (low_int 2000) (Nat.le_refl 0) lo_nil)) (by decide) (lo_cons (low_list (n := 0) (lo_cons (low_int 2000) (Nat.le_refl 0) lo_nil)) (by decide) lo_nil))))
    refine q_when (b := false) (et_is (et_test (ev_neD (d := .list [.list [.tuple (behindT.map .int)], .list [.bool true], .list [.int 2000], .list [.int 2000]]) (e := .list [.list [.tuple (behindT.map .int)], .list [.bool true], .list [.int 2000], .list [.int 2000]]) (ed_of (ev_var rfl) fun H1 e => hrD_data (S4.ext e))
      (ed_lst (eda_cons (ed_lst (eda_cons (ed_ints (xs := behindT) (etu_tuple (el_catI (xs := List.replicate 1998 0) (ys := [5, 0]) (el_repI (n := 1998) (el_one ev_c) (fun _ _ => ev_c) (by decide)) (el_lst (ea_cons ev_c (ea_cons ev_c ea_nil)) (by decide)) (by rw [List.length_replicate]; decide)))) eda_nil) (by show 1 ≤ 1000; decide))
        (eda_cons (ed_lst (eda_cons ed_bl eda_nil) (by show 1 ≤ 1000; decide)) (eda_cons (ed_lst (eda_cons ed_int eda_nil) (by show 1 ≤ 1000; decide)) (eda_cons (ed_lst (eda_cons ed_int eda_nil) (by show 1 ≤ 1000; decide)) eda_nil)))) (by show 4 ≤ 1000; decide)) (low_shaped lo (by decide)) (low_shaped lo (by decide)))) (by rw [eqv_low lo]; rfl)) (fun z => absurd z (by decide)) fun _ H9 e9 => ?_
    have st9 : Stay H4 H9 := fun h n => e9 _ _ (Stay.of_keepN k4 old1 h n)
    have hO9 := grAt_n st9 hO
    have hU9 := grAt_n st9 hU
    have hB9 := grAt_n st9 hB
    have dp : ∀ H', DpAll K H' [.str "many", .str "told", .int 2000] [.str "many", .str "told", .int 2000] := fun H' => .cons (.str _) (.cons (.str _) (.cons (.int _) .nil))
    refine err_hear0 (S4.tabs.ext e9) dp (fun Q1 H1 st told Qv => er_far (ek_var rfl (grAt_n st hO9)) (ek_flat (m := 1999) (by decide) (by decide)) fun H3 o' u' e3 g1 g2 => far_flat (by decide) g1 g2 ((out_many told).mono e3)) fun g2 r5 H10 S5 k5 old5 => ?_
    show tSeq _ _ _ [some (.ref o), some (.ref u), some (.ref l), some (.ref a), some (.ref b), some (.ref g2), none] H10
    refine err_hear S5 k5 old5 (by show 1 ≤ 1000; decide) rfl dp (fun Q1 H1 st told Qv => er_far (ek_var rfl (grAt_n st hO9)) (ek_flat (m := 2000) (by decide) (by decide)) fun H3 o' u' e3 g1 g2 => far_flat (by decide) g1 g2 ((out_many told).mono e3)) fun r6 H11 S6 k6 => ?_
    refine err_hear S6 k6 old5 (by show 2 ≤ 1000; decide) rfl dp (fun Q1 H1 st told Qv => er_late (X := (cxOf CX0 P w K mg base nTol "_law_told_right" (defScope sTol) f (.ref c) A outer s H E).nox) (ek_var rfl (grAt_n st hU9)) (ek_var rfl (grAt_n st hB9)) (fun H3 o' u' g1 g2 => cross_one_ g1 g2) (out_many told)) fun r7 H12 S7 k7 => ?_
    refine err_hear S7 k7 old5 (by show 3 ≤ 1000; decide) rfl dp (fun Q1 H1 st told Qv => er_late (X := (cxOf CX0 P w K mg base nTol "_law_told_right" (defScope sTol) f (.ref c) A outer s H E).nox) (ek_var rfl (grAt_n st hB9)) (ek_var rfl (grAt_n st hU9)) (fun H3 o' u' g1 g2 => cross_two_ g1 g2) (out_many told)) fun r8 H13 S8 k8 => ?_
    have lm : Low 1 (manyD "told") := low_many (by decide +kernel)
    have lo2 : Low 2 (.list [manyD "told", manyD "told", manyD "told", manyD "told"]) := low_list (lo_cons lm (Nat.le_refl 1) (lo_cons lm (Nat.le_refl 1) (lo_cons lm (Nat.le_refl 1) (lo_cons lm (Nat.le_refl 1) lo_nil))))
    refine s_ret (v := .bl true) (ev_is (ev_eqD (d := .list [manyD "told", manyD "told", manyD "told", manyD "told"]) (e := .list [manyD "told", manyD "told", manyD "told", manyD "told"]) (ed_of (ev_var rfl) fun H1 e => hrD_data (S8.ext e))
      (ed_new (eld_rep (n := 4) (ds := [manyD "told"]) (eld_lst (eda_cons (ed_tup (eda_cons ed_str (eda_cons ed_str (eda_cons ed_int eda_nil))) (by show 3 ≤ 1000; decide)) eda_nil) (by show 1 ≤ 1000; decide)) (ev_c (v := .int ((4 : Nat) : Int))) (by show 1 * 4 ≤ 100000; decide) (by decide))) (low_shaped lo2 (by decide)) (low_shaped lo2 (by decide))) (by rw [eqv_low lo2])) fun H14 e14 => ?_
    exact k H14
end
end K02
namespace K02
open PySem L2 Evl Gr ClX OpX StX StM LamX EXC OwX
/-! ### _law_numbers_right -/
abbrev sNum : Stmt := top 49
abbrev nNum : List Str := ["_law_pen_here", "_law_made", "_law_odd", "_law_far", "_law_heard_here", "_law_wide", "_law_many", "_law_gain", "_law_high", "_law_size", "_law_one"]
abbrev qNum : Str := ("_law_numbers_right" : Str) ++ ".<locals>." ++ "<lambda>"
abbrev e40 : Int := 10 ^ (40 : Int).toNat
abbrev e6 : Int := 10 ^ (6 : Int).toNat
def spNum (K : PySem.W.Frag) (T : List (Addr × Str)) (C : Addr) : Sp := fun vs H Q _ => ∃ (p o l : Addr) (cells : List Int) (m : Nat) (t g : List Int), vs = [.ref p, .ref o] ∧ PenAt H p l cells m ∧ m + 20 ≤ 50000 ∧ cells.length ≤ 63 ∧ GrAt K C H o t g ∧ Tabs T H ∧ ∀ H', KeepN p H H' → PenAt H' p l cells (m + 7) → Tabs T H' → Q (.bl true) H'
theorem scNum : FnScope nNum ["_law_pen_here", "_law_made"] (defScope sNum) := ⟨rfl, rfl, rfl, by decide +kernel, rfl, by decide +kernel, by decide +kernel⟩
structure NumK (P : Program) (w : World) (K : PySem.W.Frag) (mg : Str → Option Value) (base : Heap) (C CN : Addr) (mc : Value) (fCa fOv fFi fSh fMu fRm fRa pRa fCo pCo fSt pSt fP : Addr) (eOv eFi eSh eP : FuncData) : Prop where
  hCa : CallO K C fCa
  call : FnR P w K mg base (L2.CX P w) 3 fCa (spBadW K CN 0 e40)
  mOv : Meth K C "first_over" fOv
  over : FnOk P w K mg base (L2.CX P w) 3 fOv eOv ["self", "value"] (spBadW K CN 0 e40)
  cOv : Binds K eOv ["self", "value"] []
  mFi : Meth K C "first" fFi
  first : FnOk P w K mg base (L2.CX P w) 3 fFi eFi ["self", "n"] (spBadW K CN 0 2000)
  cFi : Binds K eFi ["self", "n"] []
  mSh : Meth K C "shifted" fSh
  shift : FnOk P w K mg base (L2.CX P w) 3 fSh eSh ["self", "k"] (spBadW K CN 0 2000)
  cSh : Binds K eSh ["self", "k"] []
  sf : PySem.W.selfFirst K C = true
  hMu : Has K C fMu (PySem.dunder "mul")
  hRm : Has K C fRm (dunderR "mul")
  bMul : ∀ T ∈ odds, BesideT K C "mul" T
  lMul : ∀ T ∈ odds, T ≠ "int" → T ≠ "bool" → LeftNo K T "mul"
  sI : PySem.W.subIn K (.ref C) (.type "int") = some false
  sB : PySem.W.subIn K (.ref C) (.type "bool") = some false
  mul : FnR P w K mg base (L2.CX P w) 3 fMu (spBadW K CN 0 e6)
  rmul : FnR P w K mg base (L2.CX P w) 3 fRm (spBadW K CN 0 e6)
  sRa : SMet K C mc "ramp" pRa fRa
  ramp : FnR P w K mg base (L2.CX P w) 3 fRa (spBadR K CN)
  sCo : SMet K C mc "constant" pCo fCo
  const : FnR P w K mg base (L2.CX P w) 3 fCo (spBadC K CN)
  sSt : SMet K C mc "steps" pSt fSt
  steps : FnR P w K mg base (L2.CX P w) 3 fSt (spBadS K CN)
  pick : FnOk P w K mg base CX0 2 fP eP ["_law_pen_here", "_law_some"] spPick
  kPick : PySem.W.keepIn K (.ref fP) = true
  bPick : Binds K eP ["_law_pen_here", "_law_some"] []
  gPick : mg "_law_pick" = some (.ref fP)
section
variable {P : Program} {w : World} {K : PySem.W.Frag} {mg : Str → Option Value} {base : Heap}
theorem ok_Num {C CG CN CT CM B f c Pc fHd fCa fOv fFi fSh fMu fRm fRa pRa fCo pCo fSt pSt fP : Addr} {mc : Value} {fd eHd eOv eFi eSh eP : FuncData} {T : List (Addr × Str)} (F : FunC K "_law_numbers_right" "_law_numbers_right" sNum f fd c) (TB : TabB base mg c Pc) (hT : (Pc, qNum) ∈ T) (hu : ∀ p ∈ T, p.1 = Pc → p.2 = qNum)
    (N : GName K mg C mc) (G : GCls K C) (repr_ : mg "repr" = none) (HK : HdK K mg B CG CN CT CM) (FH : Fun K "_law_heard" "_law_heard" sHd fHd eHd) (bH : Binds K eHd ["_law_ask"] []) (gH : mg "_law_heard" = some (.ref fHd))
    (J : NumK P w K mg base C CN mc fCa fOv fFi fSh fMu fRm fRa pRa fCo pCo fSt pSt fP eOv eFi eSh eP) : FnG P w K mg base 11 f fd ["_law_pen_here", "_law_made"] (spNum K T C) := by
  refine F.okG scNum (fun vs H Q E h => ?_) (fun A outer s H vs Q E gd hr h => ?_)
  · obtain ⟨p, o, l, cells, m, t, g, rfl, _⟩ := h
    rfl
  · obtain ⟨p, o, l, cells, m, t, g, rfl, hP, hm, h63, hG, tabs, k⟩ := h
    have r2 := hr.mono (show 2 ≤ 10 by decide)
    refine ⟨_, pss_cons (ps_asg (pe_tup (pa_cons (pe_call J.pick r2 (by rfl) J.gPick J.kPick J.bPick .nil pass0 (pa_cons (pv 0) (pa_cons (pe_lst (pa_cons pe_non (pa_cons pe_bl (pa_cons (pe_un un_neg pe_int) (pa_cons pe_str (pa_cons (pe_tup (pa_cons pe_int pa_nil)) (pa_cons (pe_lstS pa_nil) (pa_cons pe_dnewK pa_nil)))))))) pa_nil))) (pa_cons (pe_call J.pick r2 (by rfl) J.gPick J.kPick J.bPick .nil pass0 (pa_cons (pv 0) (pa_cons (pe_lst (pa_cons pe_non (pa_cons pe_bl (pa_cons (pe_un un_neg pe_int) (pa_cons pe_str (pa_cons (pe_op op_add (pe_op op_pow pe_int pe_int) pe_int) pa_nil)))))) pa_nil))) pa_nil))) (pg_tup rfl (pgs_cons (pg_name (i := 2) scNum.nd rfl (.inl rfl)) (pgs_cons (pg_name (i := 3) scNum.nd rfl (.inr rfl)) pgs_nil))))
      (pss_cons (ps_set (i := 4) scNum.nd rfl (.inl rfl) (pe_lst (pa_cons (pe_heardR (X := (cxOf CX0 P w K mg base nNum "_law_numbers_right" (defScope sNum) f (.ref c) A outer s H E).nox) (T := T) (t := fun E2 => tCallO ((cxOf CX0 P w K mg base nNum "_law_numbers_right" (defScope sNum) f (.ref c) A outer s H E).nox) C (spBadW K CN 0 e40) E2 (tVar 1) (tCons (tVar 3) tNil)) (by rfl) gH FH bH HK gd TB rfl hT hu hr (lamS_by (sc := defScope sNum) (by decide +kernel)) rfl (fun _ _ _ _ _ => rfl) (fun A2 outer2 s2 H2 E2 f2 c2 hr2 => pe_callO (E := E2) (pv 1) J.hCa J.call (hr2.mono (show 3 ≤ 8 by decide)) (passes_call (takes_of rfl rfl rfl rfl) fun _ _ _ _ z => z) (pa_cons (pv 3) pa_nil))) pa_nil)))
      (pss_cons (ps_expr (pe_bm PySem.F.plainAttrs_list PySem.F.slot_list_append PySem.F.type_list_append mt_append (pv 4) (pa_cons (pe_heardR (X := (cxOf CX0 P w K mg base nNum "_law_numbers_right" (defScope sNum) f (.ref c) A outer s H E).nox) (T := T) (t := fun E2 => tMeth C "first_over" (spBadW K CN 0 e40) [] E2 (tVar 1) (tCons (tVar 3) tNil)) (by rfl) gH FH bH HK gd TB rfl hT hu hr (lamS_by (sc := defScope sNum) (by decide +kernel)) rfl (fun _ _ _ _ _ => rfl) (fun A2 outer2 s2 H2 E2 f2 c2 hr2 => pe_meth (E := E2) (pv 1) G.cls J.mOv J.over (hr2.mono (show 3 ≤ 8 by decide)) J.cOv .nil (passes_call (takes_of rfl rfl rfl rfl) fun _ _ _ _ z => z) (pa_cons (pv 3) pa_nil))) pa_nil)))
      (pss_cons (ps_if (pt_cmpR (op_neD hr.units) (pv 4) (pe_op op_rep (pe_lst (pa_cons (pe_tup (pa_cons pe_str (pa_cons (pe_callB (call_reprD gd hr.units) (by rfl) repr_ (by decide +kernel) (pa_cons (pv 3) pa_nil)) pa_nil))) pa_nil)) pe_int) (nomark _)) (pss_one (ps_ret pe_bl)) pss_nil)
      (pss_cons (ps_set (i := 5) scNum.nd rfl (.inr rfl) (pe_call J.pick r2 (by rfl) J.gPick J.kPick J.bPick .nil pass0 (pa_cons (pv 0) (pa_cons (pe_lst (pa_cons (pv 2) (pa_cons pe_int pa_nil))) pa_nil))))
      (pss_cons (ps_set (i := 4) scNum.nd rfl (.inl rfl) (pe_lst (pa_cons (pe_heardR (X := (cxOf CX0 P w K mg base nNum "_law_numbers_right" (defScope sNum) f (.ref c) A outer s H E).nox) (T := T) (t := fun E2 => tMeth C "first" (spBadW K CN 0 2000) [] E2 (tVar 1) (tCons (tVar 5) tNil)) (by rfl) gH FH bH HK gd TB rfl hT hu hr (lamS_by (sc := defScope sNum) (by decide +kernel)) rfl (fun _ _ _ _ _ => rfl) (fun A2 outer2 s2 H2 E2 f2 c2 hr2 => pe_meth (E := E2) (pv 1) G.cls J.mFi J.first (hr2.mono (show 3 ≤ 8 by decide)) J.cFi .nil (passes_call (takes_of rfl rfl rfl rfl) fun _ _ _ _ z => z) (pa_cons (pv 5) pa_nil))) pa_nil)))
      (pss_cons (ps_expr (pe_bm PySem.F.plainAttrs_list PySem.F.slot_list_append PySem.F.type_list_append mt_append (pv 4) (pa_cons (pe_heardR (X := (cxOf CX0 P w K mg base nNum "_law_numbers_right" (defScope sNum) f (.ref c) A outer s H E).nox) (T := T) (t := fun E2 => tMeth C "shifted" (spBadW K CN 0 2000) [] E2 (tVar 1) (tCons (tVar 5) tNil)) (by rfl) gH FH bH HK gd TB rfl hT hu hr (lamS_by (sc := defScope sNum) (by decide +kernel)) rfl (fun _ _ _ _ _ => rfl) (fun A2 outer2 s2 H2 E2 f2 c2 hr2 => pe_meth (E := E2) (pv 1) G.cls J.mSh J.shift (hr2.mono (show 3 ≤ 8 by decide)) J.cSh .nil (passes_call (takes_of rfl rfl rfl rfl) fun _ _ _ _ z => z) (pa_cons (pv 5) pa_nil))) pa_nil)))
      (pss_cons (ps_if (pt_cmpR (op_neD hr.units) (pv 4) (pe_op op_rep (pe_lst (pa_cons (pe_tup (pa_cons pe_str (pa_cons (pe_callB (call_reprD gd hr.units) (by rfl) repr_ (by decide +kernel) (pa_cons (pv 5) pa_nil)) pa_nil))) pa_nil)) pe_int) (nomark _)) (pss_one (ps_ret pe_bl)) pss_nil)
      (pss_cons (ps_asg (pe_tup (pa_cons (pe_call J.pick r2 (by rfl) J.gPick J.kPick J.bPick .nil pass0 (pa_cons (pv 0) (pa_cons (pe_lst (pa_cons (pv 2) (pa_cons (pe_op op_add (pe_op op_pow pe_int pe_int) pe_int) pa_nil))) pa_nil))) (pa_cons (pe_call J.pick r2 (by rfl) J.gPick J.kPick J.bPick .nil pass0 (pa_cons (pv 0) (pa_cons (pe_lst (pa_cons (pv 2) (pa_cons (pe_un un_neg (pe_op op_pow pe_int pe_int)) pa_nil))) pa_nil))) pa_nil))) (pg_tup rfl (pgs_cons (pg_name (i := 6) scNum.nd rfl (.inr rfl)) (pgs_cons (pg_name (i := 7) scNum.nd rfl (.inr rfl)) pgs_nil))))
      (pss_cons (ps_asg (pe_tup (pa_cons (pe_call J.pick r2 (by rfl) J.gPick J.kPick J.bPick .nil pass0 (pa_cons (pv 0) (pa_cons (pe_lst (pa_cons (pv 2) (pa_cons (pe_un un_neg pe_int) pa_nil))) pa_nil))) (pa_cons (pe_call J.pick r2 (by rfl) J.gPick J.kPick J.bPick .nil pass0 (pa_cons (pv 0) (pa_cons (pe_lst (pa_cons (pv 2) (pa_cons pe_int (pa_cons pe_int pa_nil)))) pa_nil))) pa_nil))) (pg_tup rfl (pgs_cons (pg_name (i := 8) scNum.nd rfl (.inr rfl)) (pgs_cons (pg_name (i := 9) scNum.nd rfl (.inr rfl)) pgs_nil))))
      (pss_cons (ps_set (i := 4) scNum.nd rfl (.inl rfl) (pe_lst (pa_cons (pe_heardR (X := (cxOf CX0 P w K mg base nNum "_law_numbers_right" (defScope sNum) f (.ref c) A outer s H E).nox) (T := T) (t := fun E2 => tOp (OpX.rX ((cxOf CX0 P w K mg base nNum "_law_numbers_right" (defScope sNum) f (.ref c) A outer s H E).nox) C "mul" (spBadW K CN 0 e6) E2) (tVar 1) (tVar 6)) (by rfl) gH FH bH HK gd TB rfl hT hu hr (lamS_by (sc := defScope sNum) (by decide +kernel)) rfl (fun _ _ _ _ _ => rfl) (fun A2 outer2 s2 H2 E2 f2 c2 hr2 => pe_op (show OpR _ _ (OpX.rX ((cxOf CX0 P w K mg base nNum "_law_numbers_right" (defScope sNum) f (.ref c) A outer s H E).nox) C "mul" (spBadW K CN 0 e6) E2) from op_binX (E := E2) (op := .Mult) J.hMu J.mul (hr2.mono (show 3 ≤ 8 by decide)) (passes_call (takes_of rfl rfl rfl rfl) fun _ _ _ _ z => z)) (pv 1) (pv 6))) pa_nil)))
      (pss_cons (ps_expr (pe_bm PySem.F.plainAttrs_list PySem.F.slot_list_append PySem.F.type_list_append mt_append (pv 4) (pa_cons (pe_heardR (X := (cxOf CX0 P w K mg base nNum "_law_numbers_right" (defScope sNum) f (.ref c) A outer s H E).nox) (T := T) (t := fun E2 => tOp (OpX.rXR ((cxOf CX0 P w K mg base nNum "_law_numbers_right" (defScope sNum) f (.ref c) A outer s H E).nox) C (spBadW K CN 0 e6) E2) (tVar 6) (tVar 1)) (by rfl) gH FH bH HK gd TB rfl hT hu hr (lamS_by (sc := defScope sNum) (by decide +kernel)) rfl (fun _ _ _ _ _ => rfl) (fun A2 outer2 s2 H2 E2 f2 c2 hr2 => pe_op (show OpR _ _ (OpX.rXR ((cxOf CX0 P w K mg base nNum "_law_numbers_right" (defScope sNum) f (.ref c) A outer s H E).nox) C (spBadW K CN 0 e6) E2) from op_rmulX (E := E2) J.sf J.hMu.at_ J.hRm J.sI J.sB J.rmul (hr2.mono (show 3 ≤ 8 by decide)) (passes_call (takes_of rfl rfl rfl rfl) fun _ _ _ _ z => z)) (pv 6) (pv 1))) pa_nil)))
      (pss_cons (ps_expr (pe_bm PySem.F.plainAttrs_list PySem.F.slot_list_append PySem.F.type_list_append mt_append (pv 4) (pa_cons (pe_heardR (X := (cxOf CX0 P w K mg base nNum "_law_numbers_right" (defScope sNum) f (.ref c) A outer s H E).nox) (T := T) (t := fun E2 => tSMeth C (spBadR K CN) E2 (tC (.ref C)) (tCons (tVar 7) (tCons (tVar 8) tNil))) (by rfl) gH FH bH HK gd TB rfl hT hu hr (lamS_by (sc := defScope sNum) (by decide +kernel)) rfl (fun _ _ _ _ _ => rfl) (fun A2 outer2 s2 H2 E2 f2 c2 hr2 => pe_smeth (E := E2) (pe_glob (v := .ref C) rfl N.g rfl) N.rd J.sRa J.ramp (hr2.mono (show 3 ≤ 8 by decide)) (passes_call (takes_of rfl rfl rfl rfl) fun _ _ _ _ z => z) (pa_cons (pv 7) (pa_cons (pv 8) pa_nil)))) pa_nil)))
      (pss_cons (ps_expr (pe_bm PySem.F.plainAttrs_list PySem.F.slot_list_append PySem.F.type_list_append mt_append (pv 4) (pa_cons (pe_heardR (X := (cxOf CX0 P w K mg base nNum "_law_numbers_right" (defScope sNum) f (.ref c) A outer s H E).nox) (T := T) (t := fun E2 => tSMeth C (spBadR K CN) E2 (tC (.ref C)) (tCons (tC (.int 3)) (tCons (tVar 8) tNil))) (by rfl) gH FH bH HK gd TB rfl hT hu hr (lamS_by (sc := defScope sNum) (by decide +kernel)) rfl (fun _ _ _ _ _ => rfl) (fun A2 outer2 s2 H2 E2 f2 c2 hr2 => pe_smeth (E := E2) (pe_glob (v := .ref C) rfl N.g rfl) N.rd J.sRa J.ramp (hr2.mono (show 3 ≤ 8 by decide)) (passes_call (takes_of rfl rfl rfl rfl) fun _ _ _ _ z => z) (pa_cons pe_int (pa_cons (pv 8) pa_nil)))) pa_nil)))
      (pss_cons (ps_expr (pe_bm PySem.F.plainAttrs_list PySem.F.slot_list_append PySem.F.type_list_append mt_append (pv 4) (pa_cons (pe_heardR (X := (cxOf CX0 P w K mg base nNum "_law_numbers_right" (defScope sNum) f (.ref c) A outer s H E).nox) (T := T) (t := fun E2 => tSMeth C (spBadC K CN) E2 (tC (.ref C)) (tCons (tVar 8) tNil)) (by rfl) gH FH bH HK gd TB rfl hT hu hr (lamS_by (sc := defScope sNum) (by decide +kernel)) rfl (fun _ _ _ _ _ => rfl) (fun A2 outer2 s2 H2 E2 f2 c2 hr2 => pe_smeth (E := E2) (pe_glob (v := .ref C) rfl N.g rfl) N.rd J.sCo J.const (hr2.mono (show 3 ≤ 8 by decide)) (passes_call (takes_of rfl rfl rfl rfl) fun _ _ _ _ z => z) (pa_cons (pv 8) pa_nil))) pa_nil)))
      (pss_cons (ps_expr (pe_bm PySem.F.plainAttrs_list PySem.F.slot_list_append PySem.F.type_list_append mt_append (pv 4) (pa_cons (pe_heardR (X := (cxOf CX0 P w K mg base nNum "_law_numbers_right" (defScope sNum) f (.ref c) A outer s H E).nox) (T := T) (t := fun E2 => tSMeth C (spBadS K CN) E2 (tC (.ref C)) (tCons (tVar 9) tNil)) (by rfl) gH FH bH HK gd TB rfl hT hu hr (lamS_by (sc := defScope sNum) (by decide +kernel)) rfl (fun _ _ _ _ _ => rfl) (fun A2 outer2 s2 H2 E2 f2 c2 hr2 => pe_smeth (E := E2) (pe_glob (v := .ref C) rfl N.g rfl) N.rd J.sSt J.steps (hr2.mono (show 3 ≤ 8 by decide)) (passes_call (takes_of rfl rfl rfl rfl) fun _ _ _ _ z => z) (pa_cons (pv 9) pa_nil))) pa_nil)))
      (pss_one (ps_ret (pe_cmpR (op_eqD hr.units) (pv 4) (pe_lc (own := [("_law_one", 10)]) (g := gName 10) rfl scNum.nd (pi_list (pe_lst (pa_cons (pv 6) (pa_cons (pv 6) (pa_cons (pv 7) (pa_cons (pv 8) (pa_cons (pv 8) (pa_cons (pv 9) pa_nil)))))))) (blkOk_by (own := [("_law_one", 10)]) (N := nNum) (sc := defScope sNum) (by decide +kernel)) (fun _ _ _ _ _ => pg_name (i := 10) scNum.nd rfl (Or.inl rfl)) (fun _ _ _ _ _ => pts_nil) (fun _ _ _ _ _ => pe_tup (pa_cons pe_str (pa_cons (pe_callB (show CallR _ _ (rRepr K) from call_reprD gd hr.units) (by rfl) repr_ (by decide +kernel) (pa_cons (pv 10) pa_nil)) pa_nil)))) (nomark _))))))))))))))))))), ?_⟩
    have no : o ≠ p := fun z => by
      obtain ⟨dx, pt, pg, pr, hins, _⟩ := hG
      obtain ⟨_, _, q, _⟩ := hP
      rw [z, q] at hins
      cases hins
    obtain ⟨dx, pt, pg, pr, hins, _⟩ := hG
    have ni : ∀ ps, HO.ins C dx [("told", .ref pt), ("gains", .ref pg), ("rises", .ref pr)] ≠ .tbl ps := fun ps z => by cases z
    have insC : ∀ {H' : Hp}, H' o = some (.ins C dx [("told", .ref pt), ("gains", .ref pg), ("rises", .ref pr)]) → InsC ((cxOf CX0 P w K mg base nNum "_law_numbers_right" (defScope sNum) f (.ref c) A outer s H E).nox) H' o C := fun h => .inr ⟨dx, _, h⟩
    have S0 : NSt T o (.ins C dx [("told", .ref pt), ("gains", .ref pg), ("rises", .ref pr)]) p l cells H [] m H := ⟨hins, hP, tabs, fun b u hb _ _ => hb, fun q hq => nomatch hq⟩
    have up : ∀ {C' : Int → Prop} (v : V) (H1 H2 : Hp), Ex H1 H2 → NumE C' p v H1 → NumE C' p v H2 := fun v H1 H2 => numE_up v H1 H2
    refine nst_two (n1 := 6) (n2 := 4) (C1 := fun i => i = -1) (C2 := fun i => i = -2 ∨ i = 10 ^ (40 : Int).toNat + 1) S0 no
      (evsa_cons up (evs_ev ev_c fun _ _ => ⟨_, numV_non, nofun⟩) (evsa_cons up (evs_ev ev_c fun _ _ => ⟨_, numV_bl, nofun⟩) (evsa_cons up (evs_ev (ev_un (ev_c (v := .int 1)) ru_neg) fun _ _ => ⟨_, numV_int rfl (by decide +kernel) (by decide +kernel), nofun⟩) (evsa_cons up (evs_ev ev_c fun _ _ => ⟨_, numV_str (by decide +kernel), nofun⟩)
        (evsa_cons up (evs_T (ea_cons ev_c ea_nil) (by show 1 ≤ 1000; decide) fun _ _ hn _ h => ⟨_, numV_tup h, S0.fresh hn⟩) (evsa_cons up (evs_LS fun _ _ hn _ h hs => ⟨_, numV_lst h hs, S0.fresh hn⟩) (evsa_cons up (evs_D fun _ _ hn _ h => ⟨_, numV_dic h, S0.fresh hn⟩) evsa_nil)))))))
      (fun _ _ H1 S1 => evsa_cons up (evs_ev ev_c fun _ _ => ⟨_, numV_non, nofun⟩) (evsa_cons up (evs_ev ev_c fun _ _ => ⟨_, numV_bl, nofun⟩) (evsa_cons up (evs_ev (ev_un (ev_c (v := .int 2)) ru_neg) fun _ _ => ⟨_, numV_int (.inl rfl) (by decide +kernel) (by decide +kernel), nofun⟩) (evsa_cons up (evs_ev ev_c fun _ _ => ⟨_, numV_str (by decide +kernel), nofun⟩)
        (evsa_cons up (evs_ev (ev_op (ev_op (ev_c (v := .int 10)) (ev_c (v := .int 40)) (rv_I (C := CPow) (g := fun i j => .int (i ^ j.toNat)) (show (0 : Int) ≤ 40 ∧ (40 : Int) ≤ 1000000 ∧ (10 : Int).natAbs < 2 ^ 64 by decide))) (ev_c (v := .int 1)) rv_I0) fun _ _ => ⟨_, numV_int (.inr rfl) (by decide +kernel) (by decide +kernel), nofun⟩) evsa_nil)))))
      rfl (by omega) h63 (by decide) (by decide) fun odd dO far dF H2 S2 => ?_
    show tSeq _ _ _ [some (.ref p), some (.ref o), some odd, some far, none, none, none, none, none, none, none] H2
    have nF := (S2.nums (far, dF, _) (.head _)).1
    have bF : ∀ {H' : Hp}, Stay H2 H' → BadN K H' 0 e40 far := fun st => (nF.stay st).badN fun i hi => by rcases hi with rfl | rfl <;> decide +kernel
    refine num_hear0 (xs := numX dF) S2.tabs (fun Q1 H3 st told Qv => ⟨_, rfl, o, rfl, _, rfl, insC (st S2.ins ni), o, far, rfl, bF st, out_value (nF.stay st).shown told⟩) fun g1 r1 H3 R1 k1 old1 => ?_
    show tSeq _ _ _ [some (.ref p), some (.ref o), some odd, some far, some (.ref g1), none, none, none, none, none, none] H3
    refine num_hear (xs := numX dF) R1 k1 old1 (by show 1 ≤ 1000; decide) rfl (fun Q1 H4 st told Qv => ⟨_, rfl, o, dx, _, rfl, st S2.ins ni, rfl, _, rfl, o, far, rfl, bF st, out_value (nF.stay st).shown told⟩) fun r2 H4 R2 k2 => ?_
    have S3 := S2.stay ni (Stay.of_keepN k2 old1) R2.tabs
    have nF3 := (S3.nums (far, dF, _) (.head _)).1
    refine q_when (et_heard R2 rfl nF3.shown nF3.ok rfl rfl) (fun z => absurd z (by decide)) fun _ H5 e5 => ?_
    have S4 := S3.ext e5
    clear R1 R2 k1 k2 old1 S2 S3 nF nF3 bF
    refine q_asgR (nst_pick (n := 1) (C := fun i => i = -1 ∨ i = 2001) S4 no (evsa_cons up (evs_num S4 (d := dO) (.tail _ (.head _)) (fun i hi => .inl hi) rfl) (evsa_cons up (evs_ev ev_c fun _ _ => ⟨_, numV_int (.inr rfl) (by decide +kernel) (by decide +kernel), nofun⟩) evsa_nil)) rfl (by omega) h63 (by decide) fun wide dW H6 S5 => ?_)
    show tSeq _ _ _ [some (.ref p), some (.ref o), some odd, some far, some (.ref g1), some wide, none, none, none, none, none] H6
    have nW := (S5.nums (wide, dW, _) (.head _)).1
    have bW : ∀ {H' : Hp}, Stay H6 H' → BadN K H' 0 2000 wide := fun st => (nW.stay st).badN fun i hi => by rcases hi with rfl | rfl <;> decide +kernel
    refine num_hear0 (xs := numX dW) S5.tabs (fun Q1 H3 st told Qv => ⟨_, rfl, o, dx, _, rfl, st S5.ins ni, rfl, _, rfl, o, wide, rfl, bW st, out_value (nW.stay st).shown told⟩) fun g2 r3 H7 R3 k3 old3 => ?_
    show tSeq _ _ _ [some (.ref p), some (.ref o), some odd, some far, some (.ref g2), some wide, none, none, none, none, none] H7
    refine num_hear (xs := numX dW) R3 k3 old3 (by show 1 ≤ 1000; decide) rfl (fun Q1 H4 st told Qv => ⟨_, rfl, o, dx, _, rfl, st S5.ins ni, rfl, _, rfl, o, wide, rfl, bW st, out_value (nW.stay st).shown told⟩) fun r4 H8 R4 k4 => ?_
    have S6 := S5.stay ni (Stay.of_keepN k4 old3) R4.tabs
    have nW6 := (S6.nums (wide, dW, _) (.head _)).1
    refine q_when (et_heard R4 rfl nW6.shown nW6.ok rfl rfl) (fun z => absurd z (by decide)) fun _ H9 e9 => ?_
    have S7 := S6.ext e9
    clear R3 R4 k3 k4 old3 S5 S6 nW nW6 bW
    refine nst_two (n1 := 1) (n2 := 1) (C1 := fun i => i = -1 ∨ i = 10 ^ (6 : Int).toNat + 1) (C2 := fun i => i = -1 ∨ i = -(10 ^ (12 : Int).toNat)) S7 no
      (evsa_cons up (evs_num S7 (d := dO) (.tail _ (.tail _ (.head _))) (fun i hi => .inl hi) rfl) (evsa_cons up (evs_ev (ev_op (ev_op (ev_c (v := .int 10)) (ev_c (v := .int 6)) (rv_I (C := CPow) (g := fun i j => .int (i ^ j.toNat)) (show (0 : Int) ≤ 6 ∧ (6 : Int) ≤ 1000000 ∧ (10 : Int).natAbs < 2 ^ 64 by decide))) (ev_c (v := .int 1)) rv_I0) fun _ _ => ⟨_, numV_int (.inr rfl) (by decide +kernel) (by decide +kernel), nofun⟩) evsa_nil))
      (fun _ _ H1 S1 => evsa_cons up (evs_num S1 (d := dO) (.tail _ (.tail _ (.tail _ (.head _)))) (fun i hi => .inl hi) rfl) (evsa_cons up (evs_ev (ev_un (ev_op (ev_c (v := .int 10)) (ev_c (v := .int 12)) (rv_I (C := CPow) (g := fun i j => .int (i ^ j.toNat)) (show (0 : Int) ≤ 12 ∧ (12 : Int) ≤ 1000000 ∧ (10 : Int).natAbs < 2 ^ 64 by decide))) ru_neg) fun _ _ => ⟨_, numV_int (.inr rfl) (by decide +kernel) (by decide +kernel), nofun⟩) evsa_nil))
      rfl (by omega) h63 (by decide) (by decide) fun many dM gain dG H10 S8 => ?_
    show tSeq _ _ _ [some (.ref p), some (.ref o), some odd, some far, some (.ref g2), some wide, some many, some gain, none, none, none] H10
    refine nst_two (n1 := 1) (n2 := 2) (C1 := fun i => i = -1 ∨ i = -7) (C2 := fun i => i = -1 ∨ i = 0 ∨ i = 2001) S8 no
      (evsa_cons up (evs_num S8 (d := dO) (.tail _ (.tail _ (.tail _ (.tail _ (.head _))))) (fun i hi => .inl hi) rfl) (evsa_cons up (evs_ev (ev_un (ev_c (v := .int 7)) ru_neg) fun _ _ => ⟨_, numV_int (.inr rfl) (by decide +kernel) (by decide +kernel), nofun⟩) evsa_nil))
      (fun _ _ H1 S1 => evsa_cons up (evs_num S1 (d := dO) (.tail _ (.tail _ (.tail _ (.tail _ (.tail _ (.head _)))))) (fun i hi => .inl hi) rfl) (evsa_cons up (evs_ev ev_c fun _ _ => ⟨_, numV_int (.inr (.inl rfl)) (by decide +kernel) (by decide +kernel), nofun⟩) (evsa_cons up (evs_ev ev_c fun _ _ => ⟨_, numV_int (.inr (.inr rfl)) (by decide +kernel) (by decide +kernel), nofun⟩) evsa_nil)))
      rfl (by omega) h63 (by decide) (by decide) fun high dH size dS H11 S9 => ?_
    show tSeq _ _ _ [some (.ref p), some (.ref o), some odd, some far, some (.ref g2), some wide, some many, some gain, some high, some size, none] H11
    have nM := (S9.nums (many, dM, _) (.tail _ (.tail _ (.tail _ (.head _))))).1
    have nG := (S9.nums (gain, dG, _) (.tail _ (.tail _ (.head _)))).1
    have nH := (S9.nums (high, dH, _) (.tail _ (.head _))).1
    have nS := (S9.nums (size, dS, _) (.head _)).1
    have bM : ∀ {H' : Hp}, Stay H11 H' → BadN K H' 0 e6 many := fun st => (nM.stay st).badN fun i hi => by rcases hi with rfl | rfl <;> decide +kernel
    have bG : ∀ {H' : Hp}, Stay H11 H' → Bad0 K H' gain := fun st => (nG.stay st).bad0 fun i hi => by rcases hi with rfl | rfl <;> decide +kernel
    have bH : ∀ {H' : Hp}, Stay H11 H' → Bad0 K H' high := fun st => (nH.stay st).bad0 fun i hi => by rcases hi with rfl | rfl <;> decide +kernel
    have bS : ∀ {H' : Hp}, Stay H11 H' → BadN K H' 1 2000 size := fun st => (nS.stay st).badN fun i hi => by rcases hi with rfl | rfl | rfl <;> decide +kernel
    obtain ⟨Ty, hTy, ty, _⟩ := nM.ty (K := K)
    have left : ∀ {H' : Hp}, Stay H11 H' → (∃ i, many = .int i) ∨ (∃ c, many = .bl c) ∨ ∃ T, TyX K H' many (.type T) ∧ LeftNo K T "mul" := fun st => by
      rcases (nM.stay st).left (K := K) with h | h | ⟨T', h1, h2, h3, h4⟩
      · exact .inl h
      · exact .inr (.inl h)
      · exact .inr (.inr ⟨T', h4, J.lMul T' h1 h2 h3⟩)
    refine num_hear0 (xs := numX dM) S9.tabs (fun Q1 H3 st told Qv => ⟨_, rfl, _, rfl, o, Ty, rfl, insC (st S9.ins ni), tyx_n st ty, J.bMul Ty hTy, o, many, rfl, bM st, out_value (nM.stay st).shown told⟩) fun g3 r5 H12 R5 k5 old => ?_
    show tSeq _ _ _ [some (.ref p), some (.ref o), some odd, some far, some (.ref g3), some wide, some many, some gain, some high, some size, none] H12
    refine num_hear (xs := numX dM) R5 k5 old (by show 1 ≤ 1000; decide) rfl (fun Q1 H4 st told Qv => ⟨_, rfl, _, rfl, o, rfl, insC (st S9.ins ni), left st, o, many, rfl, bM st, out_value (nM.stay st).shown told⟩) fun r6 H13 R6 k6 => ?_
    refine num_hear (xs := numX dG) R6 k6 old (by show 2 ≤ 1000; decide) rfl (fun Q1 H4 st told Qv => ⟨rfl, _, rfl, _, rfl, gain, high, rfl, .inl ⟨bG st, out_value (nG.stay st).shown told⟩⟩) fun r7 H14 R7 k7 => ?_
    refine num_hear (xs := numX dH) R7 k7 old (by show 3 ≤ 1000; decide) rfl (fun Q1 H4 st told Qv => ⟨rfl, _, rfl, .int 3, high, rfl, .inr ⟨3, rfl, bH st, out_value (nH.stay st).shown told⟩⟩) fun r8 H15 R8 k8 => ?_
    refine num_hear (xs := numX dH) R8 k8 old (by show 4 ≤ 1000; decide) rfl (fun Q1 H4 st told Qv => ⟨rfl, _, rfl, high, rfl, bH st, out_value (nH.stay st).shown told⟩) fun r9 H16 R9 k9 => ?_
    refine num_hear (xs := numX dS) R9 k9 old (by show 5 ≤ 1000; decide) rfl (fun Q1 H4 st told Qv => ⟨rfl, _, rfl, size, rfl, bS st, out_value (nS.stay st).shown told⟩) fun r10 H17 R10 k10 => ?_
    have st : Stay H11 H17 := Stay.of_keepN k10 old
    have S10 := S9.stay ni st R10.tabs
    have ok : ∀ d ∈ [dM, dM, dG, dH, dH, dS], PyData.strOk d.shown = true := fun d hd => by
      simp only [List.mem_cons, List.not_mem_nil, or_false] at hd
      rcases hd with rfl | rfl | rfl | rfl | rfl | rfl
      · exact nM.ok
      · exact nM.ok
      · exact nG.ok
      · exact nH.ok
      · exact nH.ok
      · exact nS.ok
    have shown : ∀ q ∈ [(many, dM), (many, dM), (gain, dG), (high, dH), (high, dH), (size, dS)], Shown K H17 q.1 q.2 := fun q hq => by
      simp only [List.mem_cons, List.not_mem_nil, or_false] at hq
      rcases hq with rfl | rfl | rfl | rfl | rfl | rfl
      · exact (nM.stay st).shown
      · exact (nM.stay st).shown
      · exact (nG.stay st).shown
      · exact (nH.stay st).shown
      · exact (nH.stay st).shown
      · exact (nS.stay st).shown
    refine s_ret (v := .bl true) (ev_is (ev_eqD (K := K) (d := .list ([dM, dM, dG, dH, dH, dS].map toldD)) (e := .list ([dM, dM, dG, dH, dH, dS].map toldD)) (ed_of (ev_var (i := 4) rfl) fun H1 e => hr_data (R10.ext e) rfl)
      (ed_told (j := 10) (zs := [(many, dM), (many, dM), (gain, dG), (high, dH), (high, dH), (size, dS)]) (el_lst (ea_cons (ev_var rfl) (ea_cons (ev_var rfl) (ea_cons (ev_var rfl) (ea_cons (ev_var rfl) (ea_cons (ev_var rfl) (ea_cons (ev_var rfl) ea_nil)))))) (by show 6 ≤ 100000; decide)) (by show 6 ≤ 1000; decide) shown (fun _ => rfl) (fun _ => rfl)) (low_told ok) (low_told ok)) (by rw [eqv_tolds])) fun H18 e18 => ?_
    exact k H18 (S10.ext e18).kn (S10.ext e18).P (S10.ext e18).tabs
end
end K02
/-! a def without arguments that is called where no repr runs; what is heard of things that are no data; stairs -/
namespace L2
open PySem PySem.Spec PyProof.Rows
theorem pe_callG0 {X : Cx} {k : Nat} {f : Addr} {fd : FuncData} {sp : Sp} {x : Str} {p pos : PySem.Pos} (F : FnG X.prog X.w X.K X.mg X.base k f fd [] sp) (gd : Qt X.A) (hr : Room k X.A) (hg : Gl X x) (hm : X.mg x = some (.ref f)) (hk : PySem.W.keepIn X.K (.ref f) = true) (hb : Binds X.K fd [] [])
    (hdb : (x == ("__debug__" : Str)) = false := by decide) : PE X (.Call (.Name x p) [] [] pos) (tCall sp [] E0 tNil) := by
  refine ⟨fun pins s σ H Q I h => ?_⟩
  refine wpAny_Call_Name_kw (ld_glob I hg hm ?_ hdb)
  have q0 : sp [] H Q E0 := h
  have bd : BindsTo s fd ⟨[], []⟩ (([] : List Str).zip []) := by simpa using hb s [] I.kIn (by rfl)
  refine PySem.W.callWith_K0 (first := []) I.kIn hk ?_
  refine wpAny_call (codeAny_mono (F.run X.A X.stack s H ⟨[], []⟩ [] [] Q E0 gd hr I.env0 bd .nil q0) fun res s' hq => ?_)
  cases res with
  | error er => exact (show False from hq).elim
  | ok fl =>
    cases fl with
    | next => exact False.elim hq
    | brk => exact False.elim hq
    | cont => exact False.elim hq
    | ret u => exact I.after hq
end L2
namespace K02
open PySem L2 Evl Gr ClX OpX StX StM LamX EXC OwX
/-! ### stairs of 40 at each 20th -/
theorem fm_ramp20 : Fm (val [0] [20]) 1 1 20 := by
  have z := fm_ramp 0 20
  have e : (fun n : Nat => ((0 : Nat) : Int) + n * ((20 : Nat) : Int)) = val [0] [20] := funext fun n => (val_one n).symm
  rw [e] at z
  exact z
theorem fm_2040 : Fm (cmp (val [0] (stp 40)) (val [0] [20])) (1 + 1 * 1) (1 * 40) (20 * 1) := (fm_steps (m := 40) (by decide)).cmp fm_ramp20 (by decide)
theorem val_2040 (n : Nat) : val [0] [1, 0] n = cmp (val [0] (stp 40)) (val [0] [20]) n := by
  have z := val_20_40 n
  have e : (fun n : Nat => ((0 : Nat) : Int) + n * ((20 : Nat) : Int)) = val [0] [20] := funext fun n => (val_one n).symm
  rw [e, stp2] at z
  exact z
theorem nf_10 : NF [0] [1, 0] := stp2 ▸ nf_steps (m := 2) (by decide)
theorem stp43 : [1] ++ List.replicate 42 (0 : Int) = stp 43 := by decide +kernel
theorem stp_lo {m : Nat} : ∀ i, i < (stp m).length → 0 ≤ at' (stp m) i ∧ at' (stp m) i ≤ 4000000000000000 := fun i hi => by
  rw [stp_len] at hi
  rw [at_stp hi]
  split <;> decide
theorem lcm_43 : 2000 < Nat.lcm (stp 43).length (stp 47).length := by rw [stp_len, stp_len]; decide
/-! ### tests one after another -/
theorem or_no {t u : TT} {σ : L2.St} {H : Hp} {Q : Bool → Hp → Prop} (h : EvT t σ H false) (k : ∀ H1, Ex H H1 → u σ H1 Q) : tOr t u σ H Q := h H (Ex.refl H) _ fun H1 e => iteF (k H1 e)
theorem or_E {t u : TT} {σ : L2.St} {H : Hp} {Q : Bool → Hp → Prop} (h : t σ H fun c H1 => if c = true then Q true H1 else u σ H1 Q) : tOr t u σ H Q := h
theorem s_ifE {c : TT} {tu : TS} {D : Ends} {σ : L2.St} {H : Hp} (h : c σ H fun b H1 => if b = true then tu D σ H1 else D.nx σ H1) : tIfS c tu tNext D σ H := h
theorem and_yes {ta tb : TE} {σ : L2.St} {H : Hp} {Q : VK} (h : Ev ta σ H (.bl true)) (k : ∀ H1, Ex H H1 → tb σ H1 Q) : tAndV ta tb σ H Q := h H (Ex.refl H) _ fun H1 e => ⟨true, rfl, iteT (k H1 e)⟩
section
variable {K : PySem.W.Frag} {C : Addr} {T : List (Addr × Str)} {σ : L2.St} {H H' Hb : Hp} {tl : TE} {tz : TS} {D : Ends} {i : Nat} {g p l cG cN cM : Addr} {rs : List (Addr × PyData)} {cells : List Int} {m : Nat} {tt gg : List Int} {o : Addr} {te : TE} {f : Nat → Int} {r0 : Addr}
theorem grAt_pen (hP : PenAt H p l cells m) (kn : KeepN p H H') (h : GrAt K C H o tt gg) : GrAt K C H' o tt gg := by
  obtain ⟨k, r, hp, _⟩ := hP
  have n : ∀ {b : Addr} {u : HO}, H b = some u → (∀ ys, u ≠ .lst ys) → (∀ ps, u ≠ .tbl ps) → H' b = some u := fun h1 h2 h3 => kn _ _ h1 (fun z => by
    rw [z, hp] at h1
    exact h2 _ (Option.some.inj h1).symm) h3
  have up : ∀ {q : Addr} {ys : List V}, SqT K H q ys → SqT K H' q ys := fun {q ys} s => s.imp (fun z => z.imp (fun z => n z (fun ys z => by cases z) fun ps z => by cases z) fun ⟨o, z⟩ => ⟨o, n z (fun ys z => by cases z) fun ps z => by cases z⟩) id
  obtain ⟨dx, p', q, r', h1, h2, h3, h4, h5⟩ := h
  exact ⟨dx, p', q, r', n h1 (fun ys z => by cases z) (fun ps z => by cases z), up h2, up h3, up h4, h5⟩
/-! ### a list that is heard, of whatever -/
def HearsL (T : List (Addr × Str)) (tl : TE) (σ : L2.St) (H : Hp) : Prop := ∀ Q : VK, (∀ r H2, ExtN H H2 → Tabs T H2 → (∃ ys, H2 r = some (.lst ys)) → (∀ xs, H r ≠ some (.lst xs)) → Q (.ref r) H2) → tl σ H Q
/-- what is heard, and a list behind it -/
structure HrL (K : PySem.W.Frag) (T : List (Addr × Str)) (g : Addr) (rs : List (Addr × PyData)) (r0 : Addr) (H : Hp) : Prop where
  tabs : Tabs T H
  lst : H g = some (.lst (rs.map (fun p => .ref p.1) ++ [.ref r0]))
  all : ∀ p ∈ rs, ∀ H', KeepN g H H' → Dp K H' (.ref p.1) p.2
  isl : ∃ ys, H r0 = some (.lst ys)
theorem hearsL_of (hT : Tabs T H) (h : ∀ H1, Stay H H1 → EvR K C te σ H1 f) : HearsL T (tLam T (THd K cG cN cM) (fun _ => te)) σ H := fun Q q =>
  ⟨hT, fun H1 x1 T1 => h H1 (Stay.of_extN x1) H1 (Ex.refl H1) _ fun o H2 e2 _ => ⟨by show 1 ≤ sizeLine; decide, fun l hl => by
    refine q l _ (x1.trans (.of (e2.trans (Ex.new hl)))) ((T1.ext e2).ext (Ex.new hl)) ⟨_, upd_same⟩ fun xs z => ?_
    have := e2 _ _ (x1 _ _ z fun ps z => by cases z)
    rw [hl] at this
    cases this⟩⟩
theorem q_hearL (S : HrD K T g rs H) (kn : KeepN g Hb H) (hz : rs.length ≤ 1000) (h0 : σ[i]? = some (some (.ref g))) (h : HearsL T tl σ H) (k : ∀ r H3, HrL K T g rs r H3 → KeepN g Hb H3 → tz D σ H3) : tSeq (tDrop (tBM K "list" rAppend (tVar i) (tCons tl tNil))) tz D σ H := by
  refine ⟨_, h0, .inl ⟨rfl, _, sq_of S.lst⟩, h _ fun r H2 x2 T2 ⟨ys, h2⟩ no => ?_⟩
  have g2 := x2 _ _ S.lst fun ps z => by cases z
  have ne : r ≠ g := fun z => no _ (z ▸ S.lst)
  have kg : KeepN g H H2 := KeepN.of_ext x2
  have kh : KeepN g H2 (upd H2 g (.lst (rs.map (fun p => V.ref p.1) ++ [.ref r]))) := fun b o hb n _ => by
    rw [upd_ne n]
    exact hb
  refine ⟨g, _, .ref r, rfl, rfl, g2, sz_lt (by rw [List.length_map]; omega), ?_⟩
  exact k r _ ⟨tabs_upd T2 g2, upd_same, fun p hp H' kk => S.all p hp H' ((kg.trans kh).trans kk), ⟨ys, by rw [upd_ne ne]; exact h2⟩⟩ (kn.trans (kg.trans kh))
/-- .. where all but tables stays -/
theorem HrL.dp {q : Addr × PyData} (S : HrL K T g rs r0 H) (st : Stay H H') (h : q ∈ rs) : Dp K H' (.ref q.1) q.2 := S.all q h H' fun b o hb _ n => st hb n
theorem HrL.lst_n (S : HrL K T g rs r0 H) (st : Stay H H') : H' g = some (.lst (rs.map (fun p => .ref p.1) ++ [.ref r0])) := st S.lst fun ps z => by cases z
theorem HrL.isl_n (S : HrL K T g rs r0 H) (st : Stay H H') : ∃ ys, H' r0 = some (.lst ys) := S.isl.imp fun ys h => st h fun ps z => by cases z
theorem stay_ex {H1 : Hp} (st : Stay H H1) (e : Ex H1 H') : Stay H H' := fun h n => e _ _ (st h n)
end
end K02
namespace K02
open PySem L2 Evl Gr ClX OpX StX StM LamX EXC OwX
/-! ### law -/
abbrev sLaw : Stmt := top 51
abbrev nLaw : List Str := ["_law_script", "_law_pen_here", "_law_turn_so", "_law_plain_here", "_law_made", "_law_face", "_law_one", "_law_other", "_law_heard_here", "_law_squares", "_law_late", "_law_due", "_law_at"]
abbrev qLaw : Str := ("law" : Str) ++ ".<locals>." ++ "<lambda>"
def spLaw (K : PySem.W.Frag) (T : List (Addr × Str)) : Sp := fun vs H Q _ => ∃ (a : Addr) (ns : List Int), vs = [.ref a] ∧ SqL K H a (vI ns) ∧ ns.length ≤ 63 ∧ Tabs T H ∧ ∀ H', Q (.bl true) H'
theorem scLaw : FnScope nLaw ["_law_script"] (defScope sLaw) := ⟨rfl, rfl, rfl, by decide +kernel, rfl, by decide +kernel, by decide +kernel⟩
structure LawK (P : Program) (w : World) (K : PySem.W.Frag) (mg : Str → Option Value) (base : Heap) (C CG CM : Addr) (mc : Value) (T : List (Addr × Str)) (fS fAt fSu pSu fCa fPe fPl fPa fOt fNu fTo : Addr) (eAt ePe ePl ePa eOt eNu eTo : FuncData) : Prop where
  si : StrIn K C fS
  str : FnR P w K mg base CX0 1 fS (spStr K C)
  mAt : Meth K C "at_most" fAt
  atX : FnOk P w K mg base (L2.CX P w) 7 fAt eAt ["self", "other"] (spWideG K C CM)
  cAt : Binds K eAt ["self", "other"] []
  sSu : SMet K C mc "summed" pSu fSu
  sum : FnR P w K mg base (L2.CX P w) 3 fSu (spBadSumA K C CG)
  none_ : PySem.W.kitOne K (.type "NoneType") (.ref C) = some false
  hCa : CallO K C fCa
  call : FnR P w K mg base CX0 3 fCa (spGCall K C)
  pen : FnOk P w K mg base CX0 1 fPe ePe ["_law_script"] (spPen K)
  kPe : PySem.W.keepIn K (.ref fPe) = true
  bPe : Binds K ePe ["_law_script"] []
  gPe : mg "_law_pen" = some (.ref fPe)
  plain : FnOk P w K mg base CX0 3 fPl ePl ["_law_pen_here", "_law_is_rising"] (spPlain K)
  kPl : PySem.W.keepIn K (.ref fPl) = true
  bPl : Binds K ePl ["_law_pen_here", "_law_is_rising"] []
  gPl : mg "_law_plain" = some (.ref fPl)
  parts : FnG P w K mg base 11 fPa ePa ["_law_pen_here", "_law_plain_here"] (spPar K T)
  kPa : PySem.W.keepIn K (.ref fPa) = true
  bPa : Binds K ePa ["_law_pen_here", "_law_plain_here"] []
  gPa : mg "_law_parts_right" = some (.ref fPa)
  others : FnG P w K mg base 11 fOt eOt ["_law_pen_here", "_law_made"] (spOth K T C)
  kOt : PySem.W.keepIn K (.ref fOt) = true
  bOt : Binds K eOt ["_law_pen_here", "_law_made"] []
  gOt : mg "_law_others_right" = some (.ref fOt)
  numbers : FnG P w K mg base 11 fNu eNu ["_law_pen_here", "_law_made"] (spNum K T C)
  kNu : PySem.W.keepIn K (.ref fNu) = true
  bNu : Binds K eNu ["_law_pen_here", "_law_made"] []
  gNu : mg "_law_numbers_right" = some (.ref fNu)
  told : FnG P w K mg base 11 fTo eTo [] (spTol T)
  kTo : PySem.W.keepIn K (.ref fTo) = true
  bTo : Binds K eTo [] []
  gTo : mg "_law_told_right" = some (.ref fTo)
section
variable {P : Program} {w : World} {K : PySem.W.Frag} {mg : Str → Option Value} {base : Heap}
theorem ok_Law {C CG CN CT CM B f c Pc fHd fI T0 fAf fOr fAn fAd fRa pRa fSt pSt fEq fS fAt fSu pSu fCa fPe fPl fPa fOt fNu fTo : Addr} {mc : Value} {fd eHd eI eAf eAt ePe ePl ePa eOt eNu eTo : FuncData} {T : List (Addr × Str)} (F : FunC K "law" "law" sLaw f fd c) (TB : TabB base mg c Pc) (hT : (Pc, qLaw) ∈ T) (hu : ∀ p ∈ T, p.1 = Pc → p.2 = qLaw)
    (N : GName K mg C mc) (G : GCls K C) (I : GIsi K C) (TS : GlbS mg) (TT : GlbT mg) (HK : HdK K mg B CG CN CT CM) (FH : Fun K "_law_heard" "_law_heard" sHd fHd eHd) (bH : Binds K eHd ["_law_ask"] []) (gH : mg "_law_heard" = some (.ref fHd))
    (J : GrK P w K mg base C CM mc fI T0 fAf fOr fAn fAd fRa pRa fSt pSt fEq eI eAf) (L : LawK P w K mg base C CG CM mc T fS fAt fSu pSu fCa fPe fPl fPa fOt fNu fTo eAt ePe ePl ePa eOt eNu eTo) : FnG P w K mg base 12 f fd ["_law_script"] (spLaw K T) := by
  refine F.okG scLaw (fun vs H Q E h => ?_) (fun A outer s H vs Q E gd hr11 h => ?_)
  · obtain ⟨a, ns, rfl, _⟩ := h
    rfl
  · obtain ⟨a, ns, rfl, hS, h63, tabs, k⟩ := h
    have hr := hr11.mono (show 10 ≤ 11 by decide)
    have r6 := hr.mono (show 6 ≤ 10 by decide)
    have r5 := hr.mono (show 5 ≤ 10 by decide)
    have r3 := hr.mono (show 3 ≤ 10 by decide)
    have r1 := hr.mono (show 1 ≤ 10 by decide)
    refine ⟨_, pss_cons (ps_set (i := 1) scLaw.nd rfl (.inl rfl) (pe_call L.pen r1 (by rfl) L.gPe L.kPe L.bPe .nil pass0 (pa_cons (pv 0) pa_nil)))
      (pss_cons (ps_for PassesOwn.never rfl (pi_range1 (by rfl) TS.range (pa_cons pe_int pa_nil)) (pg_name (i := 2) scLaw.nd rfl (.inl rfl))
        (pss_cons (ps_set (i := 3) scLaw.nd rfl (.inl rfl) (pe_call L.plain r3 (by rfl) L.gPl L.kPl L.bPl .nil pass0 (pa_cons (pv 1) (pa_cons pe_bl pa_nil))))
        (pss_cons (ps_set (i := 4) scLaw.nd rfl (.inl rfl) (pe_make J.maker J.init r5 (by rfl) N.g J.bIn .nil pass0 (pa_cons (pe_ix ix_seq (pv 3) pe_int (fun _ _ => rfl)) (pa_cons (pe_ix ix_seq (pv 3) pe_int (fun _ _ => rfl)) pa_nil))))
        (pss_cons (ps_set (i := 5) scLaw.nd rfl (.inl rfl) (pe_callTy (call_strI (E := E0) L.si L.str r3 pass0) (by rfl) TT.str (by decide +kernel) (pa_cons (pv 4) pa_nil)))
        (pss_one (ps_if (PW.pt (pw_or (pt_not (pt_val (pe_callG L.parts gd hr11 (by rfl) L.gPa L.kPa L.bPa (pa_cons (pv 1) (pa_cons (pv 3) pa_nil))))) (pw_or (pt_not (pt_val (pe_callG L.others gd hr11 (by rfl) L.gOt L.kOt L.bOt (pa_cons (pv 1) (pa_cons (pv 4) pa_nil))))) (pw_or (pt_not (pt_val (pe_callG L.numbers gd hr11 (by rfl) L.gNu L.kNu L.bNu (pa_cons (pv 1) (pa_cons (pv 4) pa_nil))))) (pw_or1 (pt_cmpR op_ne (pe_callTy (call_strI (E := E0) L.si L.str r3 pass0) (by rfl) TT.str (by decide +kernel) (pa_cons (pv 4) pa_nil)) (pv 5) (nomark _))))))) (pss_one (ps_ret pe_bl)) pss_nil))))))
      (pss_cons (ps_asg (pe_tup (pa_cons (pe_smeth (pe_glob (v := .ref C) rfl N.g rfl) N.rd J.sSt J.steps r6 pass0 (pa_cons pe_int pa_nil)) (pa_cons (pe_smeth (pe_glob (v := .ref C) rfl N.g rfl) N.rd J.sSt J.steps r6 pass0 (pa_cons pe_int pa_nil)) pa_nil))) (pg_tup rfl (pgs_cons (pg_name (i := 6) scLaw.nd rfl (.inr rfl)) (pgs_cons (pg_name (i := 7) scLaw.nd rfl (.inr rfl)) pgs_nil))))
      (pss_cons (ps_set (i := 8) scLaw.nd rfl (.inl rfl) (pe_lst (pa_cons (pe_heardR (X := (cxOf CX0 P w K mg base nLaw "law" (defScope sLaw) f (.ref c) A outer s H E).nox) (T := T) (t := fun E2 => (tOp (rS ((cxOf CX0 P w K mg base nLaw "law" (defScope sLaw) f (.ref c) A outer s H E).nox) C (spWideG K C CM) E2) (tVar 6) (tVar 7))) (by rfl) gH FH bH HK gd TB rfl hT hu hr (lamS_by (sc := defScope sLaw) (by decide +kernel)) rfl (fun _ _ _ _ _ => rfl) (fun A2 outer2 s2 H2 E2 f2 c2 hr2 => (pe_op (show OpR _ _ (rS ((cxOf CX0 P w K mg base nLaw "law" (defScope sLaw) f (.ref c) A outer s H E).nox) C (spWideG K C CM) E2) from op_binS (E := E2) (op := .Add) J.sf J.hAd J.adW (hr2.mono (show 6 ≤ 8 by decide)) (passes_call (takes_of rfl rfl rfl rfl) fun _ _ _ _ z => z)) (pv 6) (pv 7)))) pa_nil)))
      (pss_cons (ps_expr (pe_bm PySem.F.plainAttrs_list PySem.F.slot_list_append PySem.F.type_list_append mt_append (pv 8) (pa_cons (pe_heardR (X := (cxOf CX0 P w K mg base nLaw "law" (defScope sLaw) f (.ref c) A outer s H E).nox) (T := T) (t := fun E2 => (tOp (rS ((cxOf CX0 P w K mg base nLaw "law" (defScope sLaw) f (.ref c) A outer s H E).nox) C (spWideG K C CM) E2) (tVar 6) (tVar 7))) (by rfl) gH FH bH HK gd TB rfl hT hu hr (lamS_by (sc := defScope sLaw) (by decide +kernel)) rfl (fun _ _ _ _ _ => rfl) (fun A2 outer2 s2 H2 E2 f2 c2 hr2 => (pe_op (show OpR _ _ (rS ((cxOf CX0 P w K mg base nLaw "law" (defScope sLaw) f (.ref c) A outer s H E).nox) C (spWideG K C CM) E2) from op_binS (E := E2) (op := .BitOr) J.sf J.hOr J.orW (hr2.mono (show 6 ≤ 8 by decide)) (passes_call (takes_of rfl rfl rfl rfl) fun _ _ _ _ z => z)) (pv 6) (pv 7)))) pa_nil)))
      (pss_cons (ps_expr (pe_bm PySem.F.plainAttrs_list PySem.F.slot_list_append PySem.F.type_list_append mt_append (pv 8) (pa_cons (pe_heardR (X := (cxOf CX0 P w K mg base nLaw "law" (defScope sLaw) f (.ref c) A outer s H E).nox) (T := T) (t := fun E2 => tMeth C "at_most" (spWideG K C CM) [] E2 (tVar 6) (tCons (tVar 7) tNil)) (by rfl) gH FH bH HK gd TB rfl hT hu hr (lamS_by (sc := defScope sLaw) (by decide +kernel)) rfl (fun _ _ _ _ _ => rfl) (fun A2 outer2 s2 H2 E2 f2 c2 hr2 => pe_meth (E := E2) (pv 6) G.cls L.mAt L.atX (hr2.mono (show 7 ≤ 8 by decide)) L.cAt .nil (passes_call (takes_of rfl rfl rfl rfl) fun _ _ _ _ z => z) (pa_cons (pv 7) pa_nil))) pa_nil)))
      (pss_cons (ps_expr (pe_bm PySem.F.plainAttrs_list PySem.F.slot_list_append PySem.F.type_list_append mt_append (pv 8) (pa_cons (pe_heardR (X := (cxOf CX0 P w K mg base nLaw "law" (defScope sLaw) f (.ref c) A outer s H E).nox) (T := T) (t := fun E2 => tMeth C "after" (spFarC K C CM) [] E2 (tVar 6) (tCons (tVar 7) tNil)) (by rfl) gH FH bH HK gd TB rfl hT hu hr (lamS_by (sc := defScope sLaw) (by decide +kernel)) rfl (fun _ _ _ _ _ => rfl) (fun A2 outer2 s2 H2 E2 f2 c2 hr2 => pe_meth (E := E2) (pv 6) G.cls J.mAf J.afX (hr2.mono (show 6 ≤ 8 by decide)) J.cAf .nil (passes_call (takes_of rfl rfl rfl rfl) fun _ _ _ _ z => z) (pa_cons (pv 7) pa_nil))) pa_nil)))
      (pss_cons (ps_expr (pe_bm PySem.F.plainAttrs_list PySem.F.slot_list_append PySem.F.type_list_append mt_append (pv 8) (pa_cons (pe_heardR (X := (cxOf CX0 P w K mg base nLaw "law" (defScope sLaw) f (.ref c) A outer s H E).nox) (T := T) (t := fun E2 => tFld K (tMeth C "after" (spAfterB K C) [] E0 (tSMeth C (spSteps K C) E0 (tC (.ref C)) (tCons (tC (.int 40)) tNil)) (tCons (tSMeth C (spRamp0 K C) E0 (tC (.ref C)) (tCons (tC (.int 20)) tNil)) tNil)) "gains") (by rfl) gH FH bH HK gd TB rfl hT hu hr (lamS_by (sc := defScope sLaw) (by decide +kernel)) rfl (fun _ _ _ _ _ => rfl) (fun A2 outer2 s2 H2 E2 f2 c2 hr2 => pe_fld (pe_meth (pe_smeth (pe_glob (v := .ref C) rfl N.g rfl) N.rd J.sSt J.steps (hr2.mono (show 6 ≤ 8 by decide)) pass0 (pa_cons pe_int pa_nil)) G.cls J.mAf J.afB (hr2.mono (show 6 ≤ 8 by decide)) J.cAf .nil pass0 (pa_cons (pe_smeth (pe_glob (v := .ref C) rfl N.g rfl) N.rd J.sRa J.ramp0 (hr2.mono (show 6 ≤ 8 by decide)) pass0 (pa_cons pe_int pa_nil)) pa_nil)) rfl)) pa_nil)))
      (pss_cons (ps_expr (pe_bm PySem.F.plainAttrs_list PySem.F.slot_list_append PySem.F.type_list_append mt_append (pv 8) (pa_cons (pe_heardR (X := (cxOf CX0 P w K mg base nLaw "law" (defScope sLaw) f (.ref c) A outer s H E).nox) (T := T) (t := fun E2 => (tOp (rS ((cxOf CX0 P w K mg base nLaw "law" (defScope sLaw) f (.ref c) A outer s H E).nox) C (spLate K C CM) E2) (tSMeth C (spRamp0 K C) E0 (tC (.ref C)) (tCons (tC (.int 3)) tNil)) (tSMeth C (spRamp K C) E0 (tC (.ref C)) (tCons (tC (.int 2)) (tCons (tC (.int 2001)) tNil))))) (by rfl) gH FH bH HK gd TB rfl hT hu hr (lamS_by (sc := defScope sLaw) (by decide +kernel)) rfl (fun _ _ _ _ _ => rfl) (fun A2 outer2 s2 H2 E2 f2 c2 hr2 => (pe_op (show OpR _ _ (rS ((cxOf CX0 P w K mg base nLaw "law" (defScope sLaw) f (.ref c) A outer s H E).nox) C (spLate K C CM) E2) from op_binS (E := E2) (op := .BitOr) J.sf J.hOr J.orL (hr2.mono (show 6 ≤ 8 by decide)) (passes_call (takes_of rfl rfl rfl rfl) fun _ _ _ _ z => z)) (pe_smeth (pe_glob (v := .ref C) rfl N.g rfl) N.rd J.sRa J.ramp0 (hr2.mono (show 6 ≤ 8 by decide)) pass0 (pa_cons pe_int pa_nil)) (pe_smeth (pe_glob (v := .ref C) rfl N.g rfl) N.rd J.sRa J.ramp (hr2.mono (show 6 ≤ 8 by decide)) pass0 (pa_cons pe_int (pa_cons pe_int pa_nil)))))) pa_nil)))
      (pss_cons (ps_expr (pe_bm PySem.F.plainAttrs_list PySem.F.slot_list_append PySem.F.type_list_append mt_append (pv 8) (pa_cons (pe_heardR (X := (cxOf CX0 P w K mg base nLaw "law" (defScope sLaw) f (.ref c) A outer s H E).nox) (T := T) (t := fun E2 => tCB (rLenQ K) (tCons (tFld K (tOp (rS ((cxOf CX0 P w K mg base nLaw "law" (defScope sLaw) f (.ref c) A outer s H E).nox) C (spPk true K C) E0) (tSMeth C (spRamp0 K C) E0 (tC (.ref C)) (tCons (tC (.int 3)) tNil)) (tSMeth C (spRamp K C) E0 (tC (.ref C)) (tCons (tC (.int 2)) (tCons (tC (.int 1999)) tNil)))) "told") tNil)) (by rfl) gH FH bH HK gd TB rfl hT hu hr (lamS_by (sc := defScope sLaw) (by decide +kernel)) rfl (fun _ _ _ _ _ => rfl) (fun A2 outer2 s2 H2 E2 f2 c2 hr2 => pe_callB call_len_seq (by rfl) TS.len PySem.boot_len (pa_cons (pe_fld (pe_op (show OpR _ _ (rS ((cxOf CX0 P w K mg base nLaw "law" (defScope sLaw) f (.ref c) A outer s H E).nox) C (spPk true K C) E0) from op_binS (E := E0) (op := .BitOr) J.sf J.hOr J.orV (hr2.mono (show 6 ≤ 8 by decide)) pass0) (pe_smeth (pe_glob (v := .ref C) rfl N.g rfl) N.rd J.sRa J.ramp0 (hr2.mono (show 6 ≤ 8 by decide)) pass0 (pa_cons pe_int pa_nil)) (pe_smeth (pe_glob (v := .ref C) rfl N.g rfl) N.rd J.sRa J.ramp (hr2.mono (show 6 ≤ 8 by decide)) pass0 (pa_cons pe_int (pa_cons pe_int pa_nil)))) rfl) pa_nil))) pa_nil)))
      (pss_cons (ps_expr (pe_bm PySem.F.plainAttrs_list PySem.F.slot_list_append PySem.F.type_list_append mt_append (pv 8) (pa_cons (pe_heardR (X := (cxOf CX0 P w K mg base nLaw "law" (defScope sLaw) f (.ref c) A outer s H E).nox) (T := T) (t := fun E2 => (tOp (rS ((cxOf CX0 P w K mg base nLaw "law" (defScope sLaw) f (.ref c) A outer s H E).nox) C (spPk false K C) E0) (tSMeth C (spRamp K C) E0 (tC (.ref C)) (tCons (tC (.int 2)) (tCons (tC (.int 1999)) tNil))) (tSMeth C (spRamp0 K C) E0 (tC (.ref C)) (tCons (tC (.int 3)) tNil)))) (by rfl) gH FH bH HK gd TB rfl hT hu hr (lamS_by (sc := defScope sLaw) (by decide +kernel)) rfl (fun _ _ _ _ _ => rfl) (fun A2 outer2 s2 H2 E2 f2 c2 hr2 => (pe_op (show OpR _ _ (rS ((cxOf CX0 P w K mg base nLaw "law" (defScope sLaw) f (.ref c) A outer s H E).nox) C (spPk false K C) E0) from op_binS (E := E0) (op := .BitAnd) J.sf J.hAn J.anV (hr2.mono (show 6 ≤ 8 by decide)) pass0) (pe_smeth (pe_glob (v := .ref C) rfl N.g rfl) N.rd J.sRa J.ramp (hr2.mono (show 6 ≤ 8 by decide)) pass0 (pa_cons pe_int (pa_cons pe_int pa_nil))) (pe_smeth (pe_glob (v := .ref C) rfl N.g rfl) N.rd J.sRa J.ramp0 (hr2.mono (show 6 ≤ 8 by decide)) pass0 (pa_cons pe_int pa_nil))))) pa_nil)))
      (pss_cons (ps_set (i := 9) scLaw.nd rfl (.inl rfl) (pe_make J.maker J.init r5 (by rfl) N.g J.bIn1 (dvs := [.ref T0]) (.cons rfl .nil) pass0 (pa_cons (pe_lc (own := [("_law_at", 12)]) (g := gName 12) rfl scLaw.nd (pi_range1 (by rfl) TS.range (pa_cons pe_int pa_nil)) (blkOk_by (own := [("_law_at", 12)]) (N := nLaw) (sc := defScope sLaw) (by decide +kernel)) (fun _ _ _ _ _ => pg_name (i := 12) scLaw.nd rfl (Or.inl rfl)) (fun _ _ _ _ _ => pts_nil) (fun _ _ _ _ _ => pe_op op_mul (pv 12) (pv 12))) pa_nil)))
      (pss_cons (ps_if (PW.pt (pw_or (pt_cmpR op_ne (pe_callB call_len_seq (by rfl) TS.len PySem.boot_len (pa_cons (pe_fld (pv 9) rfl) pa_nil)) pe_int (nomark _)) (pw_or (pt_cmpR op_ne (pe_callO (E := E0) (pv 9) L.hCa L.call r3 pass0 (pa_cons pe_int pa_nil)) (pe_op op_mul pe_int pe_int) (nomark _)) (pw_or1 (pt_cmpR op_ne (pe_callB call_len_seq (by rfl) TS.len PySem.boot_len (pa_cons (pe_fld (pe_op (show OpR _ _ (rS ((cxOf CX0 P w K mg base nLaw "law" (defScope sLaw) f (.ref c) A outer s H E).nox) C (spAdd K C) E0) from op_binS (E := E0) (op := .Add) J.sf J.hAd J.adV r6 pass0) (pe_smeth (pe_glob (v := .ref C) rfl N.g rfl) N.rd J.sSt J.steps r6 pass0 (pa_cons pe_int pa_nil)) (pe_smeth (pe_glob (v := .ref C) rfl N.g rfl) N.rd J.sSt J.steps r6 pass0 (pa_cons pe_int pa_nil))) rfl) pa_nil)) pe_int (nomark _)))))) (pss_one (ps_ret pe_bl)) pss_nil)
      (pss_cons (ps_set (i := 10) scLaw.nd rfl (.inl rfl) (pe_lst (pa_cons (pe_heardR (X := (cxOf CX0 P w K mg base nLaw "law" (defScope sLaw) f (.ref c) A outer s H E).nox) (T := T) (t := fun E2 => (tOp (rS ((cxOf CX0 P w K mg base nLaw "law" (defScope sLaw) f (.ref c) A outer s H E).nox) C (spWideG K C CM) E2) (tMake C (spInit K C) [] E0 (tCons (tTup (tCons (tOp (rI CPow fun i j => .int (i ^ j.toNat)) (tC (.int 10)) (tC (.int 6))) tNil)) (tCons (tOp rCat (tLst (tCons (tC (.int 1)) tNil)) (tOp rRep (tLst (tCons (tC (.int 0)) tNil)) (tC (.int 42)))) tNil))) (tVar 7))) (by rfl) gH FH bH HK gd TB rfl hT hu hr (lamS_by (sc := defScope sLaw) (by decide +kernel)) rfl (fun _ _ _ _ _ => rfl) (fun A2 outer2 s2 H2 E2 f2 c2 hr2 => (pe_op (show OpR _ _ (rS ((cxOf CX0 P w K mg base nLaw "law" (defScope sLaw) f (.ref c) A outer s H E).nox) C (spWideG K C CM) E2) from op_binS (E := E2) (op := .BitOr) J.sf J.hOr J.orW (hr2.mono (show 6 ≤ 8 by decide)) (passes_call (takes_of rfl rfl rfl rfl) fun _ _ _ _ z => z)) (pe_make J.maker J.init (hr2.mono (show 5 ≤ 8 by decide)) (by rfl) N.g J.bIn .nil pass0 (pa_cons (pe_tup (pa_cons (pe_op op_pow pe_int pe_int) pa_nil)) (pa_cons (pe_op op_cat (pe_lst (pa_cons pe_int pa_nil)) (pe_op op_rep (pe_lst (pa_cons pe_int pa_nil)) pe_int)) pa_nil))) (pv 7)))) pa_nil)))
      (pss_cons (ps_expr (pe_bm PySem.F.plainAttrs_list PySem.F.slot_list_append PySem.F.type_list_append mt_append (pv 10) (pa_cons (pe_heardR (X := (cxOf CX0 P w K mg base nLaw "law" (defScope sLaw) f (.ref c) A outer s H E).nox) (T := T) (t := fun E2 => tSMeth C (spBadSumA K C CG) E2 (tC (.ref C)) (tCons (tVar 6) (tCons (tVar 7) (tCons (tC .non) tNil)))) (by rfl) gH FH bH HK gd TB rfl hT hu hr (lamS_by (sc := defScope sLaw) (by decide +kernel)) rfl (fun _ _ _ _ _ => rfl) (fun A2 outer2 s2 H2 E2 f2 c2 hr2 => pe_smeth (E := E2) (pe_glob (v := .ref C) rfl N.g rfl) N.rd L.sSu L.sum (hr2.mono (show 3 ≤ 8 by decide)) (passes_call (takes_of rfl rfl rfl rfl) fun _ _ _ _ z => z) (pa_cons (pv 6) (pa_cons (pv 7) (pa_cons pe_non pa_nil))))) pa_nil)))
      (pss_cons (ps_expr (pe_bm PySem.F.plainAttrs_list PySem.F.slot_list_append PySem.F.type_list_append mt_append (pv 10) (pa_cons (pe_heardR (X := (cxOf CX0 P w K mg base nLaw "law" (defScope sLaw) f (.ref c) A outer s H E).nox) (T := T) (t := fun E2 => tCB (rLenQ K) (tCons (tFld K (tOp (rS ((cxOf CX0 P w K mg base nLaw "law" (defScope sLaw) f (.ref c) A outer s H E).nox) C (spAdd K C) E0) (tSMeth C (spSteps K C) E0 (tC (.ref C)) (tCons (tC (.int 2000)) tNil)) (tSMeth C (spSteps K C) E0 (tC (.ref C)) (tCons (tC (.int 1000)) tNil))) "gains") tNil)) (by rfl) gH FH bH HK gd TB rfl hT hu hr (lamS_by (sc := defScope sLaw) (by decide +kernel)) rfl (fun _ _ _ _ _ => rfl) (fun A2 outer2 s2 H2 E2 f2 c2 hr2 => pe_callB call_len_seq (by rfl) TS.len PySem.boot_len (pa_cons (pe_fld (pe_op (show OpR _ _ (rS ((cxOf CX0 P w K mg base nLaw "law" (defScope sLaw) f (.ref c) A outer s H E).nox) C (spAdd K C) E0) from op_binS (E := E0) (op := .Add) J.sf J.hAd J.adV (hr2.mono (show 6 ≤ 8 by decide)) pass0) (pe_smeth (pe_glob (v := .ref C) rfl N.g rfl) N.rd J.sSt J.steps (hr2.mono (show 6 ≤ 8 by decide)) pass0 (pa_cons pe_int pa_nil)) (pe_smeth (pe_glob (v := .ref C) rfl N.g rfl) N.rd J.sSt J.steps (hr2.mono (show 6 ≤ 8 by decide)) pass0 (pa_cons pe_int pa_nil))) rfl) pa_nil))) pa_nil)))
      (pss_cons (ps_if (pt_cmpR (op_neD hr.units) (pv 10) (pe_lst (pa_cons (pe_tup (pa_cons pe_str (pa_cons pe_str (pa_cons pe_int pa_nil)))) (pa_cons (pe_tup (pa_cons pe_str (pa_cons pe_int pa_nil))) (pa_cons (pe_lst (pa_cons pe_int pa_nil)) pa_nil)))) (nomark _)) (pss_one (ps_ret pe_bl)) pss_nil)
      (pss_cons (ps_set (i := 11) scLaw.nd rfl (.inl rfl) (pe_op op_cat (pe_op op_rep (pe_lst (pa_cons (pe_tup (pa_cons pe_str (pa_cons pe_str (pa_cons pe_int pa_nil)))) pa_nil)) pe_int) (pe_lst (pa_cons (pe_lst (pa_cons (pe_tup (pa_cons pe_int (pa_cons pe_int pa_nil))) pa_nil)) (pa_cons (pe_tup (pa_cons pe_str (pa_cons pe_str (pa_cons pe_int pa_nil)))) pa_nil)))))
      (pss_one (ps_ret (pe_and (pe_cmpR (op_eqD hr.units) (pe_slice sl_list (pv 8) po_none (po_some pe_int)) (pv 11) (nomark _)) (pe_and (pe_cmpR (op_eqD hr.units) (pe_ix ix_list (pv 8) pe_int (fun _ _ => rfl)) (pe_lst (pa_cons pe_int pa_nil)) (nomark _)) (pe_and (pe_callB call_isi (by rfl) TT.inst (by decide +kernel) (pa_cons (pe_ix ix_list (pv 8) pe_int (fun _ _ => rfl)) (pa_cons (pe_bltn (v := .ty "list") (by rfl) TS.list (by decide +kernel) rfl) pa_nil))) (pe_one (pe_callG0 L.told gd hr11 (by rfl) L.gTo L.kTo L.bTo)))))))))))))))))))))))), ?_⟩
    refine ⟨_, rfl, a, ns, rfl, hS, h63, fun p l H1 _ _ e1 hP => ?_⟩
    refine ⟨8, rfl, by decide, by decide, for_range (lo := 0) (n := 8) (fun i σ' H' => (∃ x2 x3 x4 x5 : Option V, σ' = [some (.ref a), some (.ref p), x2, x3, x4, x5, none, none, none, none, none, none, none]) ∧ PenAt H' p l ns (30 * i) ∧ Tabs T H') ⟨⟨none, none, none, none, rfl⟩, hP, tabs.ext e1⟩ ?_ ?_⟩
    · rintro i σ' H2 hi ⟨⟨x2, x3, x4, x5, rfl⟩, P2, T2⟩
      show tSeq _ _ _ [some (.ref a), some (.ref p), some (.int (0 + (i : Int))), x3, x4, x5, none, none, none, none, none, none, none] H2
      refine q_asgR ⟨_, rfl, p, l, ns, 30 * i, true, rfl, P2, by omega, h63, fun t g x H3 k3 P3 N3 A3 g4 bg bt => ?_⟩
      have T3 := tabs_keepP T2 P2 k3
      have dr := PlB.drawn (K := K) (a := x) ⟨A3, g4, bg, bt⟩
      have A3' := A3
      obtain ⟨_, _, _, _, _, t0, t1, g0, g1, pt, sm⟩ := A3'
      show tSeq _ _ _ [some (.ref a), some (.ref p), some (.int (0 + (i : Int))), some (.ref x), x4, x5, none, none, none, none, none, none, none] H3
      refine q_asgR ((er_plain rfl A3) H3 (Ex.refl H3) _ fun o H4 ho e4 gF => ?_)
      obtain ⟨t', g', hG, pt', hv⟩ := gF
      have nf := (grAt_nf hG).1
      have tl := (grAt_nf hG).2.1
      have bd : ∀ i, i < t'.length → val t g i < 10 ^ 60 := fun i hi => Int.lt_of_le_of_lt (Int.le_trans (dr.le i) (show _ ≤ (8000000000 : Int) by omega)) (by decide)
      show tSeq _ _ _ [some (.ref a), some (.ref p), some (.int (0 + (i : Int))), some (.ref x), some (.ref o), x5, none, none, none, none, none, none, none] H4
      refine q_asg (v := .str (strG t' g')) (ev_strR (X := (cxOf CX0 P w K mg base nLaw "law" (defScope sLaw) f (.ref c) A outer s H E).nox) (f := val t g) (er_var rfl ⟨t', g', hG, pt', hv⟩) nf hv bd) fun H5 e5 => ?_
      show tIfS _ _ _ _ [some (.ref a), some (.ref p), some (.int (0 + (i : Int))), some (.ref x), some (.ref o), some (.str (strG t' g')), none, none, none, none, none, none, none] H5
      have E5 := e4.trans e5
      refine s_ifE (or_E ?_)
      refine ⟨_, rfl, _, rfl, p, x, l, ns, 30 * i + 13, t, g, rfl, P3.mono E5 (Nat.le_refl _), by omega, h63, pln_mono E5 N3, t0, g4, pt, T3.ext E5, fun H6 k6 P6 T6 => ⟨true, rfl, ?_⟩⟩
      have G6 := grAt_pen (P3.mono E5 (Nat.le_refl _)) k6 (hG.mono e5)
      refine iteF (or_E ?_)
      refine ⟨_, rfl, _, rfl, p, o, l, ns, 30 * i + 17, t', g', rfl, P6, by omega, h63, G6, T6, fun H7 k7 P7 T7 => ⟨true, rfl, ?_⟩⟩
      have G7 := grAt_pen P6 k7 G6
      refine iteF (or_E ?_)
      refine ⟨_, rfl, _, rfl, p, o, l, ns, 30 * i + 18, t', g', rfl, P7, by omega, h63, G7, T7, fun H8 k8 P8 T8 => ⟨true, rfl, ?_⟩⟩
      have G8 := grAt_pen P7 k8 G7
      refine iteF ?_
      refine (et_is (b := false) (et_test (ev_op (ev_strR (X := (cxOf CX0 P w K mg base nLaw "law" (defScope sLaw) f (.ref c) A outer s H E).nox) (f := val t g) (er_var rfl ⟨t', g', G8, pt', hv⟩) nf hv bd) (ev_var rfl) (rv_ne rfl))) (by rw [decide_eq_true rfl]; rfl)) H8 (Ex.refl H8) _ fun H9 e9 => ?_
      refine iteF ?_
      exact ⟨⟨_, _, _, _, rfl⟩, P8.mono e9 (by omega), T8.ext e9⟩
    · rintro σ' H3 ⟨⟨x2, x3, x4, x5, rfl⟩, _, T3⟩
      show tSeq _ _ _ [some (.ref a), some (.ref p), x2, x3, x4, x5, none, none, none, none, none, none, none] H3
      refine q_twoG (er_stairs (m := 43) (by decide) (by decide)) (fun H1 e1 => er_stairs (m := 47) (by decide) (by decide)) fun o u H4 e4 gO gU => ?_
      show tSeq _ _ _ [some (.ref a), some (.ref p), x2, x3, x4, x5, some (.ref o), some (.ref u), none, none, none, none, none] H4
      have hO := grF_known gO (nf_steps (by decide)) fun _ => rfl
      have hU := grF_known gU (nf_steps (by decide)) fun _ => rfl
      have dpG : ∀ H', DpAll K H' [.str "many", .str "gains", .int 2000] [.str "many", .str "gains", .int 2000] := fun H' => .cons (.str _) (.cons (.str _) (.cons (.int _) .nil))
      have dpT : ∀ H', DpAll K H' [.str "many", .str "told", .int 2000] [.str "many", .str "told", .int 2000] := fun H' => .cons (.str _) (.cons (.str _) (.cons (.int _) .nil))
      have p0 : Pos [0] := pos_one (Int.le_refl 0)
      refine err_hear0 (T3.ext e4) dpG (fun Q1 H1 st told Qv => er_wide (X := (cxOf CX0 P w K mg base nLaw "law" (defScope sLaw) f (.ref c) A outer s H E).nox) (ek_var rfl (grAt_n st hO)) (ek_var rfl (grAt_n st hU)) lcm_43 (out_many told)) fun g1 r1 H5 S1 k1 old => ?_
      show tSeq _ _ _ [some (.ref a), some (.ref p), x2, x3, x4, x5, some (.ref o), some (.ref u), some (.ref g1), none, none, none, none] H5
      refine err_hear S1 k1 old (by show 1 ≤ 1000; decide) rfl dpG (fun Q1 H1 st told Qv => er_wide (X := (cxOf CX0 P w K mg base nLaw "law" (defScope sLaw) f (.ref c) A outer s H E).nox) (ek_var rfl (grAt_n st hO)) (ek_var rfl (grAt_n st hU)) lcm_43 (out_many told)) fun r2 H6 S2 k2 => ?_
      refine err_hear S2 k2 old (by show 2 ≤ 1000; decide) rfl dpG (fun Q1 H1 st told Qv => er_wideM (ek_var rfl (grAt_n st hO)) (ek_var rfl (grAt_n st hU)) lcm_43 (fun _ _ _ => rfl) (out_many told)) fun r3 H7 S3 k3 => ?_
      refine err_hear S3 k3 old (by show 3 ≤ 1000; decide) rfl dpG (fun Q1 H1 st told Qv => er_far (ek_var rfl (grAt_n st hO)) (ek_var rfl (grAt_n st hU)) fun H3 o' u' e3 g1 g2 => far_steps (pos_of g1 p0) (pos_of g2 p0) ((out_many told).mono e3)) fun r4 H8 S4 k4 => ?_
      refine val_hear (d := .tuple ([1, 0].map .int)) S4 k4 old (by show 4 ≤ 1000; decide) rfl (fun H1 st => ef_tup (etu_gainsR G (er_afterB (ek_new (er_stairs (m := 40) (by decide) (by decide)) (nf_steps (by decide)) fun _ => rfl) (ek_new (er_ramp0 (y := 20) (by decide)) (nf_ramp (a := 0) (b := 20)) fun n => val_one n) p0
        (by rw [stp_len]; decide) ⟨1, by decide, by decide, by decide +kernel⟩ fm_2040.nn (fm_2040.tail.mono (by decide))) nf_10 val_2040)) fun r5 H9 S5 k5 => ?_
      refine err_hear S5 k5 old (by show 5 ≤ 1000; decide) rfl dpT (fun Q1 H1 st told Qv => er_late (X := (cxOf CX0 P w K mg base nLaw "law" (defScope sLaw) f (.ref c) A outer s H E).nox) (ek_new (er_ramp0 (y := 3) (by decide)) (nf_ramp (a := 0) (b := 3)) fun n => val_one n) (ek_new (er_ramp2 (y := 2) (x := 2001) (by decide)) (nf_ramp (a := 2001) (b := 2)) fun n => val_one n) (fun H3 o' u' g1 g2 => cross_ramp g1 g2) (out_many told)) fun r6 H10 S6 k6 => ?_
      refine val_hear (d := .int 2000) S6 k6 old (by show 6 ≤ 1000; decide) rfl (fun H1 st => ef_int (ev_is (ev_lenToldR (er_pk (X := (cxOf CX0 P w K mg base nLaw "law" (defScope sLaw) f (.ref c) A outer s H E).nox) (up := true) (er_ramp0 (y := 3) (by decide)) (er_ramp2 (y := 2) (x := 1999) (by decide)) ((fm_ramp 0 3).per (by decide)) ((fm_ramp 1999 2).per (by decide)) ((fm_ramp 0 3).tail.mono (by decide)) ((fm_ramp 1999 2).tail.mono (by decide)) (.inr ord_ramp) (fm_ramp 0 3).nn (fm_ramp 1999 2).nn) nf_rampT val_rampT G)
        (by unfold rampT; rw [tbl_len]; rfl))) fun r7 H11 S7 k7 => ?_
      refine q_hearL S7 k7 (by show 7 ≤ 1000; decide) rfl (hearsL_of S7.tabs fun H1 st => er_pk (X := (cxOf CX0 P w K mg base nLaw "law" (defScope sLaw) f (.ref c) A outer s H E).nox) (up := false) (er_ramp2 (y := 2) (x := 1999) (by decide)) (er_ramp0 (y := 3) (by decide)) ((fm_ramp 1999 2).per (by decide)) ((fm_ramp 0 3).per (by decide)) ((fm_ramp 1999 2).tail.mono (by decide)) ((fm_ramp 0 3).tail.mono (by decide)) (.inr ord_ramp.symm) (fm_ramp 1999 2).nn (fm_ramp 0 3).nn) fun r8 H12 S8 k8 => ?_
      have st12 : Stay H4 H12 := Stay.of_keepN k8 old
      refine q_asgR ((eg_make1 (t := sqT 2000) (g := [0]) (EvQ.one (eq_L (el_sq (m := 2000) (j := 12) (by decide) (fun _ => rfl) (fun _ => rfl)))) J.t0 (by rw [sqT_len]; decide) (by rw [sqT_len]; decide) (by decide) (by decide) pos_sq (fun i hi => (by decide +kernel : ∀ i, i < ([0] : List Int).length → 0 ≤ at' [0] i ∧ at' [0] i ≤ 4000000000000000) i hi) fun _ => rfl) H12 (Ex.refl H12) _ fun sq H13 _ e13 gS => ?_)
      show tSeq _ _ _ [some (.ref a), some (.ref p), x2, x3, x4, x5, some (.ref o), some (.ref u), some (.ref g1), some (.ref sq), none, none, none] H13
      refine q_when (b := false) (et_is (et_or (et_test (ev_op (ev_is (ev_lenToldR (er_var rfl gS) nf_squares (fun _ => rfl) G) (w := .int 2000) (by rw [sqT_len]; rfl)) ev_c (rv_ne rfl))) fun _ =>
        et_or (et_test (ev_op (ev_is (ev_callG (X := (cxOf CX0 P w K mg base nLaw "law" (defScope sLaw) f (.ref c) A outer s H E).nox) (n := 1999) (er_var rfl gS) ev_c (by decide)) (w := .int (1999 * 1999)) (by rw [val_lt (by rw [sqT_len]; decide), at_sqT (by decide)]; rfl)) (ev_op ev_c ev_c (rv_I (.inl ⟨by decide, by decide⟩))) (rv_ne rfl))) fun _ =>
        et_test (ev_op (ev_is (ev_lenGainsR (er_add (X := (cxOf CX0 P w K mg base nLaw "law" (defScope sLaw) f (.ref c) A outer s H E).nox) (l := 2000) (er_stairs (m := 16) (by decide) (by decide)) (er_stairs (m := 125) (by decide) (by decide)) (by decide) (by decide) ((fm_steps (m := 16) (by decide)).per (by decide)) ((fm_steps (m := 125) (by decide)).per (by decide)) (((fm_steps (m := 16) (by decide)).add (fm_steps (m := 125) (by decide)) (L := 2000) (by decide) (by decide) (by decide)).tail.mono (by decide)) ((fm_steps (m := 16) (by decide)).add (fm_steps (m := 125) (by decide)) (L := 2000) (by decide) (by decide) (by decide)).nn)
          nf_16_125 (fun n => val_sumG (by decide) (by decide) (by decide) n) G) (w := .int 2000) (by rw [sumG_len]; rfl)) ev_c (rv_ne rfl))) (by decide)) (fun z => absurd z (by decide)) fun _ H14 e14 => ?_
      have st14 : Stay H4 H14 := stay_ex st12 (e13.trans e14)
      have hO14 := grAt_n st14 hO
      have hU14 := grAt_n st14 hU
      refine err_hear0 (S8.tabs.ext (e13.trans e14)) dpG (fun Q1 H1 st told Qv => er_wide (X := (cxOf CX0 P w K mg base nLaw "law" (defScope sLaw) f (.ref c) A outer s H E).nox) (ek_new (er_mk (t := [10 ^ (6 : Int).toNat]) (g := stp 43) (eq_T (ea_cons (ev_op ev_c ev_c (rv_I ⟨by decide, by decide, by decide⟩)) ea_nil) (by decide)) (eq_L (stp43 ▸ el_catI (xs := [1]) (ys := List.replicate 42 0) (el_one ev_c) (el_repI (n := 42) (el_one ev_c) (fun _ _ => ev_c) (by decide)) (by decide)))
        (by decide) (by decide) (by rw [stp_len]; decide) (by rw [stp_len]; decide) (by decide +kernel) stp_lo) (nf_high (by decide)) fun _ => rfl) (ek_var rfl (grAt_n st hU14)) lcm_43 (out_many told)) fun g2 q1 H15 R1 j1 old2 => ?_
      show tSeq _ _ _ [some (.ref a), some (.ref p), x2, x3, x4, x5, some (.ref o), some (.ref u), some (.ref g1), some (.ref sq), some (.ref g2), none, none] H15
      refine err_hear (xs := [.str "growth", .int 2]) (ds := [.str "growth", .int 2]) R1 j1 old2 (by show 1 ≤ 1000; decide) rfl (fun _ => .cons (.str _) (.cons (.int _) .nil)) (fun Q1 H1 st told Qv => ⟨rfl, _, rfl, _, rfl, [], [.ref o, .ref u, .non], rfl, rfl, by show 3 ≤ sizeLine; decide, fun q hq => ⟨q, [.ref o, .ref u, .non], 2, .non, rfl, st_of upd_same, rfl, ⟨"NoneType", .base .non, L.none_⟩, fun j y hj hy => by
        rcases (by omega : j = 0 ∨ j = 1) with rfl | rfl
        · exact ⟨o, (Option.some.inj hy).symm, tyx_mono (Ex.new hq) (gr_ty G I (grAt_n st hO14))⟩
        · exact ⟨u, (Option.some.inj hy).symm, tyx_mono (Ex.new hq) (gr_ty G I (grAt_n st hU14))⟩, (out_part told).mono (Ex.new hq)⟩⟩) fun q2 H16 R2 j2 => ?_
      refine val_hear (d := .int 2000) R2 j2 old2 (by show 2 ≤ 1000; decide) rfl (fun H1 st => ef_int (ev_is (ev_lenGainsR (er_add (X := (cxOf CX0 P w K mg base nLaw "law" (defScope sLaw) f (.ref c) A outer s H E).nox) (l := 2000) (er_stairs (m := 2000) (by decide) (by decide)) (er_stairs (m := 1000) (by decide) (by decide)) (by decide) (by decide) ((fm_steps (m := 2000) (by decide)).per (by decide)) ((fm_steps (m := 1000) (by decide)).per (by decide)) (((fm_steps (m := 2000) (by decide)).add (fm_steps (m := 1000) (by decide)) (L := 2000) (by decide) (by decide) (by decide)).tail.mono (by decide)) ((fm_steps (m := 2000) (by decide)).add (fm_steps (m := 1000) (by decide)) (L := 2000) (by decide) (by decide) (by decide)).nn)
          nf_2000_1000 (fun n => val_sumG (by decide) (by decide) (by decide) n) G) (by rw [sumG_len]; rfl))) fun q3 H17 R3 j3 => ?_
      have lG : Low 1 (manyD "gains") := low_many (by decide +kernel)
      have lT : Low 1 (manyD "told") := low_many (by decide +kernel)
      have lW : Low 1 (.tuple [.str "growth", .int 2]) := low_tup (lo_cons (low_str (by decide +kernel)) (Nat.le_refl 0) (lo_cons (low_int 2) (Nat.le_refl 0) lo_nil))
      have lI : Low 1 (.list [.int 2000]) := low_list (lo_cons (low_int 2000) (Nat.le_refl 0) lo_nil)
      have lo1 : Low 2 (.list [manyD "gains", .tuple [.str "growth", .int 2], .list [.int 2000]]) := low_list (lo_cons lG (Nat.le_refl 1) (lo_cons lW (Nat.le_refl 1) (lo_cons lI (Nat.le_refl 1) lo_nil)))
      have eM : ∀ {w : Str} {σ : L2.St} {H : Hp}, EvD K (tTup (tCons (tC (.str "many")) (tCons (tC (.str w)) (tCons (tC (.int 2000)) tNil)))) σ H (manyD w) := ed_tup (eda_cons ed_str (eda_cons ed_str (eda_cons ed_int eda_nil))) (by show 3 ≤ 1000; decide)
      refine q_when (b := false) (et_is (et_test (ev_neD (d := .list [manyD "gains", .tuple [.str "growth", .int 2], .list [.int 2000]]) (e := .list [manyD "gains", .tuple [.str "growth", .int 2], .list [.int 2000]]) (ed_of (ev_var rfl) fun H1 e => hrD_data (R3.ext e))
        (ed_lst (eda_cons eM (eda_cons (ed_tup (eda_cons ed_str (eda_cons ed_int eda_nil)) (by show 2 ≤ 1000; decide)) (eda_cons (ed_lst (eda_cons ed_int eda_nil) (by show 1 ≤ 1000; decide)) eda_nil))) (by show 3 ≤ 1000; decide)) (low_shaped lo1 (by decide)) (low_shaped lo1 (by decide)))) (by rw [eqv_low lo1]; rfl)) (fun z => absurd z (by decide)) fun _ H18 e18 => ?_
      have st18 : Stay H12 H18 := stay_ex (fun h n => Stay.of_keepN j3 old2 ((e13.trans e14) _ _ h) n) e18
      have T18 := R3.tabs.ext e18
      have l10 : Low 1 (.tuple [.int 1, .int 0]) := low_tup (lo_cons (low_int 1) (Nat.le_refl 0) (lo_cons (low_int 0) (Nat.le_refl 0) lo_nil))
      have lo2 : Low 3 (.list [manyD "gains", manyD "gains", manyD "gains", manyD "gains", .list [.tuple [.int 1, .int 0]], manyD "told"]) := low_list (n := 2) (lo_cons lG (by decide) (lo_cons lG (by decide) (lo_cons lG (by decide) (lo_cons lG (by decide) (lo_cons (low_list (n := 1) (lo_cons l10 (Nat.le_refl 1) lo_nil)) (by decide) (lo_cons lT (by decide) lo_nil))))))
      refine q_asgR ((eld_cat (ds := [manyD "gains", manyD "gains", manyD "gains", manyD "gains"]) (es := [.list [.tuple [.int 1, .int 0]], manyD "told"]) (eld_rep (n := 4) (ds := [manyD "gains"]) (eld_lst (eda_cons eM eda_nil) (by show 1 ≤ 1000; decide)) (ev_c (v := .int ((4 : Nat) : Int))) (by show 1 * 4 ≤ 100000; decide) (by decide))
        (eld_lst (eda_cons (ed_lst (eda_cons (ed_tup (eda_cons ed_int (eda_cons ed_int eda_nil)) (by show 2 ≤ 1000; decide)) eda_nil) (by show 1 ≤ 1000; decide)) (eda_cons eM eda_nil)) (by show 2 ≤ 1000; decide)) (by show 4 + 2 ≤ 100000; decide)) H18 (Ex.refl H18) _ fun w ws H19 _ e19 hw hd => ?_)
      show tRet _ _ [some (.ref a), some (.ref p), x2, x3, x4, x5, some (.ref o), some (.ref u), some (.ref g1), some (.ref sq), some (.ref g2), some (.ref w), none] H19
      have st19 : Stay H12 H19 := stay_ex st18 e19
      have lst19 := S8.lst_n st19
      obtain ⟨ys, isl⟩ := S8.isl_n st19
      refine s_retR (and_yes (ev_is (ev_eqD (d := .list [manyD "gains", manyD "gains", manyD "gains", manyD "gains", .list [.tuple [.int 1, .int 0]], manyD "told"]) (e := .list [manyD "gains", manyD "gains", manyD "gains", manyD "gains", .list [.tuple [.int 1, .int 0]], manyD "told"])
        (ed_L (xs := [.ref r1, .ref r2, .ref r3, .ref r4, .ref r5, .ref r6]) (el_sl (hi := some 6) (ev_var rfl) eo_none (eo_some ev_c) (sq_of lst19)) fun H1 e => .cons (S8.dp (q := (r1, _)) (stay_ex st19 e) (.head _)) (.cons (S8.dp (q := (r2, _)) (stay_ex st19 e) (.tail _ (.head _))) (.cons (S8.dp (q := (r3, _)) (stay_ex st19 e) (.tail _ (.tail _ (.head _)))) (.cons (S8.dp (q := (r4, _)) (stay_ex st19 e) (.tail _ (.tail _ (.tail _ (.head _)))))
          (.cons (S8.dp (q := (r5, _)) (stay_ex st19 e) (.tail _ (.tail _ (.tail _ (.tail _ (.head _)))))) (.cons (S8.dp (q := (r6, _)) (stay_ex st19 e) (.tail _ (.tail _ (.tail _ (.tail _ (.tail _ (.head _))))))) .nil))))))
        (ed_of (ev_var rfl) fun H1 e => .lst (sq_of (e _ _ hw)) (dps_up e _ hd)) (low_shaped lo2 (by decide)) (low_shaped lo2 (by decide))) (by rw [eqv_low lo2])) fun H20 e20 => ?_)
      refine and_yes (ev_is (ev_eqD (d := .list [.int 2000]) (e := .list [.int 2000]) (ed_of (v := .ref r7) (ev_op (ev_var rfl) ev_c (rv_ixL (sq_of (e20 _ _ lst19)) rfl)) fun H1 e => S8.dp (q := (r7, _)) (stay_ex st19 (e20.trans e)) (.tail _ (.tail _ (.tail _ (.tail _ (.tail _ (.tail _ (.head _))))))))
        (ed_lst (eda_cons ed_int eda_nil) (by show 1 ≤ 1000; decide)) (low_shaped lI (by decide)) (low_shaped lI (by decide))) (by rw [eqv_low lI])) fun H21 e21 => ?_
      have E21 := e20.trans e21
      refine and_yes (ev_cb (ea_cons (ev_op (y := .int 7) (z := .ref r8) (ev_var rfl) ev_c (rv_ixL (sq_of (E21 _ _ lst19)) rfl)) (ea_cons ev_c ea_nil)) (rc_isi (.base (.lst (E21 _ _ isl))) (r := true) (by decide +kernel))) fun H22 e22 => ?_
      exact ⟨rfl, T18.ext (e19.trans (E21.trans e22)), fun H' => k H'⟩
end
end K02
namespace K02
open PySem L2 Evl Gr ClX OpX StX StM LamX EXC OwX
/-- a def of the text named x, its full name y, where it stands -/
structure FQ (K : PySem.W.Frag) (x y : Str) (st : Stmt) (f : Addr) : Prop where
  l : ∃ (oc : Value) (od : Option Addr) (kV doc pm : Value) (an : Option Addr) (cdv ct : Value) (osl : Array (Option Value)),
    K.lookup f = some ⟨oc, od, .func (PySem.W.fnOf x y (defArgs st) (defBody st) (defScope st) .none kV doc pm an cdv ct), osl⟩ ∧ PySem.W.codeIn K cdv y = true
  k : PySem.W.keepIn K (.ref f) = true
theorem FQ.fn {K : PySem.W.Frag} {x y : Str} {st : Stmt} {f : Addr} (h : FQ K x y st f) : ∃ fd, Fun K x y st f fd := by
  obtain ⟨oc, od, kV, doc, pm, an, cdv, ct, osl, h1, h2⟩ := h.l
  exact ⟨_, fun_mk h1 h2 h.k⟩
/-- .. with its code object at c, the table of which is at P -/
structure FC (K : PySem.W.Frag) (x : Str) (st : Stmt) (f c P : Addr) : Prop where
  l : ∃ (oc : Value) (od : Option Addr) (kV doc pm : Value) (an : Option Addr) (ct : Value) (osl : Array (Option Value)),
    K.lookup f = some ⟨oc, od, .func (PySem.W.fnOf x x (defArgs st) (defBody st) (defScope st) .none kV doc pm an (.ref c) ct), osl⟩ ∧ PySem.W.codeIn K (.ref c) x = true
  k : PySem.W.keepIn K (.ref f) = true
  t : ∃ (e : Value) (dd : Option Addr) (vs : Array Value) (sl : Array (Option Value)), K.lookup c = some ⟨e, dd, .fields vs, sl⟩ ∧ vs[11]? = some (.ref P)
theorem FC.fn {K : PySem.W.Frag} {x : Str} {st : Stmt} {f c P : Addr} (h : FC K x st f c P) : ∃ (kV doc pm : Value) (an : Option Addr) (ct : Value), FunC K x x st f (PySem.W.fnOf x x (defArgs st) (defBody st) (defScope st) .none kV doc pm an (.ref c) ct) c := by
  obtain ⟨oc, od, kV, doc, pm, an, ct, osl, h1, h2⟩ := h.l
  exact ⟨kV, doc, pm, an, ct, ⟨oc, od, kV, doc, pm, an, ct, osl, rfl, h1, h2⟩, h.k⟩
theorem FC.tab {K : PySem.W.Frag} {x : Str} {st : Stmt} {f c P : Addr} (h : FC K x st f c P) (a : PySem.W.nsIn K mainGlobals x = some (some (.ref f))) : PySem.W.tabIn K x = some (c, P) := by
  obtain ⟨oc, od, kV, doc, pm, an, ct, osl, h1, h2⟩ := h.l
  obtain ⟨e, dd, vs, sl, h3, h4⟩ := h.t
  unfold PySem.W.tabIn
  rw [a]
  show (match K.lookup f with
    | some ⟨_, _, .func fd, _⟩ => _
    | _ => none) = _
  rw [h1]
  show (match K.lookup c with
    | some ⟨_, _, .fields vs, _⟩ => _
    | _ => none) = _
  rw [h3]
  show (match (vs[11]? : Option Value) with
    | some (.ref P) => some (c, P)
    | _ => none) = _
  rw [h4]
theorem noTab {K : PySem.W.Frag} {h : Heap} {P : Addr} (X : K.In h) (n : PySem.W.noTabs K = true) (e : h.get? P = some { cls := .none, data := .fields #[] }) : K.lookup P = none := by
  cases z : K.lookup P with
  | none => rfl
  | some o =>
    have e2 := X _ _ z
    rw [e] at e2
    cases e2
    have h2 := List.all_eq_true.mp n (P, _) (PySem.W.mem_of_lookupK z)
    exact absurd (show false = true from h2) Bool.false_ne_true
/-- .. with defaults -/
structure FW (K : PySem.W.Frag) (x y : Str) (st : Stmt) (dvs : List V) (f : Addr) : Prop where
  l : ∃ (oc : Value) (od : Option Addr) (dV kV doc pm : Value) (an : Option Addr) (cdv ct : Value) (osl : Array (Option Value)),
    K.lookup f = some ⟨oc, od, .func (PySem.W.fnOf x y (defArgs st) (defBody st) (defScope st) dV kV doc pm an cdv ct), osl⟩ ∧ PySem.W.codeIn K cdv y = true ∧ DflV K dV dvs
  k : PySem.W.keepIn K (.ref f) = true
theorem FW.fn {K : PySem.W.Frag} {x y : Str} {st : Stmt} {dvs : List V} {f : Addr} (h : FW K x y st dvs f) : ∃ fd, FunD K x y (defArgs st) (defBody st) (defScope st) dvs [] f fd := by
  obtain ⟨oc, od, dV, kV, doc, pm, an, cdv, ct, osl, h1, h2, h3⟩ := h.l
  exact ⟨_, ⟨⟨oc, od, dV, kV, doc, pm, an, cdv, ct, osl, rfl, h1, h2, h3, .inl rfl⟩, h.k⟩⟩
theorem kit_self {K : PySem.W.Frag} {C : Addr} : PySem.W.kitOne K (.ref C) (.ref C) = some true := by
  unfold PySem.W.kitOne
  rw [if_pos (by simp)]
theorem kit_sub {K : PySem.W.Frag} {C : Addr} {t : String} {b : Bool} (m : PySem.W.kitMeta t = true) (h : PySem.W.subIn K (.ref C) (.type t) = some b) : PySem.W.kitOne K (.ref C) (.type t) = some b := by
  unfold PySem.W.kitOne PySem.W.kitCls
  rw [if_neg (by simp)]
  show (if PySem.W.kitMeta t = true then PySem.W.subIn K (.ref C) (.type t) else none) = some b
  rw [if_pos m]
  exact h
theorem kit_of_ty {K : PySem.W.Frag} {C : Addr} {t : String} (h : PySem.W.subIn K (.type t) (.ref C) = some false) (c : (PySem.W.clsIn K C).isSome = true) (ty : PySem.W.typeIn K (.ref C) = some (.type "type")) : PySem.W.kitOne K (.type t) (.ref C) = some false := by
  unfold PySem.W.kitOne PySem.W.kitCls
  rw [if_neg (by simp)]
  show (if ((PySem.W.clsIn K C).isSome && PySem.W.typeIn K (.ref C) == some (.type "type")) = true then PySem.W.subIn K (.type t) (.ref C) else none) = some false
  rw [if_pos (by rw [c, ty]; rfl)]
  exact h
/-- what the operators ask of a built-in class -/
structure OddT (K : PySem.W.Frag) (C : Addr) (T : String) : Prop where
  a1 : ∃ fo, PySem.W.findIn K (.type T) (PySem.dunder "add") = some fo
  a2 : ∃ fo, PySem.W.findIn K (.type T) (dunderR "add") = some fo
  o1 : ∃ fo, PySem.W.findIn K (.type T) (PySem.dunder "or") = some fo
  o2 : ∃ fo, PySem.W.findIn K (.type T) (dunderR "or") = some fo
  n1 : ∃ fo, PySem.W.findIn K (.type T) (PySem.dunder "and") = some fo
  n2 : ∃ fo, PySem.W.findIn K (.type T) (dunderR "and") = some fo
  m1 : ∃ fo, PySem.W.findIn K (.type T) (PySem.dunder "mul") = some fo
  m2 : ∃ fo, PySem.W.findIn K (.type T) (dunderR "mul") = some fo
  sub : PySem.W.subIn K (.type T) (.ref C) = some false
theorem all_odds {Pd : String → Prop} (hNoneType : Pd "NoneType") (hbool : Pd "bool") (hint : Pd "int") (hstr : Pd "str") (htuple : Pd "tuple") (hlist : Pd "list") (hdict : Pd "dict") : ∀ T ∈ odds, Pd T := fun T hT => by
  simp only [odds, List.mem_cons, List.not_mem_nil, or_false] at hT
  rcases hT with rfl | rfl | rfl | rfl | rfl | rfl | rfl
  · exact hNoneType
  · exact hbool
  · exact hint
  · exact hstr
  · exact htuple
  · exact hlist
  · exact hdict
theorem uniq_of {T : List (Addr × Str)} : (T.map Prod.fst).Nodup → ∀ {P : Addr} {x : Str}, (P, x) ∈ T → ∀ p ∈ T, p.1 = P → p.2 = x := by
  induction T with
  | nil => exact fun _ P x h => absurd h (by simp)
  | cons t T ih =>
    intro nd P x h p hp e
    rw [List.map_cons, List.nodup_cons] at nd
    rcases List.mem_cons.mp h with h | h <;> rcases List.mem_cons.mp hp with hp | hp
    · rw [hp, ← h]
    · exact absurd (List.mem_map.mpr ⟨p, hp, e.trans (congrArg Prod.fst h)⟩) nd.1
    · exact absurd (List.mem_map.mpr ⟨(P, x), h, (e.symm.trans (congrArg Prod.fst hp) : P = t.1)⟩) nd.1
    · exact ih nd.2 h p hp e
theorem all_mk {l : PySem.W.OpenLaw} {w : World} {K : PySem.W.Frag} {h : Heap} {mg : Str → Option Value} {fa fInt fWi fZ fLp fSp fNf fRi fVa fFi fPa fCo fBe fSu fGa fLe fFb fLs fOu fCp fAp fPe fDr fPi fPl fHd fPr cPr PPr fOt cOt POt fNu cNu PNu fTo cTo PTo fLa cLa PLa mEq mCa mFs mAd mOr mAn mMu mRm mAf mSh mAb mAm mOv mTx mCn pCn mSs pSs mSm pSm mRa pRa mIn C T0 B cG cN cT cM fG fN fM : Addr} {mc : Value} (X : K.In h) (G : h.Ns mainGlobals mg) (hfa : mg "law" = some (.ref fa)) (hTab : ∀ x, x ∈ (["_law_parts_right", "_law_others_right", "_law_numbers_right", "_law_told_right", "law"] : List Str) → ∀ c P, PySem.W.tabIn K x = some (c, P) → PySem.W.CodeHd h c P ∧ h.get? P = some { cls := .none, data := .fields #[] })
    (aInt : PySem.W.nsIn K mainGlobals "is_integer" = some (some (.ref fInt)))
    (hInt : FQ K "is_integer" "is_integer" (top 3) fInt)
    (aWi : PySem.W.nsIn K mainGlobals "is_within" = some (some (.ref fWi)))
    (hWi : FQ K "is_within" "is_within" (top 4) fWi)
    (aZ : PySem.W.nsIn K mainGlobals "is_from_zero" = some (some (.ref fZ)))
    (hZ : FQ K "is_from_zero" "is_from_zero" (top 5) fZ)
    (aLp : PySem.W.nsIn K mainGlobals "least_period" = some (some (.ref fLp)))
    (hLp : FQ K "least_period" "least_period" (top 14) fLp)
    (aSp : PySem.W.nsIn K mainGlobals "spare_told" = some (some (.ref fSp)))
    (hSp : FQ K "spare_told" "spare_told" (top 15) fSp)
    (aNf : PySem.W.nsIn K mainGlobals "normal_form" = some (some (.ref fNf)))
    (hNf : FQ K "normal_form" "normal_form" (top 16) fNf)
    (aRi : PySem.W.nsIn K mainGlobals "rises_of" = some (some (.ref fRi)))
    (hRi : FQ K "rises_of" "rises_of" (top 17) fRi)
    (aVa : PySem.W.nsIn K mainGlobals "value_at" = some (some (.ref fVa)))
    (hVa : FQ K "value_at" "value_at" (top 18) fVa)
    (aFi : PySem.W.nsIn K mainGlobals "first_values" = some (some (.ref fFi)))
    (hFi : FQ K "first_values" "first_values" (top 19) fFi)
    (aPa : PySem.W.nsIn K mainGlobals "parted" = some (some (.ref fPa)))
    (hPa : FQ K "parted" "parted" (top 20) fPa)
    (aCo : PySem.W.nsIn K mainGlobals "common_length" = some (some (.ref fCo)))
    (hCo : FQ K "common_length" "common_length" (top 22) fCo)
    (aBe : PySem.W.nsIn K mainGlobals "begin_of_both" = some (some (.ref fBe)))
    (hBe : FQ K "begin_of_both" "begin_of_both" (top 23) fBe)
    (aSu : PySem.W.nsIn K mainGlobals "summed_parts" = some (some (.ref fSu)))
    (hSu : FQ K "summed_parts" "summed_parts" (top 24) fSu)
    (aGa : PySem.W.nsIn K mainGlobals "gaps_of" = some (some (.ref fGa)))
    (hGa : FQ K "gaps_of" "gaps_of" (top 25) fGa)
    (aLe : PySem.W.nsIn K mainGlobals "lead_of" = some (some (.ref fLe)))
    (hLe : FQ K "lead_of" "lead_of" (top 26) fLe)
    (aFb : PySem.W.nsIn K mainGlobals "first_number_above" = some (some (.ref fFb)))
    (hFb : FQ K "first_number_above" "first_number_above" (top 27) fFb)
    (aLs : PySem.W.nsIn K mainGlobals "last_number_above" = some (some (.ref fLs)))
    (hLs : FQ K "last_number_above" "last_number_above" (top 28) fLs)
    (aOu : PySem.W.nsIn K mainGlobals "outer_parts" = some (some (.ref fOu)))
    (hOu : FQ K "outer_parts" "outer_parts" (top 30) fOu)
    (aCp : PySem.W.nsIn K mainGlobals "composed_parts" = some (some (.ref fCp)))
    (hCp : FQ K "composed_parts" "composed_parts" (top 31) fCp)
    (aAp : PySem.W.nsIn K mainGlobals "are_parts" = some (some (.ref fAp)))
    (hAp : FQ K "are_parts" "are_parts" (top 36) fAp)
    (aPe : PySem.W.nsIn K mainGlobals "_law_pen" = some (some (.ref fPe)))
    (hPe : FQ K "_law_pen" "_law_pen" (top 40) fPe)
    (aDr : PySem.W.nsIn K mainGlobals "_law_draw" = some (some (.ref fDr)))
    (hDr : FQ K "_law_draw" "_law_draw" (top 41) fDr)
    (aPi : PySem.W.nsIn K mainGlobals "_law_pick" = some (some (.ref fPi)))
    (hPi : FQ K "_law_pick" "_law_pick" (top 42) fPi)
    (aPl : PySem.W.nsIn K mainGlobals "_law_plain" = some (some (.ref fPl)))
    (hPl : FQ K "_law_plain" "_law_plain" (top 43) fPl)
    (aHd : PySem.W.nsIn K mainGlobals "_law_heard" = some (some (.ref fHd)))
    (hHd : FQ K "_law_heard" "_law_heard" (top 46) fHd)
    (aPr : PySem.W.nsIn K mainGlobals "_law_parts_right" = some (some (.ref fPr)))
    (hPr : FC K "_law_parts_right" (top 47) fPr cPr PPr)
    (aOt : PySem.W.nsIn K mainGlobals "_law_others_right" = some (some (.ref fOt)))
    (hOt : FC K "_law_others_right" (top 48) fOt cOt POt)
    (aNu : PySem.W.nsIn K mainGlobals "_law_numbers_right" = some (some (.ref fNu)))
    (hNu : FC K "_law_numbers_right" (top 49) fNu cNu PNu)
    (aTo : PySem.W.nsIn K mainGlobals "_law_told_right" = some (some (.ref fTo)))
    (hTo : FC K "_law_told_right" (top 50) fTo cTo PTo)
    (aLa : PySem.W.nsIn K mainGlobals "law" = some (some (.ref fLa)))
    (hLa : FC K "law" (top 51) fLa cLa PLa)
    (ndP : ([PPr, POt, PNu, PTo, PLa] : List Addr).Nodup)
    (hNT : PySem.W.noTabs K = true)
    (aC : PySem.W.nsIn K mainGlobals "Growth" = some (some (.ref C)))
    (rd : PySem.W.readsIn K C mc = true)
    (ga : PySem.W.specialIn K (.ref C) "__getattribute__" = some (some (.builtin "type.__getattribute__")))
    (most : ∃ t, PySem.W.findCls K (.ref C) mc "MOST" = some (.val (.int 2000 t)))
    (cls : Cls K C)
    (nt : NoAttr K C "told")
    (ng : NoAttr K C "gains")
    (nr : NoAttr K C "rises")
    (makes : PySem.W.makesIn K C = true)
    (kC : PySem.W.keepIn K (.ref C) = true)
    (aIn : PySem.W.findIn K (.ref C) "__init__" = some (some (.ref mIn)))
    (tIn : PySem.W.isFn K (.ref mIn) = true)
    (hIn : FW K "__init__" "Growth.__init__" (sGr 1) [.ref T0] mIn)
    (hT0 : ∃ (o : Obj) (its : Array Value) (n : Nat), K.lookup T0 = some o ∧ o.cls = .type "tuple" ∧ o.data = .seq its n ∧ its.size ≤ sizeLine ∧ Vals [.int 0] its.toList)
    (aEq : PySem.W.findIn K (.ref C) "__eq__" = some (some (.ref mEq)))
    (tEq : PySem.W.isFn K (.ref mEq) = true)
    (hEq : FQ K "__eq__" "Growth.__eq__" (sGr 2) mEq)
    (aCa : PySem.W.findIn K (.ref C) "__call__" = some (some (.ref mCa)))
    (tCa : PySem.W.isFn K (.ref mCa) = true)
    (hCa : FQ K "__call__" "Growth.__call__" (sGr 3) mCa)
    (aFs : PySem.W.findIn K (.ref C) "first" = some (some (.ref mFs)))
    (tFs : PySem.W.isFn K (.ref mFs) = true)
    (hFs : FQ K "first" "Growth.first" (sGr 4) mFs)
    (aAd : PySem.W.findIn K (.ref C) "__add__" = some (some (.ref mAd)))
    (tAd : PySem.W.isFn K (.ref mAd) = true)
    (hAd : FQ K "__add__" "Growth.__add__" (sGr 5) mAd)
    (aOr : PySem.W.findIn K (.ref C) "__or__" = some (some (.ref mOr)))
    (tOr : PySem.W.isFn K (.ref mOr) = true)
    (hOr : FQ K "__or__" "Growth.__or__" (sGr 6) mOr)
    (aAn : PySem.W.findIn K (.ref C) "__and__" = some (some (.ref mAn)))
    (tAn : PySem.W.isFn K (.ref mAn) = true)
    (hAn : FQ K "__and__" "Growth.__and__" (sGr 7) mAn)
    (aMu : PySem.W.findIn K (.ref C) "__mul__" = some (some (.ref mMu)))
    (tMu : PySem.W.isFn K (.ref mMu) = true)
    (hMu : FQ K "__mul__" "Growth.__mul__" (sGr 8) mMu)
    (aRm : PySem.W.findIn K (.ref C) "__rmul__" = some (some (.ref mRm)))
    (tRm : PySem.W.isFn K (.ref mRm) = true)
    (hRm : FQ K "__rmul__" "Growth.__rmul__" (sGr 9) mRm)
    (aAf : PySem.W.findIn K (.ref C) "after" = some (some (.ref mAf)))
    (tAf : PySem.W.isFn K (.ref mAf) = true)
    (hAf : FQ K "after" "Growth.after" (sGr 10) mAf)
    (aSh : PySem.W.findIn K (.ref C) "shifted" = some (some (.ref mSh)))
    (tSh : PySem.W.isFn K (.ref mSh) = true)
    (hSh : FQ K "shifted" "Growth.shifted" (sGr 11) mSh)
    (aAb : PySem.W.findIn K (.ref C) "first_above" = some (some (.ref mAb)))
    (tAb : PySem.W.isFn K (.ref mAb) = true)
    (hAb : FQ K "first_above" "Growth.first_above" (sGr 12) mAb)
    (aAm : PySem.W.findIn K (.ref C) "at_most" = some (some (.ref mAm)))
    (tAm : PySem.W.isFn K (.ref mAm) = true)
    (hAm : FQ K "at_most" "Growth.at_most" (sGr 13) mAm)
    (aOv : PySem.W.findIn K (.ref C) "first_over" = some (some (.ref mOv)))
    (tOv : PySem.W.isFn K (.ref mOv) = true)
    (hOv : FQ K "first_over" "Growth.first_over" (sGr 14) mOv)
    (aTx : PySem.W.findIn K (.ref C) "__str__" = some (some (.ref mTx)))
    (tTx : PySem.W.isFn K (.ref mTx) = true)
    (hTx : FQ K "__str__" "Growth.__str__" (sGr 21) mTx)
    (sCn : SMet K C mc "constant" pCn mCn)
    (hCn : FQ K "constant" "Growth.constant" (sGr 17) mCn)
    (sSs : SMet K C mc "steps" pSs mSs)
    (hSs : FQ K "steps" "Growth.steps" (sGr 19) mSs)
    (sSm : SMet K C mc "summed" pSm mSm)
    (hSm : FQ K "summed" "Growth.summed" (sGr 20) mSm)
    (sRa : SMet K C mc "ramp" pRa mRa)
    (hRa : FW K "ramp" "Growth.ramp" (sGr 18) [.int 0] mRa)
    (iCa : PySem.W.fnIn K mCa = true)
    (first : PySem.W.selfFirst K C = true)
    (noInt : PySem.W.subIn K (.ref C) (.type "int") = some false)
    (noBool : PySem.W.subIn K (.ref C) (.type "bool") = some false)
    (rAd : ∃ rc, PySem.W.findIn K (.ref C) (dunderR "add") = some rc ∧ (rc = none ∨ ∃ g : Addr, rc = some (.ref g)))
    (rOr : ∃ rc, PySem.W.findIn K (.ref C) (dunderR "or") = some rc ∧ (rc = none ∨ ∃ g : Addr, rc = some (.ref g)))
    (rAn : ∃ rc, PySem.W.findIn K (.ref C) (dunderR "and") = some rc ∧ (rc = none ∨ ∃ g : Addr, rc = some (.ref g)))
    (rMu : ∃ rc, PySem.W.findIn K (.ref C) (dunderR "mul") = some rc ∧ (rc = none ∨ ∃ g : Addr, rc = some (.ref g)))
    (wNoneType : OddT K C "NoneType")
    (vNoneType : LeftNo K "NoneType" "mul")
    (wbool : OddT K C "bool")
    (wint : OddT K C "int")
    (wstr : OddT K C "str")
    (vstr : LeftNo K "str" "mul")
    (wtuple : OddT K C "tuple")
    (vtuple : LeftNo K "tuple" "mul")
    (wlist : OddT K C "list")
    (vlist : LeftNo K "list" "mul")
    (wdict : OddT K C "dict")
    (vdict : LeftNo K "dict" "mul")
    (tyC : PySem.W.typeIn K (.ref C) = some (.type "type"))
    (ne : PySem.W.findIn K (.ref C) "__ne__" = some (some (.builtin "object.__ne__")))
    (ob : PySem.W.mroIn K C (.type "object") = some true)
    (nf : PySem.W.notFirst K C (.ref C) = true)
    (cc : PySem.W.findIn K (.ref C) "__class__" = some (some (.builtin "object.__class__")))
    (cs : PySem.W.specialIn K (.builtin "object.__class__") "__get__" = some (some (.builtin "getset_descriptor.__get__")))
    (ct : PySem.W.takesIn K (.builtin "object.__class__") = some true)
    (gB : PySem.W.nsIn K mainGlobals "PostError" = some (some (.ref B)))
    (bB : PySem.W.subIn K (.ref B) (.type "BaseException") = some true)
    (dB : PySem.W.hasDictIn K B = true)
    (tyB : PySem.W.typeIn K (.ref B) = some (.type "type"))
    (xG : CF K "BadGrowth" "BadGrowth.__init__" (sCls 8) cG fG B)
    (xN : CF K "BadNumber" "BadNumber.__init__" (sCls 9) cN fN B)
    (xT : CB K "BadText" cT B)
    (xM : CF K "TooMany" "TooMany.__init__" (sCls 11) cM fM B)
    (xgp : PySem.W.findIn K (.ref cG) "part" = some none)
    (xnv : PySem.W.findIn K (.ref cN) "value" = some none)
    (xw : PySem.W.findIn K (.ref cM) "what" = some none)
    (xm : PySem.W.findIn K (.ref cM) "most" = some none)
    (ndE : ([cG, cN, cT, cM, B] : List Addr).Nodup)
    (zl : PySem.W.nsIn K mainGlobals "lcm" = some (some (.builtin "math.lcm")))
    (zg : PySem.W.nsIn K mainGlobals "gcd" = some (some (.builtin "math.gcd")))
    (zm : ∃ t, PySem.W.nsIn K mainGlobals "MOST_PARTS" = some (some (.int 2000 t)))
    (z_isinstance : PySem.W.nsIn K mainGlobals "isinstance" = some (none))
    (z_int : PySem.W.nsIn K mainGlobals "int" = some (none))
    (z_bool : PySem.W.nsIn K mainGlobals "bool" = some (none))
    (z_str : PySem.W.nsIn K mainGlobals "str" = some (none))
    (z_len : PySem.W.nsIn K mainGlobals "len" = some (none))
    (z_abs : PySem.W.nsIn K mainGlobals "abs" = some (none))
    (z_list : PySem.W.nsIn K mainGlobals "list" = some (none))
    (z_range : PySem.W.nsIn K mainGlobals "range" = some (none))
    (z_tuple : PySem.W.nsIn K mainGlobals "tuple" = some (none))
    (z_all : PySem.W.nsIn K mainGlobals "all" = some (none))
    (z_repr : PySem.W.nsIn K mainGlobals "repr" = some (none))
    (z_enumerate : PySem.W.nsIn K mainGlobals "enumerate" = some (none))
    (z_min : PySem.W.nsIn K mainGlobals "min" = some (none))
    (z_max : PySem.W.nsIn K mainGlobals "max" = some (none))
    (z_zip : PySem.W.nsIn K mainGlobals "zip" = some (none))
    (z_divmod : PySem.W.nsIn K mainGlobals "divmod" = some (none))
    : LawAtG l w K 12 63 "_law_script" mg fa h := by
  have eLa := hfa.symm.trans (PySem.W.mg_of X G aLa)
  cases eLa
  have gInt := PySem.W.mg_of X G aInt
  obtain ⟨dInt, FInt⟩ := hInt.fn
  have bInt : Binds K dInt ["value"] [] := FInt.binds fun _ _ _ _ _ _ us hl => match us, hl with | [_], _ => rfl
  have gWi := PySem.W.mg_of X G aWi
  obtain ⟨dWi, FWi⟩ := hWi.fn
  have bWi : Binds K dWi ["value", "least", "most"] [] := FWi.binds fun _ _ _ _ _ _ us hl => match us, hl with | [_, _, _], _ => rfl
  have gZ := PySem.W.mg_of X G aZ
  obtain ⟨dZ, FZ⟩ := hZ.fn
  have bZ : Binds K dZ ["value"] [] := FZ.binds fun _ _ _ _ _ _ us hl => match us, hl with | [_], _ => rfl
  have gLp := PySem.W.mg_of X G aLp
  obtain ⟨dLp, FLp⟩ := hLp.fn
  have bLp : Binds K dLp ["gains"] [] := FLp.binds fun _ _ _ _ _ _ us hl => match us, hl with | [_], _ => rfl
  have gSp := PySem.W.mg_of X G aSp
  obtain ⟨dSp, FSp⟩ := hSp.fn
  have bSp : Binds K dSp ["told", "gains"] [] := FSp.binds fun _ _ _ _ _ _ us hl => match us, hl with | [_, _], _ => rfl
  have gNf := PySem.W.mg_of X G aNf
  obtain ⟨dNf, FNf⟩ := hNf.fn
  have bNf : Binds K dNf ["told", "gains"] [] := FNf.binds fun _ _ _ _ _ _ us hl => match us, hl with | [_, _], _ => rfl
  have gRi := PySem.W.mg_of X G aRi
  obtain ⟨dRi, FRi⟩ := hRi.fn
  have bRi : Binds K dRi ["gains"] [] := FRi.binds fun _ _ _ _ _ _ us hl => match us, hl with | [_], _ => rfl
  have gVa := PySem.W.mg_of X G aVa
  obtain ⟨dVa, FVa⟩ := hVa.fn
  have bVa : Binds K dVa ["one", "n"] [] := FVa.binds fun _ _ _ _ _ _ us hl => match us, hl with | [_, _], _ => rfl
  have gFi := PySem.W.mg_of X G aFi
  obtain ⟨dFi, FFi⟩ := hFi.fn
  have bFi : Binds K dFi ["one", "many"] [] := FFi.binds fun _ _ _ _ _ _ us hl => match us, hl with | [_, _], _ => rfl
  have gPa := PySem.W.mg_of X G aPa
  obtain ⟨dPa, FPa⟩ := hPa.fn
  have bPa : Binds K dPa ["values", "many"] [] := FPa.binds fun _ _ _ _ _ _ us hl => match us, hl with | [_, _], _ => rfl
  have gCo := PySem.W.mg_of X G aCo
  obtain ⟨dCo, FCo⟩ := hCo.fn
  have bCo : Binds K dCo ["one", "other"] [] := FCo.binds fun _ _ _ _ _ _ us hl => match us, hl with | [_, _], _ => rfl
  have gBe := PySem.W.mg_of X G aBe
  obtain ⟨dBe, FBe⟩ := hBe.fn
  have bBe : Binds K dBe ["one", "other"] [] := FBe.binds fun _ _ _ _ _ _ us hl => match us, hl with | [_, _], _ => rfl
  have gSu := PySem.W.mg_of X G aSu
  obtain ⟨dSu, FSu⟩ := hSu.fn
  have bSu : Binds K dSu ["one", "other"] [] := FSu.binds fun _ _ _ _ _ _ us hl => match us, hl with | [_, _], _ => rfl
  have gGa := PySem.W.mg_of X G aGa
  obtain ⟨dGa, FGa⟩ := hGa.fn
  have bGa : Binds K dGa ["one", "other"] [] := FGa.binds fun _ _ _ _ _ _ us hl => match us, hl with | [_, _], _ => rfl
  have gLe := PySem.W.mg_of X G aLe
  obtain ⟨dLe, FLe⟩ := hLe.fn
  have bLe : Binds K dLe ["one", "other"] [] := FLe.binds fun _ _ _ _ _ _ us hl => match us, hl with | [_, _], _ => rfl
  have gFb := PySem.W.mg_of X G aFb
  obtain ⟨dFb, FFb⟩ := hFb.fn
  have bFb : Binds K dFb ["one", "other"] [] := FFb.binds fun _ _ _ _ _ _ us hl => match us, hl with | [_, _], _ => rfl
  have gLs := PySem.W.mg_of X G aLs
  obtain ⟨dLs, FLs⟩ := hLs.fn
  have bLs : Binds K dLs ["one", "other"] [] := FLs.binds fun _ _ _ _ _ _ us hl => match us, hl with | [_, _], _ => rfl
  have gOu := PySem.W.mg_of X G aOu
  obtain ⟨dOu, FOu⟩ := hOu.fn
  have bOu : Binds K dOu ["one", "other", "is_greatest"] [] := FOu.binds fun _ _ _ _ _ _ us hl => match us, hl with | [_, _, _], _ => rfl
  have gCp := PySem.W.mg_of X G aCp
  obtain ⟨dCp, FCp⟩ := hCp.fn
  have bCp : Binds K dCp ["one", "other"] [] := FCp.binds fun _ _ _ _ _ _ us hl => match us, hl with | [_, _], _ => rfl
  have gAp := PySem.W.mg_of X G aAp
  obtain ⟨dAp, FAp⟩ := hAp.fn
  have bAp : Binds K dAp ["values", "most"] [] := FAp.binds fun _ _ _ _ _ _ us hl => match us, hl with | [_, _], _ => rfl
  have gPe := PySem.W.mg_of X G aPe
  obtain ⟨dPe, FPe⟩ := hPe.fn
  have bPe : Binds K dPe ["_law_script"] [] := FPe.binds fun _ _ _ _ _ _ us hl => match us, hl with | [_], _ => rfl
  have gDr := PySem.W.mg_of X G aDr
  obtain ⟨dDr, FDr⟩ := hDr.fn
  have bDr : Binds K dDr ["_law_pen_here", "_law_many"] [] := FDr.binds fun _ _ _ _ _ _ us hl => match us, hl with | [_, _], _ => rfl
  have gPi := PySem.W.mg_of X G aPi
  obtain ⟨dPi, FPi⟩ := hPi.fn
  have bPi : Binds K dPi ["_law_pen_here", "_law_some"] [] := FPi.binds fun _ _ _ _ _ _ us hl => match us, hl with | [_, _], _ => rfl
  have gPl := PySem.W.mg_of X G aPl
  obtain ⟨dPl, FPl⟩ := hPl.fn
  have bPl : Binds K dPl ["_law_pen_here", "_law_is_rising"] [] := FPl.binds fun _ _ _ _ _ _ us hl => match us, hl with | [_, _], _ => rfl
  have gHd := PySem.W.mg_of X G aHd
  obtain ⟨dHd, FHd⟩ := hHd.fn
  have bHd : Binds K dHd ["_law_ask"] [] := FHd.binds fun _ _ _ _ _ _ us hl => match us, hl with | [_], _ => rfl
  have gPr := PySem.W.mg_of X G aPr
  obtain ⟨kVPr, docPr, pmPr, anPr, ctPr, FPr⟩ := hPr.fn
  obtain ⟨CPr, EPr⟩ := hTab "_law_parts_right" (by decide) _ _ (hPr.tab aPr)
  have bPr : Binds K _ ["_law_pen_here", "_law_plain_here"] [] := FPr.fn.binds fun _ _ _ _ _ _ us hl => match us, hl with | [_, _], _ => rfl
  have gOt := PySem.W.mg_of X G aOt
  obtain ⟨kVOt, docOt, pmOt, anOt, ctOt, FOt⟩ := hOt.fn
  obtain ⟨COt, EOt⟩ := hTab "_law_others_right" (by decide) _ _ (hOt.tab aOt)
  have bOt : Binds K _ ["_law_pen_here", "_law_made"] [] := FOt.fn.binds fun _ _ _ _ _ _ us hl => match us, hl with | [_, _], _ => rfl
  have gNu := PySem.W.mg_of X G aNu
  obtain ⟨kVNu, docNu, pmNu, anNu, ctNu, FNu⟩ := hNu.fn
  obtain ⟨CNu, ENu⟩ := hTab "_law_numbers_right" (by decide) _ _ (hNu.tab aNu)
  have bNu : Binds K _ ["_law_pen_here", "_law_made"] [] := FNu.fn.binds fun _ _ _ _ _ _ us hl => match us, hl with | [_, _], _ => rfl
  have gTo := PySem.W.mg_of X G aTo
  obtain ⟨kVTo, docTo, pmTo, anTo, ctTo, FTo⟩ := hTo.fn
  obtain ⟨CTo, ETo⟩ := hTab "_law_told_right" (by decide) _ _ (hTo.tab aTo)
  have bTo : Binds K _ [] [] := FTo.fn.binds fun _ _ _ _ _ _ us hl => match us, hl with | [], _ => rfl
  have gLa := PySem.W.mg_of X G aLa
  obtain ⟨kVLa, docLa, pmLa, anLa, ctLa, FLa⟩ := hLa.fn
  obtain ⟨CLa, ELa⟩ := hTab "law" (by decide) _ _ (hLa.tab aLa)
  obtain ⟨eEq, MEq⟩ := hEq.fn
  have cEq : Binds K eEq ["self", "other"] [] := MEq.binds fun _ _ _ _ _ _ us hl => match us, hl with | [_, _], _ => rfl
  obtain ⟨eCa, MCa⟩ := hCa.fn
  have cCa : Binds K eCa ["self", "n"] [] := MCa.binds fun _ _ _ _ _ _ us hl => match us, hl with | [_, _], _ => rfl
  obtain ⟨eFs, MFs⟩ := hFs.fn
  have cFs : Binds K eFs ["self", "n"] [] := MFs.binds fun _ _ _ _ _ _ us hl => match us, hl with | [_, _], _ => rfl
  obtain ⟨eAd, MAd⟩ := hAd.fn
  have cAd : Binds K eAd ["self", "other"] [] := MAd.binds fun _ _ _ _ _ _ us hl => match us, hl with | [_, _], _ => rfl
  obtain ⟨eOr, MOr⟩ := hOr.fn
  have cOr : Binds K eOr ["self", "other"] [] := MOr.binds fun _ _ _ _ _ _ us hl => match us, hl with | [_, _], _ => rfl
  obtain ⟨eAn, MAn⟩ := hAn.fn
  have cAn : Binds K eAn ["self", "other"] [] := MAn.binds fun _ _ _ _ _ _ us hl => match us, hl with | [_, _], _ => rfl
  obtain ⟨eMu, MMu⟩ := hMu.fn
  have cMu : Binds K eMu ["self", "other"] [] := MMu.binds fun _ _ _ _ _ _ us hl => match us, hl with | [_, _], _ => rfl
  obtain ⟨eRm, MRm⟩ := hRm.fn
  have cRm : Binds K eRm ["self", "other"] [] := MRm.binds fun _ _ _ _ _ _ us hl => match us, hl with | [_, _], _ => rfl
  obtain ⟨eAf, MAf⟩ := hAf.fn
  have cAf : Binds K eAf ["self", "other"] [] := MAf.binds fun _ _ _ _ _ _ us hl => match us, hl with | [_, _], _ => rfl
  obtain ⟨eSh, MSh⟩ := hSh.fn
  have cSh : Binds K eSh ["self", "k"] [] := MSh.binds fun _ _ _ _ _ _ us hl => match us, hl with | [_, _], _ => rfl
  obtain ⟨eAb, MAb⟩ := hAb.fn
  have cAb : Binds K eAb ["self", "other"] [] := MAb.binds fun _ _ _ _ _ _ us hl => match us, hl with | [_, _], _ => rfl
  obtain ⟨eAm, MAm⟩ := hAm.fn
  have cAm : Binds K eAm ["self", "other"] [] := MAm.binds fun _ _ _ _ _ _ us hl => match us, hl with | [_, _], _ => rfl
  obtain ⟨eOv, MOv⟩ := hOv.fn
  have cOv : Binds K eOv ["self", "value"] [] := MOv.binds fun _ _ _ _ _ _ us hl => match us, hl with | [_, _], _ => rfl
  obtain ⟨eTx, MTx⟩ := hTx.fn
  have cTx : Binds K eTx ["self"] [] := MTx.binds fun _ _ _ _ _ _ us hl => match us, hl with | [_], _ => rfl
  obtain ⟨eCn, MCn⟩ := hCn.fn
  have cCn : Binds K eCn ["value"] [] := MCn.binds fun _ _ _ _ _ _ us hl => match us, hl with | [_], _ => rfl
  obtain ⟨eSs, MSs⟩ := hSs.fn
  have cSs : Binds K eSs ["many"] [] := MSs.binds fun _ _ _ _ _ _ us hl => match us, hl with | [_], _ => rfl
  obtain ⟨eSm, MSm⟩ := hSm.fn
  have kAm : KBn K eAm ["self", "other"] 1 ["other"] (fun us ws => us ++ ws) (fun vs zs => vs ++ zs) := MAm.kb 1 (fun us ws => us ++ ws) (fun r s => r.append s) fun _ _ _ _ _ _ us ws l1 l2 => match us, l1, ws, l2 with | [_], _, [_], _ => rfl
  obtain ⟨eIn, MIn⟩ := hIn.fn
  obtain ⟨eRa, MRa⟩ := hRa.fn
  obtain ⟨dG, FG⟩ := xG.fn
  obtain ⟨dN, FN⟩ := xN.fn
  obtain ⟨dM, FM⟩ := xM.fn
  have bG : Binds K dG ["self", "part"] [] := FG.binds fun _ _ _ _ _ _ us hl => match us, hl with | [_, _], _ => rfl
  have bN : Binds K dN ["self", "value"] [] := FN.binds fun _ _ _ _ _ _ us hl => match us, hl with | [_, _], _ => rfl
  have bM : Binds K dM ["self", "what", "most"] [] := FM.binds fun _ _ _ _ _ _ us hl => match us, hl with | [_, _, _], _ => rfl
  have cIn : Binds K eIn ["self", "told", "gains"] [] := by
    obtain ⟨ds, v0, b0⟩ := MIn.binds1 (ps := ["self", "told", "gains"]) 3 1 (List.cons_ne_nil _ _) rfl fun _ _ _ _ _ _ _ us its l1 l2 => match us, l1, its, l2 with | [_, _, _], _, [_], _ => ⟨_, rfl, rfl⟩
    cases v0
    exact b0
  obtain ⟨dsI, vIn, cIn1⟩ := MIn.binds1 (ps := ["self", "told", "gains"]) 2 0 (List.cons_ne_nil _ _) rfl fun _ _ _ _ _ _ _ us its l1 l2 => match us, l1, its, l2 with | [_, _], _, [_], _ => ⟨_, rfl, rfl⟩
  have cRa2 : Binds K eRa ["gain", "begin"] [] := by
    obtain ⟨ds, v0, b0⟩ := MRa.binds1 (ps := ["gain", "begin"]) 2 1 (List.cons_ne_nil _ _) rfl fun _ _ _ _ _ _ _ us its l1 l2 => match us, l1, its, l2 with | [_, _], _, [_], _ => ⟨_, rfl, rfl⟩
    cases v0
    exact b0
  obtain ⟨dsR, vRa, cRa⟩ := MRa.binds1 (ps := ["gain", "begin"]) 1 0 (List.cons_ne_nil _ _) rfl fun _ _ _ _ _ _ _ us its l1 l2 => match us, l1, its, l2 with | [_], _, [_], _ => ⟨_, rfl, rfl⟩
  obtain ⟨itsI, kIn⟩ := MIn.kbindsD (ps := ["self", "told", "gains"]) 1 ["told"] (fun us its ws => us ++ ws ++ its) (List.cons_ne_nil _ _) (fun r d s => (r.append s).append d) fun _ _ _ _ _ _ _ us its ws l1 l2 l3 => match us, l1, its, l2, ws, l3 with | [_], _, [_], _, [_], _ => ⟨_, rfl, rfl⟩
  have m_isinstance := PySem.W.mg_none_of X G z_isinstance
  have m_int := PySem.W.mg_none_of X G z_int
  have m_bool := PySem.W.mg_none_of X G z_bool
  have m_str := PySem.W.mg_none_of X G z_str
  have m_len := PySem.W.mg_none_of X G z_len
  have m_abs := PySem.W.mg_none_of X G z_abs
  have m_list := PySem.W.mg_none_of X G z_list
  have m_range := PySem.W.mg_none_of X G z_range
  have m_tuple := PySem.W.mg_none_of X G z_tuple
  have m_all := PySem.W.mg_none_of X G z_all
  have m_repr := PySem.W.mg_none_of X G z_repr
  have m_enumerate := PySem.W.mg_none_of X G z_enumerate
  have m_min := PySem.W.mg_none_of X G z_min
  have m_max := PySem.W.mg_none_of X G z_max
  have m_zip := PySem.W.mg_none_of X G z_zip
  have m_divmod := PySem.W.mg_none_of X G z_divmod
  have TT : GlbT mg := ⟨m_isinstance, m_int, m_bool, m_str, m_len⟩
  have TS : GlbS mg := ⟨m_len, m_range, m_tuple, m_list⟩
  have TV : GlbV mg := ⟨m_divmod, m_max, m_zip⟩
  have TG : Glb mg := ⟨m_int, m_abs, m_len, m_list⟩
  have TL : GlbL mg := ⟨PySem.W.mg_of X G zl, zm.imp fun _ e => PySem.W.mg_of X G e⟩
  have N : GName K mg C mc := ⟨PySem.W.mg_of X G aC, ⟨rd, ga⟩, most.imp' (fun t => .int 2000 t) fun t e => ⟨e, ⟨t, rfl⟩⟩⟩
  have GC : GCls K C := ⟨cls, nt, ng, nr⟩
  have GI : GIsi K C := ⟨cc, cs, ct, ob, kit_self, kit_sub (by decide +kernel) noInt, kit_sub (by decide +kernel) noBool⟩
  have M : Mk K C mIn := ⟨makes, aIn, tIn, kC⟩
  have OA : Has K C mAd (PySem.dunder "add") := ⟨aAd, tAd⟩
  have OO : Has K C mOr (PySem.dunder "or") := ⟨aOr, tOr⟩
  have ON : Has K C mAn (PySem.dunder "and") := ⟨aAn, tAn⟩
  have OM : Has K C mMu (PySem.dunder "mul") := ⟨aMu, tMu⟩
  have OR : Has K C mRm (dunderR "mul") := ⟨aRm, tRm⟩
  have NE : GNe K C mEq := ⟨⟨aEq, tEq⟩, ne, ob, nf⟩
  have CO : CallO K C mCa := ⟨aCa, tCa, iCa⟩
  have SI : StrIn K C mTx := ⟨aTx, tTx⟩
  have hT : ∀ H, Sq K H T0 (vI [0]) := fun H => .inr (.inr hT0)
  have isC : (PySem.W.clsIn K C).isSome = true := by
    obtain ⟨cd, hc, _⟩ := PySem.W.any_some cls.hd
    rw [hc]
    rfl
  have CGK : CG K := ⟨cs, ct⟩
  have ne5 : cG ≠ cN ∧ cG ≠ cM ∧ cN ≠ cM ∧ cT ≠ cM ∧ cG ≠ B ∧ cN ≠ B ∧ cT ≠ B := by
    simp only [List.nodup_cons, List.mem_cons, List.not_mem_nil, or_false, not_or] at ndE
    exact ⟨ndE.1.1, ndE.1.2.2.1, ndE.2.1.2.1, ndE.2.2.1.1, ndE.1.2.2.2, ndE.2.1.2.2, ndE.2.2.1.2⟩
  have HK : HdK K mg B cG cN cT cM := ⟨PySem.W.mg_of X G gB, PySem.W.mg_of X G xG.b.aC, PySem.W.mg_of X G xN.b.aC, PySem.W.mg_of X G xT.aC, PySem.W.mg_of X G xM.b.aC, m_isinstance, m_repr, xG.b.caught bB dB tyB, xN.b.caught bB dB tyB, xM.b.caught bB dB tyB, kit_self,
    (xN.b.kit xG.b ne5.2.2.2.2.1).trans (by rw [decide_eq_false ne5.1]), kit_self, (xM.b.kit xG.b ne5.2.2.2.2.1).trans (by rw [decide_eq_false ne5.2.1]), (xM.b.kit xN.b ne5.2.2.2.2.2.1).trans (by rw [decide_eq_false ne5.2.2.1]), (xM.b.kit xT ne5.2.2.2.2.2.2).trans (by rw [decide_eq_false ne5.2.2.2.1]), kit_self, xG.b.xc CGK, xN.b.xc CGK, xM.b.xc CGK, xgp, xnv, xw, xm⟩
  have allT : ∀ {Pd : String → Prop}, Pd "NoneType" → Pd "bool" → Pd "int" → Pd "str" → Pd "tuple" → Pd "list" → Pd "dict" → ∀ T ∈ odds, Pd T := fun a b c d e f g => all_odds a b c d e f g
  have oddT : ∀ T ∈ odds, OddT K C T := allT wNoneType wbool wint wstr wtuple wlist wdict
  have kT : ∀ T ∈ odds, PySem.W.kitOne K (.type T) (.ref C) = some false := fun T h => kit_of_ty (oddT T h).sub isC tyC
  refine ⟨PySem.W.fnOf "law" "law" (defArgs sLaw) (defBody sLaw) (defScope sLaw) .none kVLa docLa pmLa anLa (.ref cLa) ctLa, [(cPr, PPr), (cOt, POt), (cNu, PNu), (cTo, PTo), (cLa, PLa)], spLaw K [(PPr, qPar), (POt, qOth), (PNu, qNum), (PTo, qTol), (PLa, qLaw)], ?_, ?_, ?_, fun s v => .of_eq rfl, ?_, fun base _ _ TB => ?_⟩
  · intro p hp
    simp only [List.mem_cons, List.not_mem_nil, or_false] at hp
    rcases hp with rfl | rfl | rfl | rfl | rfl
    · exact EPr
    · exact EOt
    · exact ENu
    · exact ETo
    · exact ELa
  · intro p hp
    simp only [List.mem_cons, List.not_mem_nil, or_false] at hp
    rcases hp with rfl | rfl | rfl | rfl | rfl
    · exact noTab X hNT EPr
    · exact noTab X hNT EOt
    · exact noTab X hNT ENu
    · exact noTab X hNT ETo
    · exact noTab X hNT ELa
  · intro p hp
    simp only [List.mem_cons, List.not_mem_nil, or_false] at hp
    rcases hp with rfl | rfl | rfl | rfl | rfl
    · exact CPr
    · exact COt
    · exact CNu
    · exact CTo
    · exact CLa
  · intro H a ns hl hH hS
    refine ⟨a, ns, rfl, hS, hl, fun p hp => ?_, fun _ => rfl⟩
    simp only [List.mem_cons, List.not_mem_nil, or_false] at hp
    rcases hp with rfl | rfl | rfl | rfl | rfl
    · exact .nil (hH _ (List.mem_cons_self ..))
    · exact .nil (hH _ (List.mem_cons_of_mem _ (List.mem_cons_self ..)))
    · exact .nil (hH _ (List.mem_cons_of_mem _ (List.mem_cons_of_mem _ (List.mem_cons_self ..))))
    · exact .nil (hH _ (List.mem_cons_of_mem _ (List.mem_cons_of_mem _ (List.mem_cons_of_mem _ (List.mem_cons_self ..)))))
    · exact .nil (hH _ (List.mem_cons_of_mem _ (List.mem_cons_of_mem _ (List.mem_cons_of_mem _ (List.mem_cons_of_mem _ (List.mem_cons_self ..))))))
  have TBPr := TB (cPr, PPr) (List.mem_cons_self ..)
  have uPr : ∀ p ∈ [(PPr, qPar), (POt, qOth), (PNu, qNum), (PTo, qTol), (PLa, qLaw)], p.1 = PPr → p.2 = qPar := uniq_of (T := [(PPr, qPar), (POt, qOth), (PNu, qNum), (PTo, qTol), (PLa, qLaw)]) ndP (List.mem_cons_self ..)
  have TBOt := TB (cOt, POt) (List.mem_cons_of_mem _ (List.mem_cons_self ..))
  have uOt : ∀ p ∈ [(PPr, qPar), (POt, qOth), (PNu, qNum), (PTo, qTol), (PLa, qLaw)], p.1 = POt → p.2 = qOth := uniq_of (T := [(PPr, qPar), (POt, qOth), (PNu, qNum), (PTo, qTol), (PLa, qLaw)]) ndP (List.mem_cons_of_mem _ (List.mem_cons_self ..))
  have TBNu := TB (cNu, PNu) (List.mem_cons_of_mem _ (List.mem_cons_of_mem _ (List.mem_cons_self ..)))
  have uNu : ∀ p ∈ [(PPr, qPar), (POt, qOth), (PNu, qNum), (PTo, qTol), (PLa, qLaw)], p.1 = PNu → p.2 = qNum := uniq_of (T := [(PPr, qPar), (POt, qOth), (PNu, qNum), (PTo, qTol), (PLa, qLaw)]) ndP (List.mem_cons_of_mem _ (List.mem_cons_of_mem _ (List.mem_cons_self ..)))
  have TBTo := TB (cTo, PTo) (List.mem_cons_of_mem _ (List.mem_cons_of_mem _ (List.mem_cons_of_mem _ (List.mem_cons_self ..))))
  have uTo : ∀ p ∈ [(PPr, qPar), (POt, qOth), (PNu, qNum), (PTo, qTol), (PLa, qLaw)], p.1 = PTo → p.2 = qTol := uniq_of (T := [(PPr, qPar), (POt, qOth), (PNu, qNum), (PTo, qTol), (PLa, qLaw)]) ndP (List.mem_cons_of_mem _ (List.mem_cons_of_mem _ (List.mem_cons_of_mem _ (List.mem_cons_self ..))))
  have TBLa := TB (cLa, PLa) (List.mem_cons_of_mem _ (List.mem_cons_of_mem _ (List.mem_cons_of_mem _ (List.mem_cons_of_mem _ (List.mem_cons_self ..)))))
  have uLa : ∀ p ∈ [(PPr, qPar), (POt, qOth), (PNu, qNum), (PTo, qTol), (PLa, qLaw)], p.1 = PLa → p.2 = qLaw := uniq_of (T := [(PPr, qPar), (POt, qOth), (PNu, qNum), (PTo, qTol), (PLa, qLaw)]) ndP (List.mem_cons_of_mem _ (List.mem_cons_of_mem _ (List.mem_cons_of_mem _ (List.mem_cons_of_mem _ (List.mem_cons_self ..)))))
  have BG : GOne l.prog w K mg base "BadGrowth" "part" cG fG dG := ⟨xG.b.ox, xG.a1, xG.t1, ok_I1 xG FG ⟨rfl, rfl, rfl, by decide +kernel, rfl, by decide +kernel, by decide +kernel⟩ rfl rfl rfl (by decide +kernel) (by decide +kernel) xgp, bG, PySem.W.mg_of X G xG.b.aC⟩
  have BN : GOne l.prog w K mg base "BadNumber" "value" cN fN dN := ⟨xN.b.ox, xN.a1, xN.t1, ok_I1 xN FN ⟨rfl, rfl, rfl, by decide +kernel, rfl, by decide +kernel, by decide +kernel⟩ rfl rfl rfl (by decide +kernel) (by decide +kernel) xnv, bN, PySem.W.mg_of X G xN.b.aC⟩
  have BM : GTwo l.prog w K mg base "TooMany" "what" "most" cM fM dM := ⟨xM.b.ox, xM.a1, xM.t1, ok_I2 xM FM ⟨rfl, rfl, rfl, by decide +kernel, rfl, by decide +kernel, by decide +kernel⟩ rfl rfl rfl rfl (by decide +kernel) (by decide +kernel) (by decide +kernel) (by decide +kernel) xw xm, bM, PySem.W.mg_of X G xM.b.aC⟩
  have oInt : FnOk l.prog w K mg base CX0 1 fInt dInt ["value"] (spIsInt K) := ok_isInt FInt TT
  have oWi : FnOk l.prog w K mg base CX0 2 fWi dWi ["value", "least", "most"] (spWithin K) := ok_within FWi TT FInt bInt gInt
  have oZ : FnOk l.prog w K mg base CX0 2 fZ dZ ["value"] (spFrom0 K) := ok_from0 FZ TT FInt bInt gInt
  have oNf : FnOk l.prog w K mg base CX0 2 fNf dNf ["told", "gains"] (spNF K) := ok_NF FNf TS FLp bLp gLp FSp bSp gSp
  have oRi : FnOk l.prog w K mg base CX0 1 fRi dRi ["gains"] (spRis K) := ok_Ris FRi TS
  have oVa : FnOk l.prog w K mg base CX0 1 fVa dVa ["one", "n"] (spVal K C) := ok_Val FVa TS TV GC
  have oFi : FnOk l.prog w K mg base CX0 1 fFi dFi ["one", "many"] (spFirst K C) := ok_First FFi TS GC
  have oSu : FnOk l.prog w K mg base CX0 2 fSu dSu ["one", "other"] (spSum K C) := ok_Sum FSu TS TV TL GC FBe bBe gBe FCo bCo gCo FFi bFi gFi FPa bPa gPa
  have oAp : FnOk l.prog w K mg base CX0 3 fAp dAp ["values", "most"] (spParts K) := ok_Parts (fI := fInt) (fdI := dInt) FAp TS TT m_all oZ hZ.k bZ gZ
  have yAp : FnOk l.prog w K mg base CX0 3 fAp dAp ["values", "most"] (spPartsBad K) := bad_Parts (fI := fInt) (fdI := dInt) FAp TS TT m_all oZ hZ.k bZ gZ
  have oIn : FnOk l.prog w K mg base CX0 4 mIn eIn ["self", "told", "gains"] (spInit K C) := ok_Init MIn N GC oAp hAp.k bAp gAp oNf hNf.k bNf gNf oRi hRi.k bRi gRi
  have yIn : FnOk l.prog w K mg base (L2.CX l.prog w) 4 mIn eIn ["self", "told", "gains"] (spInitBad K cG) := bad_Init (C := C) MIn N BG oAp yAp hAp.k bAp gAp
  have oEq : FnOk l.prog w K mg base CX0 1 mEq eEq ["self", "other"] (spGEq K C) := ok_GEq MEq N GC GI TT
  have oCa : FnOk l.prog w K mg base CX0 3 mCa eCa ["self", "n"] (spGCall K C) := ok_GCall MCa oWi hWi.k bWi gWi oVa hVa.k bVa gVa
  have oAd : FnOk l.prog w K mg base CX0 6 mAd eAd ["self", "other"] (spAdd K C) := ok_Add (dvs := []) MAd N GC GI TT M oIn cIn oSu hSu.k bSu gSu
  have oBe : FnOk l.prog w K mg base CX0 1 fBe dBe ["one", "other"] (spBegin K C) := ok_Begin FBe TS TV GC
  have oCo : FnOk l.prog w K mg base CX0 1 fCo dCo ["one", "other"] (spCommon K C) := ok_Common FCo TS TL GC
  have oPa : FnOk l.prog w K mg base CX0 1 fPa dPa ["values", "many"] (spPart K) := ok_Part FPa TS
  have oGa : FnOk l.prog w K mg base CX0 2 fGa dGa ["one", "other"] (spGaps K C) := ok_Gaps FGa TV ⟨_, _, oBe, hBe.k, bBe, gBe⟩ ⟨_, _, oCo, hCo.k, bCo, gCo⟩ ⟨_, _, oFi, hFi.k, bFi, gFi⟩
  have oLe : FnOk l.prog w K mg base CX0 2 fLe dLe ["one", "other"] (spLead K C) := ok_Lead FLe TS GC ⟨_, _, oCo, hCo.k, bCo, gCo⟩
  have oLs : FnOk l.prog w K mg base CX0 3 fLs dLs ["one", "other"] (spLast K C) := ok_Last FLs TS TV m_enumerate ⟨_, _, oGa, hGa.k, bGa, gGa⟩ ⟨_, _, oLe, hLe.k, bLe, gLe⟩ ⟨_, _, oCo, hCo.k, bCo, gCo⟩
  have oOu : FnOk l.prog w K mg base CX0 4 fOu dOu ["one", "other", "is_greatest"] (spOuter K C) := ok_Outer FOu TS TV m_min TL GC ⟨_, _, oLe, hLe.k, bLe, gLe⟩ ⟨_, _, oBe, hBe.k, bBe, gBe⟩ ⟨_, _, oCo, hCo.k, bCo, gCo⟩ ⟨_, _, oLs, hLs.k, bLs, gLs⟩ ⟨_, _, oFi, hFi.k, bFi, gFi⟩ ⟨_, _, oPa, hPa.k, bPa, gPa⟩
  have oOr : FnOk l.prog w K mg base CX0 6 mOr eOr ["self", "other"] (spPk true K C) := ok_Or MOr N GC GI TT M oIn cIn ⟨_, _, oOu, hOu.k, bOu, gOu⟩
  have oAn : FnOk l.prog w K mg base CX0 6 mAn eAn ["self", "other"] (spPk false K C) := ok_And MAn N GC GI TT M oIn cIn ⟨_, _, oOu, hOu.k, bOu, gOu⟩
  have oTx : FnOk l.prog w K mg base CX0 1 mTx eTx ["self"] (spStr K C) := ok_Str MTx GC TT
  have oRa : FnOk l.prog w K mg base CX0 6 mRa eRa ["gain", "begin"] (spRamp K C) := ok_Ramp MRa N M oIn cIn oZ hZ.k bZ gZ
  have oSs : FnOk l.prog w K mg base CX0 6 mSs eSs ["many"] (spSteps K C) := ok_Steps MSs m_range N M oIn cIn oInt hInt.k bInt gInt
  have oCp : FnOk l.prog w K mg base CX0 2 fCp dCp ["one", "other"] (spCompB K C) := ok_CompB FCp TS (PySem.W.mg_of X G zg) TL.most GC oVa hVa.k bVa gVa oFi hFi.k bFi gFi oPa hPa.k bPa gPa
  have oAf : FnOk l.prog w K mg base CX0 6 mAf eAf ["self", "other"] (spAfterB K C) := ok_AfterB MAf N GC GI TT M oIn cIn oCp hCp.k bCp gCp
  have wCo : FnOk l.prog w K mg base (L2.CX l.prog w) 3 fCo dCo ["one", "other"] (spWideG K C cM) := far_Common FCo TS TL GC BM
  have wSu : FnOk l.prog w K mg base (L2.CX l.prog w) 4 fSu dSu ["one", "other"] (spWideG K C cM) := far_Sum FSu ⟨_, _, oBe, hBe.k, bBe, gBe⟩ ⟨_, _, wCo, hCo.k, bCo, gCo⟩
  have wGa : FnOk l.prog w K mg base (L2.CX l.prog w) 4 fGa dGa ["one", "other"] (spWideG K C cM) := far_Gaps FGa ⟨_, _, oBe, hBe.k, bBe, gBe⟩ ⟨_, _, wCo, hCo.k, bCo, gCo⟩
  have wLe : FnOk l.prog w K mg base (L2.CX l.prog w) 4 fLe dLe ["one", "other"] (spWideG K C cM) := far_Lead FLe ⟨_, _, wCo, hCo.k, bCo, gCo⟩
  have wFb : FnOk l.prog w K mg base (L2.CX l.prog w) 5 fFb dFb ["one", "other"] (spWideG K C cM) := far_First FFb ⟨_, _, wGa, hGa.k, bGa, gGa⟩
  have wAb : FnOk l.prog w K mg base (L2.CX l.prog w) 6 mAb eAb ["self", "other"] (spWideG K C cM) := far_Above MAb N GC GI m_isinstance ⟨_, _, wFb, hFb.k, bFb, gFb⟩
  have wAm : FnOk l.prog w K mg base (L2.CX l.prog w) 7 mAm eAm ["self", "other"] (spWideG K C cM) := far_At MAm cls ⟨aAb, tAb, hAb.k⟩ wAb cAb
  have wOu : FnOk l.prog w K mg base (L2.CX l.prog w) 5 fOu dOu ["one", "other", "is_greatest"] (spWideO K C cM) := far_Outer FOu ⟨_, _, wLe, hLe.k, bLe, gLe⟩
  have wAd : FnOk l.prog w K mg base (L2.CX l.prog w) 6 mAd eAd ["self", "other"] (spWideG K C cM) := far_Add MAd N GC GI m_isinstance ⟨_, _, wSu, hSu.k, bSu, gSu⟩
  have wOr : FnOk l.prog w K mg base (L2.CX l.prog w) 6 mOr eOr ["self", "other"] (spWideG K C cM) := far_Or MOr N GC GI m_isinstance ⟨_, _, wOu, hOu.k, bOu, gOu⟩
  have wCp : FnOk l.prog w K mg base (L2.CX l.prog w) 3 fCp dCp ["one", "other"] (spFarC K C cM) := far_Comp FCp TS (PySem.W.mg_of X G zg) TL.most GC BM ⟨_, _, oFi, hFi.k, bFi, gFi⟩
  have wAf : FnOk l.prog w K mg base (L2.CX l.prog w) 6 mAf eAf ["self", "other"] (spFarC K C cM) := far_After MAf N GC GI m_isinstance ⟨_, _, wCp, hCp.k, bCp, gCp⟩
  have lOu : FnOk l.prog w K mg base (L2.CX l.prog w) 5 fOu dOu ["one", "other", "is_greatest"] (spLateO K C cM) := late_Outer FOu TL BM ⟨_, _, oLe, hLe.k, bLe, gLe⟩ ⟨_, _, oBe, hBe.k, bBe, gBe⟩ ⟨_, _, oCo, hCo.k, bCo, gCo⟩ ⟨_, _, oLs, hLs.k, bLs, gLs⟩
  have lOr : FnOk l.prog w K mg base (L2.CX l.prog w) 6 mOr eOr ["self", "other"] (spLate K C cM) := late_Or MOr N GC GI m_isinstance ⟨_, _, lOu, hOu.k, bOu, gOu⟩
  have lAn : FnOk l.prog w K mg base (L2.CX l.prog w) 6 mAn eAn ["self", "other"] (spLate K C cM) := late_And MAn N GC GI m_isinstance ⟨_, _, lOu, hOu.k, bOu, gOu⟩
  have yAd : FnOk l.prog w K mg base (L2.CX l.prog w) 3 mAd eAd ["self", "other"] (spBadO K C cG) := bad_Add MAd N m_isinstance BG
  have yOr : FnOk l.prog w K mg base (L2.CX l.prog w) 3 mOr eOr ["self", "other"] (spBadO K C cG) := bad_Or MOr N m_isinstance BG
  have yAn : FnOk l.prog w K mg base (L2.CX l.prog w) 3 mAn eAn ["self", "other"] (spBadO K C cG) := bad_And MAn N m_isinstance BG
  have yAf : FnOk l.prog w K mg base (L2.CX l.prog w) 3 mAf eAf ["self", "other"] (spBadO K C cG) := bad_After MAf N m_isinstance BG
  have yAb : FnOk l.prog w K mg base (L2.CX l.prog w) 3 mAb eAb ["self", "other"] (spBadO K C cG) := bad_Above MAb N m_isinstance BG
  have yAm : FnOk l.prog w K mg base (L2.CX l.prog w) 4 mAm eAm ["self", "other"] (spBadA K C cG) := bad_At MAm cls ⟨aAb, tAb, hAb.k⟩ yAb cAb
  have yCa : FnOk l.prog w K mg base (L2.CX l.prog w) 3 mCa eCa ["self", "n"] (spBadW K cN 0 e40) := bad_Call (C := C) MCa BN oWi hWi.k bWi gWi
  have yOv : FnOk l.prog w K mg base (L2.CX l.prog w) 3 mOv eOv ["self", "value"] (spBadW K cN 0 e40) := bad_Over (C := C) MOv BN oWi hWi.k bWi gWi
  have yFs : FnOk l.prog w K mg base (L2.CX l.prog w) 3 mFs eFs ["self", "n"] (spBadW K cN 0 2000) := bad_First MFs N BN oWi hWi.k bWi gWi
  have ySh : FnOk l.prog w K mg base (L2.CX l.prog w) 3 mSh eSh ["self", "k"] (spBadW K cN 0 2000) := bad_Shift MSh N BN oWi hWi.k bWi gWi
  have yMu : FnOk l.prog w K mg base (L2.CX l.prog w) 3 mMu eMu ["self", "other"] (spBadW K cN 0 e6) := bad_Mul (C := C) MMu BN oWi hWi.k bWi gWi
  have yRm : FnOk l.prog w K mg base (L2.CX l.prog w) 3 mRm eRm ["self", "other"] (spBadW K cN 0 e6) := bad_RMul (C := C) MRm BN oWi hWi.k bWi gWi
  have yRa : FnOk l.prog w K mg base (L2.CX l.prog w) 3 mRa eRa ["gain", "begin"] (spBadR K cN) := bad_Ramp MRa BN oZ hZ.k bZ gZ
  have yCn : FnOk l.prog w K mg base (L2.CX l.prog w) 3 mCn eCn ["value"] (spBadC K cN) := bad_Const MCn BN oZ hZ.k bZ gZ
  have ySs : FnOk l.prog w K mg base (L2.CX l.prog w) 3 mSs eSs ["many"] (spBadS K cN) := bad_Steps MSs N BN oInt hInt.k bInt gInt
  have ySm : FnR l.prog w K mg base (L2.CX l.prog w) 3 mSm (spBadSumA K C cG) := bad_Summed MSm N m_isinstance m_enumerate kit_self BG
  have oDr : FnOk l.prog w K mg base CX0 1 fDr dDr ["_law_pen_here", "_law_many"] (spDraw) := ok_draw FDr TG
  have oPi : FnOk l.prog w K mg base CX0 2 fPi dPi ["_law_pen_here", "_law_some"] (spPick) := ok_pick FPi TG FDr bDr gDr
  have oPl : FnOk l.prog w K mg base CX0 3 fPl dPl ["_law_pen_here", "_law_is_rising"] (spPlain K) := ok_Plain FPl m_range oDr hDr.k bDr gDr oPi hPi.k bPi gPi
  have oPe : FnOk l.prog w K mg base CX0 1 fPe dPe ["_law_script"] (spPen K) := ok_pen FPe TG
  rcases vIn with _ | ⟨r, r0⟩
  cases r0
  cases r
  rcases vRa with _ | ⟨rR, r0⟩
  cases r0
  have bs : ∀ (op : String), (∃ rc, PySem.W.findIn K (.ref C) (dunderR op) = some rc ∧ (rc = none ∨ ∃ g : Addr, rc = some (.ref g))) → ∀ T, PySem.W.subIn K (.type T) (.ref C) = some false → (∃ fo, PySem.W.findIn K (.type T) (PySem.dunder op) = some fo) → (∃ fo, PySem.W.findIn K (.type T) (dunderR op) = some fo) → BesideT K C op T := fun op rf T sub i1 i2 => ⟨first, rf, i1, i2, sub⟩
  have JO : OthK l.prog w K mg base C cG mc mAd mOr mAn mAf mAb mAm mSm pSm fPi eAf eAb eAm dPi := ⟨kT, fun T h => bs _ rAd T (oddT T h).sub (oddT T h).a1 (oddT T h).a2, fun T h => bs _ rOr T (oddT T h).sub (oddT T h).o1 (oddT T h).o2, fun T h => bs _ rAn T (oddT T h).sub (oddT T h).n1 (oddT T h).n2,
    OA, OO, ON, fnR0 yAd cAd, fnR0 yOr cOr, fnR0 yAn cAn, ⟨aAf, tAf, hAf.k⟩, yAf, cAf, ⟨aAb, tAb, hAb.k⟩, yAb, cAb, ⟨aAm, tAm, hAm.k⟩, yAm, kAm, sSm, ySm, oPi, hPi.k, bPi, gPi⟩
  have JN : NumK l.prog w K mg base C cN mc mCa mOv mFs mSh mMu mRm mRa pRa mCn pCn mSs pSs fPi eOv eFs eSh dPi := ⟨CO, fnR0 yCa cCa, ⟨aOv, tOv, hOv.k⟩, yOv, cOv, ⟨aFs, tFs, hFs.k⟩, yFs, cFs, ⟨aSh, tSh, hSh.k⟩, ySh, cSh, first, OM, OR,
    fun T h => bs _ rMu T (oddT T h).sub (oddT T h).m1 (oddT T h).m2, allT (fun _ _ => vNoneType) (fun _ z => absurd rfl z) (fun z _ => absurd rfl z) (fun _ _ => vstr) (fun _ _ => vtuple) (fun _ _ => vlist) (fun _ _ => vdict), noInt, noBool, fnR0 yMu cMu, fnR0 yRm cRm, sRa, fnR0 yRa cRa2, sCn, fnR0 yCn cCn, sSs, fnR0 ySs cSs, oPi, hPi.k, bPi, gPi⟩
  have JG : GrK l.prog w K mg base C cM mc mIn T0 mAf mOr mAn mAd mRa pRa mSs pSs mEq eIn eAf := ⟨M, oIn, cIn, cIn1, hT, ⟨aAf, tAf, hAf.k⟩, oAf, wAf, cAf, first, OO, fnR0 oOr cOr, fnR0 lOr cOr, fnR0 wOr cOr, ON, fnR0 oAn cAn, fnR0 lAn cAn, OA, fnR0 oAd cAd, fnR0 wAd cAd, sRa, oRa.raw cRa (.cons rR .nil), fnR0 oRa cRa2, sSs, fnR0 oSs cSs, NE, fnR0 oEq cEq⟩
  have oPr := ok_Par (T := [(PPr, qPar), (POt, qOth), (PNu, qNum), (PTo, qTol), (PLa, qLaw)]) FPr TBPr (List.mem_cons_self ..) uPr N HK FHd bHd gHd M yIn cIn kIn oPi hPi.k bPi gPi
  have oOt := ok_Oth (T := [(PPr, qPar), (POt, qOth), (PNu, qNum), (PTo, qTol), (PLa, qLaw)]) FOt TBOt (List.mem_cons_of_mem _ (List.mem_cons_self ..)) uOt N GC GI HK FHd bHd gHd JO
  have oNu := ok_Num (T := [(PPr, qPar), (POt, qOth), (PNu, qNum), (PTo, qTol), (PLa, qLaw)]) FNu TBNu (List.mem_cons_of_mem _ (List.mem_cons_of_mem _ (List.mem_cons_self ..))) uNu N GC m_repr HK FHd bHd gHd JN
  have oTo := ok_Tol (T := [(PPr, qPar), (POt, qOth), (PNu, qNum), (PTo, qTol), (PLa, qLaw)]) FTo TBTo (List.mem_cons_of_mem _ (List.mem_cons_of_mem _ (List.mem_cons_of_mem _ (List.mem_cons_self ..)))) uTo N GC TS HK FHd bHd gHd JG
  exact ok_Law (T := [(PPr, qPar), (POt, qOth), (PNu, qNum), (PTo, qTol), (PLa, qLaw)]) FLa TBLa (List.mem_cons_of_mem _ (List.mem_cons_of_mem _ (List.mem_cons_of_mem _ (List.mem_cons_of_mem _ (List.mem_cons_self ..))))) uLa N GC GI TS TT HK FHd bHd gHd JG ⟨SI, fnR0 oTx cTx, ⟨aAm, tAm, hAm.k⟩, wAm, cAm, sSm, ySm, kT _ (List.mem_cons_self ..), CO, fnR0 oCa cCa, oPe, hPe.k, bPe, gPe, oPl, hPl.k, bPl, gPl, oPr, hPr.k, bPr, gPr, oOt, hOt.k, bOt, gOt, oNu, hNu.k, bNu, gNu, oTo, hTo.k, bTo, gTo⟩
end K02
open PySem PySem.W PyProof.Rows
set_option maxRecDepth 100000 in
set_option maxHeartbeats 0 in
theorem PySem.Challenge.cw_layerpost_k02_growths_refused_holds : PySem.Challenge.rw_layerpost_k02_growths_refused.Holds := by
  w_on; o_law; k_head; (case hw => w_witness2)
  k_fill
  refine L2.walkT_of (l := PySem.Challenge.rw_layerpost_k02_growths_refused) (n := 63) (k := 12) (x := "_law_script") (xs := ["_law_parts_right", "_law_others_right", "_law_numbers_right", "_law_told_right", "law"]) rfl (by decide) rfl ⟨rfl, by decide, by decide⟩ ?R (fun w h Y => PySem.W.km_in_of Y) ?F
  case R =>
    intro y hy
    simp only [List.mem_cons, List.not_mem_nil, or_false] at hy
    rcases hy with rfl | rfl | rfl | rfl | rfl <;> decide +kernel
  case F =>
    intro w mg fa h _ KX G hmg hTab
    refine' K02.all_mk KX G hmg hTab ?qaInt ?qhInt ?qaWi ?qhWi ?qaZ ?qhZ ?qaLp ?qhLp ?qaSp ?qhSp ?qaNf ?qhNf ?qaRi ?qhRi ?qaVa ?qhVa ?qaFi ?qhFi ?qaPa ?qhPa ?qaCo ?qhCo ?qaBe ?qhBe ?qaSu ?qhSu ?qaGa ?qhGa ?qaLe ?qhLe ?qaFb ?qhFb ?qaLs ?qhLs ?qaOu ?qhOu ?qaCp ?qhCp ?qaAp ?qhAp ?qaPe ?qhPe ?qaDr ?qhDr ?qaPi ?qhPi ?qaPl ?qhPl ?qaHd ?qhHd ?qaPr ?qhPr ?qaOt ?qhOt ?qaNu ?qhNu ?qaTo ?qhTo ?qaLa ?qhLa ?qndP ?qhNT ?qaC ?qrd ?qga ?qmost ?qcls ?qnt ?qng ?qnr ?qmakes ?qkC ?qaIn ?qtIn ?qhIn ?qhT0 ?qaEq ?qtEq ?qhEq ?qaCa ?qtCa ?qhCa ?qaFs ?qtFs ?qhFs ?qaAd ?qtAd ?qhAd ?qaOr ?qtOr ?qhOr ?qaAn ?qtAn ?qhAn ?qaMu ?qtMu ?qhMu ?qaRm ?qtRm ?qhRm ?qaAf ?qtAf ?qhAf ?qaSh ?qtSh ?qhSh ?qaAb ?qtAb ?qhAb ?qaAm ?qtAm ?qhAm ?qaOv ?qtOv ?qhOv ?qaTx ?qtTx ?qhTx ?qsCn ?qhCn ?qsSs ?qhSs ?qsSm ?qhSm ?qsRa ?qhRa ?qiCa ?qfirst ?qnoInt ?qnoBool ?qrAd ?qrOr ?qrAn ?qrMu ?qwNoneType ?qvNoneType ?qwbool ?qwint ?qwstr ?qvstr ?qwtuple ?qvtuple ?qwlist ?qvlist ?qwdict ?qvdict ?qtyC ?qne ?qob ?qnf ?qcc ?qcs ?qct ?qgB ?qbB ?qdB ?qtyB ?qxG ?qxN ?qxT ?qxM ?qxgp ?qxnv ?qxw ?qxm ?qndE ?qzl ?qzg ?qzm ?qz_isinstance ?qz_int ?qz_bool ?qz_str ?qz_len ?qz_abs ?qz_list ?qz_range ?qz_tuple ?qz_all ?qz_repr ?qz_enumerate ?qz_min ?qz_max ?qz_zip ?qz_divmod
    (case qaInt => k_is)
    (case qhInt => exact ⟨⟨_, _, _, _, _, _, _, _, _, by k_is, by k_is⟩, by k_is⟩)
    (case qaWi => k_is)
    (case qhWi => exact ⟨⟨_, _, _, _, _, _, _, _, _, by k_is, by k_is⟩, by k_is⟩)
    (case qaZ => k_is)
    (case qhZ => exact ⟨⟨_, _, _, _, _, _, _, _, _, by k_is, by k_is⟩, by k_is⟩)
    (case qaLp => k_is)
    (case qhLp => exact ⟨⟨_, _, _, _, _, _, _, _, _, by k_is, by k_is⟩, by k_is⟩)
    (case qaSp => k_is)
    (case qhSp => exact ⟨⟨_, _, _, _, _, _, _, _, _, by k_is, by k_is⟩, by k_is⟩)
    (case qaNf => k_is)
    (case qhNf => exact ⟨⟨_, _, _, _, _, _, _, _, _, by k_is, by k_is⟩, by k_is⟩)
    (case qaRi => k_is)
    (case qhRi => exact ⟨⟨_, _, _, _, _, _, _, _, _, by k_is, by k_is⟩, by k_is⟩)
    (case qaVa => k_is)
    (case qhVa => exact ⟨⟨_, _, _, _, _, _, _, _, _, by k_is, by k_is⟩, by k_is⟩)
    (case qaFi => k_is)
    (case qhFi => exact ⟨⟨_, _, _, _, _, _, _, _, _, by k_is, by k_is⟩, by k_is⟩)
    (case qaPa => k_is)
    (case qhPa => exact ⟨⟨_, _, _, _, _, _, _, _, _, by k_is, by k_is⟩, by k_is⟩)
    (case qaCo => k_is)
    (case qhCo => exact ⟨⟨_, _, _, _, _, _, _, _, _, by k_is, by k_is⟩, by k_is⟩)
    (case qaBe => k_is)
    (case qhBe => exact ⟨⟨_, _, _, _, _, _, _, _, _, by k_is, by k_is⟩, by k_is⟩)
    (case qaSu => k_is)
    (case qhSu => exact ⟨⟨_, _, _, _, _, _, _, _, _, by k_is, by k_is⟩, by k_is⟩)
    (case qaGa => k_is)
    (case qhGa => exact ⟨⟨_, _, _, _, _, _, _, _, _, by k_is, by k_is⟩, by k_is⟩)
    (case qaLe => k_is)
    (case qhLe => exact ⟨⟨_, _, _, _, _, _, _, _, _, by k_is, by k_is⟩, by k_is⟩)
    (case qaFb => k_is)
    (case qhFb => exact ⟨⟨_, _, _, _, _, _, _, _, _, by k_is, by k_is⟩, by k_is⟩)
    (case qaLs => k_is)
    (case qhLs => exact ⟨⟨_, _, _, _, _, _, _, _, _, by k_is, by k_is⟩, by k_is⟩)
    (case qaOu => k_is)
    (case qhOu => exact ⟨⟨_, _, _, _, _, _, _, _, _, by k_is, by k_is⟩, by k_is⟩)
    (case qaCp => k_is)
    (case qhCp => exact ⟨⟨_, _, _, _, _, _, _, _, _, by k_is, by k_is⟩, by k_is⟩)
    (case qaAp => k_is)
    (case qhAp => exact ⟨⟨_, _, _, _, _, _, _, _, _, by k_is, by k_is⟩, by k_is⟩)
    (case qaPe => k_is)
    (case qhPe => exact ⟨⟨_, _, _, _, _, _, _, _, _, by k_is, by k_is⟩, by k_is⟩)
    (case qaDr => k_is)
    (case qhDr => exact ⟨⟨_, _, _, _, _, _, _, _, _, by k_is, by k_is⟩, by k_is⟩)
    (case qaPi => k_is)
    (case qhPi => exact ⟨⟨_, _, _, _, _, _, _, _, _, by k_is, by k_is⟩, by k_is⟩)
    (case qaPl => k_is)
    (case qhPl => exact ⟨⟨_, _, _, _, _, _, _, _, _, by k_is, by k_is⟩, by k_is⟩)
    (case qaHd => k_is)
    (case qhHd => exact ⟨⟨_, _, _, _, _, _, _, _, _, by k_is, by k_is⟩, by k_is⟩)
    (case qaPr => k_is)
    (case qhPr => exact ⟨⟨_, _, _, _, _, _, _, _, by k_is, by k_is⟩, by k_is, ⟨_, _, _, _, by k_is, rfl⟩⟩)
    (case qaOt => k_is)
    (case qhOt => exact ⟨⟨_, _, _, _, _, _, _, _, by k_is, by k_is⟩, by k_is, ⟨_, _, _, _, by k_is, rfl⟩⟩)
    (case qaNu => k_is)
    (case qhNu => exact ⟨⟨_, _, _, _, _, _, _, _, by k_is, by k_is⟩, by k_is, ⟨_, _, _, _, by k_is, rfl⟩⟩)
    (case qaTo => k_is)
    (case qhTo => exact ⟨⟨_, _, _, _, _, _, _, _, by k_is, by k_is⟩, by k_is, ⟨_, _, _, _, by k_is, rfl⟩⟩)
    (case qaLa => k_is)
    (case qhLa => exact ⟨⟨_, _, _, _, _, _, _, _, by k_is, by k_is⟩, by k_is, ⟨_, _, _, _, by k_is, rfl⟩⟩)
    (case qndP => decide +kernel)
    (case qhNT => kernel_rfl)
    (case qaC => k_is)
    (case qrd => exact (show PySem.W.readsIn _ _ (.type "type") = true by k_is))
    (case qga => k_is)
    (case qmost => exact ⟨_, by k_is⟩)
    (case qcls => exact ⟨by k_is, by k_is, by k_is, by k_is⟩)
    (case qnt => exact (by unfold L2.NoAttr; k_is))
    (case qng => exact (by unfold L2.NoAttr; k_is))
    (case qnr => exact (by unfold L2.NoAttr; k_is))
    (case qmakes => k_is)
    (case qkC => k_is)
    (case qaIn => k_is)
    (case qtIn => k_is)
    (case qhIn => exact ⟨⟨_, _, _, _, _, _, _, _, _, _, by k_is, by k_is, .inr ⟨by simp, _, _, _, _, rfl, by k_is, rfl, .cons rfl .nil⟩⟩, by k_is⟩)
    (case qhT0 => exact ⟨_, _, _, by k_is, rfl, rfl, by decide, .cons ⟨_, rfl⟩ .nil⟩)
    (case qaEq => k_is)
    (case qtEq => k_is)
    (case qhEq => exact ⟨⟨_, _, _, _, _, _, _, _, _, by k_is, by k_is⟩, by k_is⟩)
    (case qaCa => k_is)
    (case qtCa => k_is)
    (case qhCa => exact ⟨⟨_, _, _, _, _, _, _, _, _, by k_is, by k_is⟩, by k_is⟩)
    (case qaFs => k_is)
    (case qtFs => k_is)
    (case qhFs => exact ⟨⟨_, _, _, _, _, _, _, _, _, by k_is, by k_is⟩, by k_is⟩)
    (case qaAd => k_is)
    (case qtAd => k_is)
    (case qhAd => exact ⟨⟨_, _, _, _, _, _, _, _, _, by k_is, by k_is⟩, by k_is⟩)
    (case qaOr => k_is)
    (case qtOr => k_is)
    (case qhOr => exact ⟨⟨_, _, _, _, _, _, _, _, _, by k_is, by k_is⟩, by k_is⟩)
    (case qaAn => k_is)
    (case qtAn => k_is)
    (case qhAn => exact ⟨⟨_, _, _, _, _, _, _, _, _, by k_is, by k_is⟩, by k_is⟩)
    (case qaMu => k_is)
    (case qtMu => k_is)
    (case qhMu => exact ⟨⟨_, _, _, _, _, _, _, _, _, by k_is, by k_is⟩, by k_is⟩)
    (case qaRm => k_is)
    (case qtRm => k_is)
    (case qhRm => exact ⟨⟨_, _, _, _, _, _, _, _, _, by k_is, by k_is⟩, by k_is⟩)
    (case qaAf => k_is)
    (case qtAf => k_is)
    (case qhAf => exact ⟨⟨_, _, _, _, _, _, _, _, _, by k_is, by k_is⟩, by k_is⟩)
    (case qaSh => k_is)
    (case qtSh => k_is)
    (case qhSh => exact ⟨⟨_, _, _, _, _, _, _, _, _, by k_is, by k_is⟩, by k_is⟩)
    (case qaAb => k_is)
    (case qtAb => k_is)
    (case qhAb => exact ⟨⟨_, _, _, _, _, _, _, _, _, by k_is, by k_is⟩, by k_is⟩)
    (case qaAm => k_is)
    (case qtAm => k_is)
    (case qhAm => exact ⟨⟨_, _, _, _, _, _, _, _, _, by k_is, by k_is⟩, by k_is⟩)
    (case qaOv => k_is)
    (case qtOv => k_is)
    (case qhOv => exact ⟨⟨_, _, _, _, _, _, _, _, _, by k_is, by k_is⟩, by k_is⟩)
    (case qaTx => k_is)
    (case qtTx => k_is)
    (case qhTx => exact ⟨⟨_, _, _, _, _, _, _, _, _, by k_is, by k_is⟩, by k_is⟩)
    (case qsCn => exact ⟨by k_is, ⟨_, by k_is⟩, by k_is⟩)
    (case qhCn => exact ⟨⟨_, _, _, _, _, _, _, _, _, by k_is, by k_is⟩, by k_is⟩)
    (case qsSs => exact ⟨by k_is, ⟨_, by k_is⟩, by k_is⟩)
    (case qhSs => exact ⟨⟨_, _, _, _, _, _, _, _, _, by k_is, by k_is⟩, by k_is⟩)
    (case qsSm => exact ⟨by k_is, ⟨_, by k_is⟩, by k_is⟩)
    (case qhSm => exact ⟨⟨_, _, _, _, _, _, _, _, _, by k_is, by k_is⟩, by k_is⟩)
    (case qsRa => exact ⟨by k_is, ⟨_, by k_is⟩, by k_is⟩)
    (case qhRa => exact ⟨⟨_, _, _, _, _, _, _, _, _, _, by k_is, by k_is, .inr ⟨by simp, _, _, _, _, rfl, by k_is, rfl, .cons ⟨_, rfl⟩ .nil⟩⟩, by k_is⟩)
    (case qiCa => k_is)
    (case qfirst => k_is)
    (case qnoInt => k_is)
    (case qnoBool => k_is)
    (case qrAd => exact ⟨_, by k_is, .inl rfl⟩)
    (case qrOr => exact ⟨_, by k_is, .inl rfl⟩)
    (case qrAn => exact ⟨_, by k_is, .inl rfl⟩)
    (case qrMu => exact ⟨_, by k_is, .inr ⟨_, rfl⟩⟩)
    (case qwNoneType => exact ⟨⟨_, by k_is⟩, ⟨_, by k_is⟩, ⟨_, by k_is⟩, ⟨_, by k_is⟩, ⟨_, by k_is⟩, ⟨_, by k_is⟩, ⟨_, by k_is⟩, ⟨_, by k_is⟩, by k_is⟩)
    (case qvNoneType => exact ⟨_, _, by k_is, by k_is, by decide +kernel⟩)
    (case qwbool => exact ⟨⟨_, by k_is⟩, ⟨_, by k_is⟩, ⟨_, by k_is⟩, ⟨_, by k_is⟩, ⟨_, by k_is⟩, ⟨_, by k_is⟩, ⟨_, by k_is⟩, ⟨_, by k_is⟩, by k_is⟩)
    (case qwint => exact ⟨⟨_, by k_is⟩, ⟨_, by k_is⟩, ⟨_, by k_is⟩, ⟨_, by k_is⟩, ⟨_, by k_is⟩, ⟨_, by k_is⟩, ⟨_, by k_is⟩, ⟨_, by k_is⟩, by k_is⟩)
    (case qwstr => exact ⟨⟨_, by k_is⟩, ⟨_, by k_is⟩, ⟨_, by k_is⟩, ⟨_, by k_is⟩, ⟨_, by k_is⟩, ⟨_, by k_is⟩, ⟨_, by k_is⟩, ⟨_, by k_is⟩, by k_is⟩)
    (case qvstr => exact ⟨_, _, by k_is, by k_is, by decide +kernel⟩)
    (case qwtuple => exact ⟨⟨_, by k_is⟩, ⟨_, by k_is⟩, ⟨_, by k_is⟩, ⟨_, by k_is⟩, ⟨_, by k_is⟩, ⟨_, by k_is⟩, ⟨_, by k_is⟩, ⟨_, by k_is⟩, by k_is⟩)
    (case qvtuple => exact ⟨_, _, by k_is, by k_is, by decide +kernel⟩)
    (case qwlist => exact ⟨⟨_, by k_is⟩, ⟨_, by k_is⟩, ⟨_, by k_is⟩, ⟨_, by k_is⟩, ⟨_, by k_is⟩, ⟨_, by k_is⟩, ⟨_, by k_is⟩, ⟨_, by k_is⟩, by k_is⟩)
    (case qvlist => exact ⟨_, _, by k_is, by k_is, by decide +kernel⟩)
    (case qwdict => exact ⟨⟨_, by k_is⟩, ⟨_, by k_is⟩, ⟨_, by k_is⟩, ⟨_, by k_is⟩, ⟨_, by k_is⟩, ⟨_, by k_is⟩, ⟨_, by k_is⟩, ⟨_, by k_is⟩, by k_is⟩)
    (case qvdict => exact ⟨_, _, by k_is, by k_is, by decide +kernel⟩)
    (case qtyC => k_is)
    (case qne => k_is)
    (case qob => k_is)
    (case qnf => k_is)
    (case qcc => k_is)
    (case qcs => k_is)
    (case qct => k_is)
    (case qgB => k_is)
    (case qbB => k_is)
    (case qdB => k_is)
    (case qtyB => k_is)
    (case qxG => exact ⟨⟨by k_is, ⟨_, _, _, _, _, _, _, _, _, _, _, _, _, _, by k_is⟩, by k_is, by k_is, by k_is, by k_is, by k_is, by k_is⟩, by k_is, ⟨_, _, _, _, _, _, _, _, _, by k_is, by k_is⟩, by k_is, by k_is⟩)
    (case qxN => exact ⟨⟨by k_is, ⟨_, _, _, _, _, _, _, _, _, _, _, _, _, _, by k_is⟩, by k_is, by k_is, by k_is, by k_is, by k_is, by k_is⟩, by k_is, ⟨_, _, _, _, _, _, _, _, _, by k_is, by k_is⟩, by k_is, by k_is⟩)
    (case qxT => exact ⟨by k_is, ⟨_, _, _, _, _, _, _, _, _, _, _, _, _, _, by k_is⟩, by k_is, by k_is, by k_is, by k_is, by k_is, by k_is⟩)
    (case qxM => exact ⟨⟨by k_is, ⟨_, _, _, _, _, _, _, _, _, _, _, _, _, _, by k_is⟩, by k_is, by k_is, by k_is, by k_is, by k_is, by k_is⟩, by k_is, ⟨_, _, _, _, _, _, _, _, _, by k_is, by k_is⟩, by k_is, by k_is⟩)
    (case qxgp => k_is)
    (case qxnv => k_is)
    (case qxw => k_is)
    (case qxm => k_is)
    (case qndE => decide +kernel)
    (case qzl => k_is)
    (case qzg => k_is)
    (case qzm => exact ⟨_, by k_is⟩)
    (case qz_isinstance => k_is)
    (case qz_int => k_is)
    (case qz_bool => k_is)
    (case qz_str => k_is)
    (case qz_len => k_is)
    (case qz_abs => k_is)
    (case qz_list => k_is)
    (case qz_range => k_is)
    (case qz_tuple => k_is)
    (case qz_all => k_is)
    (case qz_repr => k_is)
    (case qz_enumerate => k_is)
    (case qz_min => k_is)
    (case qz_max => k_is)
    (case qz_zip => k_is)
    (case qz_divmod => k_is)
