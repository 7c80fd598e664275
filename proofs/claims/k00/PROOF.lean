import PyProof.Rows.All
import Wide.All
import OpenK.AllK
import Wide.FinOn
import HandS.ForMost
import HandS.ExcInit
import HandS.ExcField
import HandS.ExcValue
import HandS.IsInst
import HandS.Codes
import KE.KExcIs
import HandS.Defaults
import PyProof.ReprRoads
import HandS.Evl
import HandS.Wide
import HandS.StrMore
import HandS.TupLe
import PyProof.StrOps2
import PySem.Challenge.RW_layerpost_k00_errors_and_kinds_of_values
set_option Elab.async false
set_option linter.all false
set_option maxRecDepth 100000
set_option maxHeartbeats 8000000
/-! An own error class over ValueError (at any depth) called with keywords: the same road as the library's positional call, with the keywords carried. -/
namespace PySem
namespace XKw
open PySem.W PySem.Calls PyProof.Rows PySem.HandSPX
/-- what the heap says of the class at C: its class object, its tail of bases like ValueError's -/
structure Kls (hp : Heap) (C : Addr) (tail : List Value) : Prop where
  obj : ∃ nm q N bs sn sub ab col dd k0 k1 k2 k3 k5, hp.get? C = some (excClassObj nm q C N bs tail true sn sub ab col dd k0 k1 k2 k3 k5 "ValueError.__new__")
  like : refsVE tail = true
section
variable {hp : Heap} {C : Addr} {tail : List Value}
theorem Kls.mem (c : Kls hp C tail) (T : String) (b : Bool) (e : [Value.type "ValueError", .type "Exception", .type "BaseException", .type "object"].contains (.type T) = b) : (Value.ref C :: tail).contains (.type T) = b := by
  have z : (Value.ref C :: tail).contains (.type T) = tail.contains (.type T) := by rw [List.contains_cons]; rfl
  exact (z.trans (refsVE_contains T tail c.like)).trans e
theorem Kls.grow {hp' : Heap} (c : Kls hp C tail) (k : ∀ b o, hp.get? b = some o → hp'.get? b = some o) : Kls hp' C tail := by
  obtain ⟨⟨a1, a2, a3, a4, a5, a6, a7, a8, a9, b1, b2, b3, b4, b5, e⟩, l⟩ := c
  exact ⟨⟨a1, a2, a3, a4, a5, a6, a7, a8, a9, b1, b2, b3, b4, b5, k _ _ e⟩, l⟩
end
section
variable {prog : Program} {w : World} {A : Around} {hp : Heap} {gs : Array GenState} {dr : Drawn} {tk : Nat} {os : OsState} {C fI : Addr} {tail ps : List Value} {kws : List (Str × Value)} {R : Result → Shared → Prop} {E : Value → Shared → Prop}
/-- the heap behind __new__: the tuple of the positional arguments, then the error -/
abbrev after (hp : Heap) (C : Addr) (ps : List Value) : Heap := (hp.push (W.kdv_tup ps)).push (excO C hp.objs.size)
theorem after_old {b : Addr} {o : Obj} (e : hp.get? b = some o) : (after hp C ps).get? b = some o := Heap.get?_push_of_some _ (Heap.get?_push_of_some _ e)
theorem after_new : (after hp C ps).get? (hp.objs.size + 1) = some (excO C hp.objs.size) := by
  unfold after
  heap_get
/-- ValueError.__new__(C, ..): nothing is refused, whatever the keywords -/
theorem new_let {M : Model} {Q : Unit → Shared → Prop} (c : Kls hp C tail) (go : Q () ⟨hp, gs, dr, tk, os⟩) : wpAny M A (checkBuiltinCall "ValueError.__new__" ⟨.ref C :: ps, kws⟩) Q E ⟨hp, gs, dr, tk, os⟩ := by
  have V := F.excBase_ValueError
  have isVE := c.mem "ValueError" true (by decide)
  obtain ⟨⟨_, _, _, _, _, _, _, _, _, _, _, _, _, _, at_⟩, _⟩ := c
  have none_starred := V.noStar
  simp only [V.newKind, checkBuiltinCall, V.newRow, V.newSplit]
  repeat (first
    | (refine wpAny_isSubtype_exc at_ ?_; rw [isVE])
    | refine wpAny_staticBase_exc at_ ?_
    | refine wpAny_madeBy_exc at_ ?_
    | refine wpAny_loadPart_at at_ ?_
    | simp only [Bool.false_eq_true, bne_self_eq_false, if_false]
    | wp_step)
  exact go
/-- .. and it lays the tuple and the error -/
theorem new_lays (c : Kls hp C tail) (few : ps.length ≤ sizeLine) (go : R (.ok (.ret (.ref (hp.objs.size + 1)))) ⟨after hp C ps, gs, dr, tk, os⟩) :
    codeAny (model prog w) A (.builtin "ValueError.__new__" ⟨.ref C :: ps, kws⟩) R ⟨hp, gs, dr, tk, os⟩ := by
  have V := F.excBase_ValueError
  have ends := V.ends
  have isVE := c.mem "ValueError" true (by decide)
  have isAE := c.mem "AttributeError" false (by decide)
  have isNE := c.mem "NameError" false (by decide)
  obtain ⟨⟨_, _, _, _, _, _, _, _, _, _, _, _, _, _, at_⟩, _⟩ := c
  refine codeAny_builtinAt V.entry (wpAt_bind ?_)
  show wpAt _ _ _ (stack >>= fun _ => _) _ _ _
  refine wpAt_bind (wpAt_stack fun _ _ => wpAt_of_wpAny ?_)
  wp_walk
  refine wpAt_of_wpAny ?_
  rw [V.owner]
  repeat (first
    | (with_reducible refine wpAny_isSubtype_exc at_ ?_; first | rw [isAE] | rw [isNE] | rw [isVE])
    | with_reducible refine wpAny_loadPart_at at_ ?_
    | with_reducible refine wpAny_madeHere_exc V.canon at_ ?_
    | wp_step)
  show R (.ok (.ret (.ref (hp.push _).objs.size))) _
  rw [Heap.size_push]
  exact go
/-- type.__call__(C, ..): __new__, then C's own __init__ with all that was handed in -/
theorem type_makes {Q : Fin → Shared → Prop} (c : Kls hp C tail) (few : ps.length ≤ sizeLine) (look : W.Looks (model prog w) hp (typeLookup (.ref C) "__init__") (some (.ref fI))) (bind : ∀ x, W.Looks (model prog w) hp (bindSpecial (.ref fI) x) (.ref fI, [x]))
    (init : codeAny (model prog w) A (.call (.ref fI) ⟨.ref (hp.objs.size + 1) :: ps, kws⟩)
      (fun r s => match r with | .error e => E e s | .ok (.ret v) => v = .none ∧ Q (.done (.ret (.ref (hp.objs.size + 1)))) s | .ok _ => False) ⟨after hp C ps, gs, dr, tk, os⟩) :
    wpAny (model prog w) A (Builtin.«type.__call__» ⟨.ref C :: ps, kws⟩) Q E ⟨hp, gs, dr, tk, os⟩ := by
  have c' := c.grow (hp' := after hp C ps) fun _ _ => after_old
  have look' := look.keeps (h' := after hp C ps) fun _ _ => after_old
  have bind' := (bind (.ref (hp.objs.size + 1))).keeps (h' := after hp C ps) fun _ _ => after_old
  have self : (Value.ref C :: tail).contains (.ref C) = true := by rw [List.contains_cons]; simp
  have isC := c
  obtain ⟨⟨_, _, _, _, _, _, _, _, _, _, _, _, _, _, at_⟩, _⟩ := c
  obtain ⟨⟨_, _, _, _, _, _, _, _, _, _, _, _, _, _, at'⟩, _⟩ := c'
  repeat (first
    | with_reducible refine wpAny_madeBy_exc at_ ?_
    | with_reducible refine wpAny_loadPart_at at_ ?_
    | wp_step)
  refine codeAny_call_builtin_code (Code.quiet_builtin _ F.excBase_ValueError.quiet) (new_let isC (new_lays isC few ?_))
  show wpAny _ _ _ _ _ (⟨after hp C ps, gs, dr, tk, os⟩ : Shared)
  unfold isInstance
  repeat (first
    | (with_reducible refine wpAny_isSubtype_exc at' ?_; rw [self])
    | with_reducible refine wpAny_loadPart_at after_new ?_
    | wp_step)
  refine look'.at (wpAny_holding (wpAny_bind (bind'.at (wpAny_bind (wpAny_call (codeAny_mono init fun r s z => ?_))))))
  match r, z with
  | .error _, z => exact z
  | .ok (.ret _), z =>
    obtain ⟨rfl, z⟩ := z
    first
      | exact wpAny_pure (wpAny_pure z)
      | (wp_walk; exact z)
  | .ok .next, z => exact z.elim
  | .ok .brk, z => exact z.elim
  | .ok .cont, z => exact z.elim
/-- C(.., k = v): the whole call -/
theorem kls_call (c : Kls hp C tail) (few : ps.length ≤ sizeLine) (look : W.Looks (model prog w) hp (typeLookup (.ref C) "__init__") (some (.ref fI))) (bind : ∀ x, W.Looks (model prog w) hp (bindSpecial (.ref fI) x) (.ref fI, [x]))
    (init : codeAny (model prog w) (A.under (.builtin "type.__call__" ⟨.ref C :: ps, kws⟩)) (.call (.ref fI) ⟨.ref (hp.objs.size + 1) :: ps, kws⟩) (W.InitBack (hp.objs.size + 1) R) ⟨after hp C ps, gs, dr, tk, os⟩) :
    codeAny (model prog w) A (.call (.ref C) ⟨ps, kws⟩) R ⟨hp, gs, dr, tk, os⟩ := by
  have isC := c
  obtain ⟨⟨_, _, _, _, _, _, _, _, _, _, _, _, _, _, at_⟩, _⟩ := c
  have ty : (⟨hp, gs, dr, tk, os⟩ : Shared).TypeIs (.ref C) "type" := ⟨_, at_, rfl⟩
  have slot := tc_lookup
  have bound := tc_bind (.ref C)
  refine codeAny_of_tree (show wpAny _ _ (callAny (.ref C) _) _ _ _ from ?_)
  repeat (any_goals (first
    | with_reducible refine wpAny_loadPart_at at_ ?_
    | assumption
    | wp_step))
  refine ⟨rfl, codeAny_call_builtin_at (Code.quiet_builtin _ (by decide +kernel)) entry_typeCall (wpAny_check_type_call_sub at_ (type_makes isC few look bind (codeAny_mono init fun r s z => ?_)))⟩
  match r, z with
  | .error _, z => exact z
  | .ok (.ret _), z => exact z
  | .ok .next, z => exact z
  | .ok .brk, z => exact z
  | .ok .cont, z => exact z
end
end XKw
end PySem
namespace L2
open PySem PySem.Spec PyProof.Rows
/-! ### an own exception as a value: C(e, .., k = v, ..), its class with an __init__ of its own -/
def tXv (C : Addr) (n m : Nat) (sp : Sp) (gV : List V → List V → List V) (t tk : TA) : TE := fun σ H Q => t σ H fun vs H1 => tk σ H1 fun zs H2 => vs.length = n ∧ zs.length = m ∧
  ∀ a, H2 a = none → sp (gV (.ref a :: vs) zs) (upd H2 a (exo a C none)) (fun v H3 => v = .non ∧ Q (.ref a) H3) E0
section
variable {X : Cx} {k n : Nat} {f C : Addr} {fd : FuncData} {ps ks : List Str} {sp : Sp} {x : Str} {p pos : Pos} {e : Expr} {es : List Expr} {kws : List Keyword} {t tk : TA} {g : List Value → List Value → List Value} {gV : List V → List V → List V}
/-- what the written part says of such a class -/
structure XvC (K : PySem.W.Frag) (C f : Addr) : Prop where
  ox : OexC K C
  init : PySem.W.findIn K (.ref C) "__init__" = some (some (.ref f))
  fn : PySem.W.typeIn K (.ref f) = some (.type "function")
theorem run_xv {pins : List (Addr × Obj)} {σ : St} {H : Hp} {s : Shared} {Q : VK} {us ws : List Value} {vs zs : List V} (T : XvC X.K C f) (F1 : FnOk X.prog X.w X.K X.mg X.base CX0 k f fd ps sp) (hr : Room (k + 1) X.A) (hb : KBn X.K fd ps (n + 1) ks g gV)
    (I : Inv X pins σ H s) (r : Vals vs us) (rz : Vals zs ws) (l1 : vs.length = n) (l2 : zs.length = ks.length) (hn1000 : n ≤ 1000)
    (h : ∀ a, H a = none → sp (gV (.ref a :: vs) zs) (upd H a (exo a C none)) (fun v H3 => v = .non ∧ Q (.ref a) H3) E0) :
    wpAny (model X.prog X.w) X.A (call (.ref C) us (ks.zip ws)) (EP X pins σ Q) X.xe s := by
  obtain ⟨nm, q, N, bs, bm, sn, sub, ab, col, dd, k0, k1, k2, k3, k5, hC, hbm⟩ := T.ox.cls
  obtain ⟨hp, gs, dr, tk, os⟩ := s
  have low : hp.objs.size ≤ hp.objs.size + 1 := Nat.le_succ _
  have new : H (hp.objs.size + 1) = none := I.hok.fresh low
  have grown : ∀ b o, hp.get? b = some o → ((hp.push (PySem.W.kdv_tup us)).push (PySem.HandSPX.excO C hp.objs.size)).get? b = some o := fun b o z => Heap.get?_push_of_some _ (Heap.get?_push_of_some _ z)
  have made : ((hp.push (PySem.W.kdv_tup us)).push (PySem.HandSPX.excO C hp.objs.size)).get? (hp.objs.size + 1) = some (PySem.HandSPX.excO C hp.objs.size) := by heap_get
  have J := I.laid (t' := tk) (a := hp.objs.size + 1) (o := exo (hp.objs.size + 1) C none) (h' := (hp.push (PySem.W.kdv_tup us)).push (PySem.HandSPX.excO C hp.objs.size)) grown low (exo_ok made)
  have rs : Vals (V.ref (hp.objs.size + 1) :: vs) (Value.ref (hp.objs.size + 1) :: us) := .cons rfl r
  have ra := hb.rel rs rz
  have c1 : (Value.ref (hp.objs.size + 1) :: us).length = n + 1 := rs.length.symm.trans (congrArg Nat.succ l1)
  have c2 : ws.length = ks.length := rz.length.symm.trans l2
  have short : us.length ≤ sizeLine := by
    rw [← r.length, l1, sizeLine_eq]; omega
  refine wpAny_call (PySem.XKw.kls_call (tail := bm) ⟨⟨nm, q, N, bs, sn, sub, ab, col, dd, k0, k1, k2, k3, k5, I.kIn _ _ hC⟩, hbm⟩ short (PySem.W.looks_findIn I.kIn T.init) (fun self => PySem.W.bind_fn I.kIn self T.fn)
    (codeAny_mono (F1.run _ X.stack _ _ ⟨Value.ref (hp.objs.size + 1) :: us, ks.zip ws⟩ (g (Value.ref (hp.objs.size + 1) :: us) ws) _ _ E0 (hr.make C us (ks.zip ws)) (J.env0.make C us (ks.zip ws)) (hb.to _ _ ws J.kIn c1 c2) ra (h _ new)) fun res s' hq' => ?_))
  cases res with
  | error er => exact (show False from hq').elim
  | ok fl =>
    cases fl with
    | next => exact False.elim hq'
    | brk => exact False.elim hq'
    | cont => exact False.elim hq'
    | ret u =>
      obtain ⟨v, H', I3, rv, ev, q3⟩ := J.after hq'
      subst ev
      exact ⟨rv, ⟨V.ref (hp.objs.size + 1), H', I3, rfl, q3⟩⟩
theorem pe_xv (T : XvC X.K C f) (F : FnOk X.prog X.w X.K X.mg X.base CX0 k f fd ps sp) (hr : Room (k + 1) X.A) (hg : Gl X x) (hm : X.mg x = some (.ref C)) (hb : KBn X.K fd ps (n + 1) [] g gV) (hn : n ≤ 1000)
    (ha : PA X (e :: es) t) (hdb : (x == ("__debug__" : Str)) = false := by decide) (he : starEach (e :: es) X.env = (false, eval e X.env) :: starEach es X.env := by rfl)
    (hpl : (backTo pos (starEach es X.env)).any (·.1) = false := by rfl) :
    PE X (.Call (.Name x p) (e :: es) [] pos) (tXv C n 0 sp gV t tNil) := by
  refine ⟨fun pins s σ H Q I h => ?_⟩
  refine wpAny_Call_Name_kw (ld_glob I hg hm ?_ hdb)
  refine PySem.W.callWith_K (h₀ := X.base) I.ok.mod.kin T.ox.kC (thn (ha.run pos pins s σ H _ I h) fun us s1 ⟨vs, H1, I1, r, l1, l2, q⟩ => ⟨I1.kIn, ?_⟩) he hpl
  exact run_xv (ks := []) (ws := []) (zs := []) T F hr hb I1 r .nil l1 rfl hn q
theorem pe_xvK0 (T : XvC X.K C f) (F : FnOk X.prog X.w X.K X.mg X.base CX0 k f fd ps sp) (hr : Room (k + 1) X.A) (hg : Gl X x) (hm : X.mg x = some (.ref C)) (hb : KBn X.K fd ps 1 ks g gV) (hkw : PK X kws tk)
    (hall : (backToKw pos (keywordEach kws X.env)).all (·.1.isSome) = true := by rfl) (hks : (backToKw pos (keywordEach kws X.env)).filterMap (·.1) = ks := by rfl) (hdb : (x == ("__debug__" : Str)) = false := by decide)
    (hpl : ((backTo pos (starEach [] X.env)).any (·.1) || (backToKw pos (keywordEach kws X.env)).any (·.1.isNone)) = false := by rfl) :
    PE X (.Call (.Name x p) [] kws pos) (tXv C 0 ks.length sp gV tNil tk) := by
  refine ⟨fun pins s σ H Q I h => ?_⟩
  refine wpAny_Call_Name_kw (ld_glob I hg hm ?_ hdb)
  refine PySem.W.callWith_KW0 (h₀ := X.base) I.ok.mod.kin T.ox.kC hall ?_ hpl
  refine thn (hkw.run pos pins s σ H _ I h) fun ws s2 ⟨zs, H2, I2, rz, l1, l2, q2⟩ => ⟨I2.kIn, ?_⟩
  rw [hks]
  exact run_xv (us := []) (vs := []) T F hr hb I2 .nil rz rfl l2 (Nat.zero_le _) q2
/-- C(), a class without an __init__ of its own -/
theorem pe_xv0 {bmB : List Value} {B newId initId : String} (F : ExcBaseFacts B newId initId bmB) (q : PySem.W.excIn X.K C bmB newId = true) (gC : X.mg x = some (.ref C)) (kC : PySem.W.keepIn X.K (.ref C) = true) (hg : Gl X x)
    (hdb : (x == ("__debug__" : Str)) = false := by decide) :
    PE X (.Call (.Name x p) [] [] pos) (fun σ H Q => ∀ a, H a = none → Q (.ref a) (upd H a (ExO (.ref C) a))) := by
  refine ⟨fun pins s σ H Q I h => ?_⟩
  refine wpAny_Call_Name_kw (ld_glob I hg gC ?_ hdb)
  refine PySem.W.callWith_K0 I.kIn kC ?_
  show wpAny _ _ (call (.ref C) []) _ _ _
  obtain ⟨bm, N, nm, qn, bs, hdct, sn, sub, ab, col, dd, k0, k1, k2, k3, k5, mN, hC, hN, hni, T⟩ := exc_obj I.kIn q
  refine wpAny_call_exc_subT F T hC hN hni (fun h' a hm => ?_) (by show 0 ≤ sizeLine; exact Nat.zero_le _)
  have hn : H a = none := I.hok.gone hm.new
  obtain ⟨t, ht, _, _⟩ := hm.there
  exact ⟨.ref a, _, I.laidN hm.keeps hm.new hn (exO_ok ht ⟨rfl, rfl⟩ rfl rfl rfl (show 4 < 6 by decide)), rfl, h a hn⟩
end

/-! ### its field read -/
def tXvF (K : PySem.W.Frag) (f : Str) (te : TE) : TE := fun σ H Q => te σ H fun x H1 => ∃ (a C d : Addr) (fs : List (Str × V)) (v : V), x = .ref a ∧ H1 a = some (exo a C (some d)) ∧ H1 d = some (exd d fs) ∧ XfC K C ∧ PySem.W.findIn K (.ref C) f = some none ∧ fs.lookup f = some v ∧ Q v H1
theorem pe_xvF {X : Cx} {e : Expr} {te : TE} {pos : Pos} {n : Str} (he : PE X e te) (hb : attributeBase e n X.env (eval e X.env) = eval e X.env := by rfl) : PE X (.Attribute e n pos) (tXvF X.K n te) := by
  refine ⟨fun pins s σ H Q I h => ?_⟩
  refine attr_of hb (thn (he.run pins s σ H _ I h) fun u s1 hh => ?_)
  obtain ⟨x, H1, I1, rx, a, C, d, fs, v, ex, ea, ed, T, hno, l, q⟩ := hh
  subst ex
  obtain rfl : u = Value.ref a := rx
  obtain ⟨t1, ho⟩ := exo_at I1.hok ea
  obtain ⟨mA, hns, hr⟩ := exd_at I1.hok ed
  obtain ⟨od, hod, found⟩ := lookIn_ns hns
  have at_n : RelO (some v) (mA n) := l ▸ hr n
  obtain ⟨held, stands, like⟩ := RelO.some_of at_n
  refine HandSPX.exc_get I1.kIn (C := C) (od := some od) ⟨ho, rfl, rfl, hod⟩ T.ga T.gg T.exC (PySem.W.findObj_own T.hdC hno rfl ?_) (handed_of like) ⟨v, H1, I1.tok _, like, q⟩
  rw [found, stands]

/-! ### isinstance of such -/
/-- the exception at a, of the class C -/
def XAt (H : Hp) (a C : Addr) : Prop := (∃ (d : Addr) (fs : List (Str × V)), H a = some (exo a C (some d)) ∧ H d = some (exd d fs)) ∨ H a = some (ExO (.ref C) a)
structure XiC (K : PySem.W.Frag) (C : Addr) : Prop where
  hcl : (PySem.W.clsIn K C).isSome = true
  hga : PySem.W.findIn K (.ref C) "__getattribute__" = some (some (.builtin "BaseException.__getattribute__"))
  hgt : PySem.W.findIn K (.ref C) "__getattr__" = some none
  hsub : PySem.W.subIn K (.ref C) (.type "BaseException") = some true
  ha : PySem.W.findIn K (.ref C) "__class__" = some (some (.builtin "object.__class__"))
  hn : PySem.W.specialIn K (.builtin "object.__class__") "__get__" = some (some (.builtin "getset_descriptor.__get__"))
  htk : PySem.W.takesIn K (.builtin "object.__class__") = some true
  hm : PySem.W.mroIn K C (.type "object") = some true
def rXi (K : PySem.W.Frag) : List V → Hp → VK → Prop := fun xs H Q => ∃ (a C : Addr) (c : V) (u : Value) (b : Bool), xs = [.ref a, c] ∧ ClsV c u ∧ XAt H a C ∧ XiC K C ∧ PySem.W.kitOne K (.ref C) u = some b ∧ Q (.bl b) H
theorem call_xi {X : Cx} : CallR X (.builtin "isinstance") (rXi X.K) := by
  intro pins s σ H xs us Q I r h
  obtain ⟨a, C, c, u, b, rfl, k, xa, T, e, q⟩ := h
  obtain ⟨u1, u2, rfl, r1, r2⟩ := vals2 r
  have e2 := k.eq r2
  subst e2
  obtain rfl : u1 = Value.ref a := r1
  have done : ∀ (ox : Obj) (od : Option Obj), PySem.W.InstAt s.heap a ox C od → wpAny (model X.prog X.w) X.A (call (.builtin "isinstance") [Value.ref a, u2]) (EP X pins σ Q) X.xe s := fun ox od J =>
    PySem.W.kia_one (PySem.W.kitx_exc T.hcl T.hga T.hgt T.hsub T.ha T.hn T.htk T.hm) I.kIn J e (fun z => nomatch z) fun tk => ⟨.bl b, H, I.tok tk, rfl, q⟩
  rcases xa with ⟨d, fs, ea, ed⟩ | ea
  · obtain ⟨t1, ho⟩ := exo_at I.hok ea
    obtain ⟨mA, hns, hr⟩ := exd_at I.hok ed
    obtain ⟨od, hod, hl⟩ := lookIn_ns hns
    exact done _ (some od) ⟨ho, rfl, rfl, hod⟩
  · obtain ⟨⟨oe, vs, ho, hz, hd, _⟩, _, _⟩ := I.hok a _ ea
    refine done oe none ⟨ho, hz.1, by unfold PySem.W.notCls; rw [hd] <;> rfl, by rw [hz.2]; exact True.intro⟩
end L2
namespace L2
open PySem PySem.Spec PyProof.Rows
/-! ### defs that are called where no repr runs (the law, and what it calls): FnG -/
def Qt (A : Around) : Prop := A.guards = some []
theorem Qt.deeper {A : Around} (h : Qt A) (env : Env) : Qt (A.deeper env) := h
structure FnG (P : Program) (w : World) (K : PySem.W.Frag) (mg : Str → Option Value) (base : Heap) (k : Nat) (f : Addr) (fd : FuncData) (ps : List Str) (sp : Sp) : Prop where
  len : ∀ vs H Q E, sp vs H Q E → vs.length = ps.length
  run : ∀ (A : Around) (outer : List Env) (s : Shared) (H : Hp) (args : Args) (us : List Value) (vs : List V) (Q : VK) (E : XK), Qt A → Room k A → Env0 P w K mg base A outer s H → BindsTo s fd args (ps.zip us) → Vals vs us → sp vs H Q E →
    codeAny (model P w) A (.call (.ref f) args) (CR CX0 outer P w H s Q E) s
/-- a def whose body is walked where no repr runs -/
theorem fnG_of {P : Program} {w : World} {K : PySem.W.Frag} {mg : Str → Option Value} {base : Heap} {k : Nat} {f : Addr} {fd : FuncData} {x qual : Str} {st : Stmt} {N ps : List Str} {sp : Sp} (F : Fun K x qual st f fd) (S : FnScope N ps (defScope st))
    (len : ∀ vs H Q E, sp vs H Q E → vs.length = ps.length)
    (hbody : ∀ (cdv : Value) (A : Around) (outer : List Env) (s : Shared) (H : Hp) (vs : List V) (Q : VK) (E : XK), Qt A → Room k (A.deeper (envOfC qual (defScope st) s.heap.objs.size f cdv)) → sp vs H Q E →
      ∃ t, PSs (cxOf CX0 P w K mg base N qual (defScope st) f cdv A outer s H E).nox (defBody st) t ∧ t { nx := fun _ H' => Q .non H', rt := Q } (start N vs) H) : FnG P w K mg base (k + 1) f fd ps sp := by
  obtain ⟨oc, od, kV, doc, pm, an, cdv, ct, osl, rfl, lk, hcd⟩ := F.ex
  refine ⟨len, fun A outer s H args us vs Q E gd room e0 bound rel hsp => ?_⟩
  obtain ⟨t, ht, hq⟩ := hbody cdv A outer s H vs Q E gd (room.deeper _) hsp
  have many := len _ _ _ _ hsp
  have inK : K.In s.heap := e0.mod.kin.keeps fun b o e => (e0.bs b o e).1
  have free : s.heap.NoLimit := e0.mod.nolimit.keeps fun b o e => (e0.bs b o e).1
  refine codeAny_call_function room.depth (inK _ _ lk) rfl S.co S.gen rfl (PySem.W.codeRec_of inK hcd) (bound _ _ _ _ ?_)
  have kinds : ∀ y ∈ ps.zip us, (defScope st).names.lookup y.1 = some .local ∨ ((defScope st).names.lookup y.1 = some .cell ∧ ((cellsFrom (s.heap.objs.size + 1) (defScope st).names []).lookup y.1).isSome = true) := by
    rintro ⟨n, v⟩ hy
    exact (S.par n (List.of_mem_zip hy).1).imp id fun q => ⟨q, PySem.W.cellsFrom_some _ _ _ (.inl q)⟩
  refine wpAny_newFunctionEnv_cells S.kind kinds fun env he s1 x => ?_
  cases he
  refine ⟨free.keeps x.toInCall.keep, codeAny_func ?_⟩
  refine wpAny_mono (ht.nox.run [] s1 (start N vs) H _ (inv_start S room.hd e0 many rel x) hq) (fun fl s' hs => ?_) fun e s' hs => hs
  cases fl with
  | ret u =>
    obtain ⟨v, σ', H', J, rv, q⟩ := hs
    exact ⟨v, H', J.os, J.bare, J.base, J.hok, rv, q⟩
  | next =>
    obtain ⟨σ', H', J, q⟩ := hs
    exact ⟨V.non, H', J.os, J.bare, J.base, J.hok, rfl, q⟩
  | brk => exact (hs.choose_spec.choose_spec.2).elim
  | cont => exact (hs.choose_spec.choose_spec.2).elim
section
variable {X : Cx} {k : Nat} {f : Addr} {fd : FuncData} {ps : List Str} {sp : Sp} {x : Str} {p pos : Pos} {e : Expr} {es : List Expr} {t : TA}
theorem pe_callG (F : FnG X.prog X.w X.K X.mg X.base k f fd ps sp) (gd : Qt X.A) (hr : Room k X.A) (hg : Gl X x) (hm : X.mg x = some (.ref f)) (hk : PySem.W.keepIn X.K (.ref f) = true) (hb : Binds X.K fd ps [])
    (ha : PA X (e :: es) t) (hdb : (x == ("__debug__" : Str)) = false := by decide) (he : starEach (e :: es) X.env = (false, eval e X.env) :: starEach es X.env := by rfl) (hpl : (backTo pos (starEach es X.env)).any (·.1) = false := by rfl) :
    PE X (.Call (.Name x p) (e :: es) [] pos) (tCall sp [] E0 t) := by
  refine ⟨fun pins s σ H Q I h => ?_⟩
  refine wpAny_Call_Name_kw (ld_glob I hg hm ?_ hdb)
  refine PySem.W.callWith_K (h₀ := X.base) I.ok.mod.kin hk (thn (ha.run pos pins s σ H _ I h) fun us s1 ⟨vs, H1, I1, r, q⟩ => ⟨I1.kIn, ?_⟩) he hpl
  have q0 : sp vs H1 Q E0 := by simpa using q
  have many : us.length = ps.length := r.length.symm.trans (F.len _ _ _ _ q0)
  have bd : BindsTo s1 fd ⟨us, []⟩ (ps.zip us) := by simpa using hb s1 us I1.kIn (by simpa using many)
  show wpAny _ _ (call (.ref f) us) _ _ _
  refine wpAny_call (codeAny_mono (F.run X.A X.stack s1 H1 ⟨us, []⟩ us vs Q E0 gd hr I1.env0 bd r q0) fun res s' hq => ?_)
  cases res with
  | error er => exact (show False from hq).elim
  | ok fl =>
    cases fl with
    | next => exact False.elim hq
    | brk => exact False.elim hq
    | cont => exact False.elim hq
    | ret u => exact I1.after hq
end

/-! ### repr of data -/
mutual
inductive Ds (K : PySem.W.Frag) (H : Hp) : V → PyData → Prop
  | non : Ds K H .non .none
  | bl (b : Bool) : Ds K H (.bl b) (.bool b)
  | int (i : Int) : Ds K H (.int i) (.int i)
  | str (x : Str) : Ds K H (.str x) (.str x)
  | lst {a : Addr} {xs : List V} {ds : List PyData} : SqL K H a xs → a ≠ sysModules → DsAll K H xs ds → Ds K H (.ref a) (.list ds)
  | tup {a : Addr} {xs : List V} {ds : List PyData} : SqT K H a xs → DsAll K H xs ds → Ds K H (.ref a) (.tuple ds)
  | one {a : Addr} {x : Str} {i : Int} : H a = some (.dK [(.inr x, .int i)]) → Ds K H (.ref a) (.dict [(.str x, .int i)])
inductive DsAll (K : PySem.W.Frag) (H : Hp) : List V → List PyData → Prop
  | nil : DsAll K H [] []
  | cons {v : V} {vs : List V} {d : PyData} {ds : List PyData} : Ds K H v d → DsAll K H vs ds → DsAll K H (v :: vs) (d :: ds)
end
section
variable {X : Cx} {pins : List (Addr × Obj)} {σ : St} {H : Hp} {s : Shared}
theorem pairs_one {P : Program} {w : World} {x : Str} {i : Int} {es : List DictEntry} {vs : List (Key × Value)} (hp : Pairs (mixKind P w) es vs) (kv : KV [((Sum.inr x : Key), V.int i)] vs) (h : Heap) :
    ReadsAll h (es.map (·.key)) [.str x] [] ∧ ReadsAll h (es.map (·.val)) [.int i] [] := by
  cases kv with
  | cons k1 k2 =>
    cases k2
    rename_i q
    obtain ⟨k, u⟩ := q
    obtain ⟨e1, e2⟩ := k1
    simp only at e1 e2
    subst e1
    obtain ⟨t, rfl⟩ := e2
    cases hp with
    | cons i1 i2 i3 =>
      rename_i e es'
      cases i3
      rcases keyIs_shape (show keyIs (Sum.inr x) e.key = true from i1) with ⟨j, t', e3, e4⟩ | ⟨y, t', e3, e4⟩
      · cases e3
      · cases e3
        rw [List.map_cons, List.map_nil, e4, List.map_cons, List.map_nil, i2]
        exact ⟨ReadsAll.cons (as := []) (bs := []) (Reads.str x t') ReadsAll.nil, ReadsAll.cons (as := []) (bs := []) (Reads.int i t) ReadsAll.nil⟩
mutual
theorem Ds.reads (I : Inv X pins σ H s) : ∀ (d : PyData) (v : V) (u : Value), Ds X.K H v d → RelV v u → ∃ as, Reads s.heap u d as ∧ sysModules ∉ as
  | .none, _, _, h, r => by
    cases h
    cases r
    exact ⟨_, Reads.none, by simp⟩
  | .bool b, _, _, h, r => by
    cases h
    cases r
    exact ⟨_, Reads.bool b, by simp⟩
  | .int i, _, _, h, r => by
    cases h
    obtain ⟨t, rfl⟩ := r
    exact ⟨_, Reads.int i t, by simp⟩
  | .str x, _, _, h, r => by
    cases h
    obtain ⟨t, rfl⟩ := r
    exact ⟨_, Reads.str x t, by simp⟩
  | .list ds, _, _, h, r => by
    cases h with
    | lst hs hne ha =>
      cases r
      obtain ⟨its, rv, ⟨o, n, ho, hc, _, hd⟩, _⟩ := I.list hs
      obtain ⟨as, hr, hq⟩ := Ds.readsAll I ds _ its ha rv
      exact ⟨_, Reads.list ho hc hd hr, by simp only [List.mem_cons, not_or]; exact ⟨Ne.symm hne, hq⟩⟩
  | .tuple ds, _, _, h, r => by
    cases h with
    | tup hs ha =>
      cases r
      obtain ⟨its, rv, ⟨o, ho, hc, n, hd⟩, _⟩ := I.tuple hs
      obtain ⟨as, hr, hq⟩ := Ds.readsAll I ds _ its ha rv
      exact ⟨_, Reads.tuple ho hc hd hr, hq⟩
  | .dict _, _, _, h, r => by
    cases h with
    | @one a x i h =>
      cases r
      obtain ⟨_, ns, vs, kv, o, es, ep, ho, hx, hd, _, hp, _⟩ := (show ObjOk X.prog X.w H s.heap a (.dK [(.inr x, .int i)]) from I.hok a _ h)
      obtain ⟨r1, r2⟩ := pairs_one hp kv s.heap
      exact ⟨_, Reads.dict ho hx.1 hd r1 r2, by
        simp only [List.append_nil, List.mem_cons, List.not_mem_nil, or_false]
        exact fun z => absurd (beq_iff_eq.mpr z.symm) (by rw [ns]; decide)⟩
theorem Ds.readsAll (I : Inv X pins σ H s) : ∀ (ds : List PyData) (vs : List V) (us : List Value), DsAll X.K H vs ds → Vals vs us → ∃ as, ReadsAll s.heap us ds as ∧ sysModules ∉ as
  | [], _, _, h, r => by
    cases h
    cases r
    exact ⟨_, ReadsAll.nil, by simp⟩
  | d :: ds, _, _, h, r => by
    cases h with
    | cons h1 h2 =>
      cases r with
      | cons r1 r2 =>
        obtain ⟨as, q1, n1⟩ := Ds.reads I d _ _ h1 r1
        obtain ⟨bs, q2, n2⟩ := Ds.readsAll I ds _ _ h2 r2
        exact ⟨_, ReadsAll.cons q1 q2, by rw [List.mem_append]; exact fun z => z.elim n1 n2⟩
end
end
/-- repr(x), x such data -/
def rRepr (K : PySem.W.Frag) : List V → Hp → VK → Prop := fun xs H Q => ∃ (x : V) (d : PyData), xs = [x] ∧ Ds K H x d ∧ d.showable = true ∧ d.depth ≤ 60 ∧ d.shown.length ≤ sizeLine ∧ Q (.str d.shown) H
theorem call_reprD {X : Cx} (gd : Qt X.A) (hu : X.A.units + 64 < cLine) : CallR X (.builtin "repr") (rRepr X.K) := by
  intro pins s σ H xs us Q I r h
  obtain ⟨x, d, rfl, hd, sh, dp, sz, q⟩ := h
  obtain ⟨u, rfl, ru⟩ := vals1 r
  obtain ⟨as, rd, ns⟩ := Ds.reads I d x u hd ru
  cases rd with
  | none => exact PySem.P.repr_of_none ⟨.str _, H, I.tok _, ⟨_, rfl⟩, q⟩
  | bool b => exact PySem.P.repr_of_bool ⟨.str _, H, I.tok _, ⟨_, rfl⟩, q⟩
  | int i t => exact PySem.P.repr_of_int (of_decide_eq_true sh) ⟨.str _, H, I.tok _, ⟨_, rfl⟩, q⟩
  | str z t => exact PySem.P.repr_of_str ⟨.str _, H, I.tok _, ⟨_, rfl⟩, q⟩ sz
  | list h1 h2 h3 h4 => exact repr_of_reads' (Reads.list h1 h2 h3 h4) sh (fun _ => ns) gd (by omega) (fun _ _ z => z) (fun h' u tk k => ⟨.str _, H, I.kept k, ⟨_, rfl⟩, q⟩) sz
  | tuple h1 h2 h3 h4 => exact repr_of_reads' (Reads.tuple h1 h2 h3 h4) sh (fun _ => ns) gd (by omega) (fun _ _ z => z) (fun h' u tk k => ⟨.str _, H, I.kept k, ⟨_, rfl⟩, q⟩) sz
  | dict h1 h2 h3 h4 h5 => exact repr_of_reads' (Reads.dict h1 h2 h3 h4 h5) sh (fun _ => ns) gd (by omega) (fun _ _ z => z) (fun h' u tk k => ⟨.str _, H, I.kept k, ⟨_, rfl⟩, q⟩) sz
/-- a list display, whose place is known not to be the table of modules -/
def tLstS (t : TA) : TE := fun σ H Q => t σ H fun xs H1 => xs.length ≤ sizeLine ∧ ∀ l, H1 l = none → l ≠ sysModules → Q (.ref l) (upd H1 l (.lst xs))
theorem pe_lstS {X : Cx} {es : List Expr} {t : TA} {pos : Pos} (h : PA X es t) : PE X (.List es pos) (tLstS t) := by
  refine ⟨fun pins s σ H Q I hq => ?_⟩
  refine wpAny_List_spliced (thn (h.run pos pins s σ H _ I hq) fun us s1 ⟨xs, H1, I1, r, z, q⟩ => ⟨by rw [← r.length]; exact z, ?_⟩)
  have far : s1.heap.objs.size ≠ sysModules := by
    have z1 : (3 : Nat) < X.base.objs.size := I1.mod.glob.lt
    have z2 := I1.ok.bsz
    have z3 := I1.sz
    show s1.heap.objs.size ≠ 1
    omega
  exact ⟨.ref s1.heap.objs.size, _, I1.laid (t' := s1.toks) (o := .lst xs) (fun b u e => Heap.get?_push_of_some _ e) (Nat.le_refl _) ⟨z, us, 0, r, Heap.get?_push_size _ rfl⟩, rfl, q _ (I1.hok.fresh (Nat.le_refl _)) far⟩
end L2
namespace L2
open PySem PySem.Spec PyProof.Rows
/-! ### the law's end, for a law that is walked where no repr runs -/
/-- the law's end from a heap in which nothing but the script may be tracked -/
theorem lawG_core {P : Program} {w : World} {K : PySem.W.Frag} {mg mb : Str → Option Value} {k : Nat} {fa a : Addr} {fd : FuncData} {x : Str} {sp : Sp} {s : Shared} {vs : List Value} {ns : List Int} {H : Hp}
    (KX : K.In s.heap) (hns : s.heap.Ns mainGlobals mg) (hb : s.heap.Ns builtinsNs mb) (hbb : ∀ x : Str, x ≠ "__name__" → mb x = bootBuiltins x) (hlim : s.heap.NoLimit) (hg : s.gens = #[])
    (ha : s.heap.get? a = some { cls := .type "list", data := .seq vs.toArray }) (hr : Room k callerA)
    (F : ∀ base : Heap, K.In base → base.Ns mainGlobals mg → FnG P w K mg base k fa fd [x] sp) (hbind : ∀ (s : Shared) (u : Value), BindsTo s fd ⟨[u], []⟩ [(x, u)])
    (hO : Only H) (hok : HOk P w H s.heap) (hA : ∀ b, H b ≠ none → b = a) (hK : H a ≠ none → K.lookup a = none)
    (hsp : sp [.ref a] H (fun v _ => v = .bl true) E0) :
    codeAny (model P w) callerA (.call (.ref fa) ⟨[.ref a], []⟩) (fun r s' => r = .ok (.ret (.bool true)) ∧ OldK s.heap s'.heap ∧ s'.os = s.os ∧ AllBare s'.gens) s := by
  have apart : ∀ {b : Addr} {o : Obj}, s.heap.get? b = some o → (b = a → False) → (hidT s.heap H).get? b = some o := fun {b o} e n => hidT_get e (Classical.byContradiction fun z => n (hA b z))
  have space : ∀ {b : Addr} {m : Str → Option Value}, s.heap.Ns b m → (hidT s.heap H).Ns b m := fun {b m} ⟨o, es, ep, e, d, r⟩ => ⟨o, es, ep, apart e fun z => by
    subst z
    rw [ha] at e
    cases e
    exact Data.noConfusion (show Data.seq vs.toArray _ = Data.dict es ep from d), d, r⟩
  have inb : K.In (hidT s.heap H) := fun b o e => hidT_get (KX b o e) (Classical.byContradiction fun z => by
    obtain rfl := hA b z
    rw [hK z] at e
    cases e)
  have world : Mod K mg (hidT s.heap H) := ⟨inb, space hns, ⟨mb, space hb, hbb⟩, hlim.elim fun mc z => ⟨mc, space z.1, z.2⟩⟩
  have start0 : Env0 P w K mg (hidT s.heap H) callerA [] s H := ⟨rfl, world, fun _ _ z => of_hidT z, Nat.le_of_eq (hidT_size _ _), trivial, fun b hb => absurd hb List.not_mem_nil, hok, .of_eq hg⟩
  refine codeAny_mono ((F _ inb (space hns)).run callerA [] s H ⟨[.ref a], []⟩ [.ref a] [.ref a] _ E0 rfl hr start0 (hbind s (.ref a)) (.cons rfl .nil) hsp) fun r s' h => ?_
  cases r with
  | error e => exact (show False from h).elim
  | ok fl =>
    cases fl with
    | next => exact False.elim h
    | brk => exact False.elim h
    | cont => exact False.elim h
    | ret u =>
      obtain ⟨v, H', os, bare, un, hok', r', q⟩ := h
      obtain rfl : v = .bl true := q
      obtain rfl : u = Value.bool true := r'
      refine ⟨rfl, OldK.of_keep fun b o e => ?_, os, bare⟩
      rcases hO b with z | ⟨ob, xs, z⟩
      · exact un.keep b o e z List.not_mem_nil List.not_mem_nil
      · have e1 := (hok b _ z).1
        have e2 := (hok' b _ (un.frzs b ob _ z)).1
        rw [e] at e1
        cases e1
        exact e2
theorem lawG_call {P : Program} {w : World} {K : PySem.W.Frag} {mg mb : Str → Option Value} {k : Nat} {fa a : Addr} {fd : FuncData} {x : Str} {sp : Sp} {s : Shared} {vs : List Value} {ns : List Int}
    (KX : K.In s.heap) (hns : s.heap.Ns mainGlobals mg) (hb : s.heap.Ns builtinsNs mb) (hbb : ∀ x : Str, x ≠ "__name__" → mb x = bootBuiltins x) (hlim : s.heap.NoLimit) (hg : s.gens = #[])
    (ha : s.heap.get? a = some { cls := .type "list", data := .seq vs.toArray }) (hi : IntsAre vs ns) (hl : ns.length ≤ sizeLine) (hr : Room k callerA)
    (F : ∀ base : Heap, K.In base → base.Ns mainGlobals mg → FnG P w K mg base k fa fd [x] sp) (hbind : ∀ (s : Shared) (u : Value), BindsTo s fd ⟨[u], []⟩ [(x, u)])
    (hsp : ∀ H : Hp, Only H → SqL K H a (ns.map V.int) → sp [.ref a] H (fun v _ => v = .bl true) E0) :
    codeAny (model P w) callerA (.call (.ref fa) ⟨[.ref a], []⟩) (fun r s' => r = .ok (.ret (.bool true)) ∧ OldK s.heap s'.heap ∧ s'.os = s.os ∧ AllBare s'.gens) s := by
  have rv := vals_ints hi
  cases hk : K.lookup a with
  | some o =>
    have e := KX a o hk
    rw [ha] at e
    cases e
    have hS : SqL K (fun _ => none) a (ns.map V.int) := .inr ⟨_, vs.toArray, _, hk, rfl, rfl, rfl, by rw [List.size_toArray, hi.length]; exact hl, by simpa using rv⟩
    exact lawG_core (ns := ns) KX hns hb hbb hlim hg ha hr F hbind (fun _ => .inl rfl) (fun b u z => by cases (show (none : Option HO) = some u from z)) (fun b z => absurd rfl z) (fun z => absurd rfl z) (hsp _ (fun _ => .inl rfl) hS)
  | none =>
    let ob : Obj := { cls := .type "list", data := .seq vs.toArray }
    let H : Hp := upd (fun _ => none) a (.frz ob (.lst (ns.map V.int)))
    have hO : Only H := fun b => by
      by_cases z : b = a
      · exact .inr ⟨_, _, by rw [z]; exact upd_same⟩
      · exact .inl (upd_ne z)
    have only : ∀ b, H b ≠ none → b = a := fun b z => Classical.byContradiction fun n => z (upd_ne n)
    refine lawG_core (ns := ns) (H := H) KX hns hb hbb hlim hg ha hr F hbind hO (fun b u z => ?_) only (fun _ => hk) (hsp H hO (.inl (.inr ⟨ob, upd_same⟩)))
    obtain rfl := only b (by rw [z]; simp)
    cases upd_same.symm.trans z
    exact ⟨ha, by rw [List.length_map]; exact hl, vs, _, rv, ha⟩
theorem walkG_of {l : PySem.W.OpenLaw} {n k : Nat} {q : Program} {loose : List Str} {XP : (Str → Option Value) → Heap → Prop} {YP : World → Heap → Prop} {d : DefRec} {K : Params → PySem.W.Frag} {sp : World → Sp} {x : Str}
    (hn : l.most = some n) (hn2 : n ≤ sizeLine) (hdf : d.params.defaults = []) (hr : Room k callerA)
    (hY : ∀ (w : World) (h : Heap), YP w h → (K w.params).In h)
    (F : ∀ (w : World) (mg : Str → Option Value) (fa : Addr) (h : Heap), (K w.params).In h → h.Ns mainGlobals mg → mg d.name = some (.ref fa) →
      ∃ fd : FuncData, (∀ (s : Shared) (u : Value), BindsTo s fd ⟨[u], []⟩ [(x, u)]) ∧ ∀ base : Heap, (K w.params).In base → base.Ns mainGlobals mg → FnG l.prog w (K w.params) mg base k fa fd [x] (sp w))
    (hsp : ∀ (w : World) (H : Hp) (a : Addr) (ns : List Int), ns.length ≤ n → Only H → SqL (K w.params) H a (ns.map V.int) → sp w [.ref a] H (fun v _ => v = .bl true) E0) :
    PySem.W.WalkO q loose XP YP l.row.toRowW d [] (fun f vs => PySem.call f vs) := by
  refine Att.attach_call hn hdf fun w s₀ s₁ mg mb fa o pm cd doc a vs ns G Y ho hd hcd hmg hobj hints hlen hg => ?_
  obtain ⟨fd, hb, hF⟩ := F w mg fa _ (hY w _ Y) G.T.g hmg
  exact lawG_call (hY w _ Y) G.T.g G.T.b G.T.builtins G.T.nolimit hg hobj hints (Nat.le_trans hlen hn2) hr hF hb fun H hO hS => hsp w H a ns hlen hO hS
end L2
namespace K00
open PySem L2 Evl
def top (i : Nat) : Stmt := PySem.Challenge.pw_layerpost_k00_errors_and_kinds_of_values.main.body.getD i (.Pass ⟨0, 0, 0, 0⟩)
abbrev sPen : Stmt := top 41
abbrev sDraw : Stmt := top 42
abbrev sPick : Stmt := top 43
/-! ### the pen: a list of the cells, the place, the rest -/
def PenAt (H : Hp) (p l : Addr) (cells : List Int) (m : Nat) : Prop :=
  ∃ (k : Nat) (r : Int), H p = some (.lst [.ref l, .int (k : Int), .int r]) ∧ H l = some (.lst (cells.map V.int)) ∧ k ≤ m
/-- all but p is as it was -/
def Keep (p : Addr) (H H' : Hp) : Prop := ∀ b o, H b = some o → b ≠ p → H' b = some o
theorem Keep.of_ex {p : Addr} {H H' : Hp} (e : Ex H H') : Keep p H H' := fun b o h _ => e b o h
theorem Keep.trans {p : Addr} {H H1 H2 : Hp} (a : Keep p H H1) (b : Keep p H1 H2) : Keep p H H2 := fun c o h n => b c o (a c o h n) n
theorem Keep.upd {p : Addr} {H : Hp} {o : HO} : Keep p H (upd H p o) := fun b u h n => by rw [upd_ne n]; exact h
theorem PenAt.mono {H H' : Hp} {p l : Addr} {cells : List Int} {m n : Nat} (h : PenAt H p l cells m) (e : Ex H H') (hm : m ≤ n) : PenAt H' p l cells n := by
  obtain ⟨k, r, h1, h2, h3⟩ := h
  exact ⟨k, r, e _ _ h1, e _ _ h2, by omega⟩
theorem PenAt.ne {H : Hp} {p l : Addr} {cells : List Int} {m : Nat} (h : PenAt H p l cells m) : l ≠ p := by
  obtain ⟨k, r, h1, h2, _⟩ := h
  refine ne_of h2 h1 ?_
  intro z
  have z2 := HO.lst.inj z
  cases cells with
  | nil => exact absurd z2 (by simp)
  | cons c cs => exact absurd (List.cons.inj z2).1 (by intro q; cases q)
structure Glb (mg : Str → Option Value) : Prop where
  int : mg "int" = none
  abs : mg "abs" = none
  len : mg "len" = none
  list : mg "list" = none
def spDraw : Sp := fun vs H Q _ => ∃ (p l : Addr) (cells : List Int) (m : Nat) (many : Int), vs = [.ref p, .int many] ∧ PenAt H p l cells m ∧ m ≤ 50000 ∧ cells.length ≤ 63 ∧ 0 < many ∧ many ≤ 1000000000 ∧
  ∀ d H', 0 ≤ d → d < many → PenAt H' p l cells (m + 1) → Keep p H H' → Q (.int d) H'
theorem scDraw : FnScope ["_law_pen_here", "_law_many", "_law_digit", "_law_at", "_law_cell", "_law_great", "_law_mixed"] ["_law_pen_here", "_law_many"] (defScope sDraw) := ⟨rfl, rfl, rfl, by decide +kernel, rfl, by decide +kernel, by decide +kernel⟩
theorem rc_int {i : Int} {H : Hp} : RC (fun xs H Q => (∃ i, xs = [V.int i] ∧ Q (.int i) H) ∨ ∃ k, xs = [V.bl k] ∧ Q (.int (if k then 1 else 0)) H) [.int i] H (.int i) := fun H1 _ _ q => .inl ⟨i, rfl, q H1 (Ex.refl H1)⟩
theorem rc_intB {b : Bool} {H : Hp} : RC (fun xs H Q => (∃ i, xs = [V.int i] ∧ Q (.int i) H) ∨ ∃ k, xs = [V.bl k] ∧ Q (.int (if k then 1 else 0)) H) [.bl b] H (.int (if b then 1 else 0)) := fun H1 _ _ q => .inr ⟨b, rfl, q H1 (Ex.refl H1)⟩
theorem rc_abs {i : Int} {H : Hp} : RC (fun xs H Q => ∃ i, xs = [V.int i] ∧ Q (.int (if i < 0 then -i else i)) H) [.int i] H (.int (if i < 0 then -i else i)) := fun H1 _ _ q => ⟨i, rfl, q H1 (Ex.refl H1)⟩
theorem rc_len {K : PySem.W.Frag} {p : Addr} {xs : List V} {H : Hp} (h : SqL K H p xs) : RC (fun xs H Q => ∃ p ys, xs = [V.ref p] ∧ (SqL K H p ys ∨ SqT K H p ys) ∧ Q (.int ys.length) H) [.ref p] H (.int (xs.length : Int)) := fun H1 e _ q => ⟨p, xs, rfl, .inl (ex_l e h), q H1 (Ex.refl H1)⟩
theorem dpAll_ints {K : PySem.W.Frag} {H : Hp} : ∀ (ns : List Int), DpAll K H (ns.map V.int) (ns.map PyData.int)
  | [] => .nil
  | n :: ns => .cons (.int n) (dpAll_ints ns)
section
variable {P : Program} {w : World} {K : PySem.W.Frag} {mg : Str → Option Value} {base : Heap}
theorem shaped_nil : SeqAt.shaped (.list []) = true := by decide +kernel
theorem canLay_ints : ∀ (ns : List Int), PyData.canLayAll0 (ns.map PyData.int) = true
  | [] => by simp [PyData.canLayAll0]
  | n :: ns => by simp [PyData.canLayAll0, PyData.canLay0, canLay_ints ns]
theorem depth_ints : ∀ (ns : List Int), PyData.depthAll (ns.map PyData.int) = 0
  | [] => rfl
  | n :: ns => by simp [PyData.depthAll, PyData.depth, depth_ints ns]
theorem shaped_ints (ns : List Int) : SeqAt.shaped (.list (ns.map PyData.int)) = true := by
  unfold SeqAt.shaped
  simp [PyData.canLay0, canLay_ints, PyData.depth, depth_ints]
/-- xs != [], xs a list of ints -/
theorem ev_neNil {σ : L2.St} {H : Hp} {ta : TE} {l : Addr} {cells : List Int} (ha : Ev ta σ H (.ref l)) (h : SqL K H l (cells.map V.int)) :
    ∃ b : Bool, Ev (tOp (rNeD K) ta (tLst tNil)) σ H (.bl b) ∧ (b = true → cells ≠ []) := by
  refine ⟨!(PyData.eqv (.list (cells.map PyData.int)) (.list [])), ev_opL (xs := []) ha (el_lst ea_nil (by decide)) (fun p H1 h1 e => ?_), ?_⟩
  · exact fun H2 e2 Q q => ⟨_, _, .lst (ex_l (e.trans e2) h) (dpAll_ints cells), .lst (sq_of (e2 _ _ h1)) .nil, shaped_ints cells, shaped_nil, q H2 (Ex.refl H2)⟩
  · intro hb hc
    subst hc
    exact absurd hb (by decide +kernel)
end
end K00
namespace K00
open PySem L2 Evl
section
variable {P : Program} {w : World} {K : PySem.W.Frag} {mg : Str → Option Value} {base : Heap}
theorem emod_bd (a b : Int) (h : 0 < b) : 0 ≤ a % b ∧ a % b < b := ⟨Int.emod_nonneg a (by omega), Int.emod_lt_of_pos a h⟩
theorem mul_bd {a b A B : Int} (a0 : 0 ≤ a) (aA : a ≤ A) (b0 : 0 ≤ b) (bB : b ≤ B) : 0 ≤ a * b ∧ a * b ≤ A * B := ⟨Int.mul_nonneg a0 b0, Int.mul_le_mul aA bB b0 (by omega)⟩
/-- the last part of a draw: the mixing -/
theorem ok_draw {f : Addr} {fd : FuncData} (F : Fun K "_law_draw" "_law_draw" sDraw f fd) (T : Glb mg) : FnOk P w K mg base CX0 1 f fd ["_law_pen_here", "_law_many"] spDraw := by
  refine F.ok scDraw (fun vs H Q E h => ?_) (fun cdv A outer s H vs Q E hr h => ?_)
  · obtain ⟨p, l, cells, m, many, rfl, _⟩ := h
    rfl
  · obtain ⟨p, l, cells, m, many, rfl, hp, hm, h63, hm0, hm1, k⟩ := h
    refine ⟨_, pss_cons (ps_if (pt_cmpR op_gt (pe_ix ix_list (pv 0) pe_int (fun _ _ => rfl)) pe_int (nomark _)) (pss_cons (ps_set (i := 2) scDraw.nd rfl (.inl rfl) (pe_op op_mod (pe_callTy call_int1 (by rfl) T.int (by decide +kernel) (pa_cons (pe_ix ix_list (pv 0) pe_int (fun _ _ => rfl)) pa_nil)) (pv 1)))
      (pss_cons (ps_asg (pe_op op_fdiv (pe_callTy call_int1 (by rfl) T.int (by decide +kernel) (pa_cons (pe_ix ix_list (pv 0) pe_int (fun _ _ => rfl)) pa_nil)) (pv 1)) (pg_sub (pv 0) pe_int set_list))
      (pss_one (ps_ret (pv 2))))) pss_nil)
      (pss_cons (ps_set (i := 3) scDraw.nd rfl (.inl rfl) (pe_ix ix_list (pv 0) pe_int (fun _ _ => rfl)))
      (pss_cons (ps_asg (pe_op op_add (pv 3) pe_int) (pg_sub (pv 0) pe_int set_list))
      (pss_cons (ps_set (i := 4) scDraw.nd rfl (.inl rfl) (pe_op op_add (pe_op op_mul pe_int (pv 3)) pe_int))
      (pss_cut (ps_if (pt_cmpR (op_neD hr.units) (pe_ix ix_list (pv 0) pe_int (fun _ _ => rfl)) (pe_lst pa_nil) (nomark _)) (pss_one (ps_set (i := 4) scDraw.nd rfl (.inl rfl) (pe_ix ix_list (pe_ix ix_list (pv 0) pe_int (fun _ _ => rfl)) (pe_op op_mod (pe_callTy call_int1 (by rfl) T.int (by decide +kernel) (pa_cons (pv 3) pa_nil)) (pe_callB call_len_seq (by rfl) T.len PySem.boot_len (pa_cons (pe_ix ix_list (pv 0) pe_int (fun _ _ => rfl)) pa_nil))) (fun _ _ => rfl)))) pss_nil)
      (pss_cons (ps_if (PW.pt (pw_and (pt_cmpR op_lt (pv 3) (pe_callB call_len_seq (by rfl) T.len PySem.boot_len (pa_cons (pe_ix ix_list (pv 0) pe_int (fun _ _ => rfl)) pa_nil)) (nomark _)) (pw_and1 (pt_cmpR op_ge (pe_callB call_abs (by rfl) T.abs (by decide +kernel) (pa_cons (pv 4) pa_nil)) (pe_op op_pow pe_int pe_int) (nomark _))))) (pss_cons (ps_set (i := 5) scDraw.nd rfl (.inl rfl) (pe_op op_add (pe_op op_mul pe_int (pe_op op_sub (pe_callB call_abs (by rfl) T.abs (by decide +kernel) (pa_cons (pv 4) pa_nil)) (pe_op op_pow pe_int pe_int))) (pe_callTy call_int1 (by rfl) T.int (by decide +kernel) (pa_cons (pe_cmpR op_lt (pv 4) pe_int (nomark _)) pa_nil))))
      (pss_cons (ps_asg (pe_op op_fdiv (pe_callTy call_int1 (by rfl) T.int (by decide +kernel) (pa_cons (pv 5) pa_nil)) (pv 1)) (pg_sub (pv 0) pe_int set_list))
      (pss_one (ps_ret (pe_op op_mod (pe_callTy call_int1 (by rfl) T.int (by decide +kernel) (pa_cons (pv 5) pa_nil)) (pv 1)))))) pss_nil)
      (pss_cons (ps_set (i := 6) scDraw.nd rfl (.inl rfl) (pe_op op_mod (pe_callTy call_int1 (by rfl) T.int (by decide +kernel) (pa_cons (pe_op op_pow (pe_op op_add (pe_op op_add (pe_op op_mod (pe_callTy call_int1 (by rfl) T.int (by decide +kernel) (pa_cons (pv 4) pa_nil)) pe_int) (pe_op op_mul pe_int (pv 3))) pe_int) pe_int) pa_nil)) pe_int))
      (pss_cons (ps_set (i := 6) scDraw.nd rfl (.inl rfl) (pe_op op_mod (pe_callTy call_int1 (by rfl) T.int (by decide +kernel) (pa_cons (pe_op op_pow (pe_op op_add (pe_op op_add (pe_op op_mul (pv 6) (pe_op op_add (pe_op op_mul pe_int (pv 3)) pe_int)) (pe_op op_mul (pe_op op_mul pe_int (pv 3)) (pv 3))) pe_int) pe_int) pa_nil)) pe_int))
      (pss_one (ps_ret (pe_op op_mod (pe_callTy call_int1 (by rfl) T.int (by decide +kernel) (pa_cons (pe_op op_fdiv (pv 6) pe_int) pa_nil)) (pv 1))))))))))), ?_⟩
    have hpl := hp.ne
    obtain ⟨n, r, h1, h2, hn⟩ := hp
    have many1 : many < 1073741824 := by omega
    refine q_when (et_test (ev_op (ev_op (ev_var rfl) ev_c (rv_ixL (sq_of h1) (atI_nat (j := 2) rfl))) ev_c rv_I0)) (fun hb H1 e1 => ?_) (fun hb H1 e1 => ?_)
    · -- the rest gives a digit
      have r0 : 0 < r := of_decide_eq_true hb
      have g1 := e1 _ _ h1
      refine q_asg (ev_op (ev_cb (ea_cons (ev_op (ev_var rfl) ev_c (rv_ixL (sq_of g1) (atI_nat (j := 2) rfl))) ea_nil) rc_int) (ev_var rfl) (rv_I hm0)) fun H2 e2 => ?_
      have g2 := e2 _ _ g1
      refine q_setL (j := 2) g2 (ev_op (ev_cb (ea_cons (ev_op (ev_var rfl) ev_c (rv_ixL (sq_of g2) (atI_nat (j := 2) rfl))) ea_nil) rc_int) (ev_var rfl) (rv_I ⟨hm0, many1⟩)) (ev_var rfl) ev_c (by show 2 < 3; decide) fun H3 e3 => ?_
      refine s_ret (ev_var rfl) fun H4 e4 => ?_
      have key : ∀ b o, H b = some o → b ≠ p → H4 b = some o := fun b o hb hbp => e4 b o (by rw [upd_ne hbp]; exact e3 _ _ (e2 _ _ (e1 _ _ hb)))
      exact k _ H4 (emod_bd _ _ hm0).1 (emod_bd _ _ hm0).2 ⟨n, _, e4 _ _ upd_same, key _ _ h2 hpl, by omega⟩ key
    · -- at = pen[1]; pen[1] = at + 1
      have g1 := e1 _ _ h1
      refine q_asg (ev_op (ev_var rfl) ev_c (rv_ixL (sq_of g1) (atI_nat (j := 1) rfl))) fun H2 e2 => ?_
      have g2 := e2 _ _ g1
      refine q_setL (j := 1) g2 (ev_op (ev_var rfl) ev_c rv_I0) (ev_var rfl) ev_c (by show 1 < 3; decide) fun H3 e3 => ?_
      have g3 := e3 _ _ g2
      have hl3 : H3 l = some (.lst (cells.map V.int)) := e3 _ _ (e2 _ _ (e1 _ _ h2))
      have kp3 : ∀ b o, H b = some o → b ≠ p → (upd H3 p (.lst ([V.ref l, V.int (n : Int), V.int r].set 1 (V.int ((n : Int) + 1))))) b = some o := fun b o hb hbp => by
        rw [upd_ne hbp]; exact e3 _ _ (e2 _ _ (e1 _ _ hb))
      generalize hH : upd H3 p (.lst ([V.ref l, V.int (n : Int), V.int r].set 1 (V.int ((n : Int) + 1)))) = J at kp3
      have j1 : J p = some (.lst [V.ref l, V.int ((n + 1 : Nat) : Int), V.int r]) := by
        rw [← hH, upd_same]
        rfl
      have j2 : J l = some (.lst (cells.map V.int)) := kp3 _ _ h2 hpl
      have hn0 : (0 : Int) ≤ (n : Int) ∧ (n : Int) ≤ 50000 := ⟨by omega, by omega⟩
      -- cell = 65000 * at + 3500
      refine q_asg (ev_op (ev_op ev_c (ev_var rfl) (rv_I (.inl ⟨by decide, by decide⟩))) ev_c rv_I0) fun H4 e4 => ?_
      have j41 := e4 _ _ j1
      have j42 := e4 _ _ j2
      -- if pen[0] != []: cell = ..
      obtain ⟨bn, evn, hne⟩ := ev_neNil (K := K) (σ := [some (V.ref p), some (V.int many), none, some (V.int (n : Int)), some (V.int (65000 * (n : Int) + 3500)), none, none]) (H := H4) (cells := cells) (l := l)
        (ta := tOp (rIxL K) (tVar 0) (tC (V.int 0))) (ev_op (ev_var rfl) ev_c (rv_ixL (sq_of j41) (atI_nat (j := 0) rfl))) (sq_of j42)
      refine q_cut (M := fun σ' H' => ∃ c : Int, σ' = [some (V.ref p), some (V.int many), none, some (V.int (n : Int)), some (V.int c), none, none] ∧ Ex H4 H') (s_when (et_test evn) (fun hb H5 e5 => ?_) (fun hb H5 e5 => ⟨_, rfl, e5⟩)) ?_
      · have hlen : 0 < cells.length := List.length_pos_iff.mpr (hne hb)
        have hi : 0 ≤ (n : Int) % (cells.length : Int) ∧ (n : Int) % (cells.length : Int) < (cells.length : Int) := emod_bd _ _ (by omega)
        obtain ⟨i, ei⟩ := Int.eq_ofNat_of_zero_le hi.1
        have il : i < cells.length := by have := hi.2; omega
        have lm : ((cells.map V.int).length : Int) = (cells.length : Int) := by rw [List.length_map]
        refine s_asg (v := V.int (cells[i])) (ev_op (y := V.int (i : Int)) (ev_op (ev_var rfl) ev_c (rv_ixL (sq_of (e5 _ _ j41)) (atI_nat (j := 0) rfl)))
          (ev_is (ev_op (ev_cb (ea_cons (ev_var rfl) ea_nil) rc_int) (ev_cb (ea_cons (ev_op (ev_var rfl) ev_c (rv_ixL (sq_of (e5 _ _ j41)) (atI_nat (j := 0) rfl))) ea_nil) (rc_len (sq_of (e5 _ _ j42)))) (rv_I (by rw [lm]; omega))) (by show V.int ((n : Int) % ((cells.map V.int).length : Int)) = _; rw [lm, ei]))
          (rv_ixL (sq_of (e5 _ _ j42)) (atI_nat (by rw [List.getElem?_map, List.getElem?_eq_getElem il]; rfl)))) fun H6 e6 => ⟨_, rfl, e5.trans e6⟩
      rintro σ' H5 ⟨c, rfl, e5⟩
      have k1 := e5 _ _ j41
      have k2 := e5 _ _ j42
      have kp5 : ∀ b o, H b = some o → b ≠ p → H5 b = some o := fun b o hb hbp => e5 _ _ (e4 _ _ (kp3 _ _ hb hbp))
      have lm : ((cells.map V.int).length : Int) = (cells.length : Int) := by rw [List.length_map]
      refine q_when (et_and (et_test (ev_op (ev_var rfl) (ev_cb (ea_cons (ev_op (ev_var rfl) ev_c (rv_ixL (sq_of k1) (atI_nat (j := 0) rfl))) ea_nil) (rc_len (sq_of k2))) rv_I0))
        (fun _ => et_test (ev_op (ev_cb (ea_cons (ev_var rfl) ea_nil) rc_abs) (ev_op ev_c ev_c (rv_I ⟨by decide, by decide, by decide⟩)) rv_I0))) (fun hb H6 e6 => ?_) (fun hb H6 e6 => ?_)
      · -- a great cell
        refine q_asg (ev_op (ev_op ev_c (ev_op (ev_cb (ea_cons (ev_var rfl) ea_nil) rc_abs) (ev_op ev_c ev_c (rv_I ⟨by decide, by decide, by decide⟩)) rv_I0) (rv_I (.inl ⟨by decide, by decide⟩))) (ev_cb (ea_cons (ev_op (ev_var rfl) ev_c rv_I0) ea_nil) rc_intB) rv_I0) fun H7 e7 => ?_
        have k7 := e7 _ _ (e6 _ _ k1)
        refine q_setL (j := 2) k7 (ev_op (ev_cb (ea_cons (ev_var rfl) ea_nil) rc_int) (ev_var rfl) (rv_I ⟨hm0, many1⟩)) (ev_var rfl) ev_c (by show 2 < 3; decide) fun H8 e8 => ?_
        refine s_ret (ev_op (ev_cb (ea_cons (ev_var rfl) ea_nil) rc_int) (ev_var rfl) (rv_I hm0)) fun H9 e9 => ?_
        have key : ∀ b o, H b = some o → b ≠ p → H9 b = some o := fun b o hb hbp => e9 _ _ (by rw [upd_ne hbp]; exact e8 _ _ (e7 _ _ (e6 _ _ (kp5 _ _ hb hbp))))
        exact k _ H9 (emod_bd _ _ hm0).1 (emod_bd _ _ hm0).2 ⟨n + 1, _, e9 _ _ upd_same, key _ _ h2 hpl, by omega⟩ key
      · -- mixed
        have b1 := emod_bd c 2147483563 (by decide)
        refine q_asg (ev_op (ev_cb (ea_cons (ev_op (ev_op (ev_op (ev_op (ev_cb (ea_cons (ev_var rfl) ea_nil) rc_int) ev_c (rv_I (by decide))) (ev_op ev_c (ev_var rfl) (rv_I (.inl ⟨by decide, by decide⟩))) rv_I0) ev_c rv_I0) ev_c
          (rv_I ⟨by decide, by decide, by omega⟩)) ea_nil) rc_int) ev_c (rv_I (by decide))) fun H7 e7 => ?_
        generalize hx : (c % 2147483563 + 75000 * (n : Int) + 3500) ^ (5 : Int).toNat % 2147483629 = x
        have b2 : 0 ≤ x ∧ x < 2147483629 := by rw [← hx]; exact emod_bd _ _ (by decide)
        have b3 := mul_bd b2.1 (by omega : x ≤ 2147483629) (by omega : 0 ≤ 2 * (n : Int) + 351) (by omega : 2 * (n : Int) + 351 ≤ 100351)
        have b4 := mul_bd (by omega : 0 ≤ 45000 * (n : Int)) (by omega : 45000 * (n : Int) ≤ 2250000000) hn0.1 hn0.2
        refine q_asg (ev_op (ev_cb (ea_cons (ev_op (ev_op (ev_op (ev_op (ev_var rfl) (ev_op (ev_op ev_c (ev_var rfl) (rv_I (.inl ⟨by decide, by decide⟩))) ev_c rv_I0) (rv_I (.inl ⟨by omega, by omega⟩)))
            (ev_op (ev_op ev_c (ev_var rfl) (rv_I (.inl ⟨by decide, by decide⟩))) (ev_var rfl) (rv_I (.inl ⟨by omega, by omega⟩))) rv_I0) ev_c rv_I0) ev_c (rv_I ⟨by decide, by decide, by omega⟩)) ea_nil) rc_int) ev_c (rv_I (by decide))) fun H8 e8 => ?_
        refine s_ret (ev_op (ev_cb (ea_cons (ev_op (ev_var rfl) ev_c (rv_I ⟨by decide, by decide⟩)) ea_nil) rc_int) (ev_var rfl) (rv_I hm0)) fun H9 e9 => ?_
        have k9 := e9 _ _ (e8 _ _ (e7 _ _ (e6 _ _ k1)))
        have key : ∀ b o, H b = some o → b ≠ p → H9 b = some o := fun b o hb hbp => e9 _ _ (e8 _ _ (e7 _ _ (e6 _ _ (kp5 _ _ hb hbp))))
        exact k _ H9 (emod_bd _ _ hm0).1 (emod_bd _ _ hm0).2 ⟨n + 1, _, k9, key _ _ h2 hpl, by omega⟩ key
end
end K00
namespace K00
open PySem L2 Evl
section
variable {P : Program} {w : World} {K : PySem.W.Frag} {mg : Str → Option Value} {base : Heap}
/-! ### _law_pen -/
def spPen (K : PySem.W.Frag) : Sp := fun vs H Q _ => ∃ (a : Addr) (ns : List Int), vs = [.ref a] ∧ SqL K H a (ns.map V.int) ∧ ns.length ≤ 63 ∧
  ∀ p l H', H p = none → H l = none → Ex H H' → PenAt H' p l ns 0 → Q (.ref p) H'
theorem scPen : FnScope ["_law_script"] ["_law_script"] (defScope sPen) := ⟨rfl, rfl, rfl, by decide +kernel, rfl, by decide +kernel, by decide +kernel⟩
theorem cut63 (xs : List V) (h : xs.length ≤ 63) : cutV xs none (some 63) = xs := by
  have e1 : HT.sIx xs.length 0 none = 0 := rfl
  have e2 : HT.sIx xs.length xs.length (some 63) = min 63 xs.length := rfl
  unfold cutV
  rw [e1, e2, List.drop_zero, Nat.sub_zero, Nat.min_eq_right h, List.take_length]
theorem ok_pen {f : Addr} {fd : FuncData} (F : Fun K "_law_pen" "_law_pen" sPen f fd) (T : Glb mg) : FnOk P w K mg base CX0 1 f fd ["_law_script"] (spPen K) := by
  refine F.ok scPen (fun vs H Q E h => ?_) (fun cdv A outer s H vs Q E hr h => ?_)
  · obtain ⟨a, ns, rfl, _⟩ := h
    rfl
  · obtain ⟨a, ns, rfl, hS, hl, k⟩ := h
    refine ⟨_, pss_one (ps_ret (pe_lst (pa_cons (pe_callTy call_list_of (by rfl) T.list (by decide +kernel) (pa_cons (pe_slice sl_list (pv 0) po_none (po_some pe_int)) pa_nil)) (pa_cons pe_int (pa_cons pe_int pa_nil))))), ?_⟩
    have ev := el_sl (K := K) (σ := [some (V.ref a)]) (H := H) (tl := tNoPart) (th := tPart (tC (.int 63))) (ev_var (i := 0) rfl) eo_none (eo_some ev_c) hS
    rw [cut63 _ (by rw [List.length_map]; exact hl)] at ev
    refine ev H (Ex.refl H) _ fun q H1 hq e1 h1 => ?_
    refine ⟨q, _, rfl, .inl (sq_of h1), fun l hl1 => ?_⟩
    refine ⟨by show 3 ≤ sizeLine; decide, fun p hp => ?_⟩
    have hp1 : p ≠ l := fun z => by
      rw [z, upd_same] at hp
      cases hp
    have hpn : H1 p = none := by rw [upd_ne hp1] at hp; exact hp
    exact k p l _ (fresh_back e1 hpn) (fresh_back e1 hl1) ((e1.trans (Ex.new hl1)).trans (Ex.new hp)) ⟨0, 0, upd_same, by rw [upd_ne hp1.symm, upd_same], Nat.le_refl _⟩
/-! ### _law_pick -/
def spPick : Sp := fun vs H Q _ => ∃ (p l a : Addr) (cells : List Int) (m : Nat) (xs : List V), vs = [.ref p, .ref a] ∧ PenAt H p l cells m ∧ m ≤ 50000 ∧ cells.length ≤ 63 ∧ H a = some (.lst xs) ∧ a ≠ p ∧ 0 < xs.length ∧ xs.length ≤ 1000000 ∧
  ∀ (i : Nat) x H', xs[i]? = some x → PenAt H' p l cells (m + 1) → Keep p H H' → Q x H'
theorem scPick : FnScope ["_law_pen_here", "_law_some"] ["_law_pen_here", "_law_some"] (defScope sPick) := ⟨rfl, rfl, rfl, by decide +kernel, rfl, by decide +kernel, by decide +kernel⟩
theorem ok_pick {f fD : Addr} {fd fdD : FuncData} (F : Fun K "_law_pick" "_law_pick" sPick f fd) (T : Glb mg) (FD : Fun K "_law_draw" "_law_draw" sDraw fD fdD) (bD : Binds K fdD ["_law_pen_here", "_law_many"] []) (gD : mg "_law_draw" = some (.ref fD)) :
    FnOk P w K mg base CX0 2 f fd ["_law_pen_here", "_law_some"] spPick := by
  have GD : FnOk P w K mg base CX0 1 fD fdD ["_law_pen_here", "_law_many"] spDraw := ok_draw FD T
  refine F.ok scPick (fun vs H Q E h => ?_) (fun cdv A outer s H vs Q E hr h => ?_)
  · obtain ⟨p, l, a, cells, m, xs, rfl, _⟩ := h
    rfl
  · obtain ⟨p, l, a, cells, m, xs, rfl, hp, hm, h63, ha, hap, hx0, hx1, k⟩ := h
    refine ⟨_, pss_one (ps_ret (pe_ix ix_list (pv 1) (pe_call GD hr (by rfl) gD FD.kp bD .nil pass0 (pa_cons (pv 0) (pa_cons (pe_callB call_len_seq (by rfl) T.len PySem.boot_len (pa_cons (pv 1) pa_nil)) pa_nil))) (fun _ _ => rfl))), ?_⟩
    refine ⟨_, rfl, _, rfl, _, rfl, a, xs, rfl, .inl (sq_of ha), p, l, cells, m, (xs.length : Int), rfl, hp, hm, h63, by omega, by omega, fun d H' d0 d1 hp' kp => ?_⟩
    obtain ⟨i, rfl⟩ := Int.eq_ofNat_of_zero_le d0
    have hi : i < xs.length := by omega
    have ei : xs[i]? = some xs[i] := List.getElem?_eq_getElem hi
    exact ⟨a, xs, (i : Int), xs[i], rfl, rfl, sq_of (kp _ _ ha hap), atI_nat ei, k i _ H' ei hp' kp⟩
end
end K00
namespace L2
open PySem PySem.Spec PyProof.Rows
section
variable {X : Cx} {k : Nat} {f : Addr} {fd : FuncData} {ps ks : List Str} {sp : Sp} {x : Str} {p pos : Pos} {kws : List Keyword} {tk : TA} {g : List Value → List Value → List Value} {gV : List V → List V → List V}
/-- f(k = v, ..), keywords alone -/
theorem pe_callK0 (F : FnOk X.prog X.w X.K X.mg X.base CX0 k f fd ps sp) (hr : Room k X.A) (hg : Gl X x) (hm : X.mg x = some (.ref f)) (hk : PySem.W.keepIn X.K (.ref f) = true) (hb : KBn X.K fd ps 0 ks g gV) (hkw : PK X kws tk)
    (hall : (backToKw pos (keywordEach kws X.env)).all (·.1.isSome) = true := by rfl) (hks : (backToKw pos (keywordEach kws X.env)).filterMap (·.1) = ks := by rfl) (hdb : (x == ("__debug__" : Str)) = false := by decide)
    (hpl : ((backTo pos (starEach [] X.env)).any (·.1) || (backToKw pos (keywordEach kws X.env)).any (·.1.isNone)) = false := by rfl) :
    PE X (.Call (.Name x p) [] kws pos) (tCallN 0 ks.length sp gV E0 tNil tk) := by
  refine ⟨fun pins s σ H Q I h => ?_⟩
  refine wpAny_Call_Name_kw (ld_glob I hg hm ?_ hdb)
  refine PySem.W.callWith_KW0 (h₀ := X.base) I.ok.mod.kin hk hall ?_ hpl
  refine thn (hkw.run pos pins s σ H _ I h) fun ws s2 ⟨zs, H2, I2, rz, l1, l2, q2⟩ => ⟨I2.kIn, ?_⟩
  rw [hks]
  exact run_fnN (us := []) (vs := []) F hr hb pass0 I2 .nil rz rfl l2 q2
/-- how a def without defaults binds keywords alone -/
theorem Fun.kb {K : PySem.W.Frag} {x qual : Str} {st : Stmt} {f : Addr} {fd : FuncData} {ps ks : List Str} (F : Fun K x qual st f fd) (n : Nat) (g : {α : Type} → List α → List α → List α)
    (hrel : ∀ {vs zs : List V} {us ws : List Value}, Vals vs us → Vals zs ws → Vals (g vs zs) (g us ws))
    (h : ∀ (kV doc pm : Value) (an : Option Addr) (cdv ct : Value) (us ws : List Value), us.length = n → ws.length = ks.length → bindArgs (PySem.W.fnOf x qual (defArgs st) (defBody st) (defScope st) .none kV doc pm an cdv ct) ⟨us, ks.zip ws⟩ = pure (ps.zip (g us ws))) :
    KBn K fd ps n ks (fun us ws => g us ws) (fun vs zs => g vs zs) := by
  obtain ⟨oc, od, kV, doc, pm, an, cdv, ct, osl, rfl, lk, hcd⟩ := F.ex
  exact ⟨fun s us ws _ l1 l2 => .of_eq (h kV doc pm an cdv ct us ws l1 l2), fun r1 r2 => hrel r1 r2⟩
end
end L2
namespace K00
open PySem L2 Evl
abbrev sIsInt : Stmt := top 4
abbrev sWithin : Stmt := top 5
abbrev sName : Stmt := top 6
abbrev sSigns : Stmt := top 7
abbrev sSignsW : Stmt := top 8
abbrev sLetter : Stmt := top 9
structure GlbT (mg : Str → Option Value) : Prop where
  inst : mg "isinstance" = none
  int : mg "int" = none
  bool : mg "bool" = none
  str : mg "str" = none
  len : mg "len" = none
theorem tyx_mono {K : PySem.W.Frag} {H H' : Hp} {x : V} {t : Value} (e : Ex H H') (h : TyX K H x t) : TyX K H' x t := by
  cases h with
  | base b =>
    refine .base ?_
    cases b with
    | non => exact .non
    | bl b => exact .bl b
    | int i => exact .int i
    | str x => exact .str x
    | flt x => exact .flt x
    | lst q => exact .lst (e _ _ q)
    | frz q => exact .frz (e _ _ q)
    | tup q => exact .tup (e _ _ q)
    | dK q => exact .dK (e _ _ q)
    | dT q => exact .dT (e _ _ q)
    | ins q a b c d f => exact .ins (e _ _ q) a b c d f
  | byt b => exact .byt b
  | set q => exact .set (e _ _ q)
  | kList q c => exact .kList q c
  | kTuple q c => exact .kTuple q c
  | kDict q c => exact .kDict q c
  | fTuple q => exact .fTuple (e _ _ q)
  | fDict q => exact .fDict (e _ _ q)
theorem rc_isi {K : PySem.W.Frag} {H : Hp} {x : V} {a b : String} {r : Bool} (h : TyX K H x (.type a)) (hk : kitB a b = some r) : RC (rIsi K) [x, .ty b] H (.bl r) := fun H1 e _ q => ⟨x, .ty b, .type a, .type b, r, rfl, .ty b, tyx_mono e h, kit_ty hk, q H1 (Ex.refl H1)⟩
section
variable {P : Program} {w : World} {K : PySem.W.Frag} {mg : Str → Option Value} {base : Heap}
/-! ### is_integer -/
def spIsInt (K : PySem.W.Frag) : Sp := fun vs H Q _ => ∃ (x : V) (T : String) (a b : Bool), vs = [x] ∧ TyX K H x (.type T) ∧ kitB T "int" = some a ∧ kitB T "bool" = some b ∧ RetV (.bl (a && !b)) H Q
theorem scIsInt : FnScope ["value"] ["value"] (defScope sIsInt) := ⟨rfl, rfl, rfl, by decide +kernel, rfl, by decide +kernel, by decide +kernel⟩
theorem ok_isInt {f : Addr} {fd : FuncData} (F : Fun K "is_integer" "is_integer" sIsInt f fd) (T : GlbT mg) : FnOk P w K mg base CX0 1 f fd ["value"] (spIsInt K) := by
  refine F.ok scIsInt (fun vs H Q E h => ?_) (fun cdv A outer s H vs Q E hr h => ?_)
  · obtain ⟨x, t, a, b, rfl, _⟩ := h
    rfl
  · obtain ⟨x, t, a, b, rfl, ht, ha, hb, k⟩ := h
    refine ⟨_, pss_one (ps_ret (pe_and (pe_callB call_isi (by rfl) T.inst (by decide +kernel) (pa_cons (pv 0) (pa_cons (pe_bltn (v := .ty "int") (by rfl) T.int (by decide +kernel) rfl) pa_nil)))
      (pe_one (pe_not (pe_callB call_isi (by rfl) T.inst (by decide +kernel) (pa_cons (pv 0) (pa_cons (pe_bltn (v := .ty "bool") (by rfl) T.bool (by decide +kernel) rfl) pa_nil))))))), ?_⟩
    exact s_ret (ev_andV (ev_cb (ea_cons (ev_var rfl) (ea_cons ev_c ea_nil)) (rc_isi ht ha)) fun _ => ev_notV (ev_cb (ea_cons (ev_var rfl) (ea_cons ev_c ea_nil)) (rc_isi ht hb))) k
/-! ### is_within -/
def spWithin (K : PySem.W.Frag) : Sp := fun vs H Q _ => (∃ i lo hi : Int, vs = [.int i, .int lo, .int hi] ∧ RetV (.bl (decide (lo ≤ i) && decide (i ≤ hi))) H Q) ∨
  ∃ (x y z : V) (T : String) (a b : Bool), vs = [x, y, z] ∧ TyX K H x (.type T) ∧ kitB T "int" = some a ∧ kitB T "bool" = some b ∧ (a && !b) = false ∧ RetV (.bl false) H Q
theorem scWithin : FnScope ["value", "least", "most"] ["value", "least", "most"] (defScope sWithin) := ⟨rfl, rfl, rfl, by decide +kernel, rfl, by decide +kernel, by decide +kernel⟩
theorem spv_isInt {H : Hp} {x : V} {t : String} {a b : Bool} (ht : TyX K H x (.type t)) (ha : kitB t "int" = some a) (hb : kitB t "bool" = some b) : SpV (spIsInt K) [x] H (.bl (a && !b)) := fun H1 e Q q E => ⟨x, t, a, b, rfl, tyx_mono e ht, ha, hb, q⟩
theorem kit_int_int : kitB "int" "int" = some true := by decide +kernel
theorem kit_int_bool : kitB "int" "bool" = some false := by decide +kernel
theorem ev_chain {σ : L2.St} {H : Hp} {ta tb tc : TE} {i j l : Int} {f g : Int → Int → Bool} (ha : Ev ta σ H (.int i)) (hb : Ev tb σ H (.int j)) (hc : Ev tc σ H (.int l)) :
    Ev (tChain (rI0 fun i j => .bl (f i j)) (rI0 fun i j => .bl (g i j)) ta tb tc) σ H (.bl (f i j && g j l)) := fun H1 e Q q =>
  ha H1 e _ fun H2 e2 => hb H2 (e.trans e2) _ fun H3 e3 => ⟨i, j, rfl, rfl, f i j, rfl, by
    cases h : f i j with
    | true =>
      simp only [h, Bool.true_and] at q
      exact hc H3 ((e.trans e2).trans e3) _ fun H4 e4 => ⟨j, l, rfl, rfl, q H4 ((e2.trans e3).trans e4)⟩
    | false =>
      simp only [h, Bool.false_and] at q
      exact q H3 (e2.trans e3)⟩
theorem ok_within {f fI : Addr} {fd fdI : FuncData} (F : Fun K "is_within" "is_within" sWithin f fd) (T : GlbT mg) (FI : Fun K "is_integer" "is_integer" sIsInt fI fdI) (bI : Binds K fdI ["value"] []) (gI : mg "is_integer" = some (.ref fI)) :
    FnOk P w K mg base CX0 2 f fd ["value", "least", "most"] (spWithin K) := by
  have GI : FnOk P w K mg base CX0 1 fI fdI ["value"] (spIsInt K) := ok_isInt FI T
  refine F.ok scWithin (fun vs H Q E h => ?_) (fun cdv A outer s H vs Q E hr h => ?_)
  · rcases h with ⟨i, lo, hi, rfl, _⟩ | ⟨x, y, z, t, a, b, rfl, _⟩ <;> rfl
  · have body : ∀ {x y z : V}, vs = [x, y, z] → ∀ {r : Bool}, Ev (tAndV (tCall (spIsInt K) [] E0 (tCons (tVar 0) tNil)) (tChain (rI0 fun i j => .bl (decide (i ≤ j))) (rI0 fun i j => .bl (decide (i ≤ j))) (tVar 1) (tVar 0) (tVar 2))) [some x, some y, some z] H (.bl r) → RetV (.bl r) H Q →
        ∃ t, PSs (cxOf CX0 P w K mg base ["value", "least", "most"] "is_within" (defScope sWithin) f cdv A outer s H E).nox (defBody sWithin) t ∧ t { nx := fun _ H' => Q .non H', rt := Q } (start ["value", "least", "most"] vs) H := by
      rintro x y z rfl r ev k
      exact ⟨_, pss_one (ps_ret (pe_and (pe_call GI hr (by rfl) gI FI.kp bI .nil pass0 (pa_cons (pv 0) pa_nil)) (pe_one (pe_chain op_le op_le (pv 1) (pv 0) (pv 2))))), s_ret ev k⟩
    rcases h with ⟨i, lo, hi, rfl, k⟩ | ⟨x, y, z, t, a, b, rfl, ht, ha, hb, hn, k⟩
    · refine body rfl (ev_andV (a := true) (ev_call (z := .bl true) (ea_cons (ev_var rfl) ea_nil) (spv_isInt (.base (.int i)) kit_int_int kit_int_bool)) fun _ => ev_chain (ev_var rfl) (ev_var rfl) (ev_var rfl)) k
    · refine body rfl (r := false) (ev_andV (a := false) (b := false) (ev_call (ea_cons (ev_var rfl) ea_nil) (by have q := spv_isInt ht ha hb; rw [hn] at q; exact q)) fun z => absurd z (by decide)) k
end
end K00
namespace K00
open PySem L2 Evl
abbrev abc : Str := "abcdefghijklmnopqrstuvwxyz"
abbrev oi : Str := "01"
abbrev mt : Str := ""
def nameB (z : Str) : Bool := (decide ((1 : Int) ≤ (z.length : Int)) && decide ((z.length : Int) ≤ 8)) && decide (V.str (Txt.stripChars z abc) = V.str mt)
def signsB (z : Str) : Bool := decide (V.str (Txt.stripChars z oi) = V.str mt)
def letterB (z : Str) : Bool := signsB z && (decide ((0 : Int) ≤ (z.length : Int)) && decide ((z.length : Int) ≤ 200))
section
variable {P : Program} {w : World} {K : PySem.W.Frag} {mg : Str → Option Value} {base : Heap}
theorem rc_lenS {z : Str} {H : Hp} (h : z.length ≤ 100000) : RC (fun xs H Q => ∃ x n, xs = [x] ∧ LenV K x H n ∧ Q (.int n) H) [.str z] H (.int (z.length : Int)) := fun H1 _ _ q => ⟨.str z, z.length, rfl, ⟨sz_of h, rfl⟩, q H1 (Ex.refl H1)⟩
theorem ev_strip {σ : L2.St} {H : Hp} {ta tb : TE} {a b : Str} (ha : Ev ta σ H (.str a)) (hb : Ev tb σ H (.str b)) (h : a.length ≤ 100000) :
    Ev (tBM K "str" (fun x xs H Q => ∃ a b, x = .str a ∧ xs = [.str b] ∧ a.length ≤ sizeLine ∧ Q (.str (Txt.stripChars a b)) H) ta (tCons tb tNil)) σ H (.str (Txt.stripChars a b)) := fun H1 e Q q =>
  ha H1 e _ fun H2 e2 => ⟨rfl, hb H2 (e.trans e2) _ fun H3 e3 => ⟨a, b, rfl, rfl, sz_of h, q H3 (e2.trans e3)⟩⟩
/-! ### is_name -/
def spName (K : PySem.W.Frag) : Sp := fun vs H Q _ => (∃ z : Str, vs = [.str z] ∧ z.length ≤ 1000 ∧ RetV (.bl (nameB z)) H Q) ∨
  ∃ (x : V) (T : String), vs = [x] ∧ TyX K H x (.type T) ∧ kitB T "str" = some false ∧ RetV (.bl false) H Q
structure GlbC (mg : Str → Option Value) : Prop where
  most : ∃ t, mg "MOST_NAME_LETTERS" = some (.int 8 t)
  abc : ∃ t, mg "NAME_LETTERS" = some (.str abc t)
  signs : ∃ t, mg "MOST_LETTER_SIGNS" = some (.int 200 t)
theorem scName : FnScope ["value"] ["value"] (defScope sName) := ⟨rfl, rfl, rfl, by decide +kernel, rfl, by decide +kernel, by decide +kernel⟩
theorem kit_str_str : kitB "str" "str" = some true := by decide +kernel
theorem ok_name {f : Addr} {fd : FuncData} (F : Fun K "is_name" "is_name" sName f fd) (T : GlbT mg) (C : GlbC mg) : FnOk P w K mg base CX0 1 f fd ["value"] (spName K) := by
  obtain ⟨t1, g1⟩ := C.most
  obtain ⟨t2, g2⟩ := C.abc
  refine F.ok scName (fun vs H Q E h => ?_) (fun cdv A outer s H vs Q E hr h => ?_)
  · rcases h with ⟨z, rfl, _⟩ | ⟨x, t, rfl, _⟩ <;> rfl
  · rcases h with ⟨z, rfl, hz, k⟩ | ⟨x, t, rfl, ht, hk, k⟩
    all_goals refine ⟨_, pss_cons (ps_if (pt_not (pt_val (pe_callB call_isi (by rfl) T.inst (by decide +kernel) (pa_cons (pv 0) (pa_cons (pe_bltn (v := .ty "str") (by rfl) T.str (by decide +kernel) rfl) pa_nil))))) (pss_one (ps_ret pe_bl)) pss_nil)
      (pss_one (ps_ret (pe_and (pe_chain op_le op_le pe_int (pe_callB call_len (by rfl) T.len PySem.boot_len (pa_cons (pv 0) pa_nil)) (pe_glob (v := .int 8) rfl g1 ⟨_, rfl⟩))
        (pe_one (pe_cmpR op_eq (pe_bm PySem.F.plainAttrs_str PySem.F.slot_str_strip PySem.F.type_str_strip mt_stripChars (pv 0) (pa_cons (pe_glob (v := .str abc) rfl g2 ⟨_, rfl⟩) pa_nil)) pe_str (nomark _)))))), ?_⟩
    · refine q_when (et_not (et_B (ev_cb (ea_cons (ev_var rfl) (ea_cons ev_c ea_nil)) (rc_isi (.base (.str z)) kit_str_str)))) (fun hb => absurd hb (by decide)) (fun _ H1 e1 => ?_)
      refine s_ret (ev_andV (ev_chain ev_c (ev_cb (ea_cons (ev_var rfl) ea_nil) (rc_lenS (by omega))) ev_c) fun _ => ev_op (ev_strip (ev_var rfl) ev_c (by omega)) ev_c (rv_eq rfl)) fun H2 e2 => k H2 (e1.trans e2)
    · refine q_when (et_not (et_B (ev_cb (ea_cons (ev_var rfl) (ea_cons ev_c ea_nil)) (rc_isi ht hk)))) (fun _ H1 e1 => ?_) (fun hb => absurd hb (by decide))
      exact k H1 e1
/-! ### is_signs -/
def spSigns (K : PySem.W.Frag) : Sp := fun vs H Q _ => (∃ z : Str, vs = [.str z] ∧ z.length ≤ 1000 ∧ RetV (.bl (signsB z)) H Q) ∨
  ∃ (x : V) (T : String), vs = [x] ∧ TyX K H x (.type T) ∧ kitB T "str" = some false ∧ RetV (.bl false) H Q
theorem scSigns : FnScope ["value"] ["value"] (defScope sSigns) := ⟨rfl, rfl, rfl, by decide +kernel, rfl, by decide +kernel, by decide +kernel⟩
theorem ok_signs {f : Addr} {fd : FuncData} (F : Fun K "is_signs" "is_signs" sSigns f fd) (T : GlbT mg) : FnOk P w K mg base CX0 1 f fd ["value"] (spSigns K) := by
  refine F.ok scSigns (fun vs H Q E h => ?_) (fun cdv A outer s H vs Q E hr h => ?_)
  · rcases h with ⟨z, rfl, _⟩ | ⟨x, t, rfl, _⟩ <;> rfl
  · rcases h with ⟨z, rfl, hz, k⟩ | ⟨x, t, rfl, ht, hk, k⟩
    all_goals refine ⟨_, pss_one (ps_ret (pe_and (pe_callB call_isi (by rfl) T.inst (by decide +kernel) (pa_cons (pv 0) (pa_cons (pe_bltn (v := .ty "str") (by rfl) T.str (by decide +kernel) rfl) pa_nil)))
        (pe_one (pe_cmpR op_eq (pe_bm PySem.F.plainAttrs_str PySem.F.slot_str_strip PySem.F.type_str_strip mt_stripChars (pv 0) (pa_cons pe_str pa_nil)) pe_str (nomark _))))), ?_⟩
    · refine s_ret (ev_is (ev_andV (ev_cb (ea_cons (ev_var rfl) (ea_cons ev_c ea_nil)) (rc_isi (.base (.str z)) kit_str_str)) fun _ => ev_op (ev_strip (ev_var rfl) ev_c (by omega)) ev_c (rv_eq rfl)) (by rw [Bool.true_and]; rfl)) k
    · refine s_ret (ev_is (ev_andV (b := true) (ev_cb (ea_cons (ev_var rfl) (ea_cons ev_c ea_nil)) (rc_isi ht hk)) fun hb => absurd hb (by decide)) rfl) k
theorem spv_signs {H : Hp} {z : Str} (hz : z.length ≤ 1000) : SpV (spSigns K) [.str z] H (.bl (signsB z)) := fun H1 e Q q E => .inl ⟨z, rfl, hz, q⟩
theorem spv_signs0 {H : Hp} {x : V} {t : String} (ht : TyX K H x (.type t)) (hk : kitB t "str" = some false) : SpV (spSigns K) [x] H (.bl false) := fun H1 e Q q E => .inr ⟨x, t, rfl, tyx_mono e ht, hk, q⟩
/-! ### is_signs_within -/
def spSignsW (K : PySem.W.Frag) : Sp := fun vs H Q _ => (∃ (z : Str) (lo hi : Int), vs = [.str z, .int lo, .int hi] ∧ z.length ≤ 1000 ∧ RetV (.bl (signsB z && (decide (lo ≤ (z.length : Int)) && decide ((z.length : Int) ≤ hi)))) H Q) ∨
  ∃ (x y z : V) (T : String), vs = [x, y, z] ∧ TyX K H x (.type T) ∧ kitB T "str" = some false ∧ RetV (.bl false) H Q
theorem scSignsW : FnScope ["value", "least", "most"] ["value", "least", "most"] (defScope sSignsW) := ⟨rfl, rfl, rfl, by decide +kernel, rfl, by decide +kernel, by decide +kernel⟩
theorem ok_signsW {f fS : Addr} {fd fdS : FuncData} (F : Fun K "is_signs_within" "is_signs_within" sSignsW f fd) (T : GlbT mg) (FS : Fun K "is_signs" "is_signs" sSigns fS fdS) (bS : Binds K fdS ["value"] []) (gS : mg "is_signs" = some (.ref fS)) :
    FnOk P w K mg base CX0 2 f fd ["value", "least", "most"] (spSignsW K) := by
  have GS : FnOk P w K mg base CX0 1 fS fdS ["value"] (spSigns K) := ok_signs FS T
  refine F.ok scSignsW (fun vs H Q E h => ?_) (fun cdv A outer s H vs Q E hr h => ?_)
  · rcases h with ⟨z, lo, hi, rfl, _⟩ | ⟨x, y, z, t, rfl, _⟩ <;> rfl
  · rcases h with ⟨z, lo, hi, rfl, hz, k⟩ | ⟨x, y, z, t, rfl, ht, hk, k⟩
    all_goals refine ⟨_, pss_one (ps_ret (pe_and (pe_call GS hr (by rfl) gS FS.kp bS .nil pass0 (pa_cons (pv 0) pa_nil)) (pe_one (pe_chain op_le op_le (pv 1) (pe_callB call_len (by rfl) T.len PySem.boot_len (pa_cons (pv 0) pa_nil)) (pv 2))))), ?_⟩
    · exact s_ret (ev_andV (ev_call (ea_cons (ev_var rfl) ea_nil) (spv_signs hz)) fun _ => ev_chain (ev_var rfl) (ev_cb (ea_cons (ev_var rfl) ea_nil) (rc_lenS (by omega))) (ev_var rfl)) k
    · exact s_ret (ev_is (ev_andV (b := true) (ev_call (ea_cons (ev_var rfl) ea_nil) (spv_signs0 ht hk)) fun hb => absurd hb (by decide)) rfl) k
/-! ### is_letter -/
def spLetter (K : PySem.W.Frag) : Sp := fun vs H Q _ => (∃ z : Str, vs = [.str z] ∧ z.length ≤ 1000 ∧ RetV (.bl (letterB z)) H Q) ∨
  ∃ (x : V) (T : String), vs = [x] ∧ TyX K H x (.type T) ∧ kitB T "str" = some false ∧ RetV (.bl false) H Q
theorem scLetter : FnScope ["value"] ["value"] (defScope sLetter) := ⟨rfl, rfl, rfl, by decide +kernel, rfl, by decide +kernel, by decide +kernel⟩
theorem ok_letter {f fW fS : Addr} {fd fdW fdS : FuncData} (F : Fun K "is_letter" "is_letter" sLetter f fd) (T : GlbT mg) (C : GlbC mg) (FS : Fun K "is_signs" "is_signs" sSigns fS fdS) (bS : Binds K fdS ["value"] []) (gS : mg "is_signs" = some (.ref fS))
    (FW : Fun K "is_signs_within" "is_signs_within" sSignsW fW fdW) (bW : Binds K fdW ["value", "least", "most"] []) (gW : mg "is_signs_within" = some (.ref fW)) :
    FnOk P w K mg base CX0 3 f fd ["value"] (spLetter K) := by
  have GW : FnOk P w K mg base CX0 2 fW fdW ["value", "least", "most"] (spSignsW K) := ok_signsW FW T FS bS gS
  obtain ⟨t1, g1⟩ := C.signs
  refine F.ok scLetter (fun vs H Q E h => ?_) (fun cdv A outer s H vs Q E hr h => ?_)
  · rcases h with ⟨z, rfl, _⟩ | ⟨x, t, rfl, _⟩ <;> rfl
  · rcases h with ⟨z, rfl, hz, k⟩ | ⟨x, t, rfl, ht, hk, k⟩
    all_goals refine ⟨_, pss_one (ps_ret (pe_call GW hr (by rfl) gW FW.kp bW .nil pass0 (pa_cons (pv 0) (pa_cons pe_int (pa_cons (pe_glob (v := .int 200) rfl g1 ⟨_, rfl⟩) pa_nil))))), ?_⟩
    · exact s_ret (ev_call (ea_cons (ev_var rfl) (ea_cons ev_c (ea_cons ev_c ea_nil))) (fun H1 e Q q E => .inl ⟨z, 0, 200, rfl, hz, q⟩)) k
    · exact s_ret (ev_call (ea_cons (ev_var rfl) (ea_cons ev_c (ea_cons ev_c ea_nil))) (fun H1 e Q q E => .inr ⟨x, _, _, t, rfl, tyx_mono e ht, hk, q⟩)) k
end
end K00
namespace K00
open PySem L2 Evl
abbrev sCls (i : Nat) : Stmt := inClass (top i) 0
/-- what the written part says of an error class x, PostError at B -/
structure CB (K : PySem.W.Frag) (x : Str) (C B : Addr) : Prop where
  aC : PySem.W.nsIn K mainGlobals x = some (some (.ref C))
  xL : ∃ nm q N bs sn sub ab col dd k0 k1 k2 k3 k5, K.lookup C = some (excClassObj nm q C N bs [.ref B, .type "ValueError", .type "Exception", .type "BaseException", .type "object"] true sn sub ab col dd k0 k1 k2 k3 k5 "ValueError.__new__")
  sa : PySem.W.findIn K (.ref C) "__setattr__" = some (some (.builtin "object.__setattr__"))
  ga : PySem.W.findIn K (.ref C) "__getattribute__" = some (some (.builtin "BaseException.__getattribute__"))
  gg : PySem.W.findIn K (.ref C) "__getattr__" = some none
  cc : PySem.W.findIn K (.ref C) "__class__" = some (some (.builtin "object.__class__"))
  tC : PySem.W.typeIn K (.ref C) = some (.type "type")
  kC : PySem.W.keepIn K (.ref C) = true
/-- .. and of its __init__, the def st -/
structure CF (K : PySem.W.Frag) (x qual : Str) (st : Stmt) (C f B : Addr) : Prop where
  b : CB K x C B
  a1 : PySem.W.findIn K (.ref C) "__init__" = some (some (.ref f))
  l1 : ∃ (oc : Value) (od : Option Addr) (kV doc pm : Value) (an : Option Addr) (cdv ct : Value) (osl : Array (Option Value)),
    K.lookup f = some ⟨oc, od, .func (PySem.W.fnOf "__init__" qual (defArgs st) (defBody st) (defScope st) .none kV doc pm an cdv ct), osl⟩ ∧ PySem.W.codeIn K cdv qual = true
  k1 : PySem.W.keepIn K (.ref f) = true
  t1 : PySem.W.typeIn K (.ref f) = some (.type "function")
structure CG (K : PySem.W.Frag) : Prop where
  sp : PySem.W.specialIn K (.builtin "object.__class__") "__get__" = some (some (.builtin "getset_descriptor.__get__"))
  tk : PySem.W.takesIn K (.builtin "object.__class__") = some true
section
variable {K : PySem.W.Frag} {x qual : Str} {st : Stmt} {C f B : Addr}
theorem CB.cls (T : CB K x C B) : ∃ cd, PySem.W.clsIn K C = some cd ∧ cd.mro = [.ref C, .ref B, .type "ValueError", .type "Exception", .type "BaseException", .type "object"] ∧ cd.hasDict = true := by
  obtain ⟨nm, q, N, bs, sn, sub, ab, col, dd, k0, k1, k2, k3, k5, h⟩ := T.xL
  refine ⟨{ name := nm, bases := bs, mro := .ref C :: [.ref B, .type "ValueError", .type "Exception", .type "BaseException", .type "object"], ns := N, qualname := q, hasDict := true, slotNames := sn, subclasses := sub, abstract := ab, collection := col, hasDel := false }, ?_, rfl, rfl⟩
  unfold PySem.W.clsIn
  rw [h] <;> rfl
theorem CB.mro (T : CB K x C B) (v : Value) : PySem.W.mroIn K C v = some ([Value.ref C, .ref B, .type "ValueError", .type "Exception", .type "BaseException", .type "object"].contains v) := by
  obtain ⟨cd, h1, h2, _⟩ := T.cls
  unfold PySem.W.mroIn
  rw [h1, Option.bind_some, h2]
  rfl
theorem CB.ox (T : CB K x C B) : OexC K C := by
  obtain ⟨nm, q, N, bs, sn, sub, ab, col, dd, k0, k1, k2, k3, k5, h⟩ := T.xL
  exact ⟨⟨nm, q, N, bs, _, sn, sub, ab, col, dd, k0, k1, k2, k3, k5, h, rfl⟩, T.sa, (T.mro _).trans (by rfl), T.tC, T.kC⟩
theorem CF.xv (T : CF K x qual st C f B) : XvC K C f := ⟨T.b.ox, T.a1, T.t1⟩
theorem CB.hd (T : CB K x C B) : PySem.W.hasDictIn K C = true := by
  obtain ⟨cd, h1, h2, h3⟩ := T.cls
  unfold PySem.W.hasDictIn
  rw [h1]
  first | exact h3 | (simp [h3])
theorem CB.xf (T : CB K x C B) : XfC K C := ⟨T.ga, T.gg, (T.mro _).trans (by rfl), T.hd⟩
theorem CB.xi (T : CB K x C B) (G : CG K) : XiC K C := by
  obtain ⟨cd, h1, _⟩ := T.cls
  exact ⟨by rw [h1]; rfl, T.ga, T.gg, (T.mro _).trans (by rfl), T.cc, G.sp, G.tk, (T.mro _).trans (by rfl)⟩
theorem CF.fn (T : CF K x qual st C f B) : ∃ fd, Fun K "__init__" qual st f fd := by
  obtain ⟨oc, od, kV, doc, pm, an, cdv, ct, osl, h1, h2⟩ := T.l1
  exact ⟨_, fun_mk h1 h2 T.k1⟩
theorem eq_ref (a b : Addr) : (Value.ref a == Value.ref b) = decide (a = b) := by
  by_cases h : a = b
  · subst h
    simp
  · rw [decide_eq_false h]
    exact beq_eq_false_iff_ne.mpr fun z => h (Value.ref.inj z)
/-- isinstance of an instance of C, for another error class D -/
theorem CB.kit {x' : Str} {D : Addr} (T : CB K x C B) (U : CB K x' D B) (h : D ≠ B) : PySem.W.kitOne K (.ref C) (.ref D) = some (decide (D = C)) := by
  unfold PySem.W.kitOne PySem.W.kitCls
  by_cases e : C = D
  · subst e
    rw [if_pos (by simp), decide_eq_true rfl]
  · have e1 : (Value.ref C == Value.ref D) = false := by rw [eq_ref, decide_eq_false e]
    obtain ⟨cd, h1, _⟩ := U.cls
    rw [e1, if_neg Bool.false_ne_true]
    simp only [h1, U.tC, Option.isSome_some, beq_self_eq_true, Bool.and_self, if_true]
    refine (T.mro _).trans ?_
    rw [decide_eq_false (fun z => e z.symm)]
    simp [Ne.symm e, h, Ne.symm h]
theorem CB.kitB' (T : CB K x C B) (hB : ∃ cd, PySem.W.clsIn K B = some cd) (tB : PySem.W.typeIn K (.ref B) = some (.type "type")) : PySem.W.kitOne K (.ref C) (.ref B) = some true := by
  unfold PySem.W.kitOne PySem.W.kitCls
  by_cases e : C = B
  · subst e
    rw [if_pos (by simp)]
  · have e1 : (Value.ref C == Value.ref B) = false := by rw [eq_ref, decide_eq_false e]
    obtain ⟨cd, h1⟩ := hB
    rw [e1, if_neg Bool.false_ne_true]
    simp only [h1, tB, Option.isSome_some, beq_self_eq_true, Bool.and_self, if_true]
    refine (T.mro _).trans ?_
    simp
theorem CB.kitV (T : CB K x C B) : PySem.W.kitOne K (.ref C) (.type "ValueError") = some true := by
  unfold PySem.W.kitOne PySem.W.kitCls
  rw [if_neg (by simp)]
  show (if PySem.W.kitMeta "ValueError" = true then PySem.W.subIn K (.ref C) (.type "ValueError") else none) = some true
  rw [if_pos (by decide +kernel)]
  exact (T.mro _).trans (by rfl)
end
/-! ### __init__ of one field, of two -/
def spI1 (C : Addr) (n : Str) : Sp := fun vs H Q _ => ∃ (a : Addr) (v : V), vs = [.ref a, v] ∧ H a = some (exo a C none) ∧ ∀ d, H d = none → d ≠ a → Q .non (upd (upd H d (exd d [(n, v)])) a (exo a C (some d)))
def spI2 (C : Addr) (n m : Str) : Sp := fun vs H Q _ => ∃ (a : Addr) (v u : V), vs = [.ref a, v, u] ∧ H a = some (exo a C none) ∧ ∀ d, H d = none → d ≠ a → Q .non (upd (upd (upd H d (exd d [(n, v)])) a (exo a C (some d))) d (exd d [(m, u), (n, v)]))
section
variable {P : Program} {w : World} {K : PySem.W.Frag} {mg : Str → Option Value} {base : Heap}
theorem ok_I1 {x qual : Str} {st : Stmt} {C f B : Addr} {fd : FuncData} {n : Str} {p1 p2 p3 p4 : Pos} (T : CF K x qual st C f B) (F : Fun K "__init__" qual st f fd) (S : FnScope ["self", n] ["self", n] (defScope st)) (hb : defBody st = [Stmt.Assign [.Attribute (.Name "self" p1) n p2] (.Name n p3) p4])
    (l1 : (defScope st).names.lookup ("self" : Str) = some .local) (l2 : (defScope st).names.lookup n = some .local) (hd : (n == ("__debug__" : Str)) = false) (hcd : (n == ("__classdict__" : Str)) = false)
    (hno : PySem.W.findIn K (.ref C) n = some none) : FnOk P w K mg base CX0 1 f fd ["self", n] (spI1 C n) := by
  refine F.ok S (fun vs H Q E h => ?_) (fun cdv A outer s H vs Q E hr h => ?_)
  · obtain ⟨a, v, rfl, _⟩ := h
    rfl
  · obtain ⟨a, v, rfl, ha, k⟩ := h
    rw [hb]
    refine ⟨_, pss_one (ps_ost (pv 0 rfl (.inl l1)) (pv 1 rfl (.inl l2) hd hcd)), ?_⟩
    exact ⟨v, rfl, .ref a, rfl, a, C, rfl, T.b.ox, hno, .inl ⟨ha, fun d hd hda => k d hd hda⟩⟩
theorem ok_I2 {x qual : Str} {st : Stmt} {C f B : Addr} {fd : FuncData} {n m : Str} {p1 p2 p3 p4 q1 q2 q3 q4 : Pos} (T : CF K x qual st C f B) (F : Fun K "__init__" qual st f fd) (S : FnScope ["self", n, m] ["self", n, m] (defScope st))
    (hb : defBody st = [Stmt.Assign [.Attribute (.Name "self" p1) n p2] (.Name n p3) p4, Stmt.Assign [.Attribute (.Name "self" q1) m q2] (.Name m q3) q4])
    (l1 : (defScope st).names.lookup ("self" : Str) = some .local) (l2 : (defScope st).names.lookup n = some .local) (l3 : (defScope st).names.lookup m = some .local) (hd : (n == ("__debug__" : Str)) = false) (hcd : (n == ("__classdict__" : Str)) = false) (hd2 : (m == ("__debug__" : Str)) = false) (hcd2 : (m == ("__classdict__" : Str)) = false)
    (hno : PySem.W.findIn K (.ref C) n = some none) (hno2 : PySem.W.findIn K (.ref C) m = some none) : FnOk P w K mg base CX0 1 f fd ["self", n, m] (spI2 C n m) := by
  refine F.ok S (fun vs H Q E h => ?_) (fun cdv A outer s H vs Q E hr h => ?_)
  · obtain ⟨a, v, u, rfl, _⟩ := h
    rfl
  · obtain ⟨a, v, u, rfl, ha, k⟩ := h
    rw [hb]
    refine ⟨_, pss_cons (ps_ost (pv 0 rfl (.inl l1)) (pv 1 rfl (.inl l2) hd hcd)) (pss_one (ps_ost (pv 0 rfl (.inl l1)) (pv 2 rfl (.inl l3) hd2 hcd2))), ?_⟩
    refine ⟨v, rfl, .ref a, rfl, a, C, rfl, T.b.ox, hno, .inl ⟨ha, fun d hd hda => ?_⟩⟩
    exact ⟨u, rfl, .ref a, rfl, a, C, rfl, T.b.ox, hno2, .inr ⟨d, _, upd_same, by rw [upd_ne hda]; exact upd_same, by show 1 ≤ 900; decide, k d hd hda⟩⟩
end
end K00
namespace K00
open PySem L2 Evl
theorem xat_mono {H H' : Hp} {a C : Addr} (e : Ex H H') (h : XAt H a C) : XAt H' a C := by
  rcases h with ⟨d, fs, h1, h2⟩ | h
  · exact .inl ⟨d, fs, e _ _ h1, e _ _ h2⟩
  · exact .inr (e _ _ h)
/-- an error class in use, with one field -/
structure Use1 (P : Program) (w : World) (K : PySem.W.Frag) (mg : Str → Option Value) (base : Heap) (x n : Str) (C f B : Addr) (qual : Str) (st : Stmt) (fd : FuncData) : Prop where
  T : CF K x qual st C f B
  G : FnOk P w K mg base CX0 1 f fd ["self", n] (spI1 C n)
  gC : mg x = some (.ref C)
  bP : KBn K fd ["self", n] 2 [] (fun us _ => us) (fun vs _ => vs)
  bK : KBn K fd ["self", n] 1 [n] (fun us ws => us ++ ws) (fun vs zs => vs ++ zs)
  no : PySem.W.findIn K (.ref C) n = some none
structure Use2 (P : Program) (w : World) (K : PySem.W.Frag) (mg : Str → Option Value) (base : Heap) (x n m : Str) (C f B : Addr) (qual : Str) (st : Stmt) (fd : FuncData) : Prop where
  T : CF K x qual st C f B
  G : FnOk P w K mg base CX0 1 f fd ["self", n, m] (spI2 C n m)
  gC : mg x = some (.ref C)
  bP : KBn K fd ["self", n, m] 3 [] (fun us _ => us) (fun vs _ => vs)
  bK : KBn K fd ["self", n, m] 1 [m, n] (fun us ws => us ++ ws.reverse) (fun vs zs => vs ++ zs.reverse)
  no : PySem.W.findIn K (.ref C) n = some none
  no2 : PySem.W.findIn K (.ref C) m = some none
/-- what evaluates to a new pair of an error of the class C and v -/
def EvP (te : TE) (σ : L2.St) (H : Hp) (C : Addr) (v : V) : Prop := ∀ H1, Ex H H1 → ∀ Q : VK, (∀ t a H2, Ex H1 H2 → H2 t = some (.tup [.ref a, v]) → XAt H2 a C → Q (.ref t) H2) → te σ H1 Q
section
variable {X : Cx} {x n m : Str} {C f B : Addr} {qual : Str} {st : Stmt} {fd : FuncData} {y z : Str} {i j : Nat} {p1 p2 p3 p4 p5 p6 p7 p8 p9 p10 p11 p12 : Pos}
/-- (X(y), X(n = y).n) -/
theorem pe_pair1 (U : Use1 X.prog X.w X.K X.mg X.base x n C f B qual st fd) (hr : Room 2 X.A) (hg : Gl X x) (hy : ∀ p, PE X (.Name y p) (tVar i)) (hdb : (x == ("__debug__" : Str)) = false) :
    PE X (.Tuple [.Call (.Name x p1) [.Name y p2] [] p3, .Attribute (.Call (.Name x p4) [] [⟨some n, .Name y p5, p6⟩] p7) n p8] 0 p9)
      (tTup (tCons (tXv C 1 0 (spI1 C n) (fun vs _ => vs) (tCons (tVar i) tNil) tNil) (tCons (tXvF X.K n (tXv C 0 1 (spI1 C n) (fun vs zs => vs ++ zs) tNil (tCons (tVar i) tNil))) tNil))) :=
  pe_tup (pa_cons (pe_xv U.T.xv U.G hr hg U.gC U.bP (by decide) (pa_cons (hy _) pa_nil) hdb) (pa_cons (pe_xvF (pe_xvK0 U.T.xv U.G hr hg U.gC U.bK (pk_cons (hy _) pk_nil) rfl rfl hdb)) pa_nil))
/-- (X(z, y), X(m = y, n = z).m) -/
theorem pe_pair2 (U : Use2 X.prog X.w X.K X.mg X.base x n m C f B qual st fd) (hr : Room 2 X.A) (hg : Gl X x) (hy : ∀ p, PE X (.Name y p) (tVar i)) (hz : ∀ p, PE X (.Name z p) (tVar j)) (hdb : (x == ("__debug__" : Str)) = false) :
    PE X (.Tuple [.Call (.Name x p1) [.Name z p2, .Name y p3] [] p4, .Attribute (.Call (.Name x p5) [] [⟨some m, .Name y p6, p7⟩, ⟨some n, .Name z p8, p9⟩] p10) m p11] 0 p12)
      (tTup (tCons (tXv C 2 0 (spI2 C n m) (fun vs _ => vs) (tCons (tVar j) (tCons (tVar i) tNil)) tNil) (tCons (tXvF X.K m (tXv C 0 2 (spI2 C n m) (fun vs zs => vs ++ zs.reverse) tNil (tCons (tVar i) (tCons (tVar j) tNil)))) tNil))) :=
  pe_tup (pa_cons (pe_xv U.T.xv U.G hr hg U.gC U.bP (by decide) (pa_cons (hz _) (pa_cons (hy _) pa_nil)) hdb) (pa_cons (pe_xvF (pe_xvK0 U.T.xv U.G hr hg U.gC U.bK (pk_cons (hy _) (pk_cons (hz _) pk_nil)) rfl rfl hdb)) pa_nil))
end
section
variable {P : Program} {w : World} {K : PySem.W.Frag} {mg : Str → Option Value} {base : Heap} {x n m : Str} {C f B : Addr} {qual : Str} {st : Stmt} {fd : FuncData} {σ : L2.St} {H : Hp} {v u : V} {i j : Nat}
/-- behind an own __init__ of one field -/
theorem made1 {H H1 : Hp} {a d : Addr} {o : HO} (e : Ex H H1) (ha : H1 a = none) (hd : upd H1 a o d = none) (hda : d ≠ a) {o1 o2 : HO} : Ex H1 (upd (upd (upd H1 a o) d o1) a o2) := fun b u hb => by
  have n1 : b ≠ a := ne_of_none hb ha
  have n2 : b ≠ d := ne_of_none (show upd H1 a o b = some u by rw [upd_ne n1]; exact hb) hd
  rw [upd_ne n1, upd_ne n2, upd_ne n1]
  exact hb
theorem ev_xv1 (U : Use1 P w K mg base x n C f B qual st fd) (hv : σ[i]? = some (some v)) {ta : TA} {tk : TA} {g : List V → List V → List V} {k l : Nat} (hk : (k = 1 ∧ l = 0 ∧ ta = tCons (tVar i) tNil ∧ tk = tNil ∧ g = fun vs _ => vs) ∨ (k = 0 ∧ l = 1 ∧ ta = tNil ∧ tk = tCons (tVar i) tNil ∧ g = fun vs zs => vs ++ zs)) :
    ∀ H1, ∀ Q : VK, (∀ a d H2, Ex H1 H2 → H2 a = some (exo a C (some d)) → H2 d = some (exd d [(n, v)]) → Q (.ref a) H2) → tXv C k l (spI1 C n) g ta tk σ H1 Q := by
  intro H1 Q q
  have go : ∀ a, H1 a = none → spI1 C n [.ref a, v] (upd H1 a (exo a C none)) (fun w H3 => w = .non ∧ Q (.ref a) H3) E0 := fun a ha =>
    ⟨a, v, rfl, upd_same, fun d hd hda => ⟨rfl, q a d _ (made1 (Ex.refl H1) ha hd hda) upd_same (by rw [upd_ne hda, upd_same])⟩⟩
  rcases hk with ⟨rfl, rfl, rfl, rfl, rfl⟩ | ⟨rfl, rfl, rfl, rfl, rfl⟩
  · exact ⟨v, hv, rfl, rfl, go⟩
  · exact ⟨v, hv, rfl, rfl, go⟩
theorem ev_xv2 (U : Use2 P w K mg base x n m C f B qual st fd) (hv : σ[i]? = some (some v)) (hu : σ[j]? = some (some u)) {ta : TA} {tk : TA} {g : List V → List V → List V} {k l : Nat} (hk : (k = 2 ∧ l = 0 ∧ ta = tCons (tVar j) (tCons (tVar i) tNil) ∧ tk = tNil ∧ g = fun vs _ => vs) ∨ (k = 0 ∧ l = 2 ∧ ta = tNil ∧ tk = tCons (tVar i) (tCons (tVar j) tNil) ∧ g = fun vs zs => vs ++ zs.reverse)) :
    ∀ H1, ∀ Q : VK, (∀ a d H2, Ex H1 H2 → H2 a = some (exo a C (some d)) → H2 d = some (exd d [(m, v), (n, u)]) → Q (.ref a) H2) → tXv C k l (spI2 C n m) g ta tk σ H1 Q := by
  intro H1 Q q
  have go : ∀ a, H1 a = none → spI2 C n m [.ref a, u, v] (upd H1 a (exo a C none)) (fun w H3 => w = .non ∧ Q (.ref a) H3) E0 := fun a ha =>
    ⟨a, u, v, rfl, upd_same, fun d hd hda => ⟨rfl, q a d _ (fun b o hb => by
      have n1 : b ≠ a := ne_of_none hb ha
      have n2 : b ≠ d := ne_of_none (show upd H1 a (exo a C none) b = some o by rw [upd_ne n1]; exact hb) hd
      rw [upd_ne n2, upd_ne n1, upd_ne n2, upd_ne n1]
      exact hb) (by rw [upd_ne hda.symm]; exact upd_same) upd_same⟩⟩
  rcases hk with ⟨rfl, rfl, rfl, rfl, rfl⟩ | ⟨rfl, rfl, rfl, rfl, rfl⟩
  · exact ⟨u, hu, v, hv, rfl, rfl, go⟩
  · exact ⟨v, hv, u, hu, rfl, rfl, go⟩
theorem tup_i {t : TA} {Q : VK} (h : t σ H fun xs H1 => xs.length ≤ sizeLine ∧ ∀ p, H1 p = none → Q (.ref p) (upd H1 p (.tup xs))) : tTup t σ H Q := h
theorem cons_i {te : TE} {tr : TA} {Q : List V → Hp → Prop} (h : te σ H fun x H1 => tr σ H1 fun xs H2 => Q (x :: xs) H2) : tCons te tr σ H Q := h
theorem xvf_i {f : Str} {te : TE} {Q : VK} (h : te σ H fun x H1 => ∃ (a C d : Addr) (fs : List (Str × V)) (v : V), x = .ref a ∧ H1 a = some (exo a C (some d)) ∧ H1 d = some (exd d fs) ∧ XfC K C ∧ PySem.W.findIn K (.ref C) f = some none ∧ fs.lookup f = some v ∧ Q v H1) : tXvF K f te σ H Q := h
theorem evp_pair1 (U : Use1 P w K mg base x n C f B qual st fd) (hv : σ[i]? = some (some v)) :
    EvP (tTup (tCons (tXv C 1 0 (spI1 C n) (fun vs _ => vs) (tCons (tVar i) tNil) tNil) (tCons (tXvF K n (tXv C 0 1 (spI1 C n) (fun vs zs => vs ++ zs) tNil (tCons (tVar i) tNil))) tNil))) σ H C v := by
  intro H1 _ Q q
  refine tup_i (cons_i (ev_xv1 U hv (.inl ⟨rfl, rfl, rfl, rfl, rfl⟩) H1 _ fun a d H2 e2 h1 h2 => cons_i (xvf_i (ev_xv1 U hv (.inr ⟨rfl, rfl, rfl, rfl, rfl⟩) H2 _ fun a' d' H3 e3 h3 h4 => ?_))))
  refine ⟨a', C, d', _, v, rfl, h3, h4, U.T.b.xf, U.no, by simp [List.lookup], by show 2 ≤ sizeLine; decide, fun t ht => ?_⟩
  exact q t a _ ((e2.trans e3).trans (Ex.new ht)) upd_same (xat_mono (e3.trans (Ex.new ht)) (.inl ⟨d, _, h1, h2⟩))
theorem evp_pair2 (U : Use2 P w K mg base x n m C f B qual st fd) (hv : σ[i]? = some (some v)) (hu : σ[j]? = some (some u)) :
    EvP (tTup (tCons (tXv C 2 0 (spI2 C n m) (fun vs _ => vs) (tCons (tVar j) (tCons (tVar i) tNil)) tNil) (tCons (tXvF K m (tXv C 0 2 (spI2 C n m) (fun vs zs => vs ++ zs.reverse) tNil (tCons (tVar i) (tCons (tVar j) tNil)))) tNil))) σ H C v := by
  intro H1 _ Q q
  refine tup_i (cons_i (ev_xv2 U hv hu (.inl ⟨rfl, rfl, rfl, rfl, rfl⟩) H1 _ fun a d H2 e2 h1 h2 => cons_i (xvf_i (ev_xv2 U hv hu (.inr ⟨rfl, rfl, rfl, rfl, rfl⟩) H2 _ fun a' d' H3 e3 h3 h4 => ?_))))
  refine ⟨a', C, d', _, v, rfl, h3, h4, U.T.b.xf, U.no2, by simp [List.lookup], by show 2 ≤ sizeLine; decide, fun t ht => ?_⟩
  exact q t a _ ((e2.trans e3).trans (Ex.new ht)) upd_same (xat_mono (e3.trans (Ex.new ht)) (.inl ⟨d, _, h1, h2⟩))
/-! ### lists of such pairs -/
def Prd (H : Hp) (v : V) : List V → List Addr → Prop := Paired fun (r : V) (C : Addr) => ∃ t a, r = .ref t ∧ H t = some (.tup [.ref a, v]) ∧ XAt H a C
theorem Prd.mono {H H' : Hp} (e : Ex H H') : ∀ {ts : List V} {Cs : List Addr}, Prd H v ts Cs → Prd H' v ts Cs
  | _, _, .nil => .nil
  | _, _, .cons ⟨t, a, h1, h2, h3⟩ r => .cons ⟨t, a, h1, e _ _ h2, xat_mono e h3⟩ (Prd.mono e r)
theorem Prd.app {H : Hp} : ∀ {ts us : List V} {Cs Ds : List Addr}, Prd H v ts Cs → Prd H v us Ds → Prd H v (ts ++ us) (Cs ++ Ds)
  | _, _, _, _, .nil, s => s
  | _, _, _, _, .cons a r, s => .cons a (Prd.app r s)
def EvM (te : TE) (σ : L2.St) (H : Hp) (Cs : List Addr) (v : V) : Prop := ∀ H1, Ex H H1 → ∀ Q : VK, (∀ p ts H2, H1 p = none → Ex H1 H2 → H2 p = some (.lst ts) → Prd H2 v ts Cs → Q (.ref p) H2) → te σ H1 Q
def EvMA (ta : TA) (σ : L2.St) (H : Hp) (Cs : List Addr) (v : V) : Prop := ∀ H1, Ex H H1 → ∀ Q : List V → Hp → Prop, (∀ ts H2, Ex H1 H2 → Prd H2 v ts Cs → Q ts H2) → ta σ H1 Q
theorem mA_nil : EvMA tNil σ H [] v := fun H1 _ Q q => q [] H1 (Ex.refl H1) .nil
theorem mA_cons {te : TE} {tr : TA} {Cs : List Addr} (h : EvP te σ H C v) (hr : EvMA tr σ H Cs v) : EvMA (tCons te tr) σ H (C :: Cs) v := fun H1 e Q q =>
  h H1 e _ fun t a H2 e2 h1 h2 => hr H2 (e.trans e2) _ fun ts H3 e3 h3 => q _ H3 (e2.trans e3) (.cons ⟨t, a, rfl, e3 _ _ h1, xat_mono e3 h2⟩ h3)
theorem m_lst {ta : TA} {Cs : List Addr} (h : EvMA ta σ H Cs v) (hl : Cs.length ≤ 1000) : EvM (tLst ta) σ H Cs v := fun H1 e Q q =>
  h H1 e _ fun ts H2 e2 h2 => ⟨by
    have z : ts.length = Cs.length := Paired.length h2
    rw [z]
    exact sz_of (by omega), fun p hp => q p ts _ (fresh_back e2 hp) (e2.trans (Ex.new hp)) upd_same (h2.mono (Ex.new hp))⟩
/-- found + [..] -/
theorem m_cat {te : TE} {Cs Ds : List Addr} {p : Addr} {ts : List V} (hv : σ[i]? = some (some (.ref p))) (hp : H p = some (.lst ts)) (hP : Prd H v ts Cs) (h : EvM te σ H Ds v) (hl : Cs.length + Ds.length ≤ 1000) : EvM (tOp rCat (tVar i) te) σ H (Cs ++ Ds) v := fun H1 e Q q =>
  ⟨_, hv, h H1 e _ fun p2 us H2 hp2 e2 h2 hP2 => ⟨p, p2, ts, us, rfl, rfl, e2 _ _ (e _ _ hp), h2, by
    have z1 : ts.length = Cs.length := Paired.length hP
    have z2 : us.length = Ds.length := Paired.length hP2
    exact sz_of (by omega), fun l hl => q l _ _ (fresh_back e2 hl) (e2.trans (Ex.new hl)) upd_same (((hP.mono (e.trans e2)).app hP2).mono (Ex.new hl))⟩⟩
end
end K00
namespace K00
open PySem L2 Evl
abbrev sParts : Stmt := top 44
abbrev sOthers : Stmt := top 45
/-- a list of pairs of errors of these classes and the value -/
def spMade (Cs : List Addr) : Sp := fun vs H Q _ => ∃ v, vs = [v] ∧ ∀ p ts H', H p = none → Ex H H' → H' p = some (.lst ts) → Prd H' v ts Cs → Q (.ref p) H'
def spMade2 (Cs : List Addr) : Sp := fun vs H Q _ => ∃ v u, vs = [v, u] ∧ ∀ p ts H', H p = none → Ex H H' → H' p = some (.lst ts) → Prd H' v ts Cs → Q (.ref p) H'
section
variable {σ : L2.St} {H : Hp} {te : TE} {tz : TS} {D : Ends} {Cs : List Addr} {v : V}
theorem q_asgM {i : Nat} (h : EvM te σ H Cs v) (k : ∀ p ts H1, H p = none → Ex H H1 → H1 p = some (.lst ts) → Prd H1 v ts Cs → tz D (σ.set i (some (.ref p))) H1) : tSeq (tAsg te (gName i)) tz D σ H := h H (Ex.refl H) _ fun p ts H1 n e a d => k p ts H1 n e a d
theorem s_retM (h : EvM te σ H Cs v) (k : ∀ p ts H1, H p = none → Ex H H1 → H1 p = some (.lst ts) → Prd H1 v ts Cs → D.rt (.ref p) H1) : tRet te D σ H := h H (Ex.refl H) _ fun p ts H1 n e a d => k p ts H1 n e a d
end
section
variable {P : Program} {w : World} {K : PySem.W.Frag} {mg : Str → Option Value} {base : Heap}
theorem scParts : FnScope ["_law_value", "_law_found"] ["_law_value"] (defScope sParts) := ⟨rfl, rfl, rfl, by decide +kernel, rfl, by decide +kernel, by decide +kernel⟩
theorem ok_parts {B C0 C1 C2 C3 C4 C5 C6 C7 C8 C9 C10 C11 C12 f0 f1 f2 f3 f4 f5 f6 f7 f8 f9 f10 f11 f12 : Addr} {fd0 fd1 fd2 fd3 fd4 fd5 fd6 fd7 fd8 fd9 fd10 fd11 fd12 : FuncData} {f : Addr} {fd : FuncData} (F : Fun K "_law_parts" "_law_parts" sParts f fd) (U0 : Use1 P w K mg base "BadGrowth" "part" C0 f0 B "BadGrowth.__init__" (sCls 12) fd0) (U1 : Use1 P w K mg base "BadFrame" "part" C1 f1 B "BadFrame.__init__" (sCls 14) fd1) (U2 : Use1 P w K mg base "BadCell" "part" C2 f2 B "BadCell.__init__" (sCls 15) fd2) (U3 : Use1 P w K mg base "BadPlan" "part" C3 f3 B "BadPlan.__init__" (sCls 16) fd3) (U4 : Use1 P w K mg base "BadRule" "part" C4 f4 B "BadRule.__init__" (sCls 17) fd4) (U5 : Use1 P w K mg base "BadRound" "part" C5 f5 B "BadRound.__init__" (sCls 19) fd5) (U6 : Use1 P w K mg base "BadNet" "part" C6 f6 B "BadNet.__init__" (sCls 20) fd6) (U7 : Use1 P w K mg base "BadTable" "part" C7 f7 B "BadTable.__init__" (sCls 21) fd7) (U8 : Use1 P w K mg base "BadPair" "part" C8 f8 B "BadPair.__init__" (sCls 22) fd8) (U9 : Use1 P w K mg base "BadStack" "part" C9 f9 B "BadStack.__init__" (sCls 23) fd9) (U10 : Use1 P w K mg base "BadRun" "part" C10 f10 B "BadRun.__init__" (sCls 24) fd10) (U11 : Use1 P w K mg base "BadPlay" "part" C11 f11 B "BadPlay.__init__" (sCls 25) fd11) (U12 : Use1 P w K mg base "Clashing" "part" C12 f12 B "Clashing.__init__" (sCls 37) fd12) :
    FnOk P w K mg base CX0 3 f fd ["_law_value"] (spMade [C0, C1, C2, C3, C4, C5, C6, C7, C8, C9, C10, C11, C12]) := by
  refine F.ok scParts (fun vs H Q E h => ?_) (fun cdv A outer s H vs Q E hr h => ?_)
  · obtain ⟨v, rfl, _⟩ := h
    rfl
  · obtain ⟨v, rfl, k⟩ := h
    refine ⟨_, pss_cons (ps_set (i := 1) scParts.nd rfl (.inl rfl) (pe_lst (pa_cons (pe_pair1 U0 hr rfl (fun _ => pv 0) (by decide)) (pa_cons (pe_pair1 U1 hr rfl (fun _ => pv 0) (by decide)) pa_nil))))
      (pss_cons (ps_set (i := 1) scParts.nd rfl (.inl rfl) (pe_op op_cat (pv 1) (pe_lst (pa_cons (pe_pair1 U2 hr rfl (fun _ => pv 0) (by decide)) (pa_cons (pe_pair1 U3 hr rfl (fun _ => pv 0) (by decide)) pa_nil)))))
      (pss_cons (ps_set (i := 1) scParts.nd rfl (.inl rfl) (pe_op op_cat (pv 1) (pe_lst (pa_cons (pe_pair1 U4 hr rfl (fun _ => pv 0) (by decide)) (pa_cons (pe_pair1 U5 hr rfl (fun _ => pv 0) (by decide)) pa_nil)))))
      (pss_cons (ps_set (i := 1) scParts.nd rfl (.inl rfl) (pe_op op_cat (pv 1) (pe_lst (pa_cons (pe_pair1 U6 hr rfl (fun _ => pv 0) (by decide)) (pa_cons (pe_pair1 U7 hr rfl (fun _ => pv 0) (by decide)) pa_nil)))))
      (pss_cons (ps_set (i := 1) scParts.nd rfl (.inl rfl) (pe_op op_cat (pv 1) (pe_lst (pa_cons (pe_pair1 U8 hr rfl (fun _ => pv 0) (by decide)) (pa_cons (pe_pair1 U9 hr rfl (fun _ => pv 0) (by decide)) pa_nil)))))
      (pss_cons (ps_set (i := 1) scParts.nd rfl (.inl rfl) (pe_op op_cat (pv 1) (pe_lst (pa_cons (pe_pair1 U10 hr rfl (fun _ => pv 0) (by decide)) (pa_cons (pe_pair1 U11 hr rfl (fun _ => pv 0) (by decide)) pa_nil)))))
      (pss_one (ps_ret (pe_op op_cat (pv 1) (pe_lst (pa_cons (pe_pair1 U12 hr rfl (fun _ => pv 0) (by decide)) pa_nil)))))))))), ?_⟩
    refine q_asgM (m_lst (mA_cons (evp_pair1 U0 rfl) (mA_cons (evp_pair1 U1 rfl) mA_nil)) (Nat.le_of_ble_eq_true rfl)) fun p1 t1 H1 n1 e1 a1 d1 => ?_
    refine q_asgM (m_cat rfl a1 d1 (m_lst (mA_cons (evp_pair1 U2 rfl) (mA_cons (evp_pair1 U3 rfl) mA_nil)) (Nat.le_of_ble_eq_true rfl)) (Nat.le_of_ble_eq_true rfl)) fun p2 t2 H2 n2 e2 a2 d2 => ?_
    refine q_asgM (m_cat rfl a2 d2 (m_lst (mA_cons (evp_pair1 U4 rfl) (mA_cons (evp_pair1 U5 rfl) mA_nil)) (Nat.le_of_ble_eq_true rfl)) (Nat.le_of_ble_eq_true rfl)) fun p3 t3 H3 n3 e3 a3 d3 => ?_
    refine q_asgM (m_cat rfl a3 d3 (m_lst (mA_cons (evp_pair1 U6 rfl) (mA_cons (evp_pair1 U7 rfl) mA_nil)) (Nat.le_of_ble_eq_true rfl)) (Nat.le_of_ble_eq_true rfl)) fun p4 t4 H4 n4 e4 a4 d4 => ?_
    refine q_asgM (m_cat rfl a4 d4 (m_lst (mA_cons (evp_pair1 U8 rfl) (mA_cons (evp_pair1 U9 rfl) mA_nil)) (Nat.le_of_ble_eq_true rfl)) (Nat.le_of_ble_eq_true rfl)) fun p5 t5 H5 n5 e5 a5 d5 => ?_
    refine q_asgM (m_cat rfl a5 d5 (m_lst (mA_cons (evp_pair1 U10 rfl) (mA_cons (evp_pair1 U11 rfl) mA_nil)) (Nat.le_of_ble_eq_true rfl)) (Nat.le_of_ble_eq_true rfl)) fun p6 t6 H6 n6 e6 a6 d6 => ?_
    refine s_retM (m_cat rfl a6 d6 (m_lst (mA_cons (evp_pair1 U12 rfl) mA_nil) (Nat.le_of_ble_eq_true rfl)) (Nat.le_of_ble_eq_true rfl)) fun p ts J nj ej aj dj => ?_
    exact k p ts J (fresh_back (((((e1.trans e2).trans e3).trans e4).trans e5).trans e6) nj) ((((((e1.trans e2).trans e3).trans e4).trans e5).trans e6).trans ej) aj dj
theorem scOthers : FnScope ["_law_value", "_law_more", "_law_found"] ["_law_value", "_law_more"] (defScope sOthers) := ⟨rfl, rfl, rfl, by decide +kernel, rfl, by decide +kernel, by decide +kernel⟩
theorem ok_others {B C13 C14 C15 C16 C17 C18 C19 C20 C21 C22 C23 C24 C25 C26 f13 f14 f15 f16 f17 f18 f19 f20 f21 f22 f23 f24 f25 f26 : Addr} {fd13 fd14 fd15 fd16 fd17 fd18 fd19 fd20 fd21 fd22 fd23 fd24 fd25 fd26 : FuncData} {f : Addr} {fd : FuncData} (F : Fun K "_law_others" "_law_others" sOthers f fd) (U13 : Use1 P w K mg base "BadLetter" "value" C13 f13 B "BadLetter.__init__" (sCls 13) fd13) (U14 : Use1 P w K mg base "BadLosses" "value" C14 f14 B "BadLosses.__init__" (sCls 18) fd14) (U15 : Use1 P w K mg base "BadNumber" "value" C15 f15 B "BadNumber.__init__" (sCls 26) fd15) (U16 : Use1 P w K mg base "BadName" "value" C16 f16 B "BadName.__init__" (sCls 29) fd16) (U17 : Use1 P w K mg base "BadCommand" "word" C17 f17 B "BadCommand.__init__" (sCls 28) fd17) (U18 : Use1 P w K mg base "NoName" "name" C18 f18 B "NoName.__init__" (sCls 30) fd18) (U19 : Use1 P w K mg base "NoFlow" "name" C19 f19 B "NoFlow.__init__" (sCls 31) fd19) (U20 : Use1 P w K mg base "NoHouse" "name" C20 f20 B "NoHouse.__init__" (sCls 32) fd20) (U21 : Use1 P w K mg base "NoLink" "name" C21 f21 B "NoLink.__init__" (sCls 33) fd21) (U22 : Use1 P w K mg base "NoLane" "key" C22 f22 B "NoLane.__init__" (sCls 34) fd22) (U23 : Use1 P w K mg base "NoLine" "key" C23 f23 B "NoLine.__init__" (sCls 35) fd23) (U24 : Use1 P w K mg base "NoPhase" "at" C24 f24 B "NoPhase.__init__" (sCls 36) fd24) (U25 : Use2 P w K mg base "BadText" "line" "word" C25 f25 B "BadText.__init__" (sCls 27) fd25) (U26 : Use2 P w K mg base "TooMany" "what" "most" C26 f26 B "TooMany.__init__" (sCls 39) fd26) :
    FnOk P w K mg base CX0 3 f fd ["_law_value", "_law_more"] (spMade2 [C13, C14, C15, C16, C17, C18, C19, C20, C21, C22, C23, C24, C25, C26]) := by
  refine F.ok scOthers (fun vs H Q E h => ?_) (fun cdv A outer s H vs Q E hr h => ?_)
  · obtain ⟨v, u, rfl, _⟩ := h
    rfl
  · obtain ⟨v, u, rfl, k⟩ := h
    refine ⟨_, pss_cons (ps_set (i := 2) scOthers.nd rfl (.inl rfl) (pe_lst (pa_cons (pe_pair1 U13 hr rfl (fun _ => pv 0) (by decide)) (pa_cons (pe_pair1 U14 hr rfl (fun _ => pv 0) (by decide)) pa_nil))))
      (pss_cons (ps_set (i := 2) scOthers.nd rfl (.inl rfl) (pe_op op_cat (pv 2) (pe_lst (pa_cons (pe_pair1 U15 hr rfl (fun _ => pv 0) (by decide)) (pa_cons (pe_pair1 U16 hr rfl (fun _ => pv 0) (by decide)) pa_nil)))))
      (pss_cons (ps_set (i := 2) scOthers.nd rfl (.inl rfl) (pe_op op_cat (pv 2) (pe_lst (pa_cons (pe_pair1 U17 hr rfl (fun _ => pv 0) (by decide)) (pa_cons (pe_pair1 U18 hr rfl (fun _ => pv 0) (by decide)) pa_nil)))))
      (pss_cons (ps_set (i := 2) scOthers.nd rfl (.inl rfl) (pe_op op_cat (pv 2) (pe_lst (pa_cons (pe_pair1 U19 hr rfl (fun _ => pv 0) (by decide)) (pa_cons (pe_pair1 U20 hr rfl (fun _ => pv 0) (by decide)) pa_nil)))))
      (pss_cons (ps_set (i := 2) scOthers.nd rfl (.inl rfl) (pe_op op_cat (pv 2) (pe_lst (pa_cons (pe_pair1 U21 hr rfl (fun _ => pv 0) (by decide)) (pa_cons (pe_pair1 U22 hr rfl (fun _ => pv 0) (by decide)) pa_nil)))))
      (pss_cons (ps_set (i := 2) scOthers.nd rfl (.inl rfl) (pe_op op_cat (pv 2) (pe_lst (pa_cons (pe_pair1 U23 hr rfl (fun _ => pv 0) (by decide)) (pa_cons (pe_pair1 U24 hr rfl (fun _ => pv 0) (by decide)) pa_nil)))))
      (pss_cons (ps_set (i := 2) scOthers.nd rfl (.inl rfl) (pe_op op_cat (pv 2) (pe_lst (pa_cons (pe_pair2 U25 hr rfl (fun _ => pv 0) (fun _ => pv 1) (by decide)) pa_nil))))
      (pss_one (ps_ret (pe_op op_cat (pv 2) (pe_lst (pa_cons (pe_pair2 U26 hr rfl (fun _ => pv 0) (fun _ => pv 1) (by decide)) pa_nil))))))))))), ?_⟩
    refine q_asgM (m_lst (mA_cons (evp_pair1 U13 rfl) (mA_cons (evp_pair1 U14 rfl) mA_nil)) (Nat.le_of_ble_eq_true rfl)) fun p1 t1 H1 n1 e1 a1 d1 => ?_
    refine q_asgM (m_cat rfl a1 d1 (m_lst (mA_cons (evp_pair1 U15 rfl) (mA_cons (evp_pair1 U16 rfl) mA_nil)) (Nat.le_of_ble_eq_true rfl)) (Nat.le_of_ble_eq_true rfl)) fun p2 t2 H2 n2 e2 a2 d2 => ?_
    refine q_asgM (m_cat rfl a2 d2 (m_lst (mA_cons (evp_pair1 U17 rfl) (mA_cons (evp_pair1 U18 rfl) mA_nil)) (Nat.le_of_ble_eq_true rfl)) (Nat.le_of_ble_eq_true rfl)) fun p3 t3 H3 n3 e3 a3 d3 => ?_
    refine q_asgM (m_cat rfl a3 d3 (m_lst (mA_cons (evp_pair1 U19 rfl) (mA_cons (evp_pair1 U20 rfl) mA_nil)) (Nat.le_of_ble_eq_true rfl)) (Nat.le_of_ble_eq_true rfl)) fun p4 t4 H4 n4 e4 a4 d4 => ?_
    refine q_asgM (m_cat rfl a4 d4 (m_lst (mA_cons (evp_pair1 U21 rfl) (mA_cons (evp_pair1 U22 rfl) mA_nil)) (Nat.le_of_ble_eq_true rfl)) (Nat.le_of_ble_eq_true rfl)) fun p5 t5 H5 n5 e5 a5 d5 => ?_
    refine q_asgM (m_cat rfl a5 d5 (m_lst (mA_cons (evp_pair1 U23 rfl) (mA_cons (evp_pair1 U24 rfl) mA_nil)) (Nat.le_of_ble_eq_true rfl)) (Nat.le_of_ble_eq_true rfl)) fun p6 t6 H6 n6 e6 a6 d6 => ?_
    refine q_asgM (m_cat rfl a6 d6 (m_lst (mA_cons (evp_pair2 U25 rfl rfl) mA_nil) (Nat.le_of_ble_eq_true rfl)) (Nat.le_of_ble_eq_true rfl)) fun p7 t7 H7 n7 e7 a7 d7 => ?_
    refine s_retM (m_cat rfl a7 d7 (m_lst (mA_cons (evp_pair2 U26 rfl rfl) mA_nil) (Nat.le_of_ble_eq_true rfl)) (Nat.le_of_ble_eq_true rfl)) fun p ts J nj ej aj dj => ?_
    exact k p ts J (fresh_back ((((((e1.trans e2).trans e3).trans e4).trans e5).trans e6).trans e7) nj) (((((((e1.trans e2).trans e3).trans e4).trans e5).trans e6).trans e7).trans ej) aj dj
end
end K00
namespace K00
open PySem L2 Evl
abbrev sClasses : Stmt := top 46
abbrev sIsErr : Stmt := top 47
structure GlbE (mg : Str → Option Value) : Prop where
  inst : mg "isinstance" = none
  len : mg "len" = none
  range : mg "range" = none
  repr : mg "repr" = none
  verr : mg "ValueError" = none
theorem filt_one (p : Nat → Bool) : ∀ (n k : Nat), k < n → p k = true → (∀ i, i < n → p i = true → i = k) → (List.range n).filter p = [k]
  | 0, _, h, _, _ => by omega
  | n + 1, k, h, hk, hu => by
    rw [List.range_succ, List.filter_append]
    by_cases e : k = n
    · subst e
      have z : (List.range k).filter p = [] := by
        rw [List.filter_eq_nil_iff]
        intro a ha hp
        have := hu a (by have := List.mem_range.mp ha; omega) hp
        have := List.mem_range.mp ha
        omega
      rw [z, List.filter_cons, if_pos hk] <;> rfl
    · rw [filt_one p n k (by omega) hk (fun i hi hp => hu i (by omega) hp), List.filter_cons, if_neg (fun z => e (hu n (by omega) z).symm)] <;> rfl
section
variable {P : Program} {w : World} {K : PySem.W.Frag} {mg : Str → Option Value} {base : Heap} {σ : L2.St} {H : Hp}
theorem rc_xi {a C D : Addr} {b : Bool} (h : XAt H a C) (hI : XiC K C) (hk : PySem.W.kitOne K (.ref C) (.ref D) = some b) : RC (rXi K) [.ref a, .ref D] H (.bl b) := fun H1 e _ q => ⟨a, C, .ref D, .ref D, b, rfl, .own D, xat_mono e h, hI, hk, q H1 (Ex.refl H1)⟩
theorem el_cat {te : TE} {xs ys : List V} {p : Addr} {i : Nat} (hv : σ[i]? = some (some (.ref p))) (hp : H p = some (.lst xs)) (h : EvL te σ H ys) (hl : xs.length + ys.length ≤ 1000) : EvL (tOp rCat (tVar i) te) σ H (xs ++ ys) := fun H1 e Q q =>
  ⟨_, hv, h H1 e _ fun p2 H2 hp2 e2 h2 => ⟨p, p2, xs, ys, rfl, rfl, e2 _ _ (e _ _ hp), h2, sz_of (by omega), fun l hl => q l _ (fresh_back e2 hl) (e2.trans (Ex.new hl)) upd_same⟩⟩
/-- an error of the k-th of these classes: its number alone -/
def spClasses (Cs : List Addr) : Sp := fun vs H Q _ => ∃ (a C : Addr) (k : Nat), vs = [.ref a] ∧ XAt H a C ∧ Cs[k]? = some C ∧ RetL [.int (k : Int)] H Q
theorem scClasses : FnScope ["_law_error", "_law_told", "_law_at"] ["_law_error"] (defScope sClasses) := ⟨rfl, rfl, rfl, by decide +kernel, rfl, by decide +kernel, by decide +kernel⟩
theorem told_given {Cs : List Addr} (nd : Cs.Nodup) {k : Nat} {C : Addr} (hk : Cs[k]? = some C) : given Cs.length (fun i => decide (Cs[i]? = some C)) (fun i => V.int (i : Int)) = [V.int (k : Int)] := by
  have hl : k < Cs.length := (List.getElem?_eq_some_iff.mp hk).1
  unfold given
  rw [filt_one _ Cs.length k hl (decide_eq_true hk) (fun i hi h => ?_)]
  · rfl
  · have h1 := of_decide_eq_true h
    have e1 := (List.getElem?_eq_some_iff.mp h1).2
    have e2 := (List.getElem?_eq_some_iff.mp hk).2
    exact (List.getElem_inj nd).mp (e1.trans e2.symm)
theorem ok_classes {C0 C1 C2 C3 C4 C5 C6 C7 C8 C9 C10 C11 C12 C13 C14 C15 C16 C17 C18 C19 C20 C21 C22 C23 C24 C25 C26 C27 : Addr} {f : Addr} {fd : FuncData} (F : Fun K "_law_classes" "_law_classes" sClasses f fd) (T : GlbE mg)
    (g0 : mg "BadGrowth" = some (.ref C0)) (g1 : mg "BadFrame" = some (.ref C1)) (g2 : mg "BadCell" = some (.ref C2)) (g3 : mg "BadPlan" = some (.ref C3)) (g4 : mg "BadRule" = some (.ref C4)) (g5 : mg "BadRound" = some (.ref C5)) (g6 : mg "BadNet" = some (.ref C6)) (g7 : mg "BadTable" = some (.ref C7)) (g8 : mg "BadPair" = some (.ref C8)) (g9 : mg "BadStack" = some (.ref C9)) (g10 : mg "BadRun" = some (.ref C10)) (g11 : mg "BadPlay" = some (.ref C11)) (g12 : mg "Clashing" = some (.ref C12)) (g13 : mg "BadLetter" = some (.ref C13)) (g14 : mg "BadLosses" = some (.ref C14)) (g15 : mg "BadNumber" = some (.ref C15)) (g16 : mg "BadName" = some (.ref C16)) (g17 : mg "BadCommand" = some (.ref C17)) (g18 : mg "NoName" = some (.ref C18)) (g19 : mg "NoFlow" = some (.ref C19)) (g20 : mg "NoHouse" = some (.ref C20)) (g21 : mg "NoLink" = some (.ref C21)) (g22 : mg "NoLane" = some (.ref C22)) (g23 : mg "NoLine" = some (.ref C23)) (g24 : mg "NoPhase" = some (.ref C24)) (g25 : mg "BadText" = some (.ref C25)) (g26 : mg "TooMany" = some (.ref C26)) (g27 : mg "Nothing" = some (.ref C27))
    (nd : ([C0, C1, C2, C3, C4, C5, C6, C7, C8, C9, C10, C11, C12, C13, C14, C15, C16, C17, C18, C19, C20, C21, C22, C23, C24, C25, C26, C27] : List Addr).Nodup)
    (hKK : ∀ (i j : Nat) C D, ([C0, C1, C2, C3, C4, C5, C6, C7, C8, C9, C10, C11, C12, C13, C14, C15, C16, C17, C18, C19, C20, C21, C22, C23, C24, C25, C26, C27] : List Addr)[i]? = some C → ([C0, C1, C2, C3, C4, C5, C6, C7, C8, C9, C10, C11, C12, C13, C14, C15, C16, C17, C18, C19, C20, C21, C22, C23, C24, C25, C26, C27] : List Addr)[j]? = some D → PySem.W.kitOne K (.ref C) (.ref D) = some (decide (D = C))) (hII : ∀ (i : Nat) C, ([C0, C1, C2, C3, C4, C5, C6, C7, C8, C9, C10, C11, C12, C13, C14, C15, C16, C17, C18, C19, C20, C21, C22, C23, C24, C25, C26, C27] : List Addr)[i]? = some C → XiC K C) :
    FnOk P w K mg base CX0 1 f fd ["_law_error"] (spClasses [C0, C1, C2, C3, C4, C5, C6, C7, C8, C9, C10, C11, C12, C13, C14, C15, C16, C17, C18, C19, C20, C21, C22, C23, C24, C25, C26, C27]) := by
  refine F.ok scClasses (fun vs H Q E h => ?_) (fun cdv A outer s H vs Q E hr h => ?_)
  · obtain ⟨a, C, k, rfl, _⟩ := h
    rfl
  · obtain ⟨a, C, n, rfl, hX, hn, k⟩ := h
    have hI := hII n C hn
    have hK := fun j D hj => hKK n j C D hn hj
    refine ⟨_, pss_cons (ps_set (i := 1) scClasses.nd rfl (.inr rfl) (pe_lst (pa_cons (pe_callB call_xi (by rfl) T.inst (by decide +kernel) (pa_cons (pv 0) (pa_cons (pe_glob (v := .ref C0) rfl g0 rfl) pa_nil))) (pa_cons (pe_callB call_xi (by rfl) T.inst (by decide +kernel) (pa_cons (pv 0) (pa_cons (pe_glob (v := .ref C1) rfl g1 rfl) pa_nil))) (pa_cons (pe_callB call_xi (by rfl) T.inst (by decide +kernel) (pa_cons (pv 0) (pa_cons (pe_glob (v := .ref C2) rfl g2 rfl) pa_nil))) (pa_cons (pe_callB call_xi (by rfl) T.inst (by decide +kernel) (pa_cons (pv 0) (pa_cons (pe_glob (v := .ref C3) rfl g3 rfl) pa_nil))) pa_nil))))))
      (pss_cons (ps_set (i := 1) scClasses.nd rfl (.inr rfl) (pe_op op_cat (pv 1) (pe_lst (pa_cons (pe_callB call_xi (by rfl) T.inst (by decide +kernel) (pa_cons (pv 0) (pa_cons (pe_glob (v := .ref C4) rfl g4 rfl) pa_nil))) (pa_cons (pe_callB call_xi (by rfl) T.inst (by decide +kernel) (pa_cons (pv 0) (pa_cons (pe_glob (v := .ref C5) rfl g5 rfl) pa_nil))) (pa_cons (pe_callB call_xi (by rfl) T.inst (by decide +kernel) (pa_cons (pv 0) (pa_cons (pe_glob (v := .ref C6) rfl g6 rfl) pa_nil))) pa_nil))))))
      (pss_cons (ps_set (i := 1) scClasses.nd rfl (.inr rfl) (pe_op op_cat (pv 1) (pe_lst (pa_cons (pe_callB call_xi (by rfl) T.inst (by decide +kernel) (pa_cons (pv 0) (pa_cons (pe_glob (v := .ref C7) rfl g7 rfl) pa_nil))) (pa_cons (pe_callB call_xi (by rfl) T.inst (by decide +kernel) (pa_cons (pv 0) (pa_cons (pe_glob (v := .ref C8) rfl g8 rfl) pa_nil))) (pa_cons (pe_callB call_xi (by rfl) T.inst (by decide +kernel) (pa_cons (pv 0) (pa_cons (pe_glob (v := .ref C9) rfl g9 rfl) pa_nil))) pa_nil))))))
      (pss_cons (ps_set (i := 1) scClasses.nd rfl (.inr rfl) (pe_op op_cat (pv 1) (pe_lst (pa_cons (pe_callB call_xi (by rfl) T.inst (by decide +kernel) (pa_cons (pv 0) (pa_cons (pe_glob (v := .ref C10) rfl g10 rfl) pa_nil))) (pa_cons (pe_callB call_xi (by rfl) T.inst (by decide +kernel) (pa_cons (pv 0) (pa_cons (pe_glob (v := .ref C11) rfl g11 rfl) pa_nil))) (pa_cons (pe_callB call_xi (by rfl) T.inst (by decide +kernel) (pa_cons (pv 0) (pa_cons (pe_glob (v := .ref C12) rfl g12 rfl) pa_nil))) pa_nil))))))
      (pss_cons (ps_set (i := 1) scClasses.nd rfl (.inr rfl) (pe_op op_cat (pv 1) (pe_lst (pa_cons (pe_callB call_xi (by rfl) T.inst (by decide +kernel) (pa_cons (pv 0) (pa_cons (pe_glob (v := .ref C13) rfl g13 rfl) pa_nil))) (pa_cons (pe_callB call_xi (by rfl) T.inst (by decide +kernel) (pa_cons (pv 0) (pa_cons (pe_glob (v := .ref C14) rfl g14 rfl) pa_nil))) (pa_cons (pe_callB call_xi (by rfl) T.inst (by decide +kernel) (pa_cons (pv 0) (pa_cons (pe_glob (v := .ref C15) rfl g15 rfl) pa_nil))) pa_nil))))))
      (pss_cons (ps_set (i := 1) scClasses.nd rfl (.inr rfl) (pe_op op_cat (pv 1) (pe_lst (pa_cons (pe_callB call_xi (by rfl) T.inst (by decide +kernel) (pa_cons (pv 0) (pa_cons (pe_glob (v := .ref C16) rfl g16 rfl) pa_nil))) (pa_cons (pe_callB call_xi (by rfl) T.inst (by decide +kernel) (pa_cons (pv 0) (pa_cons (pe_glob (v := .ref C17) rfl g17 rfl) pa_nil))) (pa_cons (pe_callB call_xi (by rfl) T.inst (by decide +kernel) (pa_cons (pv 0) (pa_cons (pe_glob (v := .ref C18) rfl g18 rfl) pa_nil))) pa_nil))))))
      (pss_cons (ps_set (i := 1) scClasses.nd rfl (.inr rfl) (pe_op op_cat (pv 1) (pe_lst (pa_cons (pe_callB call_xi (by rfl) T.inst (by decide +kernel) (pa_cons (pv 0) (pa_cons (pe_glob (v := .ref C19) rfl g19 rfl) pa_nil))) (pa_cons (pe_callB call_xi (by rfl) T.inst (by decide +kernel) (pa_cons (pv 0) (pa_cons (pe_glob (v := .ref C20) rfl g20 rfl) pa_nil))) (pa_cons (pe_callB call_xi (by rfl) T.inst (by decide +kernel) (pa_cons (pv 0) (pa_cons (pe_glob (v := .ref C21) rfl g21 rfl) pa_nil))) pa_nil))))))
      (pss_cons (ps_set (i := 1) scClasses.nd rfl (.inr rfl) (pe_op op_cat (pv 1) (pe_lst (pa_cons (pe_callB call_xi (by rfl) T.inst (by decide +kernel) (pa_cons (pv 0) (pa_cons (pe_glob (v := .ref C22) rfl g22 rfl) pa_nil))) (pa_cons (pe_callB call_xi (by rfl) T.inst (by decide +kernel) (pa_cons (pv 0) (pa_cons (pe_glob (v := .ref C23) rfl g23 rfl) pa_nil))) (pa_cons (pe_callB call_xi (by rfl) T.inst (by decide +kernel) (pa_cons (pv 0) (pa_cons (pe_glob (v := .ref C24) rfl g24 rfl) pa_nil))) pa_nil))))))
      (pss_cons (ps_set (i := 1) scClasses.nd rfl (.inr rfl) (pe_op op_cat (pv 1) (pe_lst (pa_cons (pe_callB call_xi (by rfl) T.inst (by decide +kernel) (pa_cons (pv 0) (pa_cons (pe_glob (v := .ref C25) rfl g25 rfl) pa_nil))) (pa_cons (pe_callB call_xi (by rfl) T.inst (by decide +kernel) (pa_cons (pv 0) (pa_cons (pe_glob (v := .ref C26) rfl g26 rfl) pa_nil))) (pa_cons (pe_callB call_xi (by rfl) T.inst (by decide +kernel) (pa_cons (pv 0) (pa_cons (pe_glob (v := .ref C27) rfl g27 rfl) pa_nil))) pa_nil))))))
      (pss_one (ps_ret (pe_lc (own := [("_law_at", 2)]) (g := gName 2) rfl scClasses.nd (pi_range1 (by rfl) T.range (pa_cons (pe_callB call_len_seq (by rfl) T.len PySem.boot_len (pa_cons (pv 1) pa_nil)) pa_nil)) (blkOk_by (own := [("_law_at", 2)]) (N := ["_law_error", "_law_told", "_law_at"]) (sc := defScope sClasses) (by decide +kernel)) (fun _ _ _ _ _ => pg_name (i := 2) scClasses.nd rfl (Or.inl rfl)) (fun _ _ _ _ _ => pts_one (pt_val (pe_ix (show IxR _ (rIxL K) from ix_list) (pv 1) (pv 2) (fun _ _ => rfl)))) (fun _ _ _ _ _ => pv 2)))))))))))), ?_⟩
    refine q_asgL (el_lst (ea_cons (ev_cb (ea_cons (ev_var rfl) (ea_cons ev_c ea_nil)) (rc_xi (xat_mono (Ex.refl H) hX) hI (hK 0 C0 rfl))) (ea_cons (ev_cb (ea_cons (ev_var rfl) (ea_cons ev_c ea_nil)) (rc_xi (xat_mono (Ex.refl H) hX) hI (hK 1 C1 rfl))) (ea_cons (ev_cb (ea_cons (ev_var rfl) (ea_cons ev_c ea_nil)) (rc_xi (xat_mono (Ex.refl H) hX) hI (hK 2 C2 rfl))) (ea_cons (ev_cb (ea_cons (ev_var rfl) (ea_cons ev_c ea_nil)) (rc_xi (xat_mono (Ex.refl H) hX) hI (hK 3 C3 rfl))) ea_nil)))) (Nat.le_of_ble_eq_true rfl)) fun p1 H1 n1 e1 a1 => ?_
    refine q_asgL (el_cat rfl a1 (el_lst (ea_cons (ev_cb (ea_cons (ev_var rfl) (ea_cons ev_c ea_nil)) (rc_xi (xat_mono e1 hX) hI (hK 4 C4 rfl))) (ea_cons (ev_cb (ea_cons (ev_var rfl) (ea_cons ev_c ea_nil)) (rc_xi (xat_mono e1 hX) hI (hK 5 C5 rfl))) (ea_cons (ev_cb (ea_cons (ev_var rfl) (ea_cons ev_c ea_nil)) (rc_xi (xat_mono e1 hX) hI (hK 6 C6 rfl))) ea_nil))) (Nat.le_of_ble_eq_true rfl)) (Nat.le_of_ble_eq_true rfl)) fun p2 H2 n2 e2 a2 => ?_
    have E2 := e1.trans e2
    refine q_asgL (el_cat rfl a2 (el_lst (ea_cons (ev_cb (ea_cons (ev_var rfl) (ea_cons ev_c ea_nil)) (rc_xi (xat_mono E2 hX) hI (hK 7 C7 rfl))) (ea_cons (ev_cb (ea_cons (ev_var rfl) (ea_cons ev_c ea_nil)) (rc_xi (xat_mono E2 hX) hI (hK 8 C8 rfl))) (ea_cons (ev_cb (ea_cons (ev_var rfl) (ea_cons ev_c ea_nil)) (rc_xi (xat_mono E2 hX) hI (hK 9 C9 rfl))) ea_nil))) (Nat.le_of_ble_eq_true rfl)) (Nat.le_of_ble_eq_true rfl)) fun p3 H3 n3 e3 a3 => ?_
    have E3 := E2.trans e3
    refine q_asgL (el_cat rfl a3 (el_lst (ea_cons (ev_cb (ea_cons (ev_var rfl) (ea_cons ev_c ea_nil)) (rc_xi (xat_mono E3 hX) hI (hK 10 C10 rfl))) (ea_cons (ev_cb (ea_cons (ev_var rfl) (ea_cons ev_c ea_nil)) (rc_xi (xat_mono E3 hX) hI (hK 11 C11 rfl))) (ea_cons (ev_cb (ea_cons (ev_var rfl) (ea_cons ev_c ea_nil)) (rc_xi (xat_mono E3 hX) hI (hK 12 C12 rfl))) ea_nil))) (Nat.le_of_ble_eq_true rfl)) (Nat.le_of_ble_eq_true rfl)) fun p4 H4 n4 e4 a4 => ?_
    have E4 := E3.trans e4
    refine q_asgL (el_cat rfl a4 (el_lst (ea_cons (ev_cb (ea_cons (ev_var rfl) (ea_cons ev_c ea_nil)) (rc_xi (xat_mono E4 hX) hI (hK 13 C13 rfl))) (ea_cons (ev_cb (ea_cons (ev_var rfl) (ea_cons ev_c ea_nil)) (rc_xi (xat_mono E4 hX) hI (hK 14 C14 rfl))) (ea_cons (ev_cb (ea_cons (ev_var rfl) (ea_cons ev_c ea_nil)) (rc_xi (xat_mono E4 hX) hI (hK 15 C15 rfl))) ea_nil))) (Nat.le_of_ble_eq_true rfl)) (Nat.le_of_ble_eq_true rfl)) fun p5 H5 n5 e5 a5 => ?_
    have E5 := E4.trans e5
    refine q_asgL (el_cat rfl a5 (el_lst (ea_cons (ev_cb (ea_cons (ev_var rfl) (ea_cons ev_c ea_nil)) (rc_xi (xat_mono E5 hX) hI (hK 16 C16 rfl))) (ea_cons (ev_cb (ea_cons (ev_var rfl) (ea_cons ev_c ea_nil)) (rc_xi (xat_mono E5 hX) hI (hK 17 C17 rfl))) (ea_cons (ev_cb (ea_cons (ev_var rfl) (ea_cons ev_c ea_nil)) (rc_xi (xat_mono E5 hX) hI (hK 18 C18 rfl))) ea_nil))) (Nat.le_of_ble_eq_true rfl)) (Nat.le_of_ble_eq_true rfl)) fun p6 H6 n6 e6 a6 => ?_
    have E6 := E5.trans e6
    refine q_asgL (el_cat rfl a6 (el_lst (ea_cons (ev_cb (ea_cons (ev_var rfl) (ea_cons ev_c ea_nil)) (rc_xi (xat_mono E6 hX) hI (hK 19 C19 rfl))) (ea_cons (ev_cb (ea_cons (ev_var rfl) (ea_cons ev_c ea_nil)) (rc_xi (xat_mono E6 hX) hI (hK 20 C20 rfl))) (ea_cons (ev_cb (ea_cons (ev_var rfl) (ea_cons ev_c ea_nil)) (rc_xi (xat_mono E6 hX) hI (hK 21 C21 rfl))) ea_nil))) (Nat.le_of_ble_eq_true rfl)) (Nat.le_of_ble_eq_true rfl)) fun p7 H7 n7 e7 a7 => ?_
    have E7 := E6.trans e7
    refine q_asgL (el_cat rfl a7 (el_lst (ea_cons (ev_cb (ea_cons (ev_var rfl) (ea_cons ev_c ea_nil)) (rc_xi (xat_mono E7 hX) hI (hK 22 C22 rfl))) (ea_cons (ev_cb (ea_cons (ev_var rfl) (ea_cons ev_c ea_nil)) (rc_xi (xat_mono E7 hX) hI (hK 23 C23 rfl))) (ea_cons (ev_cb (ea_cons (ev_var rfl) (ea_cons ev_c ea_nil)) (rc_xi (xat_mono E7 hX) hI (hK 24 C24 rfl))) ea_nil))) (Nat.le_of_ble_eq_true rfl)) (Nat.le_of_ble_eq_true rfl)) fun p8 H8 n8 e8 a8 => ?_
    have E8 := E7.trans e8
    refine q_asgL (el_cat rfl a8 (el_lst (ea_cons (ev_cb (ea_cons (ev_var rfl) (ea_cons ev_c ea_nil)) (rc_xi (xat_mono E8 hX) hI (hK 25 C25 rfl))) (ea_cons (ev_cb (ea_cons (ev_var rfl) (ea_cons ev_c ea_nil)) (rc_xi (xat_mono E8 hX) hI (hK 26 C26 rfl))) (ea_cons (ev_cb (ea_cons (ev_var rfl) (ea_cons ev_c ea_nil)) (rc_xi (xat_mono E8 hX) hI (hK 27 C27 rfl))) ea_nil))) (Nat.le_of_ble_eq_true rfl)) (Nat.le_of_ble_eq_true rfl)) fun p9 H9 n9 e9 a9 => ?_
    have E9 := E8.trans e9
    have hx : H9 p9 = some (.lst (([C0, C1, C2, C3, C4, C5, C6, C7, C8, C9, C10, C11, C12, C13, C14, C15, C16, C17, C18, C19, C20, C21, C22, C23, C24, C25, C26, C27] : List Addr).map fun D => V.bl (decide (D = C)))) := a9
    refine s_retL (el_lcR1 (j := 2) (vs := [2]) (n := 28) (fun i => decide (([C0, C1, C2, C3, C4, C5, C6, C7, C8, C9, C10, C11, C12, C13, C14, C15, C16, C17, C18, C19, C20, C21, C22, C23, C24, C25, C26, C27] : List Addr)[i]? = some C)) (fun i => V.int (i : Int)) (ea_cons (ev_cb (ea_cons (ev_var rfl) ea_nil) (rc_len (sq_of a9))) ea_nil) (by decide) (fun _ => rfl)
      (fun i J e hi => ?_) (fun i J e hi _ => ev_var rfl)) fun p J np ej aj => ?_
    · have hi28 : i < 28 := by omega
      obtain ⟨D, hD⟩ : ∃ D, ([C0, C1, C2, C3, C4, C5, C6, C7, C8, C9, C10, C11, C12, C13, C14, C15, C16, C17, C18, C19, C20, C21, C22, C23, C24, C25, C26, C27] : List Addr)[i]? = some D := ⟨_, List.getElem?_eq_getElem (by simpa using hi28)⟩
      have hb : decide (([C0, C1, C2, C3, C4, C5, C6, C7, C8, C9, C10, C11, C12, C13, C14, C15, C16, C17, C18, C19, C20, C21, C22, C23, C24, C25, C26, C27] : List Addr)[i]? = some C) = decide (D = C) := by
        rw [hD]
        by_cases z : D = C
        · subst z
          simp
        · rw [decide_eq_false z, decide_eq_false fun q => z (Option.some.inj q)]
      rw [hb]
      exact et_B (ev_op (ev_var rfl) (ev_var rfl) (rv_ixL (sq_of (e _ _ hx)) (atI_nat (by rw [List.getElem?_map, hD]; rfl))))
    · have z := told_given nd hn
      have z2 : given (28 : Int).toNat (fun i => decide (([C0, C1, C2, C3, C4, C5, C6, C7, C8, C9, C10, C11, C12, C13, C14, C15, C16, C17, C18, C19, C20, C21, C22, C23, C24, C25, C26, C27] : List Addr)[i]? = some C)) (fun i => V.int (i : Int)) = [V.int (n : Int)] := z
      rw [z2] at aj
      exact RetL.go k E9 np ej aj
end
end K00
namespace K00
open PySem L2 Evl
/-! ### menus -/
/-- the heap without the pen -/
def wo (p : Addr) (H : Hp) : Hp := fun b => if b = p then none else H b
theorem wo_ne {p b : Addr} {H : Hp} (h : b ≠ p) : wo p H b = H b := if_neg h
theorem wo_ex {p : Addr} {H H' : Hp} (e : Ex H H') : Ex (wo p H) (wo p H') := fun b o h => by
  by_cases z : b = p
  · rw [z] at h
    have : wo p H p = none := if_pos rfl
    rw [this] at h
    cases h
  · rw [wo_ne z] at h ⊢
    exact e _ _ h
theorem wo_keep {p : Addr} {H H' : Hp} (e : Keep p H H') : Ex (wo p H) (wo p H') := fun b o h => by
  by_cases z : b = p
  · rw [z] at h
    have : wo p H p = none := if_pos rfl
    rw [this] at h
    cases h
  · rw [wo_ne z] at h ⊢
    exact e _ _ h z
theorem wo_sub {p : Addr} {H : Hp} : Ex (wo p H) H := fun b o h => by
  by_cases z : b = p
  · rw [z] at h
    have : wo p H p = none := if_pos rfl
    rw [this] at h
    cases h
  · rwa [wo_ne z] at h
def Mono (R : V → Hp → Prop) : Prop := ∀ x H H', Ex H H' → R x H → R x H'
def EvR (R : V → Hp → Prop) (p : Addr) (te : TE) (σ : L2.St) (H : Hp) : Prop := ∀ H1, Ex H H1 → ∀ Q : VK, (∀ x H2, Ex H1 H2 → R x (wo p H2) → Q x H2) → te σ H1 Q
def EvRA (R : V → Hp → Prop) (p : Addr) (ta : TA) (σ : L2.St) (H : Hp) (n : Nat) : Prop := ∀ H1, Ex H H1 → ∀ Q : List V → Hp → Prop, (∀ xs H2, Ex H1 H2 → xs.length = n → (∀ x ∈ xs, R x (wo p H2)) → Q xs H2) → ta σ H1 Q
section
variable {P : Program} {w : World} {K : PySem.W.Frag} {mg : Str → Option Value} {base : Heap} {σ : L2.St} {H : Hp} {R : V → Hp → Prop} {p l : Addr} {te : TE} {tr : TA} {n m : Nat} {cells : List Int}
theorem er_ev {v : V} (h : Ev te σ H v) (hR : ∀ J, R v J) : EvR R p te σ H := fun H1 e Q q => h H1 e _ fun H2 e2 => q v H2 e2 (hR _)
theorem ra_nil : EvRA R p tNil σ H 0 := fun H1 _ Q q => q [] H1 (Ex.refl H1) rfl (fun _ h => absurd h List.not_mem_nil)
theorem ra_cons (hR : Mono R) (h : EvR R p te σ H) (hr : EvRA R p tr σ H n) : EvRA R p (tCons te tr) σ H (n + 1) := fun H1 e Q q =>
  h H1 e _ fun x H2 e2 hx => hr H2 (e.trans e2) _ fun xs H3 e3 hl hxs => q (x :: xs) H3 (e2.trans e3) (by rw [List.length_cons, hl]) fun y hy => by
    rcases List.mem_cons.mp hy with rfl | hy
    · exact hR _ _ _ (wo_ex e3) hx
    · exact hxs y hy
/-- _law_pick(pen, [..]) -/
theorem pick_go {i : Nat} {Q : VK} (hv : σ[i]? = some (some (.ref p))) (hP : PenAt H p l cells m) (hm : m ≤ 50000) (h63 : cells.length ≤ 63) (hR : Mono R) (h : EvRA R p tr σ H n) (hn0 : 0 < n) (hn : n ≤ 1000)
    (k : ∀ x H', R x (wo p H') → PenAt H' p l cells (m + 1) → Keep p H H' → Q x H') : tCall spPick [] E0 (tCons (tVar i) (tCons (tLst tr) tNil)) σ H Q := by
  have hpn : ∃ o, H p = some o := by
    obtain ⟨_, _, h1, _⟩ := hP
    exact ⟨_, h1⟩
  obtain ⟨po, hpo⟩ := hpn
  refine ⟨_, hv, h H (Ex.refl H) _ fun xs H2 e2 hl hxs => ⟨by rw [hl]; exact sz_of (by omega), fun a ha => ?_⟩⟩
  have hap : a ≠ p := fun z => by
    rw [z, e2 _ _ hpo] at ha
    cases ha
  refine ⟨p, l, a, cells, m, xs, rfl, hP.mono (e2.trans (Ex.new ha)) (Nat.le_refl _), hm, h63, upd_same, hap, by omega, by omega, fun j x H' hx hp' kp => ?_⟩
  refine k x H' (hR _ _ _ (wo_keep kp) (hR _ _ _ (wo_ex (Ex.new ha)) (hxs x (List.mem_of_getElem? hx)))) hp' ?_
  exact (Keep.of_ex (e2.trans (Ex.new ha))).trans kp
mutual
theorem ds_mono {H H' : Hp} (e : Ex H H') : ∀ (d : PyData) (x : V), Ds K H x d → Ds K H' x d
  | .none, _, h => by cases h; exact .non
  | .bool b, _, h => by cases h; exact .bl b
  | .int i, _, h => by cases h; exact .int i
  | .str z, _, h => by cases h; exact .str z
  | .list ds, _, h => by
    cases h with
    | lst hs hn ha => exact .lst (ex_l e hs) hn (ds_monoAll e ds _ ha)
  | .tuple ds, _, h => by
    cases h with
    | tup hs ha => exact .tup (ex_t e hs) (ds_monoAll e ds _ ha)
  | .dict kv, _, h => by
    cases h with
    | one q => exact .one (e _ _ q)
theorem ds_monoAll {H H' : Hp} (e : Ex H H') : ∀ (ds : List PyData) (xs : List V), DsAll K H xs ds → DsAll K H' xs ds
  | [], _, h => by cases h; exact .nil
  | d :: ds, _, h => by
    cases h with
    | cons h1 h2 => exact .cons (ds_mono e d _ h1) (ds_monoAll e ds _ h2)
end
/-- one of these data -/
def OneOf (K : PySem.W.Frag) (ds : List PyData) : V → Hp → Prop := fun x H => ∃ d ∈ ds, Ds K H x d
theorem oneOf_mono {ds : List PyData} : Mono (OneOf K ds) := fun _ _ _ e ⟨d, hd, h⟩ => ⟨d, hd, ds_mono e d _ h⟩
/-- a new tuple of plain values, a new list, a new dict of one text key -/
theorem er_tup {ds : List PyData} {xs : List V} {es : List PyData} (hp : ∃ o, H p = some o) (h : EvA tr σ H xs) (hl : xs.length ≤ 100) (hx : ∀ J, DsAll K J xs es) (hd : PyData.tuple es ∈ ds) : EvR (OneOf K ds) p (tTup tr) σ H := fun H1 e Q q =>
  eu_tup h (by omega) H1 e _ fun a H2 ha e2 h2 => q _ H2 e2 ⟨_, hd, .tup (st_of (by
    obtain ⟨o, hp⟩ := hp
    rw [wo_ne (fun z => by rw [z, e _ _ hp] at ha; cases ha)]
    exact h2)) (hx _)⟩
theorem er_lst {ds : List PyData} {xs : List V} {es : List PyData} (hp : ∃ o, H p = some o) (h : EvA tr σ H xs) (hl : xs.length ≤ 100) (hx : ∀ J, DsAll K J xs es) (hd : PyData.list es ∈ ds) : EvR (OneOf K ds) p (tLstS tr) σ H := fun H1 e Q q =>
  h H1 e _ fun H2 e2 => ⟨sz_of (by omega), fun a ha hs => q _ _ (e2.trans (Ex.new ha)) ⟨_, hd, .lst (sq_of (by
    obtain ⟨o, hp⟩ := hp
    rw [wo_ne (fun z => by rw [z, e2 _ _ (e _ _ hp)] at ha; cases ha)]
    exact upd_same)) hs (hx _)⟩⟩
theorem er_dict {ds : List PyData} {z : Str} {i : Int} (hp : ∃ o, H p = some o) (hd : PyData.dict [(.str z, .int i)] ∈ ds) : EvR (OneOf K ds) p (tDisp [(tC (.str z), tC (.int i))]) σ H := fun H1 e Q q =>
  fun a ha => ⟨upd_same, [(.inr z, .int i)], rfl, by show 1 ≤ 15; decide, by
    rw [upd_upd]
    refine q _ _ (Ex.new ha) ⟨_, hd, .one ?_⟩
    obtain ⟨o, hp⟩ := hp
    rw [wo_ne (fun z => by rw [z, e _ _ hp] at ha; cases ha)]
    exact upd_same⟩
/-! ### is an error -/
def spIsErr (K : PySem.W.Frag) (B : Addr) : Sp := fun vs H Q _ => ∃ (a C : Addr), vs = [.ref a] ∧ XAt H a C ∧ XiC K C ∧ PySem.W.kitOne K (.ref C) (.ref B) = some true ∧ PySem.W.kitOne K (.ref C) (.type "ValueError") = some true ∧ RetV (.bl true) H Q
theorem scIsErr : FnScope ["_law_error"] ["_law_error"] (defScope sIsErr) := ⟨rfl, rfl, rfl, by decide +kernel, rfl, by decide +kernel, by decide +kernel⟩
theorem rc_xiT {a C : Addr} {T : String} {b : Bool} (h : XAt H a C) (hI : XiC K C) (hk : PySem.W.kitOne K (.ref C) (.type T) = some b) : RC (rXi K) [.ref a, .ty T] H (.bl b) := fun H1 e _ q => ⟨a, C, .ty T, .type T, b, rfl, .ty T, xat_mono e h, hI, hk, q H1 (Ex.refl H1)⟩
theorem ok_isErr {f B : Addr} {fd : FuncData} (F : Fun K "_law_is_error" "_law_is_error" sIsErr f fd) (T : GlbE mg) (gB : mg "PostError" = some (.ref B)) : FnOk P w K mg base CX0 1 f fd ["_law_error"] (spIsErr K B) := by
  refine F.ok scIsErr (fun vs H Q E h => ?_) (fun cdv A outer s H vs Q E hr h => ?_)
  · obtain ⟨a, C, rfl, _⟩ := h
    rfl
  · obtain ⟨a, C, rfl, hX, hI, k1, k2, k⟩ := h
    refine ⟨_, pss_one (ps_ret (pe_and (pe_callB call_xi (by rfl) T.inst (by decide +kernel) (pa_cons (pv 0) (pa_cons (pe_glob (v := .ref B) rfl gB rfl) pa_nil)))
      (pe_one (pe_callB call_xi (by rfl) T.inst (by decide +kernel) (pa_cons (pv 0) (pa_cons (pe_bltn (v := .ty "ValueError") (by rfl) T.verr (by decide +kernel) rfl) pa_nil)))))), ?_⟩
    exact s_ret (ev_andV (ev_cb (ea_cons (ev_var rfl) (ea_cons ev_c ea_nil)) (rc_xi hX hI k1)) fun _ => ev_cb (ea_cons (ev_var rfl) (ea_cons ev_c ea_nil)) (rc_xiT hX hI k2)) k
end
end K00
namespace K00
open PySem L2 Evl
abbrev sErrs : Stmt := top 48
def D8 : List PyData := [.none, .int 0, .bool true, .str "part", .tuple [.int 1], .list [.int 2], .dict [(.str "a", .int 1)], .int ((10 : Int) ^ (39 : Int).toNat)]
def D4 : List PyData := [.str "line", .int 7, .none, .tuple [.int 0, .int 0]]
def shows (d : PyData) : Bool := d.showable && decide (d.depth ≤ 60) && decide (d.shown.length ≤ 100000)
theorem shows8 : D8.all shows = true := by decide +kernel
theorem shows84 : (D8.all fun d => D4.all fun e => shows (.list [e, d, e, d])) = true := by decide +kernel
section
variable {P : Program} {w : World} {K : PySem.W.Frag} {mg : Str → Option Value} {base : Heap} {σ : L2.St} {H : Hp} {te : TE} {ta : TA}
theorem rc_repr {x : V} {d : PyData} (h : Ds K H x d) (hs : shows d = true) : RC (rRepr K) [x] H (.str d.shown) := fun H1 e _ q => by
  unfold shows at hs
  simp only [Bool.and_eq_true, decide_eq_true_eq] at hs
  exact ⟨x, d, rfl, ds_mono e d x h, hs.1.1, hs.1.2, sz_of hs.2, q H1 (Ex.refl H1)⟩
theorem ev_reprL {xs : List V} {ds : List PyData} (h : EvA ta σ H xs) (hl : xs.length ≤ 100) (hd : DsAll K H xs ds) (hs : shows (.list ds) = true) : Ev (tCB (rRepr K) (tCons (tLstS ta) tNil)) σ H (.str (PyData.list ds).shown) := fun H1 e Q q => by
  unfold shows at hs
  simp only [Bool.and_eq_true, decide_eq_true_eq] at hs
  exact h H1 e _ fun H2 e2 => ⟨sz_of (by omega), fun a ha hn => ⟨.ref a, .list ds, rfl, .lst (sq_of upd_same) hn (ds_monoAll ((e.trans e2).trans (Ex.new ha)) ds xs hd), hs.1.1, hs.1.2, sz_of hs.2, q _ (e2.trans (Ex.new ha))⟩⟩
theorem ev_xvF {a C d : Addr} {fs : List (Str × V)} {n : Str} {v : V} (h : Ev te σ H (.ref a)) (ha : H a = some (exo a C (some d))) (hd : H d = some (exd d fs)) (T : XfC K C) (hno : PySem.W.findIn K (.ref C) n = some none) (hl : fs.lookup n = some v) : Ev (tXvF K n te) σ H v := fun H1 e Q q =>
  h H1 e _ fun H2 e2 => ⟨a, C, d, fs, v, rfl, e2 _ _ (e _ _ ha), e2 _ _ (e _ _ hd), T, hno, hl, q H2 e2⟩
theorem shaped_one (k : Int) : SeqAt.shaped (.list [.int k]) = true := shaped_ints [k]
theorem spl_classes {Cs : List Addr} {a C : Addr} {k : Nat} (hX : XAt H a C) (hk : Cs[k]? = some C) : SpL (spClasses Cs) [.ref a] H [.int (k : Int)] := fun H1 e Q q E => ⟨a, C, k, rfl, xat_mono e hX, hk, q⟩
theorem spv_isErr {B a C : Addr} (hX : XAt H a C) (hI : XiC K C) (k1 : PySem.W.kitOne K (.ref C) (.ref B) = some true) (k2 : PySem.W.kitOne K (.ref C) (.type "ValueError") = some true) : SpV (spIsErr K B) [.ref a] H (.bl true) := fun H1 e Q q E => ⟨a, C, rfl, xat_mono e hX, hI, k1, k2, q⟩
theorem Prd.get : ∀ {ts : List V} {Cs : List Addr} {v : V} {i : Nat} {C : Addr}, Prd H v ts Cs → Cs[i]? = some C → ∃ t a, ts[i]? = some (.ref t) ∧ H t = some (.tup [.ref a, v]) ∧ XAt H a C
  | _, _, _, 0, C, .cons ⟨t, a, h1, h2, h3⟩ _, e => by
    cases e
    exact ⟨t, a, by rw [h1]; rfl, h2, h3⟩
  | _, _, _, i + 1, C, .cons _ r, e => by
    obtain ⟨t, a, h1, h2, h3⟩ := Prd.get (i := i) r (by simpa using e)
    exact ⟨t, a, by simpa using h1, h2, h3⟩
end
end K00
namespace K00
open PySem L2 Evl
/-- a def that is called -/
structure Cal (P : Program) (w : World) (K : PySem.W.Frag) (mg : Str → Option Value) (base : Heap) (x : Str) (k : Nat) (ps : List Str) (sp : Sp) (f : Addr) (fd : FuncData) : Prop where
  G : FnOk P w K mg base CX0 k f fd ps sp
  g : mg x = some (.ref f)
  kp : PySem.W.keepIn K (.ref f) = true
  b : Binds K fd ps []
def spErrs : Sp := fun vs H Q _ => ∃ (p l : Addr) (cells : List Int) (m : Nat), vs = [.ref p] ∧ PenAt H p l cells m ∧ m ≤ 40000 ∧ cells.length ≤ 63 ∧ ∀ H', PenAt H' p l cells (m + 2) → Keep p H H' → Q (.bl true) H'
abbrev bmVE : List Value := [.type "ValueError", .type "Exception", .type "BaseException", .type "object"]
section
variable {P : Program} {w : World} {K : PySem.W.Frag} {mg : Str → Option Value} {base : Heap}
theorem scErrs : FnScope ["_law_pen_here", "_law_value", "_law_more", "_law_made", "_law_at", "_law_error", "_law_told", "_law_both"] ["_law_pen_here"] (defScope sErrs) := ⟨rfl, rfl, rfl, by decide +kernel, rfl, by decide +kernel, by decide +kernel⟩
theorem seq_i {t u : TS} {D : Ends} {σ : L2.St} {H : Hp} (h : t { D with nx := u D } σ H) : tSeq t u D σ H := h
theorem asg_i {te : TE} {i : Nat} {D : Ends} {σ : L2.St} {H : Hp} (h : te σ H fun x H1 => D.nx (σ.set i (some x)) H1) : tAsg te (gName i) D σ H := h
theorem lst_i {t : TA} {Q : VK} {σ : L2.St} {H : Hp} (h : t σ H fun xs H1 => xs.length ≤ sizeLine ∧ ∀ l, H1 l = none → Q (.ref l) (upd H1 l (.lst xs))) : tLst t σ H Q := h
theorem shows_of {ds : List PyData} {d : PyData} (h : ds.all shows = true) (hd : d ∈ ds) : shows d = true := List.all_eq_true.mp h d hd
theorem ok_errs {f fp fa fo fc fe ft fm CT CM CN B : Addr} {fd fdp fda fdo fdc fde fdt fdm : FuncData} {As Os : List Addr} {qt qm : Str} {stt stm : Stmt} (F : Fun K "_law_errors_right" "_law_errors_right" sErrs f fd) (T : GlbE mg)
    (Cp : Cal P w K mg base "_law_pick" 2 ["_law_pen_here", "_law_some"] spPick fp fdp) (Ca : Cal P w K mg base "_law_parts" 3 ["_law_value"] (spMade As) fa fda) (Co : Cal P w K mg base "_law_others" 3 ["_law_value", "_law_more"] (spMade2 Os) fo fdo)
    (Cc : Cal P w K mg base "_law_classes" 1 ["_law_error"] (spClasses (As ++ Os ++ [CN])) fc fdc) (Ce : Cal P w K mg base "_law_is_error" 1 ["_law_error"] (spIsErr K B) fe fde)
    (hA : As.length = 13) (hO : Os.length = 14) (Ut : Use2 P w K mg base "BadText" "line" "word" CT ft B qt stt fdt) (Um : Use2 P w K mg base "TooMany" "what" "most" CM fm B qm stm fdm)
    (qN : PySem.W.excIn K CN bmVE "ValueError.__new__" = true) (gN : mg "Nothing" = some (.ref CN)) (kN : PySem.W.keepIn K (.ref CN) = true)
    (hI : ∀ (i : Nat) C, (As ++ Os ++ [CN])[i]? = some C → XiC K C ∧ PySem.W.kitOne K (.ref C) (.ref B) = some true ∧ PySem.W.kitOne K (.ref C) (.type "ValueError") = some true) :
    FnG P w K mg base 4 f fd ["_law_pen_here"] spErrs := by
  refine fnG_of F scErrs (fun vs H Q E h => ?_) (fun cdv A outer s H vs Q E gd hr h => ?_)
  · obtain ⟨p, l, cells, m, rfl, _⟩ := h
    rfl
  · obtain ⟨p, l, cells, m, rfl, hP, hm, h63, k⟩ := h
    have gq : ∀ env, Qt (A.deeper env) := fun env => gd.deeper env
    refine ⟨_, pss_cons (ps_set (i := 1) scErrs.nd rfl (.inl rfl) (pe_call Cp.G (hr.mono (by decide)) (by rfl) Cp.g Cp.kp Cp.b .nil pass0 (pa_cons (pv 0) (pa_cons (pe_lst (pa_cons pe_non (pa_cons pe_int (pa_cons pe_bl (pa_cons pe_str (pa_cons (pe_tup (pa_cons pe_int pa_nil)) (pa_cons (pe_lstS (pa_cons pe_int pa_nil)) (pa_cons (pe_disp (pps_cons pe_str pe_int pps_nil) (by rfl) (by rfl) (fun z => by cases z) (by decide)) (pa_cons (pe_op op_pow pe_int pe_int) pa_nil))))))))) pa_nil))))
      (pss_cons (ps_set (i := 2) scErrs.nd rfl (.inl rfl) (pe_call Cp.G (hr.mono (by decide)) (by rfl) Cp.g Cp.kp Cp.b .nil pass0 (pa_cons (pv 0) (pa_cons (pe_lst (pa_cons pe_str (pa_cons pe_int (pa_cons pe_non (pa_cons (pe_tup (pa_cons pe_int (pa_cons pe_int pa_nil))) pa_nil))))) pa_nil))))
      (pss_cons (ps_set (i := 3) scErrs.nd rfl (.inl rfl) (pe_op op_cat (pe_call Ca.G (hr.mono (by decide)) (by rfl) Ca.g Ca.kp Ca.b .nil pass0 (pa_cons (pv 1) pa_nil)) (pe_call Co.G (hr.mono (by decide)) (by rfl) Co.g Co.kp Co.b .nil pass0 (pa_cons (pv 1) (pa_cons (pv 2) pa_nil)))))
      (pss_cons (ps_for PassesOwn.never rfl (pi_range1 (by rfl) T.range (pa_cons (pe_callB call_len_seq (by rfl) T.len PySem.boot_len (pa_cons (pv 3) pa_nil)) pa_nil)) (pg_name (i := 4) scErrs.nd rfl (.inl rfl)) (pss_cons (ps_asg (pe_ix ix_list (pv 3) (pv 4) (fun _ _ => rfl)) (pg_tup rfl (pgs_cons (pg_name (i := 5) scErrs.nd rfl (.inl rfl)) (pgs_cons (pg_name (i := 6) scErrs.nd rfl (.inl rfl)) pgs_nil))))
        (pss_one (ps_if (PW.pt (pw_or (pt_cmpR (op_neD hr.units) (pe_call Cc.G (hr.mono (by decide)) (by rfl) Cc.g Cc.kp Cc.b .nil pass0 (pa_cons (pv 5) pa_nil)) (pe_lst (pa_cons (pv 4) pa_nil)) (nomark _)) (pw_or (pt_not (pt_val (pe_call Ce.G (hr.mono (by decide)) (by rfl) Ce.g Ce.kp Ce.b .nil pass0 (pa_cons (pv 5) pa_nil)))) (pw_or1 (pt_cmpR op_ne (pe_callB (call_reprD (gq _) hr.units) (by rfl) T.repr (by decide +kernel) (pa_cons (pv 6) pa_nil)) (pe_callB (call_reprD (gq _) hr.units) (by rfl) T.repr (by decide +kernel) (pa_cons (pv 1) pa_nil)) (nomark _)))))) (pss_one (ps_ret pe_bl)) pss_nil))))
      (pss_cons (ps_set (i := 7) scErrs.nd rfl (.inl rfl) (pe_lst (pa_cons (pe_xv Ut.T.xv Ut.G (hr.mono (by decide)) (by rfl) Ut.gC Ut.bP (by decide) (pa_cons (pv 2) (pa_cons (pv 1) pa_nil))) (pa_cons (pe_xv Um.T.xv Um.G (hr.mono (by decide)) (by rfl) Um.gC Um.bP (by decide) (pa_cons (pv 2) (pa_cons (pv 1) pa_nil))) pa_nil))))
      (pss_cons (ps_if (pt_cmpR op_ne (pe_callB (call_reprD (gq _) hr.units) (by rfl) T.repr (by decide +kernel) (pa_cons (pe_lstS (pa_cons (pe_xvF (pe_ix ix_list (pv 7) pe_int (fun _ _ => rfl))) (pa_cons (pe_xvF (pe_ix ix_list (pv 7) pe_int (fun _ _ => rfl))) (pa_cons (pe_xvF (pe_ix ix_list (pv 7) pe_int (fun _ _ => rfl))) (pa_cons (pe_xvF (pe_ix ix_list (pv 7) pe_int (fun _ _ => rfl))) pa_nil))))) pa_nil)) (pe_callB (call_reprD (gq _) hr.units) (by rfl) T.repr (by decide +kernel) (pa_cons (pe_lstS (pa_cons (pv 2) (pa_cons (pv 1) (pa_cons (pv 2) (pa_cons (pv 1) pa_nil))))) pa_nil)) (nomark _)) (pss_one (ps_ret pe_bl)) pss_nil)
      (pss_one (ps_ret (pe_and (pe_cmpR (op_eqD hr.units) (pe_call Cc.G (hr.mono (by decide)) (by rfl) Cc.g Cc.kp Cc.b .nil pass0 (pa_cons (pe_xv0 PySem.F.excBase_ValueError qN gN kN rfl) pa_nil)) (pe_lst (pa_cons pe_int pa_nil)) (nomark _)) (pe_one (pe_call Ce.G (hr.mono (by decide)) (by rfl) Ce.g Ce.kp Ce.b .nil pass0 (pa_cons (pe_xv0 PySem.F.excBase_ValueError qN gN kN rfl) pa_nil))))))))))), ?_⟩
    have hpo : ∃ o, H p = some o := by
      obtain ⟨_, _, h1, _⟩ := hP
      exact ⟨_, h1⟩
    -- the value
    refine pick_go (R := OneOf K D8) (n := 8) rfl hP (by omega) h63 oneOf_mono (ra_cons oneOf_mono (er_ev ev_c fun _ => ⟨_, List.mem_cons_self .., .non⟩) (ra_cons oneOf_mono (er_ev ev_c fun _ => ⟨_, by unfold D8; simp, .int 0⟩) (ra_cons oneOf_mono (er_ev ev_c fun _ => ⟨_, by unfold D8; simp, .bl true⟩)
      (ra_cons oneOf_mono (er_ev ev_c fun _ => ⟨.str "part", by unfold D8; simp, .str _⟩) (ra_cons oneOf_mono (er_tup hpo (ea_cons ev_c ea_nil) (by decide) (fun _ => .cons (.int 1) .nil) (by unfold D8; simp)) (ra_cons oneOf_mono (er_lst hpo (ea_cons ev_c ea_nil) (by decide) (fun _ => .cons (.int 2) .nil) (by unfold D8; simp))
      (ra_cons oneOf_mono (er_dict hpo (by unfold D8; simp)) (ra_cons oneOf_mono (er_ev (ev_op ev_c ev_c (rv_I ⟨by decide, by decide, by decide⟩)) fun _ => ⟨.int ((10 : Int) ^ (39 : Int).toNat), by unfold D8; simp, .int _⟩) ra_nil)))))))) (by decide) (by decide) fun v H1 hv1 hP1 kp1 => ?_
    have hpo1 : ∃ o, H1 p = some o := by
      obtain ⟨_, _, h1, _⟩ := hP1
      exact ⟨_, h1⟩
    -- more
    refine pick_go (R := OneOf K D4) (n := 4) rfl hP1 (by omega) h63 oneOf_mono (ra_cons oneOf_mono (er_ev ev_c fun _ => ⟨.str "line", by unfold D4; simp, .str _⟩) (ra_cons oneOf_mono (er_ev ev_c fun _ => ⟨_, by unfold D4; simp, .int 7⟩) (ra_cons oneOf_mono (er_ev ev_c fun _ => ⟨_, by unfold D4; simp, .non⟩)
      (ra_cons oneOf_mono (er_tup hpo1 (ea_cons ev_c (ea_cons ev_c ea_nil)) (by decide) (fun _ => .cons (.int 0) (.cons (.int 0) .nil)) (by unfold D4; simp)) ra_nil)))) (by decide) (by decide) fun u H2 hu2 hP2 kp2 => ?_
    obtain ⟨d, hd, dv⟩ := oneOf_mono _ _ _ (wo_keep kp2) hv1
    obtain ⟨e, he, du⟩ := hu2
    have dv2 : Ds K H2 v d := ds_mono wo_sub d v dv
    have du2 : Ds K H2 u e := ds_mono wo_sub e u du
    -- made
    refine ⟨v, rfl, v, rfl, fun pa ta H3 _ e3 a3 d3 => ?_⟩
    refine ⟨v, rfl, u, rfl, v, u, rfl, fun pb tb H4 _ e4 a4 d4 => ?_⟩
    have la : ta.length = As.length := Paired.length d3
    have lb : tb.length = Os.length := Paired.length d4
    refine ⟨pa, pb, ta, tb, rfl, rfl, e4 _ _ a3, a4, sz_of (by omega), fun pm hpm => ?_⟩
    have E5 : Ex H2 (upd H4 pm (.lst (ta ++ tb))) := (e3.trans e4).trans (Ex.new hpm)
    have d5 : Prd (upd H4 pm (.lst (ta ++ tb))) v (ta ++ tb) (As ++ Os) := ((d3.mono e4).app d4).mono (Ex.new hpm)
    generalize hJ : upd H4 pm (.lst (ta ++ tb)) = J at E5 d5
    have hpmJ : J pm = some (.lst (ta ++ tb)) := by rw [← hJ]; exact upd_same
    have ln : ((ta ++ tb).length : Int) = 27 := by rw [List.length_append]; omega
    have hsv := shows_of shows8 hd
    -- the loop
    refine q_forR1 (n := 27) (ea_cons (ev_is (ev_cb (ea_cons (ev_var rfl) ea_nil) (rc_len (sq_of hpmJ))) (by rw [ln])) ea_nil) (by decide)
      (fun _ σ' H' => (∃ x4 x5 x6, σ' = [some (.ref p), some v, some u, some (.ref pm), x4, x5, x6, none]) ∧ Ex J H') (fun H1 e1 => ⟨⟨_, _, _, rfl⟩, e1⟩) ?_ ?_
    · rintro i σ' H' hi ⟨⟨x4, x5, x6, rfl⟩, e6⟩
      have hi27 : i < (As ++ Os).length := by rw [List.length_append]; omega
      obtain ⟨C, hC⟩ : ∃ C, (As ++ Os)[i]? = some C := ⟨_, List.getElem?_eq_getElem hi27⟩
      have hC' : (As ++ Os ++ [CN])[i]? = some C := by rw [List.getElem?_append_left hi27]; exact hC
      obtain ⟨t, a, ht, hT, hX⟩ := Prd.get d5 hC
      obtain ⟨xi, k1, k2⟩ := hI i C hC'
      have hE : Ev (tOp (rIxL K) (tVar 3) (tVar 4)) [some (.ref p), some v, some u, some (.ref pm), some (.int (i : Int)), x5, x6, none] H' (.ref t) := ev_op (ev_var rfl) (ev_var rfl) (rv_ixL (sq_of (e6 _ _ hpmJ)) (atI_nat ht))
      refine hE H' (Ex.refl H') _ fun H7 e7 => ?_
      refine ⟨t, [.ref a, v], rfl, st_of (e7 _ _ (e6 _ _ hT)), rfl, .ref a, [v], rfl, v, [], rfl, rfl, ?_⟩
      have X7 : XAt H7 a C := xat_mono (e6.trans e7) hX
      have dv7 : Ds K H7 v d := ds_mono ((E5.trans e6).trans e7) d v dv2
      refine s_when (b := false) (et_is (et_or (et_test (ev_opLL (z := .bl false) (el_call (ea_cons (ev_var rfl) ea_nil) (spl_classes X7 hC')) (el_lst (ea_cons (ev_var rfl) ea_nil) (Nat.le_of_ble_eq_true rfl)) (fun q r J2 hq hr2 _ => ?_)))
        (fun _ => et_or (et_not (et_B (ev_call (ea_cons (ev_var rfl) ea_nil) (spv_isErr X7 xi k1 k2)))) (fun _ => et_test (ev_op (ev_cb (ea_cons (ev_var rfl) ea_nil) (rc_repr dv7 hsv)) (ev_cb (ea_cons (ev_var rfl) ea_nil) (rc_repr dv7 hsv)) (rv_ne rfl))))) (by simp)) (fun z => absurd z (by decide)) (fun _ H8 e8 => ⟨⟨_, _, _, rfl⟩, (e6.trans e7).trans e8⟩)
      intro J3 e3' Q3 q3
      refine ⟨.list [.int (i : Int)], .list [.int (i : Int)], .lst (sq_of (e3' _ _ hq)) (dpAll_ints [(i : Int)]), .lst (sq_of (e3' _ _ hr2)) (dpAll_ints [(i : Int)]), shaped_one _, shaped_one _, ?_⟩
      rw [SeqAt.eqv_refl (.list [.int (i : Int)]) (by simp [PyData.canLay0, PyData.canLayAll0])]
      exact q3 J3 (Ex.refl J3)
    · rintro σ' H6 ⟨⟨x4, x5, x6, rfl⟩, e6⟩
      -- both
      refine seq_i (asg_i (lst_i (cons_i (ev_xv2 Ut (σ := [some (.ref p), some v, some u, some (.ref pm), x4, x5, x6, none]) (v := v) (u := u) (i := 1) (j := 2) rfl rfl (.inl ⟨rfl, rfl, rfl, rfl, rfl⟩) H6 _ fun a d' H7 e7 h1 h2 => cons_i (ev_xv2 Um (σ := [some (.ref p), some v, some u, some (.ref pm), x4, x5, x6, none]) (v := v) (u := u) (i := 1) (j := 2) rfl rfl (.inl ⟨rfl, rfl, rfl, rfl, rfl⟩) H7 _ fun b db H8 e8 h3 h4 => ?_)))))
      refine ⟨by show 2 ≤ sizeLine; decide, fun pl hpl => ?_⟩
      have E9 := (Ex.new hpl : Ex H8 (upd H8 pl (.lst [.ref a, .ref b])))
      have g1 := E9 _ _ (e8 _ _ h1)
      have g2 := E9 _ _ (e8 _ _ h2)
      have g3 := E9 _ _ h3
      have g4 := E9 _ _ h4
      have E0 : Ex H2 (upd H8 pl (.lst [.ref a, .ref b])) := (((E5.trans e6).trans e7).trans e8).trans E9
      have hpl9 : upd H8 pl (.lst [.ref a, .ref b]) pl = some (.lst [.ref a, .ref b]) := upd_same
      generalize upd H8 pl (.lst [.ref a, .ref b]) = L at E9 g1 g2 g3 g4 E0 hpl9
      have dL : DsAll K L [u, v, u, v] [e, d, e, d] := .cons (ds_mono E0 e u du2) (.cons (ds_mono E0 d v dv2) (.cons (ds_mono E0 e u du2) (.cons (ds_mono E0 d v dv2) .nil)))
      have sL : shows (.list [e, d, e, d]) = true := List.all_eq_true.mp (List.all_eq_true.mp shows84 d hd) e he
      have r0 : ∀ {te : TE} {σ2 : L2.St}, te = tOp (rIxL K) (tVar 7) (tC (.int 0)) → σ2[7]? = some (some (.ref pl)) → Ev te σ2 L (.ref a) := fun {te σ2} e h => by subst e; exact ev_op (ev_var h) ev_c (rv_ixL (sq_of hpl9) (atI_nat (j := 0) rfl))
      have r1 : ∀ {te : TE} {σ2 : L2.St}, te = tOp (rIxL K) (tVar 7) (tC (.int 1)) → σ2[7]? = some (some (.ref pl)) → Ev te σ2 L (.ref b) := fun {te σ2} e h => by subst e; exact ev_op (ev_var h) ev_c (rv_ixL (sq_of hpl9) (atI_nat (j := 1) rfl))
      refine q_when (b := false) (et_is (et_test (ev_op (ev_reprL (ea_cons (ev_xvF (r0 rfl rfl) g1 g2 Ut.T.b.xf Ut.no (by rw [lookup_put, if_neg (by decide +kernel), lookup_put, if_pos rfl])) (ea_cons (ev_xvF (r0 rfl rfl) g1 g2 Ut.T.b.xf Ut.no2 (by rw [lookup_put, if_pos rfl])) (ea_cons (ev_xvF (r1 rfl rfl) g3 g4 Um.T.b.xf Um.no (by rw [lookup_put, if_neg (by decide +kernel), lookup_put, if_pos rfl])) (ea_cons (ev_xvF (r1 rfl rfl) g3 g4 Um.T.b.xf Um.no2 (by rw [lookup_put, if_pos rfl])) ea_nil)))) (Nat.le_of_ble_eq_true rfl) dL sL)
        (ev_reprL (ea_cons (ev_var rfl) (ea_cons (ev_var rfl) (ea_cons (ev_var rfl) (ea_cons (ev_var rfl) ea_nil)))) (Nat.le_of_ble_eq_true rfl) dL sL) (rv_ne rfl))) (by simp)) (fun z => absurd z (by decide)) (fun _ M eM => ?_)
      -- Nothing
      have hN : (As ++ Os ++ [CN])[27]? = some CN := by
        rw [List.getElem?_append_right (by rw [List.length_append]; omega), List.length_append, hA, hO]
        rfl
      obtain ⟨xi, k1, k2⟩ := hI 27 CN hN
      refine s_ret (v := .bl true) (ev_is (ev_andV (a := true) (b := true) (ev_opLL (xs := [.int 27]) (ys := [.int 27]) (fun M1 e1 Q1 q1 => cons_i (fun a1 h1 => ?_)) (el_lst (ea_cons ev_c ea_nil) (by decide)) (fun q r J2 hq hr2 _ => ?_)) (fun _ M1 e1 Q1 q1 => cons_i (fun a1 h1 => ?_))) rfl) fun M2 e2 => ?_
      · exact (spl_classes (k := 27) (.inr upd_same) hN) _ (Ex.refl _) _ (fun p2 M3 hp2 e3 h3 => q1 p2 M3 (fresh_back (Ex.new h1) hp2) ((Ex.new h1).trans e3) h3) L2.E0
      · intro J3 e3' Q3 q3
        refine ⟨.list [.int 27], .list [.int 27], .lst (sq_of (e3' _ _ hq)) (dpAll_ints [27]), .lst (sq_of (e3' _ _ hr2)) (dpAll_ints [27]), shaped_one _, shaped_one _, ?_⟩
        rw [SeqAt.eqv_refl (.list [.int 27]) (by simp [PyData.canLay0, PyData.canLayAll0])]
        exact q3 J3 (Ex.refl J3)
      · exact (spv_isErr (.inr upd_same) xi k1 k2) _ (Ex.refl _) _ (fun M3 e3 => q1 M3 ((Ex.new h1).trans e3)) L2.E0
      · exact k M2 (hP2.mono ((E0.trans eM).trans e2) (by omega)) ((kp1.trans kp2).trans (Keep.of_ex ((E0.trans eM).trans e2)))
end
end K00
namespace L2
open PySem PySem.Spec PyProof.Rows
/-- s * n, a text of one sign -/
def rMulS : R2 := fun x y H Q => ∃ (z : Str) (n : Int), x = .str z ∧ y = .int n ∧ 1 < n ∧ n ≤ 1000 ∧ z.length = 1 ∧ (⟨(List.replicate n.toNat z.cps).foldl (· ++ ·) #[]⟩ : Str).length ≤ sizeLine ∧ Q (.str ⟨(List.replicate n.toNat z.cps).foldl (· ++ ·) #[]⟩) H
theorem op_mulS {X : Cx} : OpR X (binaryOp .Mult) rMulS := by
  intro pins s σ H x y v u Q I rx ry h
  obtain ⟨z, n, rfl, rfl, h1, h2, hz, hl, q⟩ := h
  obtain ⟨t, rfl⟩ := rx
  obtain ⟨t2, rfl⟩ := ry
  refine PySem.P.mul_str ?_ (fun _ _ => ?_) (fun _ _ => ?_) ?_
  · have a1 : ¬ n < -(2 ^ 63 : Int) := by omega
    have a2 : ¬ n ≥ 2 ^ 63 := by omega
    rw [decide_eq_false a1, decide_eq_false a2]; rfl
  · rw [hz]
    have : (1 : Int) ≤ (2 ^ 63 - 1) / n := (Int.le_ediv_iff_mul_le (by omega)).mpr (by omega)
    omega
  · rw [hz, Nat.one_mul]
    unfold Builtin.Str.tooLong
    have : n.toNat ≤ sizeLine := by rw [sizeLine_eq]; omega
    simp
    omega
  · have n1 : ¬ n < 1 := by omega
    have n2 : (n == 1 || z.length == 0) = false := by
      rw [hz]
      simp
      omega
    rw [if_neg n1, if_neg (by rw [n2]; exact Bool.false_ne_true)]
    exact ⟨hl, ⟨.str _, H, I.tok _, ⟨_, rfl⟩, q⟩⟩
end L2
namespace K00
open PySem L2 Evl
section
variable {P : Program} {w : World} {K : PySem.W.Frag} {mg : Str → Option Value} {base : Heap} {σ : L2.St} {H : Hp} {te : TE} {ta : TA} {t : TT}
/-- a comprehension over a text -/
theorem el_lcS {z : Str} {tl : TE} {j : Nat} {vs : List Nat} (f : Nat → Bool) (v : Nat → V) (h : Ev tl σ H (.str z)) (hz : z.cps.size ≤ 40000) (hw : ∀ x, wipe ((wipe σ vs).set j (some x)) vs = wipe σ vs)
    (ht : ∀ (i c : Nat) H1, Ex H H1 → z.cps[i]? = some c → EvT t ((wipe σ vs).set j (some (.str ⟨#[c]⟩))) H1 (f i)) (he : ∀ (i c : Nat) H1, Ex H H1 → z.cps[i]? = some c → f i = true → Ev te ((wipe σ vs).set j (some (.str ⟨#[c]⟩))) H1 (v i)) :
    EvL (tLc (iStr tl) (gName j) t te vs) σ H (given z.cps.size f v) := fun H0 e Q q => h H0 e _ fun H1 e1 => ⟨z, rfl, fun Dl hD => by
  refine ⟨fun i m H' => m = z.cps.size - i ∧ i ≤ z.cps.size ∧ Cw H1 f v Dl i H', ⟨_, rfl, Nat.zero_le _, hD, Ex.new hD, upd_same⟩, ?_⟩
  rintro i m H' ⟨rfl, hi, p⟩
  by_cases hlt : i < z.cps.size
  · refine .inr ⟨hlt, Cw H1 f v Dl (i + 1), fun H'' p' => ⟨z.cps.size - (i + 1), by omega, rfl, hlt, p'⟩, fun x H'' y => ?_⟩
    obtain ⟨rfl, c, hc, rfl⟩ := y
    exact ⟨hw _, cw_turn p (by omega) (ht i c H1 (e.trans e1) hc) (fun hf => he i c H1 (e.trans e1) hc hf)⟩
  · obtain rfl : i = z.cps.size := by omega
    exact .inl ⟨Nat.le_refl _, q Dl H' (fresh_back e1 p.1) (e1.trans p.2.1) p.2.2⟩⟩
/-- the signs of z that stand not in w -/
def offs (z w : Str) : List Str := ((List.range z.cps.size).filter fun i => !decide (z.cps.toList.getD i 0 ∈ w.cps.toList)).map fun i => ⟨#[z.cps.toList.getD i 0]⟩
theorem dpAll_strs {H : Hp} : ∀ (ns : List Str), DpAll K H (ns.map V.str) (ns.map PyData.str)
  | [] => .nil
  | n :: ns => .cons (.str n) (dpAll_strs ns)
/-- [c for c in z if c not in w] == [] -/
theorem ev_noOffs {z w : Str} {tl : TE} {j : Nat} {vs : List Nat} (h : Ev tl σ H (.str z)) (hz : z.cps.size ≤ 4000) (hw : ∀ x, wipe ((wipe σ vs).set j (some x)) vs = wipe σ vs) (hj : ∀ x, ((wipe σ vs).set j (some x))[j]? = some (some x))
    (hs : SeqAt.shaped (.list ((offs z w).map PyData.str)) = true) :
    Ev (tOp (rEqD K) (tLc (iStr tl) (gName j) (tTest (tOp (fun x y H Q => ∃ (c : Nat) (z : Str), x = .str ⟨#[c]⟩ ∧ y = .str z ∧ Q (.bl (!decide (c ∈ z.cps.toList))) H) (tVar j) (tC (.str w)))) (tVar j) vs) (tLst tNil)) σ H (.bl (PyData.eqv (.list ((offs z w).map PyData.str)) (.list []))) := by
  have hc : ∀ {i c : Nat}, z.cps[i]? = some c → z.cps.toList.getD i 0 = c := fun {i c} e => by
    have : z.cps.toList[i]? = some c := by rw [Array.getElem?_toList]; exact e
    rw [List.getD_eq_getElem?_getD, this]
    rfl
  refine ev_opLL (xs := (offs z w).map V.str) (ys := []) ?_ (el_lst ea_nil (by decide)) (fun p q H1 hp hq e => ?_)
  · have e1 : (offs z w).map V.str = given z.cps.size (fun i => !decide (z.cps.toList.getD i 0 ∈ w.cps.toList)) (fun i => V.str ⟨#[z.cps.toList.getD i 0]⟩) := by
      unfold offs given
      rw [List.map_map]
      rfl
    rw [e1]
    refine el_lcS _ _ h (by omega) hw (fun i c H1 e hi => ?_) (fun i c H1 e hi _ => ?_)
    · rw [hc hi]
      exact et_test (ev_op (ev_var (hj _)) ev_c fun H2 e2 Q q => ⟨c, w, rfl, rfl, q H2 (Ex.refl H2)⟩)
    · rw [hc hi]
      exact ev_var (hj _)
  · exact fun H2 e2 Q k => ⟨_, _, .lst (sq_of (e2 _ _ hp)) (dpAll_strs _), .lst (sq_of (e2 _ _ hq)) .nil, hs, shaped_nil, k H2 (Ex.refl H2)⟩
theorem ev_callN0 {sp : Sp} {zs : List V} {z : V} {m : Nat} {gV : List V → List V → List V} (h : EvA ta σ H zs) (hl : zs.length = m) (hs : SpV sp (gV [] zs) H z) : Ev (tCallN 0 m sp gV L2.E0 tNil ta) σ H z := fun H1 e Q q =>
  h H1 e _ fun H2 e2 => ⟨rfl, hl, hs H2 (e.trans e2) Q (fun H3 e3 => q H3 (e2.trans e3)) L2.E0⟩
theorem rv_neSame {p q : Addr} {xs : List V} {ds : List PyData} (hp : H p = some (.lst xs)) (hq : H q = some (.lst xs)) (hd : ∀ J, DpAll K J xs ds) (hs : SeqAt.shaped (.list ds) = true) (hc : (PyData.list ds).canLay0 = true) : RV (rNeD K) (.ref p) (.ref q) H (.bl false) := fun H2 e2 Q k => by
  refine ⟨.list ds, .list ds, .lst (sq_of (e2 _ _ hp)) (hd _), .lst (sq_of (e2 _ _ hq)) (hd _), hs, hs, ?_⟩
  rw [SeqAt.eqv_refl _ hc]
  exact k H2 (Ex.refl H2)
theorem rv_eqSame {p q : Addr} {xs : List V} {ds : List PyData} (hp : H p = some (.lst xs)) (hq : H q = some (.lst xs)) (hd : ∀ J, DpAll K J xs ds) (hs : SeqAt.shaped (.list ds) = true) (hc : (PyData.list ds).canLay0 = true) : RV (rEqD K) (.ref p) (.ref q) H (.bl true) := fun H2 e2 Q k => by
  refine ⟨.list ds, .list ds, .lst (sq_of (e2 _ _ hp)) (hd _), .lst (sq_of (e2 _ _ hq)) (hd _), hs, hs, ?_⟩
  rw [SeqAt.eqv_refl _ hc]
  exact k H2 (Ex.refl H2)
theorem el_rep {n : Int} (hn : 0 ≤ n ∧ n ≤ 100) {x : V} : EvL (tOp rRep (tLst (tCons (tC x) tNil)) (tC (.int n))) σ H (List.replicate n.toNat [x]).flatten := fun H1 e Q q =>
  ⟨by show 1 ≤ sizeLine; decide, fun l hl => ⟨l, n, [x], rfl, rfl, upd_same, by omega, by omega, by rw [List.length_singleton, Nat.one_mul, sizeLine_eq]; omega, fun p hp => by
    have hne : p ≠ l := fun z => by
      rw [z, upd_same] at hp
      cases hp
    exact q p _ (by rw [upd_ne hne] at hp; exact hp) ((Ex.new hl).trans (Ex.new hp)) upd_same⟩⟩
end
end K00
namespace K00
open PySem L2 Evl
abbrev sKinds : Stmt := top 49
def spKinds : Sp := fun vs H Q _ => ∃ (p l : Addr) (cells : List Int) (m : Nat), vs = [.ref p] ∧ PenAt H p l cells m ∧ m ≤ 40000 ∧ cells.length ≤ 63 ∧ ∀ H', PenAt H' p l cells (m + 7) → Keep p H H' → Q (.bl true) H'
def words : List Str := ["a", "z", "abcdefgh", "abcdefghi", "", "A", "a1", "a b", "-", "first"]
def ones : Str := ⟨(List.replicate (200 : Int).toNat ("1" : Str).cps).foldl (· ++ ·) #[]⟩
def zeros : Str := ⟨(List.replicate (201 : Int).toNat ("0" : Str).cps).foldl (· ++ ·) #[]⟩
def sgns : List Str := ["", "0", "01", ones, zeros, "2", "0 1", "-1", "10a", "01\n"]
def noOffs (z w : Str) : Bool := PyData.eqv (.list ((offs z w).map PyData.str)) (.list [])
def wordOk (z : Str) : Bool := decide (z.length ≤ 1000) && decide (z.cps.size ≤ 4000) && SeqAt.shaped (.list ((offs z abc).map PyData.str)) && (nameB z == ((decide ((1 : Int) ≤ (z.length : Int)) && decide ((z.length : Int) ≤ 8)) && noOffs z abc))
def sgnOk (z : Str) : Bool := decide (z.length ≤ 1000) && decide (z.cps.size ≤ 4000) && SeqAt.shaped (.list ((offs z oi).map PyData.str)) && (signsB z == noOffs z oi) && (letterB z == (noOffs z oi && decide ((z.length : Int) ≤ 200)))
theorem words_ok : words.all wordOk = true := by decide +kernel
theorem sgns_ok : sgns.all sgnOk = true := by decide +kernel
/-- one of these texts -/
def TextOf (zs : List Str) : V → Hp → Prop := fun x _ => ∃ z ∈ zs, x = .str z
theorem textOf_mono {zs : List Str} : Mono (TextOf zs) := fun _ _ _ _ h => h
/-- no whole number; no text -/
def NoInt (K : PySem.W.Frag) : V → Hp → Prop := fun x H => ∃ (T : String) (a b : Bool), TyX K H x (.type T) ∧ kitB T "int" = some a ∧ kitB T "bool" = some b ∧ (a && !b) = false
theorem noInt_mono {K : PySem.W.Frag} : Mono (NoInt K) := fun _ _ _ e ⟨T, a, b, h, r⟩ => ⟨T, a, b, tyx_mono e h, r⟩
def NoStr (K : PySem.W.Frag) : V → Hp → Prop := fun x H => ∃ (T : String), TyX K H x (.type T) ∧ kitB T "str" = some false
theorem noStr_mono {K : PySem.W.Frag} : Mono (NoStr K) := fun _ _ _ e ⟨T, h, r⟩ => ⟨T, tyx_mono e h, r⟩
section
variable {P : Program} {w : World} {K : PySem.W.Frag} {mg : Str → Option Value} {base : Heap} {σ : L2.St} {H : Hp} {te : TE} {ta : TA} {p : Addr} {R : V → Hp → Prop}
theorem ni_non {H : Hp} : NoInt K .non H := ⟨"NoneType", false, false, .base .non, by decide +kernel, by decide +kernel, rfl⟩
theorem ni_bl {b : Bool} {H : Hp} : NoInt K (.bl b) H := ⟨"bool", true, true, .base (.bl b), by decide +kernel, by decide +kernel, rfl⟩
theorem ni_str {z : Str} {H : Hp} : NoInt K (.str z) H := ⟨"str", false, false, .base (.str z), by decide +kernel, by decide +kernel, rfl⟩
theorem ni_tup {a : Addr} {xs : List V} {H : Hp} (h : H a = some (.tup xs)) : NoInt K (.ref a) H := ⟨"tuple", false, false, .base (.tup h), by decide +kernel, by decide +kernel, rfl⟩
theorem ni_lst {a : Addr} {xs : List V} {H : Hp} (h : H a = some (.lst xs)) : NoInt K (.ref a) H := ⟨"list", false, false, .base (.lst h), by decide +kernel, by decide +kernel, rfl⟩
theorem ni_dct {a : Addr} {xs : List (Key × V)} {H : Hp} (h : H a = some (.dK xs)) : NoInt K (.ref a) H := ⟨"dict", false, false, .base (.dK h), by decide +kernel, by decide +kernel, rfl⟩
theorem ns_non {H : Hp} : NoStr K .non H := ⟨"NoneType", .base .non, by decide +kernel⟩
theorem ns_bl {b : Bool} {H : Hp} : NoStr K (.bl b) H := ⟨"bool", .base (.bl b), by decide +kernel⟩
theorem ns_int {i : Int} {H : Hp} : NoStr K (.int i) H := ⟨"int", .base (.int i), by decide +kernel⟩
theorem ns_tup {a : Addr} {xs : List V} {H : Hp} (h : H a = some (.tup xs)) : NoStr K (.ref a) H := ⟨"tuple", .base (.tup h), by decide +kernel⟩
theorem ns_lst {a : Addr} {xs : List V} {H : Hp} (h : H a = some (.lst xs)) : NoStr K (.ref a) H := ⟨"list", .base (.lst h), by decide +kernel⟩
theorem ns_dct {a : Addr} {xs : List (Key × V)} {H : Hp} (h : H a = some (.dK xs)) : NoStr K (.ref a) H := ⟨"dict", .base (.dK h), by decide +kernel⟩
theorem new_wo {H1 H2 : Hp} {a : Addr} {o u : HO} (hp : ∃ o, H p = some o) (e : Ex H H1) (ha : H1 a = none) (h2 : H2 a = some u) : wo p H2 a = some u := by
  obtain ⟨o, hp⟩ := hp
  rw [wo_ne (fun z => by rw [z, e _ _ hp] at ha; cases ha)]
  exact h2
theorem er_tupR {xs : List V} (hp : ∃ o, H p = some o) (h : EvA ta σ H xs) (hl : xs.length ≤ 100) (hR : ∀ {a : Addr} {J : Hp}, J a = some (.tup xs) → R (.ref a) J) : EvR R p (tTup ta) σ H := fun H1 e Q q =>
  eu_tup h (by omega) H1 e _ fun a H2 ha e2 h2 => q _ H2 e2 (hR (new_wo (o := .tup xs) hp e ha h2))
theorem er_lstR {xs : List V} (hp : ∃ o, H p = some o) (h : EvA ta σ H xs) (hl : xs.length ≤ 100) (hR : ∀ {a : Addr} {J : Hp}, J a = some (.lst xs) → R (.ref a) J) : EvR R p (tLst ta) σ H := fun H1 e Q q =>
  el_lst h (by omega) H1 e _ fun a H2 ha e2 h2 => q _ H2 e2 (hR (new_wo (o := .lst xs) hp e ha h2))
theorem er_dnew (hp : ∃ o, H p = some o) (hR : ∀ {a : Addr} {J : Hp}, J a = some (.dK []) → R (.ref a) J) {te : TE} (ht : te = fun _ H Q => ∀ d, H d = none → Q (.ref d) (upd H d (.dK []))) : EvR R p te σ H := by
  subst ht
  exact fun H1 e Q q a ha => q _ _ (Ex.new ha) (hR (new_wo (o := .dK []) hp e ha upd_same))
theorem er_dict1 {i j : Int} (hp : ∃ o, H p = some o) (hR : ∀ {a : Addr} {J : Hp}, J a = some (.dK [(.inl i, .int j)]) → R (.ref a) J) : EvR R p (tDisp [(tC (.int i), tC (.int j))]) σ H := fun H1 e Q q =>
  fun a ha => ⟨upd_same, [(.inl i, .int j)], rfl, by show 1 ≤ 15; decide, by
    rw [upd_upd]
    exact q _ _ (Ex.new ha) (hR (new_wo (o := .dK []) hp e ha upd_same))⟩
theorem test_i {te : TE} {σ : L2.St} {H : Hp} {Q : Bool → Hp → Prop} (h : te σ H fun x H1 => ∃ c, x = .bl c ∧ Q c H1) : tTest te σ H Q := h
theorem op_i {r : R2} {ta tb : TE} {σ : L2.St} {H : Hp} {Q : VK} (h : ta σ H fun x H1 => tb σ H1 fun y H2 => r x y H2 Q) : tOp r ta tb σ H Q := h
theorem calln_i {m : Nat} {sp : Sp} {gV : List V → List V → List V} {E : XK} {tk : TA} {σ : L2.St} {H : Hp} {Q : VK} (h : tk σ H fun zs H2 => ([] : List V).length = 0 ∧ zs.length = m ∧ sp (gV [] zs) H2 Q E) : tCallN 0 m sp gV E tNil tk σ H Q := h
theorem pen_some {l : Addr} {cells : List Int} {m : Nat} (h : PenAt H p l cells m) : ∃ o, H p = some o := by
  obtain ⟨_, _, h1, _⟩ := h
  exact ⟨_, h1⟩
theorem scKinds : FnScope ["_law_pen_here", "_law_number", "_law_odd", "_law_word", "_law_is_right", "_law_signs", "_law_sign"] ["_law_pen_here"] (defScope sKinds) := ⟨rfl, rfl, rfl, by decide +kernel, rfl, by decide +kernel, by decide +kernel⟩
theorem ok_kinds {f fp fd fi fw fn fs fl : Addr} {fdf fdp fdd fdi fdw fdn fds fdl : FuncData} (F : Fun K "_law_kinds_right" "_law_kinds_right" sKinds f fdf) (T : GlbT mg)
    (Cp : Cal P w K mg base "_law_pick" 2 ["_law_pen_here", "_law_some"] spPick fp fdp) (Cd : Cal P w K mg base "_law_draw" 1 ["_law_pen_here", "_law_many"] spDraw fd fdd)
    (Ci : Cal P w K mg base "is_integer" 1 ["value"] (spIsInt K) fi fdi) (Cw : Cal P w K mg base "is_within" 2 ["value", "least", "most"] (spWithin K) fw fdw)
    (Cn : Cal P w K mg base "is_name" 1 ["value"] (spName K) fn fdn) (Cs : Cal P w K mg base "is_signs" 1 ["value"] (spSigns K) fs fds) (Cl : Cal P w K mg base "is_letter" 3 ["value"] (spLetter K) fl fdl)
    (kI : KBn K fdi ["value"] 0 ["value"] (fun _ ws => ws) (fun _ zs => zs)) (kW : KBn K fdw ["value", "least", "most"] 0 ["most", "least", "value"] (fun _ ws => ws.reverse) (fun _ zs => zs.reverse))
    (kN : KBn K fdn ["value"] 0 ["value"] (fun _ ws => ws) (fun _ zs => zs)) (kS : KBn K fds ["value"] 0 ["value"] (fun _ ws => ws) (fun _ zs => zs)) (kL : KBn K fdl ["value"] 0 ["value"] (fun _ ws => ws) (fun _ zs => zs)) :
    FnOk P w K mg base CX0 4 f fdf ["_law_pen_here"] spKinds := by
  refine F.ok scKinds (fun vs H Q E h => ?_) (fun cdv A outer s H vs Q E hr h => ?_)
  · obtain ⟨p, l, cells, m, rfl, _⟩ := h
    rfl
  · obtain ⟨p, l, cells, m, rfl, hP, hm, h63, k⟩ := h
    refine ⟨_, pss_cons (ps_set (i := 1) scKinds.nd rfl (.inl rfl) (pe_call Cp.G (hr.mono (by decide)) (by rfl) Cp.g Cp.kp Cp.b .nil pass0 (pa_cons (pv 0) (pa_cons (pe_lst (pa_cons (pe_un un_neg pe_int) (pa_cons pe_int (pa_cons pe_int (pa_cons pe_int (pa_cons (pe_call Cd.G (hr.mono (by decide)) (by rfl) Cd.g Cd.kp Cd.b .nil pass0 (pa_cons (pv 0) (pa_cons pe_int pa_nil))) (pa_cons (pe_op op_pow pe_int pe_int) (pa_cons (pe_un un_neg (pe_op op_pow pe_int pe_int)) pa_nil)))))))) pa_nil))))
      (pss_cons (ps_if (pt_cmpR (op_neD hr.units) (pe_lst (pa_cons (pe_call Ci.G (hr.mono (by decide)) (by rfl) Ci.g Ci.kp Ci.b .nil pass0 (pa_cons (pv 1) pa_nil)) (pa_cons (pe_call Cw.G (hr.mono (by decide)) (by rfl) Cw.g Cw.kp Cw.b .nil pass0 (pa_cons (pv 1) (pa_cons pe_int (pa_cons pe_int pa_nil)))) pa_nil))) (pe_lst (pa_cons pe_bl (pa_cons (pe_chain op_le op_le pe_int (pv 1) pe_int) pa_nil))) (nomark _)) (pss_one (ps_ret pe_bl)) pss_nil)
      (pss_cons (ps_set (i := 2) scKinds.nd rfl (.inl rfl) (pe_call Cp.G (hr.mono (by decide)) (by rfl) Cp.g Cp.kp Cp.b .nil pass0 (pa_cons (pv 0) (pa_cons (pe_lst (pa_cons pe_non (pa_cons pe_bl (pa_cons pe_bl (pa_cons pe_str (pa_cons pe_str (pa_cons (pe_tup (pa_cons pe_int pa_nil)) (pa_cons (pe_lst (pa_cons pe_int pa_nil)) (pa_cons pe_dnewK (pa_cons (pe_disp (pps_cons pe_int pe_int pps_nil) (by rfl) (by rfl) (fun z => by cases z) (by decide)) pa_nil)))))))))) pa_nil))))
      (pss_cons (ps_if (pt_cmpR (op_neD hr.units) (pe_lst (pa_cons (pe_callK0 Ci.G (hr.mono (by decide)) (by rfl) Ci.g Ci.kp kI (pk_cons (pv 2) pk_nil)) (pa_cons (pe_callK0 Cw.G (hr.mono (by decide)) (by rfl) Cw.g Cw.kp kW (pk_cons pe_int (pk_cons pe_int (pk_cons (pv 2) pk_nil)))) pa_nil))) (pe_op op_rep (pe_lst (pa_cons pe_bl pa_nil)) pe_int) (nomark _)) (pss_one (ps_ret pe_bl)) pss_nil)
      (pss_cons (ps_set (i := 3) scKinds.nd rfl (.inl rfl) (pe_call Cp.G (hr.mono (by decide)) (by rfl) Cp.g Cp.kp Cp.b .nil pass0 (pa_cons (pv 0) (pa_cons (pe_lst (pa_cons pe_str (pa_cons pe_str (pa_cons pe_str (pa_cons pe_str (pa_cons pe_str (pa_cons pe_str (pa_cons pe_str (pa_cons pe_str (pa_cons pe_str (pa_cons pe_str pa_nil))))))))))) pa_nil))))
      (pss_cons (ps_set (i := 4) scKinds.nd rfl (.inl rfl) (pe_and (pe_chain op_le op_le pe_int (pe_callB call_len (by rfl) T.len PySem.boot_len (pa_cons (pv 3) pa_nil)) pe_int) (pe_one (pe_cmpR (op_eqD hr.units) (pe_lc (own := [("_law_sign", 6)]) (g := gName 6) rfl scKinds.nd (pi_str (pv 3)) (blkOk_by (own := [("_law_sign", 6)]) (N := ["_law_pen_here", "_law_number", "_law_odd", "_law_word", "_law_is_right", "_law_signs", "_law_sign"]) (sc := defScope sKinds) (by decide +kernel)) (fun _ _ _ _ _ => pg_name (i := 6) scKinds.nd rfl (Or.inl rfl)) (fun _ _ _ _ _ => pts_one (pt_cmpR op_notIn_sign (pv 6) pe_str (by rfl))) (fun _ _ _ _ _ => pv 6)) (pe_lst pa_nil) (nomark _)))))
      (pss_cons (ps_if (PW.pt (pw_or (pt_cmpR op_ne (pe_call Cn.G (hr.mono (by decide)) (by rfl) Cn.g Cn.kp Cn.b .nil pass0 (pa_cons (pv 3) pa_nil)) (pv 4) (nomark _)) (pw_or1 (pt_cmpR op_isnot_bl (pe_callK0 Cn.G (hr.mono (by decide)) (by rfl) Cn.g Cn.kp kN (pk_cons (pe_call Cp.G (hr.mono (by decide)) (by rfl) Cp.g Cp.kp Cp.b .nil pass0 (pa_cons (pv 0) (pa_cons (pe_lst (pa_cons pe_non (pa_cons pe_int (pa_cons pe_bl (pa_cons (pe_lst (pa_cons pe_str pa_nil)) (pa_cons (pe_tup (pa_cons pe_str pa_nil)) (pa_cons pe_dnewK pa_nil))))))) pa_nil))) pk_nil)) pe_bl (nomark _))))) (pss_one (ps_ret pe_bl)) pss_nil)
      (pss_cons (ps_set (i := 5) scKinds.nd rfl (.inl rfl) (pe_call Cp.G (hr.mono (by decide)) (by rfl) Cp.g Cp.kp Cp.b .nil pass0 (pa_cons (pv 0) (pa_cons (pe_lst (pa_cons pe_str (pa_cons pe_str (pa_cons pe_str (pa_cons (pe_op op_mulS pe_str pe_int) (pa_cons (pe_op op_mulS pe_str pe_int) (pa_cons pe_str (pa_cons pe_str (pa_cons pe_str (pa_cons pe_str (pa_cons pe_str pa_nil))))))))))) pa_nil))))
      (pss_cons (ps_set (i := 4) scKinds.nd rfl (.inl rfl) (pe_cmpR (op_eqD hr.units) (pe_lc (own := [("_law_sign", 6)]) (g := gName 6) rfl scKinds.nd (pi_str (pv 5)) (blkOk_by (own := [("_law_sign", 6)]) (N := ["_law_pen_here", "_law_number", "_law_odd", "_law_word", "_law_is_right", "_law_signs", "_law_sign"]) (sc := defScope sKinds) (by decide +kernel)) (fun _ _ _ _ _ => pg_name (i := 6) scKinds.nd rfl (Or.inl rfl)) (fun _ _ _ _ _ => pts_one (pt_cmpR op_notIn_sign (pv 6) pe_str (by rfl))) (fun _ _ _ _ _ => pv 6)) (pe_lst pa_nil) (nomark _)))
      (pss_cons (ps_if (PW.pt (pw_or (pt_cmpR op_ne (pe_callK0 Cs.G (hr.mono (by decide)) (by rfl) Cs.g Cs.kp kS (pk_cons (pv 5) pk_nil)) (pv 4) (nomark _)) (pw_or1 (pt_cmpR op_ne (pe_call Cl.G (hr.mono (by decide)) (by rfl) Cl.g Cl.kp Cl.b .nil pass0 (pa_cons (pv 5) pa_nil)) (pe_and (pv 4) (pe_one (pe_cmpR op_le (pe_callB call_len (by rfl) T.len PySem.boot_len (pa_cons (pv 5) pa_nil)) pe_int (nomark _)))) (nomark _))))) (pss_one (ps_ret pe_bl)) pss_nil)
      (pss_cons (ps_set (i := 2) scKinds.nd rfl (.inl rfl) (pe_call Cp.G (hr.mono (by decide)) (by rfl) Cp.g Cp.kp Cp.b .nil pass0 (pa_cons (pv 0) (pa_cons (pe_lst (pa_cons pe_non (pa_cons pe_int (pa_cons pe_int (pa_cons pe_bl (pa_cons (pe_lst (pa_cons pe_str pa_nil)) (pa_cons (pe_tup (pa_cons pe_str (pa_cons pe_str pa_nil))) (pa_cons pe_dnewK pa_nil)))))))) pa_nil))))
      (pss_one (ps_ret (pe_cmpR (op_eqD hr.units) (pe_lst (pa_cons (pe_call Cs.G (hr.mono (by decide)) (by rfl) Cs.g Cs.kp Cs.b .nil pass0 (pa_cons (pv 2) pa_nil)) (pa_cons (pe_callK0 Cl.G (hr.mono (by decide)) (by rfl) Cl.g Cl.kp kL (pk_cons (pv 2) pk_nil)) pa_nil))) (pe_lst (pa_cons pe_bl (pa_cons pe_bl pa_nil))) (nomark _)))))))))))))), ?_⟩
    -- a number
    refine seq_i (asg_i ?_)
    refine ⟨_, rfl, 1, rfl, _, rfl, p, l, cells, m, 70, rfl, hP, by omega, h63, by decide, by decide, fun dg H1 _ _ hP1 kp1 => ⟨10, 39, rfl, rfl, ⟨by decide, by decide, by decide⟩, 10, 39, rfl, rfl, ⟨by decide, by decide, by decide⟩, _, rfl, by show 7 ≤ sizeLine; decide, fun a ha => ?_⟩⟩
    have hap : a ≠ p := fun z => by
      obtain ⟨o, hpo⟩ := pen_some hP1
      rw [z, hpo] at ha
      cases ha
    refine ⟨p, l, a, cells, m + 1, _, rfl, hP1.mono (Ex.new ha) (Nat.le_refl _), by omega, h63, upd_same, hap, by show 0 < 7; decide, by show 7 ≤ 1000000; decide, fun j x H2 hx hP2 kp2 => ?_⟩
    obtain ⟨n, rfl⟩ : ∃ n : Int, x = V.int n := by
      have z := List.mem_of_getElem? hx
      simp only [List.mem_cons, List.not_mem_nil, or_false] at z
      rcases z with z | z | z | z | z | z | z <;> exact ⟨_, z⟩
    have KP2 : Keep p H H2 := (kp1.trans (Keep.of_ex (Ex.new ha))).trans kp2
    -- is_integer, is_within
    refine q_when (b := false) (et_test (ev_opLL (xs := [.bl true, .bl (decide ((0 : Int) ≤ n) && decide (n ≤ 24))]) (ys := [.bl true, .bl (decide ((0 : Int) ≤ n) && decide (n ≤ 24))])
        (el_lst (ea_cons (ev_call (ea_cons (ev_var rfl) ea_nil) (spv_isInt (a := true) (b := false) (.base (.int n)) kit_int_int kit_int_bool)) (ea_cons (ev_call (ea_cons (ev_var rfl) (ea_cons ev_c (ea_cons ev_c ea_nil))) (fun H1 e Q q E => .inl ⟨n, 0, 24, rfl, q⟩)) ea_nil)) (Nat.le_of_ble_eq_true rfl))
        (el_lst (ea_cons ev_c (ea_cons (ev_chain ev_c (ev_var rfl) ev_c) ea_nil)) (Nat.le_of_ble_eq_true rfl))
        (fun q r J hq hr2 _ => rv_neSame (ds := [.bool true, .bool (decide ((0 : Int) ≤ n) && decide (n ≤ 24))]) hq hr2 (fun _ => .cons (.bl _) (.cons (.bl _) .nil)) (by simp [SeqAt.shaped, PyData.canLay0, PyData.canLayAll0, PyData.depth, PyData.depthAll]) (by simp [PyData.canLay0, PyData.canLayAll0]))))
      (fun z => absurd z (by decide)) (fun _ H3 e3 => ?_)
    have hP3 := hP2.mono e3 (Nat.le_refl _)
    have KP3 : Keep p H H3 := KP2.trans (Keep.of_ex e3)
    have po3 := pen_some hP3
    -- odd values
    refine pick_go (R := NoInt K) (n := 9) rfl hP3 (by omega) h63 noInt_mono (ra_cons noInt_mono (er_ev ev_c fun _ => ni_non) (ra_cons noInt_mono (er_ev ev_c fun _ => ni_bl) (ra_cons noInt_mono (er_ev ev_c fun _ => ni_bl) (ra_cons noInt_mono (er_ev ev_c fun _ => ni_str) (ra_cons noInt_mono (er_ev ev_c fun _ => ni_str) (ra_cons noInt_mono (er_tupR po3 (ea_cons ev_c ea_nil) (Nat.le_of_ble_eq_true rfl) ni_tup) (ra_cons noInt_mono (er_lstR po3 (ea_cons ev_c ea_nil) (Nat.le_of_ble_eq_true rfl) ni_lst) (ra_cons noInt_mono (er_dnew po3 ni_dct rfl) (ra_cons noInt_mono (er_dict1 po3 ni_dct) ra_nil))))))))) (by decide) (by decide) fun x H4 hx4 hP4 kp4 => ?_
    obtain ⟨Tn, ai, bi, hT, ka, kb, kab⟩ := noInt_mono _ _ _ wo_sub hx4
    have evk : EvL (tLst (tCons (tCallN 0 1 (spIsInt K) (fun _ zs => zs) L2.E0 tNil (tCons (tVar 2) tNil)) (tCons (tCallN 0 3 (spWithin K) (fun _ zs => zs.reverse) L2.E0 tNil (tCons (tC (.int 9)) (tCons (tC (.int 0)) (tCons (tVar 2) tNil)))) tNil)))
        [some (.ref p), some (.int n), some x, none, none, none, none] H4 [.bl false, .bl false] :=
      el_lst (ea_cons (ev_callN0 (zs := [x]) (ea_cons (ev_var rfl) ea_nil) rfl (by have q := spv_isInt hT ka kb; rw [kab] at q; exact q)) (ea_cons (ev_callN0 (zs := [.int 9, .int 0, x]) (ea_cons ev_c (ea_cons ev_c (ea_cons (ev_var rfl) ea_nil))) rfl (fun H1 e Q q E => .inr ⟨x, _, _, Tn, ai, bi, rfl, tyx_mono e hT, ka, kb, kab, q⟩)) ea_nil)) (Nat.le_of_ble_eq_true rfl)
    have evr : EvL (tOp rRep (tLst (tCons (tC (.bl false)) tNil)) (tC (.int 2))) [some (.ref p), some (.int n), some x, none, none, none, none] H4 [.bl false, .bl false] := el_rep (n := 2) (by decide)
    show tSeq _ _ _ _ _
    refine q_when (b := false) (et_test (ev_opLL evk evr
        (fun q r J hq hr2 _ => rv_neSame (ds := [.bool false, .bool false]) hq hr2 (fun _ => .cons (.bl _) (.cons (.bl _) .nil)) (by decide +kernel) (by decide +kernel))))
      (fun z => absurd z (by decide)) (fun _ H5 e5 => ?_)
    have hP5 := hP4.mono e5 (Nat.le_refl _)
    have KP5 : Keep p H H5 := (KP3.trans kp4).trans (Keep.of_ex e5)
    -- a word
    refine pick_go (R := TextOf words) (n := 10) rfl hP5 (by omega) h63 textOf_mono (ra_cons textOf_mono (er_ev ev_c fun _ => ⟨words[0], List.getElem_mem _, rfl⟩) (ra_cons textOf_mono (er_ev ev_c fun _ => ⟨words[1], List.getElem_mem _, rfl⟩) (ra_cons textOf_mono (er_ev ev_c fun _ => ⟨words[2], List.getElem_mem _, rfl⟩) (ra_cons textOf_mono (er_ev ev_c fun _ => ⟨words[3], List.getElem_mem _, rfl⟩) (ra_cons textOf_mono (er_ev ev_c fun _ => ⟨words[4], List.getElem_mem _, rfl⟩) (ra_cons textOf_mono (er_ev ev_c fun _ => ⟨words[5], List.getElem_mem _, rfl⟩) (ra_cons textOf_mono (er_ev ev_c fun _ => ⟨words[6], List.getElem_mem _, rfl⟩) (ra_cons textOf_mono (er_ev ev_c fun _ => ⟨words[7], List.getElem_mem _, rfl⟩) (ra_cons textOf_mono (er_ev ev_c fun _ => ⟨words[8], List.getElem_mem _, rfl⟩) (ra_cons textOf_mono (er_ev ev_c fun _ => ⟨words[9], List.getElem_mem _, rfl⟩) ra_nil)))))))))) (by decide) (by decide) fun xw H6 hx6 hP6 kp6 => ?_
    obtain ⟨z, hz, rfl⟩ := hx6
    have zk := List.all_eq_true.mp words_ok z hz
    unfold wordOk at zk
    simp only [Bool.and_eq_true, decide_eq_true_eq, beq_iff_eq] at zk
    obtain ⟨⟨⟨z1, z2⟩, z3⟩, z4⟩ := zk
    show tSeq _ _ _ _ _
    refine q_asg (v := .bl (nameB z)) (ev_is (ev_andV (ev_chain ev_c (ev_cb (ea_cons (ev_var rfl) ea_nil) (rc_lenS (by omega))) ev_c) fun _ => ev_noOffs (w := abc) (ev_var rfl) z2 (fun _ => rfl) (fun _ => rfl) z3) (by rw [z4]; rfl)) fun H7 e7 => ?_
    have hP7 := hP6.mono e7 (Nat.le_refl _)
    have KP7 : Keep p H H7 := (KP5.trans kp6).trans (Keep.of_ex e7)
    -- is_name; of what is no text
    refine seq_i ?_
    refine (et_test (ev_op (ev_call (ea_cons (ev_var rfl) ea_nil) (fun H1 e Q q E => .inl ⟨z, rfl, z1, q⟩)) (ev_var rfl) (rv_ne rfl)) : EvT _ _ H7 (!decide (V.bl (nameB z) = V.bl (nameB z)))) H7 (Ex.refl H7) _ fun H8 e8 => ?_
    have hP8 := hP7.mono e8 (Nat.le_refl _)
    have KP8 : Keep p H H8 := KP7.trans (Keep.of_ex e8)
    have po8 := pen_some hP8
    rw [decide_eq_true rfl]
    refine iteF ?_
    refine test_i (op_i (calln_i (cons_i (pick_go (σ := [some (.ref p), some (.int n), some x, some (.str z), some (.bl (nameB z)), none, none]) (i := 0) (R := NoStr K) (n := 6) rfl hP8 (by omega) h63 noStr_mono (ra_cons noStr_mono (er_ev ev_c fun _ => ns_non) (ra_cons noStr_mono (er_ev ev_c fun _ => ns_int) (ra_cons noStr_mono (er_ev ev_c fun _ => ns_bl) (ra_cons noStr_mono (er_lstR po8 (ea_cons ev_c ea_nil) (Nat.le_of_ble_eq_true rfl) ns_lst) (ra_cons noStr_mono (er_tupR po8 (ea_cons ev_c ea_nil) (Nat.le_of_ble_eq_true rfl) ns_tup) (ra_cons noStr_mono (er_dnew po8 ns_dct rfl) ra_nil)))))) (by decide) (by decide) fun xo H9 hx9 hP9 kp9 => ?_))))
    obtain ⟨To, hTo, ko⟩ := noStr_mono _ _ _ wo_sub hx9
    refine ⟨rfl, rfl, .inr ⟨xo, To, rfl, hTo, ko, fun H10 e10 => ?_⟩⟩
    refine ⟨false, false, rfl, rfl, _, rfl, ?_⟩
    rw [decide_eq_true rfl]
    refine iteF ?_
    have hP10 := hP9.mono e10 (Nat.le_refl _)
    have KP10 : Keep p H H10 := (KP8.trans kp9).trans (Keep.of_ex e10)
    -- signs
    refine pick_go (R := TextOf sgns) (n := 10) rfl hP10 (by omega) h63 textOf_mono (ra_cons textOf_mono (er_ev ev_c fun _ => ⟨sgns[0], List.getElem_mem _, rfl⟩) (ra_cons textOf_mono (er_ev ev_c fun _ => ⟨sgns[1], List.getElem_mem _, rfl⟩) (ra_cons textOf_mono (er_ev ev_c fun _ => ⟨sgns[2], List.getElem_mem _, rfl⟩) (ra_cons textOf_mono (er_ev (ev_op ev_c ev_c (fun H1 e Q q => ⟨_, _, rfl, rfl, by decide, by decide, by decide +kernel, by decide +kernel, q H1 (Ex.refl H1)⟩)) fun _ => ⟨sgns[3], List.getElem_mem _, rfl⟩) (ra_cons textOf_mono (er_ev (ev_op ev_c ev_c (fun H1 e Q q => ⟨_, _, rfl, rfl, by decide, by decide, by decide +kernel, by decide +kernel, q H1 (Ex.refl H1)⟩)) fun _ => ⟨sgns[4], List.getElem_mem _, rfl⟩) (ra_cons textOf_mono (er_ev ev_c fun _ => ⟨sgns[5], List.getElem_mem _, rfl⟩) (ra_cons textOf_mono (er_ev ev_c fun _ => ⟨sgns[6], List.getElem_mem _, rfl⟩) (ra_cons textOf_mono (er_ev ev_c fun _ => ⟨sgns[7], List.getElem_mem _, rfl⟩) (ra_cons textOf_mono (er_ev ev_c fun _ => ⟨sgns[8], List.getElem_mem _, rfl⟩) (ra_cons textOf_mono (er_ev ev_c fun _ => ⟨sgns[9], List.getElem_mem _, rfl⟩) ra_nil)))))))))) (by decide) (by decide) fun xs H11 hx11 hP11 kp11 => ?_
    obtain ⟨y, hy, rfl⟩ := hx11
    have yk := List.all_eq_true.mp sgns_ok y hy
    unfold sgnOk at yk
    simp only [Bool.and_eq_true, decide_eq_true_eq, beq_iff_eq] at yk
    obtain ⟨⟨⟨⟨y1, y2⟩, y3⟩, y4⟩, y5⟩ := yk
    show tSeq _ _ _ _ _
    refine q_asg (v := .bl (noOffs y oi)) (ev_noOffs (w := oi) (ev_var rfl) y2 (fun _ => rfl) (fun _ => rfl) y3) fun H12 e12 => ?_
    refine q_when (b := false) (et_is (et_or (et_test (ev_op (ev_callN0 (z := .bl (noOffs y oi)) (ea_cons (ev_var rfl) ea_nil) rfl (by have q : SpV (spSigns K) [.str y] H12 (.bl (signsB y)) := spv_signs y1; rw [y4] at q; exact q)) (ev_var rfl) (rv_ne rfl)))
      (fun _ => et_test (ev_op (ev_call (z := .bl (noOffs y oi && decide ((y.length : Int) ≤ 200))) (ea_cons (ev_var rfl) ea_nil) (fun H1 e Q q E => .inl ⟨y, rfl, y1, by rw [y5]; exact q⟩))
        (ev_andV (ev_var rfl) fun _ => ev_op (ev_cb (ea_cons (ev_var rfl) ea_nil) (rc_lenS (by omega))) ev_c rv_I0) (rv_ne rfl)))) (by simp)) (fun z => absurd z (by decide)) (fun _ H13 e13 => ?_)
    have hP13 := (hP11.mono e12 (Nat.le_refl _)).mono e13 (Nat.le_refl _)
    have KP13 : Keep p H H13 := (KP10.trans kp11).trans (Keep.of_ex (e12.trans e13))
    have po13 := pen_some hP13
    -- of what is no text
    refine seq_i (asg_i (pick_go (R := NoStr K) (n := 7) rfl hP13 (by omega) h63 noStr_mono (ra_cons noStr_mono (er_ev ev_c fun _ => ns_non) (ra_cons noStr_mono (er_ev ev_c fun _ => ns_int) (ra_cons noStr_mono (er_ev ev_c fun _ => ns_int) (ra_cons noStr_mono (er_ev ev_c fun _ => ns_bl) (ra_cons noStr_mono (er_lstR po13 (ea_cons ev_c ea_nil) (Nat.le_of_ble_eq_true rfl) ns_lst) (ra_cons noStr_mono (er_tupR po13 (ea_cons ev_c (ea_cons ev_c ea_nil)) (Nat.le_of_ble_eq_true rfl) ns_tup) (ra_cons noStr_mono (er_dnew po13 ns_dct rfl) ra_nil))))))) (by decide) (by decide) fun xq H14 hx14 hP14 kp14 => ?_))
    obtain ⟨Tq, hTq, kq⟩ := noStr_mono _ _ _ wo_sub hx14
    dsimp only
    refine s_ret (v := .bl true) (ev_opLL (xs := [.bl false, .bl false]) (ys := [.bl false, .bl false])
        (el_lst (ea_cons (ev_call (ea_cons (ev_var rfl) ea_nil) (spv_signs0 hTq kq)) (ea_cons (ev_callN0 (ea_cons (ev_var rfl) ea_nil) rfl (fun H1 e Q q E => .inr ⟨xq, Tq, rfl, tyx_mono e hTq, kq, q⟩)) ea_nil)) (Nat.le_of_ble_eq_true rfl))
        (el_lst (ea_cons ev_c (ea_cons ev_c ea_nil)) (Nat.le_of_ble_eq_true rfl))
        (fun q r J hq hr2 _ => rv_eqSame (ds := [.bool false, .bool false]) hq hr2 (fun _ => .cons (.bl _) (.cons (.bl _) .nil)) (by decide +kernel) (by decide +kernel))) fun H15 e15 => ?_
    exact k H15 (hP14.mono e15 (by omega)) ((KP13.trans kp14).trans (Keep.of_ex e15))
end
end K00
namespace K00
open PySem L2 Evl
abbrev sLaw : Stmt := top 50
def spLaw (K : PySem.W.Frag) : Sp := fun vs H Q _ => ∃ (a : Addr) (ns : List Int), vs = [.ref a] ∧ SqL K H a (ns.map V.int) ∧ ns.length ≤ 63 ∧ ∀ H', Q (.bl true) H'
theorem pen_keep {H H' : Hp} {p l : Addr} {cells : List Int} {m : Nat} (h : PenAt H p l cells m) (k : Keep p H H') (hp : ∃ (j : Nat) (r : Int), H' p = some (.lst [.ref l, .int (j : Int), .int r]) ∧ j ≤ m) : PenAt H' p l cells m := by
  obtain ⟨j, r, h1, h2⟩ := hp
  have hne := h.ne
  obtain ⟨_, _, _, hl, _⟩ := h
  exact ⟨j, r, h1, k _ _ hl hne, h2⟩
section
variable {P : Program} {w : World} {K : PySem.W.Frag} {mg : Str → Option Value} {base : Heap}
theorem scLaw : FnScope ["_law_script", "_law_pen_here", "_law_turn"] ["_law_script"] (defScope sLaw) := ⟨rfl, rfl, rfl, by decide +kernel, rfl, by decide +kernel, by decide +kernel⟩
theorem ok_law {f fn fe fk : Addr} {fd fdn fde fdk : FuncData} (F : Fun K "law" "law" sLaw f fd) (T : GlbE mg) (Cn : Cal P w K mg base "_law_pen" 1 ["_law_script"] (spPen K) fn fdn) (Ck : Cal P w K mg base "_law_kinds_right" 4 ["_law_pen_here"] spKinds fk fdk)
    (GE : FnG P w K mg base 4 fe fde ["_law_pen_here"] spErrs) (gE : mg "_law_errors_right" = some (.ref fe)) (kE : PySem.W.keepIn K (.ref fe) = true) (bE : Binds K fde ["_law_pen_here"] []) :
    FnG P w K mg base 5 f fd ["_law_script"] (spLaw K) := by
  refine fnG_of F scLaw (fun vs H Q E h => ?_) (fun cdv A outer s H vs Q E gd hr h => ?_)
  · obtain ⟨a, ns, rfl, _⟩ := h
    rfl
  · obtain ⟨a, ns, rfl, hS, h63, k⟩ := h
    have gq : ∀ env, Qt (A.deeper env) := fun env => gd.deeper env
    refine ⟨_, pss_cons (ps_set (i := 1) scLaw.nd rfl (.inl rfl) (pe_call Cn.G (hr.mono (by decide)) (by rfl) Cn.g Cn.kp Cn.b .nil pass0 (pa_cons (pv 0) pa_nil)))
      (pss_cons (ps_for PassesOwn.never rfl (pi_range1 (by rfl) T.range (pa_cons pe_int pa_nil)) (pg_name (i := 2) scLaw.nd rfl (.inl rfl))
        (pss_one (ps_if (PW.pt (pw_or (pt_not (pt_val (pe_callG GE (gq _) (hr.mono (by decide)) (by rfl) gE kE bE (pa_cons (pv 1) pa_nil)))) (pw_or1 (pt_not (pt_val (pe_call Ck.G (hr.mono (by decide)) (by rfl) Ck.g Ck.kp Ck.b .nil pass0 (pa_cons (pv 1) pa_nil))))))) (pss_one (ps_ret pe_bl)) pss_nil)))
      (pss_one (ps_ret pe_bl))), ?_⟩
    refine ⟨_, rfl, a, ns, rfl, hS, h63, fun p l H1 _ _ e1 hP => ?_⟩
    refine ⟨6, rfl, by decide, by decide, for_range (lo := 0) (n := 6) (fun i σ' H' => (∃ x, σ' = [some (.ref a), some (.ref p), x]) ∧ PenAt H' p l ns (9 * i)) ⟨⟨_, rfl⟩, hP⟩ ?_ ?_⟩
    · rintro i σ' H2 hi ⟨⟨x, rfl⟩, hP2⟩
      refine ⟨_, rfl, p, l, ns, 9 * i, rfl, hP2, by omega, h63, fun H3 hP3 kp3 => ⟨true, rfl, ?_⟩⟩
      refine iteF ?_
      refine ⟨_, rfl, p, l, ns, 9 * i + 2, rfl, hP3, by omega, h63, fun H4 hP4 kp4 => ⟨true, rfl, ?_⟩⟩
      refine iteF ?_
      exact ⟨⟨_, rfl⟩, by
        have : 9 * (i + 1) = 9 * i + 2 + 7 := by omega
        rw [this]
        exact hP4⟩
    · rintro σ' H2 _
      exact k H2
end
end K00
namespace K00
open PySem L2 Evl
/-- a def of the text, as it stands behind the top -/
structure FF (K : PySem.W.Frag) (x : Str) (st : Stmt) (f : Addr) : Prop where
  a : PySem.W.nsIn K mainGlobals x = some (some (.ref f))
  l : ∃ (oc : Value) (od : Option Addr) (kV doc pm : Value) (an : Option Addr) (cdv ct : Value) (osl : Array (Option Value)),
    K.lookup f = some ⟨oc, od, .func (PySem.W.fnOf x x (defArgs st) (defBody st) (defScope st) .none kV doc pm an cdv ct), osl⟩ ∧ PySem.W.codeIn K cdv x = true
  k : PySem.W.keepIn K (.ref f) = true
theorem FF.fn {K : PySem.W.Frag} {x : Str} {st : Stmt} {f : Addr} (h : FF K x st f) : ∃ fd, Fun K x x st f fd := by
  obtain ⟨oc, od, kV, doc, pm, an, cdv, ct, osl, h1, h2⟩ := h.l
  exact ⟨_, fun_mk h1 h2 h.k⟩
section
variable {P : Program} {w : World} {K : PySem.W.Frag} {mg : Str → Option Value} {base : Heap}
theorem mkUse1 {x qual : Str} {st : Stmt} {C f B : Addr} {n : Str} {p1 p2 p3 p4 : Pos} (T : CF K x qual st C f B) (gC : mg x = some (.ref C)) (hno : PySem.W.findIn K (.ref C) n = some none)
    (S : FnScope ["self", n] ["self", n] (defScope st)) (hb : defBody st = [Stmt.Assign [.Attribute (.Name "self" p1) n p2] (.Name n p3) p4])
    (l1 : (defScope st).names.lookup ("self" : Str) = some .local) (l2 : (defScope st).names.lookup n = some .local) (hd : (n == ("__debug__" : Str)) = false) (hcd : (n == ("__classdict__" : Str)) = false)
    (h1 : ∀ (kV doc pm : Value) (an : Option Addr) (cdv ct : Value) (us ws : List Value), us.length = 2 → ws.length = ([] : List Str).length → bindArgs (PySem.W.fnOf "__init__" qual (defArgs st) (defBody st) (defScope st) .none kV doc pm an cdv ct) ⟨us, ([] : List Str).zip ws⟩ = pure ((["self", n] : List Str).zip us))
    (h2 : ∀ (kV doc pm : Value) (an : Option Addr) (cdv ct : Value) (us ws : List Value), us.length = 1 → ws.length = [n].length → bindArgs (PySem.W.fnOf "__init__" qual (defArgs st) (defBody st) (defScope st) .none kV doc pm an cdv ct) ⟨us, [n].zip ws⟩ = pure ((["self", n] : List Str).zip (us ++ ws))) :
    ∃ fd, ∀ base : Heap, Use1 P w K mg base x n C f B qual st fd := by
  obtain ⟨fd, F⟩ := T.fn
  exact ⟨fd, fun base => ⟨T, ok_I1 T F S hb l1 l2 hd hcd hno, gC, F.kb 2 (fun us _ => us) (fun r _ => r) h1, F.kb 1 (fun us ws => us ++ ws) (fun r s => r.append s) h2, hno⟩⟩
theorem vals_rev : ∀ {xs : List V} {us : List Value}, Vals xs us → Vals xs.reverse us.reverse
  | _, _, .nil => .nil
  | _, _, .cons r t => by
    rw [List.reverse_cons, List.reverse_cons]
    exact (vals_rev t).append (.cons r .nil)
theorem mkUse2 {x qual : Str} {st : Stmt} {C f B : Addr} {n m : Str} {p1 p2 p3 p4 q1 q2 q3 q4 : Pos} (T : CF K x qual st C f B) (gC : mg x = some (.ref C)) (hno : PySem.W.findIn K (.ref C) n = some none) (hno2 : PySem.W.findIn K (.ref C) m = some none)
    (S : FnScope ["self", n, m] ["self", n, m] (defScope st)) (hb : defBody st = [Stmt.Assign [.Attribute (.Name "self" p1) n p2] (.Name n p3) p4, Stmt.Assign [.Attribute (.Name "self" q1) m q2] (.Name m q3) q4])
    (l1 : (defScope st).names.lookup ("self" : Str) = some .local) (l2 : (defScope st).names.lookup n = some .local) (l3 : (defScope st).names.lookup m = some .local) (hd : (n == ("__debug__" : Str)) = false) (hcd : (n == ("__classdict__" : Str)) = false) (hd2 : (m == ("__debug__" : Str)) = false) (hcd2 : (m == ("__classdict__" : Str)) = false)
    (h1 : ∀ (kV doc pm : Value) (an : Option Addr) (cdv ct : Value) (us ws : List Value), us.length = 3 → ws.length = ([] : List Str).length → bindArgs (PySem.W.fnOf "__init__" qual (defArgs st) (defBody st) (defScope st) .none kV doc pm an cdv ct) ⟨us, ([] : List Str).zip ws⟩ = pure ((["self", n, m] : List Str).zip us))
    (h2 : ∀ (kV doc pm : Value) (an : Option Addr) (cdv ct : Value) (us ws : List Value), us.length = 1 → ws.length = [m, n].length → bindArgs (PySem.W.fnOf "__init__" qual (defArgs st) (defBody st) (defScope st) .none kV doc pm an cdv ct) ⟨us, [m, n].zip ws⟩ = pure ((["self", n, m] : List Str).zip (us ++ ws.reverse))) :
    ∃ fd, ∀ base : Heap, Use2 P w K mg base x n m C f B qual st fd := by
  obtain ⟨fd, F⟩ := T.fn
  exact ⟨fd, fun base => ⟨T, ok_I2 T F S hb l1 l2 l3 hd hcd hd2 hcd2 hno hno2, gC, F.kb 3 (fun us _ => us) (fun r _ => r) h1, F.kb 1 (fun us ws => us ++ ws.reverse) (fun r s => r.append (vals_rev s)) h2, hno, hno2⟩⟩
end
theorem all_mk {l : PySem.W.OpenLaw} {w : World} {K : PySem.W.Frag} {h : Heap} {mg : Str → Option Value} {fa fInt fWi fNa fSi fSw fLe fPe fDr fPi fPa fOt fCl fIe fEr fKi fLa C0 C1 C2 C3 C4 C5 C6 C7 C8 C9 C10 C11 C12 C13 C14 C15 C16 C17 C18 C19 C20 C21 C22 C23 C24 C25 C26 C27 f0 f1 f2 f3 f4 f5 f6 f7 f8 f9 f10 f11 f12 f13 f14 f15 f16 f17 f18 f19 f20 f21 f22 f23 f24 f25 f26 B : Addr} (X : K.In h) (G : h.Ns mainGlobals mg) (hfa : mg "law" = some (.ref fa))
    (hInt : FF K "is_integer" (top 4) fInt)
    (hWi : FF K "is_within" (top 5) fWi)
    (hNa : FF K "is_name" (top 6) fNa)
    (hSi : FF K "is_signs" (top 7) fSi)
    (hSw : FF K "is_signs_within" (top 8) fSw)
    (hLe : FF K "is_letter" (top 9) fLe)
    (hPe : FF K "_law_pen" (top 41) fPe)
    (hDr : FF K "_law_draw" (top 42) fDr)
    (hPi : FF K "_law_pick" (top 43) fPi)
    (hPa : FF K "_law_parts" (top 44) fPa)
    (hOt : FF K "_law_others" (top 45) fOt)
    (hCl : FF K "_law_classes" (top 46) fCl)
    (hIe : FF K "_law_is_error" (top 47) fIe)
    (hEr : FF K "_law_errors_right" (top 48) fEr)
    (hKi : FF K "_law_kinds_right" (top 49) fKi)
    (hLa : FF K "law" (top 50) fLa)
    (c0 : CF K "BadGrowth" "BadGrowth.__init__" (sCls 12) C0 f0 B)
    (no0a : PySem.W.findIn K (.ref C0) "part" = some none)
    (c1 : CF K "BadFrame" "BadFrame.__init__" (sCls 14) C1 f1 B)
    (no1a : PySem.W.findIn K (.ref C1) "part" = some none)
    (c2 : CF K "BadCell" "BadCell.__init__" (sCls 15) C2 f2 B)
    (no2a : PySem.W.findIn K (.ref C2) "part" = some none)
    (c3 : CF K "BadPlan" "BadPlan.__init__" (sCls 16) C3 f3 B)
    (no3a : PySem.W.findIn K (.ref C3) "part" = some none)
    (c4 : CF K "BadRule" "BadRule.__init__" (sCls 17) C4 f4 B)
    (no4a : PySem.W.findIn K (.ref C4) "part" = some none)
    (c5 : CF K "BadRound" "BadRound.__init__" (sCls 19) C5 f5 B)
    (no5a : PySem.W.findIn K (.ref C5) "part" = some none)
    (c6 : CF K "BadNet" "BadNet.__init__" (sCls 20) C6 f6 B)
    (no6a : PySem.W.findIn K (.ref C6) "part" = some none)
    (c7 : CF K "BadTable" "BadTable.__init__" (sCls 21) C7 f7 B)
    (no7a : PySem.W.findIn K (.ref C7) "part" = some none)
    (c8 : CF K "BadPair" "BadPair.__init__" (sCls 22) C8 f8 B)
    (no8a : PySem.W.findIn K (.ref C8) "part" = some none)
    (c9 : CF K "BadStack" "BadStack.__init__" (sCls 23) C9 f9 B)
    (no9a : PySem.W.findIn K (.ref C9) "part" = some none)
    (c10 : CF K "BadRun" "BadRun.__init__" (sCls 24) C10 f10 B)
    (no10a : PySem.W.findIn K (.ref C10) "part" = some none)
    (c11 : CF K "BadPlay" "BadPlay.__init__" (sCls 25) C11 f11 B)
    (no11a : PySem.W.findIn K (.ref C11) "part" = some none)
    (c12 : CF K "Clashing" "Clashing.__init__" (sCls 37) C12 f12 B)
    (no12a : PySem.W.findIn K (.ref C12) "part" = some none)
    (c13 : CF K "BadLetter" "BadLetter.__init__" (sCls 13) C13 f13 B)
    (no13a : PySem.W.findIn K (.ref C13) "value" = some none)
    (c14 : CF K "BadLosses" "BadLosses.__init__" (sCls 18) C14 f14 B)
    (no14a : PySem.W.findIn K (.ref C14) "value" = some none)
    (c15 : CF K "BadNumber" "BadNumber.__init__" (sCls 26) C15 f15 B)
    (no15a : PySem.W.findIn K (.ref C15) "value" = some none)
    (c16 : CF K "BadName" "BadName.__init__" (sCls 29) C16 f16 B)
    (no16a : PySem.W.findIn K (.ref C16) "value" = some none)
    (c17 : CF K "BadCommand" "BadCommand.__init__" (sCls 28) C17 f17 B)
    (no17a : PySem.W.findIn K (.ref C17) "word" = some none)
    (c18 : CF K "NoName" "NoName.__init__" (sCls 30) C18 f18 B)
    (no18a : PySem.W.findIn K (.ref C18) "name" = some none)
    (c19 : CF K "NoFlow" "NoFlow.__init__" (sCls 31) C19 f19 B)
    (no19a : PySem.W.findIn K (.ref C19) "name" = some none)
    (c20 : CF K "NoHouse" "NoHouse.__init__" (sCls 32) C20 f20 B)
    (no20a : PySem.W.findIn K (.ref C20) "name" = some none)
    (c21 : CF K "NoLink" "NoLink.__init__" (sCls 33) C21 f21 B)
    (no21a : PySem.W.findIn K (.ref C21) "name" = some none)
    (c22 : CF K "NoLane" "NoLane.__init__" (sCls 34) C22 f22 B)
    (no22a : PySem.W.findIn K (.ref C22) "key" = some none)
    (c23 : CF K "NoLine" "NoLine.__init__" (sCls 35) C23 f23 B)
    (no23a : PySem.W.findIn K (.ref C23) "key" = some none)
    (c24 : CF K "NoPhase" "NoPhase.__init__" (sCls 36) C24 f24 B)
    (no24a : PySem.W.findIn K (.ref C24) "at" = some none)
    (c25 : CF K "BadText" "BadText.__init__" (sCls 27) C25 f25 B)
    (no25a : PySem.W.findIn K (.ref C25) "line" = some none)
    (no25b : PySem.W.findIn K (.ref C25) "word" = some none)
    (c26 : CF K "TooMany" "TooMany.__init__" (sCls 39) C26 f26 B)
    (no26a : PySem.W.findIn K (.ref C26) "what" = some none)
    (no26b : PySem.W.findIn K (.ref C26) "most" = some none)
    (c27 : CB K "Nothing" C27 B)
    (cg : CG K) (gB : PySem.W.nsIn K mainGlobals "PostError" = some (some (.ref B))) (clB : ∃ cd, PySem.W.clsIn K B = some cd) (tyB : PySem.W.typeIn K (.ref B) = some (.type "type")) (qN : PySem.W.excIn K C27 bmVE "ValueError.__new__" = true)
    (z_isinstance : PySem.W.nsIn K mainGlobals "isinstance" = some none)
    (z_int : PySem.W.nsIn K mainGlobals "int" = some none)
    (z_bool : PySem.W.nsIn K mainGlobals "bool" = some none)
    (z_str : PySem.W.nsIn K mainGlobals "str" = some none)
    (z_len : PySem.W.nsIn K mainGlobals "len" = some none)
    (z_abs : PySem.W.nsIn K mainGlobals "abs" = some none)
    (z_list : PySem.W.nsIn K mainGlobals "list" = some none)
    (z_range : PySem.W.nsIn K mainGlobals "range" = some none)
    (z_repr : PySem.W.nsIn K mainGlobals "repr" = some none)
    (z_ValueError : PySem.W.nsIn K mainGlobals "ValueError" = some none)
    (k8 : ∃ t, PySem.W.nsIn K mainGlobals "MOST_NAME_LETTERS" = some (some (.int 8 t))) (kA : ∃ t, PySem.W.nsIn K mainGlobals "NAME_LETTERS" = some (some (.str abc t))) (k200 : ∃ t, PySem.W.nsIn K mainGlobals "MOST_LETTER_SIGNS" = some (some (.int 200 t)))
    (nd : ([C0, C1, C2, C3, C4, C5, C6, C7, C8, C9, C10, C11, C12, C13, C14, C15, C16, C17, C18, C19, C20, C21, C22, C23, C24, C25, C26, C27] : List Addr).Nodup) (nB : B ∉ ([C0, C1, C2, C3, C4, C5, C6, C7, C8, C9, C10, C11, C12, C13, C14, C15, C16, C17, C18, C19, C20, C21, C22, C23, C24, C25, C26, C27] : List Addr)) :
    ∃ fd : FuncData, (∀ (s : Shared) (v : Value), BindsTo s fd ⟨[v], []⟩ [("_law_script", v)]) ∧ ∀ base : Heap, K.In base → base.Ns mainGlobals mg → FnG l.prog w K mg base 5 fa fd ["_law_script"] (spLaw K) := by
  have eLa := hfa.symm.trans (PySem.W.mg_of X G hLa.a)
  cases eLa
  have gInt := PySem.W.mg_of X G hInt.a
  obtain ⟨dInt, FInt⟩ := hInt.fn
  have gWi := PySem.W.mg_of X G hWi.a
  obtain ⟨dWi, FWi⟩ := hWi.fn
  have gNa := PySem.W.mg_of X G hNa.a
  obtain ⟨dNa, FNa⟩ := hNa.fn
  have gSi := PySem.W.mg_of X G hSi.a
  obtain ⟨dSi, FSi⟩ := hSi.fn
  have gSw := PySem.W.mg_of X G hSw.a
  obtain ⟨dSw, FSw⟩ := hSw.fn
  have gLe := PySem.W.mg_of X G hLe.a
  obtain ⟨dLe, FLe⟩ := hLe.fn
  have gPe := PySem.W.mg_of X G hPe.a
  obtain ⟨dPe, FPe⟩ := hPe.fn
  have gDr := PySem.W.mg_of X G hDr.a
  obtain ⟨dDr, FDr⟩ := hDr.fn
  have gPi := PySem.W.mg_of X G hPi.a
  obtain ⟨dPi, FPi⟩ := hPi.fn
  have gPa := PySem.W.mg_of X G hPa.a
  obtain ⟨dPa, FPa⟩ := hPa.fn
  have gOt := PySem.W.mg_of X G hOt.a
  obtain ⟨dOt, FOt⟩ := hOt.fn
  have gCl := PySem.W.mg_of X G hCl.a
  obtain ⟨dCl, FCl⟩ := hCl.fn
  have gIe := PySem.W.mg_of X G hIe.a
  obtain ⟨dIe, FIe⟩ := hIe.fn
  have gEr := PySem.W.mg_of X G hEr.a
  obtain ⟨dEr, FEr⟩ := hEr.fn
  have gKi := PySem.W.mg_of X G hKi.a
  obtain ⟨dKi, FKi⟩ := hKi.fn
  obtain ⟨oc, od, kV, doc, pm, an, cdv, ct, osl, lkL, cdL⟩ := hLa.l
  have FLa := fun_mk (st := top 50) lkL cdL hLa.k
  have bInt : Binds K dInt ["value"] [] := FInt.binds fun _ _ _ _ _ _ us hl => match us, hl with | [_], _ => rfl
  have bWi : Binds K dWi ["value", "least", "most"] [] := FWi.binds fun _ _ _ _ _ _ us hl => match us, hl with | [_, _, _], _ => rfl
  have bNa : Binds K dNa ["value"] [] := FNa.binds fun _ _ _ _ _ _ us hl => match us, hl with | [_], _ => rfl
  have bSi : Binds K dSi ["value"] [] := FSi.binds fun _ _ _ _ _ _ us hl => match us, hl with | [_], _ => rfl
  have bSw : Binds K dSw ["value", "least", "most"] [] := FSw.binds fun _ _ _ _ _ _ us hl => match us, hl with | [_, _, _], _ => rfl
  have bLe : Binds K dLe ["value"] [] := FLe.binds fun _ _ _ _ _ _ us hl => match us, hl with | [_], _ => rfl
  have bPe : Binds K dPe ["_law_script"] [] := FPe.binds fun _ _ _ _ _ _ us hl => match us, hl with | [_], _ => rfl
  have bDr : Binds K dDr ["_law_pen_here", "_law_many"] [] := FDr.binds fun _ _ _ _ _ _ us hl => match us, hl with | [_, _], _ => rfl
  have bPi : Binds K dPi ["_law_pen_here", "_law_some"] [] := FPi.binds fun _ _ _ _ _ _ us hl => match us, hl with | [_, _], _ => rfl
  have bPa : Binds K dPa ["_law_value"] [] := FPa.binds fun _ _ _ _ _ _ us hl => match us, hl with | [_], _ => rfl
  have bOt : Binds K dOt ["_law_value", "_law_more"] [] := FOt.binds fun _ _ _ _ _ _ us hl => match us, hl with | [_, _], _ => rfl
  have bCl : Binds K dCl ["_law_error"] [] := FCl.binds fun _ _ _ _ _ _ us hl => match us, hl with | [_], _ => rfl
  have bIe : Binds K dIe ["_law_error"] [] := FIe.binds fun _ _ _ _ _ _ us hl => match us, hl with | [_], _ => rfl
  have bEr : Binds K dEr ["_law_pen_here"] [] := FEr.binds fun _ _ _ _ _ _ us hl => match us, hl with | [_], _ => rfl
  have bKi : Binds K dKi ["_law_pen_here"] [] := FKi.binds fun _ _ _ _ _ _ us hl => match us, hl with | [_], _ => rfl
  have kwInt : KBn K dInt ["value"] 0 ["value"] (fun _ ws => ws) (fun _ zs => zs) := FInt.kb 0 (fun _ ws => ws) (fun _ s => s) fun _ _ _ _ _ _ us ws l1 l2 => match us, l1, ws, l2 with | [], _, [_], _ => rfl
  have kwNa : KBn K dNa ["value"] 0 ["value"] (fun _ ws => ws) (fun _ zs => zs) := FNa.kb 0 (fun _ ws => ws) (fun _ s => s) fun _ _ _ _ _ _ us ws l1 l2 => match us, l1, ws, l2 with | [], _, [_], _ => rfl
  have kwSi : KBn K dSi ["value"] 0 ["value"] (fun _ ws => ws) (fun _ zs => zs) := FSi.kb 0 (fun _ ws => ws) (fun _ s => s) fun _ _ _ _ _ _ us ws l1 l2 => match us, l1, ws, l2 with | [], _, [_], _ => rfl
  have kwLe : KBn K dLe ["value"] 0 ["value"] (fun _ ws => ws) (fun _ zs => zs) := FLe.kb 0 (fun _ ws => ws) (fun _ s => s) fun _ _ _ _ _ _ us ws l1 l2 => match us, l1, ws, l2 with | [], _, [_], _ => rfl
  have kwWi : KBn K dWi ["value", "least", "most"] 0 ["most", "least", "value"] (fun _ ws => ws.reverse) (fun _ zs => zs.reverse) := FWi.kb 0 (fun _ ws => ws.reverse) (fun _ s => vals_rev s) fun _ _ _ _ _ _ us ws l1 l2 => match us, l1, ws, l2 with | [], _, [_, _, _], _ => rfl
  have g0 := PySem.W.mg_of X G c0.b.aC
  obtain ⟨fd0, U0⟩ := mkUse1 (P := l.prog) (w := w) c0 g0 no0a ⟨rfl, rfl, rfl, by decide +kernel, rfl, by decide +kernel, by decide +kernel⟩ rfl rfl rfl (by decide +kernel) (by decide +kernel) (fun _ _ _ _ _ _ us ws l1 l2 => match us, l1, ws, l2 with | [_, _], _, [], _ => rfl) (fun _ _ _ _ _ _ us ws l1 l2 => match us, l1, ws, l2 with | [_], _, [_], _ => rfl)
  have g1 := PySem.W.mg_of X G c1.b.aC
  obtain ⟨fd1, U1⟩ := mkUse1 (P := l.prog) (w := w) c1 g1 no1a ⟨rfl, rfl, rfl, by decide +kernel, rfl, by decide +kernel, by decide +kernel⟩ rfl rfl rfl (by decide +kernel) (by decide +kernel) (fun _ _ _ _ _ _ us ws l1 l2 => match us, l1, ws, l2 with | [_, _], _, [], _ => rfl) (fun _ _ _ _ _ _ us ws l1 l2 => match us, l1, ws, l2 with | [_], _, [_], _ => rfl)
  have g2 := PySem.W.mg_of X G c2.b.aC
  obtain ⟨fd2, U2⟩ := mkUse1 (P := l.prog) (w := w) c2 g2 no2a ⟨rfl, rfl, rfl, by decide +kernel, rfl, by decide +kernel, by decide +kernel⟩ rfl rfl rfl (by decide +kernel) (by decide +kernel) (fun _ _ _ _ _ _ us ws l1 l2 => match us, l1, ws, l2 with | [_, _], _, [], _ => rfl) (fun _ _ _ _ _ _ us ws l1 l2 => match us, l1, ws, l2 with | [_], _, [_], _ => rfl)
  have g3 := PySem.W.mg_of X G c3.b.aC
  obtain ⟨fd3, U3⟩ := mkUse1 (P := l.prog) (w := w) c3 g3 no3a ⟨rfl, rfl, rfl, by decide +kernel, rfl, by decide +kernel, by decide +kernel⟩ rfl rfl rfl (by decide +kernel) (by decide +kernel) (fun _ _ _ _ _ _ us ws l1 l2 => match us, l1, ws, l2 with | [_, _], _, [], _ => rfl) (fun _ _ _ _ _ _ us ws l1 l2 => match us, l1, ws, l2 with | [_], _, [_], _ => rfl)
  have g4 := PySem.W.mg_of X G c4.b.aC
  obtain ⟨fd4, U4⟩ := mkUse1 (P := l.prog) (w := w) c4 g4 no4a ⟨rfl, rfl, rfl, by decide +kernel, rfl, by decide +kernel, by decide +kernel⟩ rfl rfl rfl (by decide +kernel) (by decide +kernel) (fun _ _ _ _ _ _ us ws l1 l2 => match us, l1, ws, l2 with | [_, _], _, [], _ => rfl) (fun _ _ _ _ _ _ us ws l1 l2 => match us, l1, ws, l2 with | [_], _, [_], _ => rfl)
  have g5 := PySem.W.mg_of X G c5.b.aC
  obtain ⟨fd5, U5⟩ := mkUse1 (P := l.prog) (w := w) c5 g5 no5a ⟨rfl, rfl, rfl, by decide +kernel, rfl, by decide +kernel, by decide +kernel⟩ rfl rfl rfl (by decide +kernel) (by decide +kernel) (fun _ _ _ _ _ _ us ws l1 l2 => match us, l1, ws, l2 with | [_, _], _, [], _ => rfl) (fun _ _ _ _ _ _ us ws l1 l2 => match us, l1, ws, l2 with | [_], _, [_], _ => rfl)
  have g6 := PySem.W.mg_of X G c6.b.aC
  obtain ⟨fd6, U6⟩ := mkUse1 (P := l.prog) (w := w) c6 g6 no6a ⟨rfl, rfl, rfl, by decide +kernel, rfl, by decide +kernel, by decide +kernel⟩ rfl rfl rfl (by decide +kernel) (by decide +kernel) (fun _ _ _ _ _ _ us ws l1 l2 => match us, l1, ws, l2 with | [_, _], _, [], _ => rfl) (fun _ _ _ _ _ _ us ws l1 l2 => match us, l1, ws, l2 with | [_], _, [_], _ => rfl)
  have g7 := PySem.W.mg_of X G c7.b.aC
  obtain ⟨fd7, U7⟩ := mkUse1 (P := l.prog) (w := w) c7 g7 no7a ⟨rfl, rfl, rfl, by decide +kernel, rfl, by decide +kernel, by decide +kernel⟩ rfl rfl rfl (by decide +kernel) (by decide +kernel) (fun _ _ _ _ _ _ us ws l1 l2 => match us, l1, ws, l2 with | [_, _], _, [], _ => rfl) (fun _ _ _ _ _ _ us ws l1 l2 => match us, l1, ws, l2 with | [_], _, [_], _ => rfl)
  have g8 := PySem.W.mg_of X G c8.b.aC
  obtain ⟨fd8, U8⟩ := mkUse1 (P := l.prog) (w := w) c8 g8 no8a ⟨rfl, rfl, rfl, by decide +kernel, rfl, by decide +kernel, by decide +kernel⟩ rfl rfl rfl (by decide +kernel) (by decide +kernel) (fun _ _ _ _ _ _ us ws l1 l2 => match us, l1, ws, l2 with | [_, _], _, [], _ => rfl) (fun _ _ _ _ _ _ us ws l1 l2 => match us, l1, ws, l2 with | [_], _, [_], _ => rfl)
  have g9 := PySem.W.mg_of X G c9.b.aC
  obtain ⟨fd9, U9⟩ := mkUse1 (P := l.prog) (w := w) c9 g9 no9a ⟨rfl, rfl, rfl, by decide +kernel, rfl, by decide +kernel, by decide +kernel⟩ rfl rfl rfl (by decide +kernel) (by decide +kernel) (fun _ _ _ _ _ _ us ws l1 l2 => match us, l1, ws, l2 with | [_, _], _, [], _ => rfl) (fun _ _ _ _ _ _ us ws l1 l2 => match us, l1, ws, l2 with | [_], _, [_], _ => rfl)
  have g10 := PySem.W.mg_of X G c10.b.aC
  obtain ⟨fd10, U10⟩ := mkUse1 (P := l.prog) (w := w) c10 g10 no10a ⟨rfl, rfl, rfl, by decide +kernel, rfl, by decide +kernel, by decide +kernel⟩ rfl rfl rfl (by decide +kernel) (by decide +kernel) (fun _ _ _ _ _ _ us ws l1 l2 => match us, l1, ws, l2 with | [_, _], _, [], _ => rfl) (fun _ _ _ _ _ _ us ws l1 l2 => match us, l1, ws, l2 with | [_], _, [_], _ => rfl)
  have g11 := PySem.W.mg_of X G c11.b.aC
  obtain ⟨fd11, U11⟩ := mkUse1 (P := l.prog) (w := w) c11 g11 no11a ⟨rfl, rfl, rfl, by decide +kernel, rfl, by decide +kernel, by decide +kernel⟩ rfl rfl rfl (by decide +kernel) (by decide +kernel) (fun _ _ _ _ _ _ us ws l1 l2 => match us, l1, ws, l2 with | [_, _], _, [], _ => rfl) (fun _ _ _ _ _ _ us ws l1 l2 => match us, l1, ws, l2 with | [_], _, [_], _ => rfl)
  have g12 := PySem.W.mg_of X G c12.b.aC
  obtain ⟨fd12, U12⟩ := mkUse1 (P := l.prog) (w := w) c12 g12 no12a ⟨rfl, rfl, rfl, by decide +kernel, rfl, by decide +kernel, by decide +kernel⟩ rfl rfl rfl (by decide +kernel) (by decide +kernel) (fun _ _ _ _ _ _ us ws l1 l2 => match us, l1, ws, l2 with | [_, _], _, [], _ => rfl) (fun _ _ _ _ _ _ us ws l1 l2 => match us, l1, ws, l2 with | [_], _, [_], _ => rfl)
  have g13 := PySem.W.mg_of X G c13.b.aC
  obtain ⟨fd13, U13⟩ := mkUse1 (P := l.prog) (w := w) c13 g13 no13a ⟨rfl, rfl, rfl, by decide +kernel, rfl, by decide +kernel, by decide +kernel⟩ rfl rfl rfl (by decide +kernel) (by decide +kernel) (fun _ _ _ _ _ _ us ws l1 l2 => match us, l1, ws, l2 with | [_, _], _, [], _ => rfl) (fun _ _ _ _ _ _ us ws l1 l2 => match us, l1, ws, l2 with | [_], _, [_], _ => rfl)
  have g14 := PySem.W.mg_of X G c14.b.aC
  obtain ⟨fd14, U14⟩ := mkUse1 (P := l.prog) (w := w) c14 g14 no14a ⟨rfl, rfl, rfl, by decide +kernel, rfl, by decide +kernel, by decide +kernel⟩ rfl rfl rfl (by decide +kernel) (by decide +kernel) (fun _ _ _ _ _ _ us ws l1 l2 => match us, l1, ws, l2 with | [_, _], _, [], _ => rfl) (fun _ _ _ _ _ _ us ws l1 l2 => match us, l1, ws, l2 with | [_], _, [_], _ => rfl)
  have g15 := PySem.W.mg_of X G c15.b.aC
  obtain ⟨fd15, U15⟩ := mkUse1 (P := l.prog) (w := w) c15 g15 no15a ⟨rfl, rfl, rfl, by decide +kernel, rfl, by decide +kernel, by decide +kernel⟩ rfl rfl rfl (by decide +kernel) (by decide +kernel) (fun _ _ _ _ _ _ us ws l1 l2 => match us, l1, ws, l2 with | [_, _], _, [], _ => rfl) (fun _ _ _ _ _ _ us ws l1 l2 => match us, l1, ws, l2 with | [_], _, [_], _ => rfl)
  have g16 := PySem.W.mg_of X G c16.b.aC
  obtain ⟨fd16, U16⟩ := mkUse1 (P := l.prog) (w := w) c16 g16 no16a ⟨rfl, rfl, rfl, by decide +kernel, rfl, by decide +kernel, by decide +kernel⟩ rfl rfl rfl (by decide +kernel) (by decide +kernel) (fun _ _ _ _ _ _ us ws l1 l2 => match us, l1, ws, l2 with | [_, _], _, [], _ => rfl) (fun _ _ _ _ _ _ us ws l1 l2 => match us, l1, ws, l2 with | [_], _, [_], _ => rfl)
  have g17 := PySem.W.mg_of X G c17.b.aC
  obtain ⟨fd17, U17⟩ := mkUse1 (P := l.prog) (w := w) c17 g17 no17a ⟨rfl, rfl, rfl, by decide +kernel, rfl, by decide +kernel, by decide +kernel⟩ rfl rfl rfl (by decide +kernel) (by decide +kernel) (fun _ _ _ _ _ _ us ws l1 l2 => match us, l1, ws, l2 with | [_, _], _, [], _ => rfl) (fun _ _ _ _ _ _ us ws l1 l2 => match us, l1, ws, l2 with | [_], _, [_], _ => rfl)
  have g18 := PySem.W.mg_of X G c18.b.aC
  obtain ⟨fd18, U18⟩ := mkUse1 (P := l.prog) (w := w) c18 g18 no18a ⟨rfl, rfl, rfl, by decide +kernel, rfl, by decide +kernel, by decide +kernel⟩ rfl rfl rfl (by decide +kernel) (by decide +kernel) (fun _ _ _ _ _ _ us ws l1 l2 => match us, l1, ws, l2 with | [_, _], _, [], _ => rfl) (fun _ _ _ _ _ _ us ws l1 l2 => match us, l1, ws, l2 with | [_], _, [_], _ => rfl)
  have g19 := PySem.W.mg_of X G c19.b.aC
  obtain ⟨fd19, U19⟩ := mkUse1 (P := l.prog) (w := w) c19 g19 no19a ⟨rfl, rfl, rfl, by decide +kernel, rfl, by decide +kernel, by decide +kernel⟩ rfl rfl rfl (by decide +kernel) (by decide +kernel) (fun _ _ _ _ _ _ us ws l1 l2 => match us, l1, ws, l2 with | [_, _], _, [], _ => rfl) (fun _ _ _ _ _ _ us ws l1 l2 => match us, l1, ws, l2 with | [_], _, [_], _ => rfl)
  have g20 := PySem.W.mg_of X G c20.b.aC
  obtain ⟨fd20, U20⟩ := mkUse1 (P := l.prog) (w := w) c20 g20 no20a ⟨rfl, rfl, rfl, by decide +kernel, rfl, by decide +kernel, by decide +kernel⟩ rfl rfl rfl (by decide +kernel) (by decide +kernel) (fun _ _ _ _ _ _ us ws l1 l2 => match us, l1, ws, l2 with | [_, _], _, [], _ => rfl) (fun _ _ _ _ _ _ us ws l1 l2 => match us, l1, ws, l2 with | [_], _, [_], _ => rfl)
  have g21 := PySem.W.mg_of X G c21.b.aC
  obtain ⟨fd21, U21⟩ := mkUse1 (P := l.prog) (w := w) c21 g21 no21a ⟨rfl, rfl, rfl, by decide +kernel, rfl, by decide +kernel, by decide +kernel⟩ rfl rfl rfl (by decide +kernel) (by decide +kernel) (fun _ _ _ _ _ _ us ws l1 l2 => match us, l1, ws, l2 with | [_, _], _, [], _ => rfl) (fun _ _ _ _ _ _ us ws l1 l2 => match us, l1, ws, l2 with | [_], _, [_], _ => rfl)
  have g22 := PySem.W.mg_of X G c22.b.aC
  obtain ⟨fd22, U22⟩ := mkUse1 (P := l.prog) (w := w) c22 g22 no22a ⟨rfl, rfl, rfl, by decide +kernel, rfl, by decide +kernel, by decide +kernel⟩ rfl rfl rfl (by decide +kernel) (by decide +kernel) (fun _ _ _ _ _ _ us ws l1 l2 => match us, l1, ws, l2 with | [_, _], _, [], _ => rfl) (fun _ _ _ _ _ _ us ws l1 l2 => match us, l1, ws, l2 with | [_], _, [_], _ => rfl)
  have g23 := PySem.W.mg_of X G c23.b.aC
  obtain ⟨fd23, U23⟩ := mkUse1 (P := l.prog) (w := w) c23 g23 no23a ⟨rfl, rfl, rfl, by decide +kernel, rfl, by decide +kernel, by decide +kernel⟩ rfl rfl rfl (by decide +kernel) (by decide +kernel) (fun _ _ _ _ _ _ us ws l1 l2 => match us, l1, ws, l2 with | [_, _], _, [], _ => rfl) (fun _ _ _ _ _ _ us ws l1 l2 => match us, l1, ws, l2 with | [_], _, [_], _ => rfl)
  have g24 := PySem.W.mg_of X G c24.b.aC
  obtain ⟨fd24, U24⟩ := mkUse1 (P := l.prog) (w := w) c24 g24 no24a ⟨rfl, rfl, rfl, by decide +kernel, rfl, by decide +kernel, by decide +kernel⟩ rfl rfl rfl (by decide +kernel) (by decide +kernel) (fun _ _ _ _ _ _ us ws l1 l2 => match us, l1, ws, l2 with | [_, _], _, [], _ => rfl) (fun _ _ _ _ _ _ us ws l1 l2 => match us, l1, ws, l2 with | [_], _, [_], _ => rfl)
  have g25 := PySem.W.mg_of X G c25.b.aC
  obtain ⟨fd25, U25⟩ := mkUse2 (P := l.prog) (w := w) c25 g25 no25a no25b ⟨rfl, rfl, rfl, by decide +kernel, rfl, by decide +kernel, by decide +kernel⟩ rfl rfl rfl rfl (by decide +kernel) (by decide +kernel) (by decide +kernel) (by decide +kernel) (fun _ _ _ _ _ _ us ws l1 l2 => match us, l1, ws, l2 with | [_, _, _], _, [], _ => rfl) (fun _ _ _ _ _ _ us ws l1 l2 => match us, l1, ws, l2 with | [_], _, [_, _], _ => rfl)
  have g26 := PySem.W.mg_of X G c26.b.aC
  obtain ⟨fd26, U26⟩ := mkUse2 (P := l.prog) (w := w) c26 g26 no26a no26b ⟨rfl, rfl, rfl, by decide +kernel, rfl, by decide +kernel, by decide +kernel⟩ rfl rfl rfl rfl (by decide +kernel) (by decide +kernel) (by decide +kernel) (by decide +kernel) (fun _ _ _ _ _ _ us ws l1 l2 => match us, l1, ws, l2 with | [_, _, _], _, [], _ => rfl) (fun _ _ _ _ _ _ us ws l1 l2 => match us, l1, ws, l2 with | [_], _, [_, _], _ => rfl)
  have g27 := PySem.W.mg_of X G c27.aC
  have m_isinstance := PySem.W.mg_none_of X G z_isinstance
  have m_int := PySem.W.mg_none_of X G z_int
  have m_bool := PySem.W.mg_none_of X G z_bool
  have m_str := PySem.W.mg_none_of X G z_str
  have m_len := PySem.W.mg_none_of X G z_len
  have m_abs := PySem.W.mg_none_of X G z_abs
  have m_list := PySem.W.mg_none_of X G z_list
  have m_range := PySem.W.mg_none_of X G z_range
  have m_repr := PySem.W.mg_none_of X G z_repr
  have m_ValueError := PySem.W.mg_none_of X G z_ValueError
  have TT : GlbT mg := ⟨m_isinstance, m_int, m_bool, m_str, m_len⟩
  have TE : GlbE mg := ⟨m_isinstance, m_len, m_range, m_repr, m_ValueError⟩
  have TG : Glb mg := ⟨m_int, m_abs, m_len, m_list⟩
  have TC : GlbC mg := ⟨k8.imp fun _ q => PySem.W.mg_of X G q, kA.imp fun _ q => PySem.W.mg_of X G q, k200.imp fun _ q => PySem.W.mg_of X G q⟩
  have gBm := PySem.W.mg_of X G gB
  have cb : ∀ (i : Nat) C, ([C0, C1, C2, C3, C4, C5, C6, C7, C8, C9, C10, C11, C12, C13, C14, C15, C16, C17, C18, C19, C20, C21, C22, C23, C24, C25, C26, C27] : List Addr)[i]? = some C → (∃ x, CB K x C B) := fun i C hi => by
    have z := List.mem_of_getElem? hi
    simp only [List.mem_cons, List.not_mem_nil, or_false] at z
    rcases z with rfl | rfl | rfl | rfl | rfl | rfl | rfl | rfl | rfl | rfl | rfl | rfl | rfl | rfl | rfl | rfl | rfl | rfl | rfl | rfl | rfl | rfl | rfl | rfl | rfl | rfl | rfl | rfl
    · exact ⟨_, c0.b⟩
    · exact ⟨_, c1.b⟩
    · exact ⟨_, c2.b⟩
    · exact ⟨_, c3.b⟩
    · exact ⟨_, c4.b⟩
    · exact ⟨_, c5.b⟩
    · exact ⟨_, c6.b⟩
    · exact ⟨_, c7.b⟩
    · exact ⟨_, c8.b⟩
    · exact ⟨_, c9.b⟩
    · exact ⟨_, c10.b⟩
    · exact ⟨_, c11.b⟩
    · exact ⟨_, c12.b⟩
    · exact ⟨_, c13.b⟩
    · exact ⟨_, c14.b⟩
    · exact ⟨_, c15.b⟩
    · exact ⟨_, c16.b⟩
    · exact ⟨_, c17.b⟩
    · exact ⟨_, c18.b⟩
    · exact ⟨_, c19.b⟩
    · exact ⟨_, c20.b⟩
    · exact ⟨_, c21.b⟩
    · exact ⟨_, c22.b⟩
    · exact ⟨_, c23.b⟩
    · exact ⟨_, c24.b⟩
    · exact ⟨_, c25.b⟩
    · exact ⟨_, c26.b⟩
    · exact ⟨_, c27⟩
  have nBB : ∀ (i : Nat) C, ([C0, C1, C2, C3, C4, C5, C6, C7, C8, C9, C10, C11, C12, C13, C14, C15, C16, C17, C18, C19, C20, C21, C22, C23, C24, C25, C26, C27] : List Addr)[i]? = some C → C ≠ B := fun i C hi z => nB (z ▸ List.mem_of_getElem? hi)
  have hKK : ∀ (i j : Nat) C D, ([C0, C1, C2, C3, C4, C5, C6, C7, C8, C9, C10, C11, C12, C13, C14, C15, C16, C17, C18, C19, C20, C21, C22, C23, C24, C25, C26, C27] : List Addr)[i]? = some C → ([C0, C1, C2, C3, C4, C5, C6, C7, C8, C9, C10, C11, C12, C13, C14, C15, C16, C17, C18, C19, C20, C21, C22, C23, C24, C25, C26, C27] : List Addr)[j]? = some D → PySem.W.kitOne K (.ref C) (.ref D) = some (decide (D = C)) := fun i j C D hi hj => by
    obtain ⟨_, a⟩ := cb i C hi
    obtain ⟨_, b⟩ := cb j D hj
    exact a.kit b (nBB j D hj)
  have hII : ∀ (i : Nat) C, ([C0, C1, C2, C3, C4, C5, C6, C7, C8, C9, C10, C11, C12, C13, C14, C15, C16, C17, C18, C19, C20, C21, C22, C23, C24, C25, C26, C27] : List Addr)[i]? = some C → XiC K C := fun i C hi => by
    obtain ⟨_, a⟩ := cb i C hi
    exact a.xi cg
  have hI3 : ∀ (i : Nat) C, ([C0, C1, C2, C3, C4, C5, C6, C7, C8, C9, C10, C11, C12, C13, C14, C15, C16, C17, C18, C19, C20, C21, C22, C23, C24, C25, C26, C27] : List Addr)[i]? = some C → XiC K C ∧ PySem.W.kitOne K (.ref C) (.ref B) = some true ∧ PySem.W.kitOne K (.ref C) (.type "ValueError") = some true := fun i C hi => by
    obtain ⟨_, a⟩ := cb i C hi
    exact ⟨a.xi cg, a.kitB' clB tyB, a.kitV⟩
  refine ⟨PySem.W.fnOf "law" "law" (defArgs sLaw) (defBody sLaw) (defScope sLaw) .none kV doc pm an cdv ct, fun s v => .of_eq rfl, fun base _ _ => ?_⟩
  have Cpick : Cal l.prog w K mg base "_law_pick" 2 ["_law_pen_here", "_law_some"] spPick fPi dPi := ⟨ok_pick FPi TG FDr bDr gDr, gPi, hPi.k, bPi⟩
  have Cdraw : Cal l.prog w K mg base "_law_draw" 1 ["_law_pen_here", "_law_many"] spDraw fDr dDr := ⟨ok_draw FDr TG, gDr, hDr.k, bDr⟩
  have Cparts : Cal l.prog w K mg base "_law_parts" 3 ["_law_value"] (spMade [C0, C1, C2, C3, C4, C5, C6, C7, C8, C9, C10, C11, C12]) fPa dPa := ⟨ok_parts FPa (U0 base) (U1 base) (U2 base) (U3 base) (U4 base) (U5 base) (U6 base) (U7 base) (U8 base) (U9 base) (U10 base) (U11 base) (U12 base), gPa, hPa.k, bPa⟩
  have Cothers : Cal l.prog w K mg base "_law_others" 3 ["_law_value", "_law_more"] (spMade2 [C13, C14, C15, C16, C17, C18, C19, C20, C21, C22, C23, C24, C25, C26]) fOt dOt := ⟨ok_others FOt (U13 base) (U14 base) (U15 base) (U16 base) (U17 base) (U18 base) (U19 base) (U20 base) (U21 base) (U22 base) (U23 base) (U24 base) (U25 base) (U26 base), gOt, hOt.k, bOt⟩
  have Ccl : Cal l.prog w K mg base "_law_classes" 1 ["_law_error"] (spClasses [C0, C1, C2, C3, C4, C5, C6, C7, C8, C9, C10, C11, C12, C13, C14, C15, C16, C17, C18, C19, C20, C21, C22, C23, C24, C25, C26, C27]) fCl dCl := ⟨ok_classes FCl TE g0 g1 g2 g3 g4 g5 g6 g7 g8 g9 g10 g11 g12 g13 g14 g15 g16 g17 g18 g19 g20 g21 g22 g23 g24 g25 g26 g27 nd hKK hII, gCl, hCl.k, bCl⟩
  have Cie : Cal l.prog w K mg base "_law_is_error" 1 ["_law_error"] (spIsErr K B) fIe dIe := ⟨ok_isErr FIe TE gBm, gIe, hIe.k, bIe⟩
  have GE : FnG l.prog w K mg base 4 fEr dEr ["_law_pen_here"] spErrs := ok_errs (As := [C0, C1, C2, C3, C4, C5, C6, C7, C8, C9, C10, C11, C12]) (Os := [C13, C14, C15, C16, C17, C18, C19, C20, C21, C22, C23, C24, C25, C26]) (CN := C27) FEr TE Cpick Cparts Cothers Ccl Cie rfl rfl (U25 base) (U26 base) qN g27 c27.kC hI3
  have Cint : Cal l.prog w K mg base "is_integer" 1 ["value"] (spIsInt K) fInt dInt := ⟨ok_isInt FInt TT, gInt, hInt.k, bInt⟩
  have Cwi : Cal l.prog w K mg base "is_within" 2 ["value", "least", "most"] (spWithin K) fWi dWi := ⟨ok_within FWi TT FInt bInt gInt, gWi, hWi.k, bWi⟩
  have Cna : Cal l.prog w K mg base "is_name" 1 ["value"] (spName K) fNa dNa := ⟨ok_name FNa TT TC, gNa, hNa.k, bNa⟩
  have Csi : Cal l.prog w K mg base "is_signs" 1 ["value"] (spSigns K) fSi dSi := ⟨ok_signs FSi TT, gSi, hSi.k, bSi⟩
  have Cle : Cal l.prog w K mg base "is_letter" 3 ["value"] (spLetter K) fLe dLe := ⟨ok_letter FLe TT TC FSi bSi gSi FSw bSw gSw, gLe, hLe.k, bLe⟩
  have Cki : Cal l.prog w K mg base "_law_kinds_right" 4 ["_law_pen_here"] spKinds fKi dKi := ⟨ok_kinds FKi TT Cpick Cdraw Cint Cwi Cna Csi Cle kwInt kwWi kwNa kwSi kwLe, gKi, hKi.k, bKi⟩
  have Cpe : Cal l.prog w K mg base "_law_pen" 1 ["_law_script"] (spPen K) fPe dPe := ⟨ok_pen FPe TG, gPe, hPe.k, bPe⟩
  exact ok_law FLa TE Cpe Cki GE gEr hEr.k bEr

end K00
namespace K00
open PySem L2 Evl
theorem walk {l : PySem.W.OpenLaw} {q : Program} {loose : List Str} {XP : (Str → Option Value) → Heap → Prop} {YP : World → Heap → Prop} {d : DefRec} {K : Params → PySem.W.Frag} (hn : l.most = some 63) (hdf : d.params.defaults = [])
    (hY : ∀ (w : World) (h : Heap), YP w h → (K w.params).In h)
    (F : ∀ (w : World) (mg : Str → Option Value) (fa : Addr) (h : Heap), (K w.params).In h → h.Ns mainGlobals mg → mg d.name = some (.ref fa) →
      ∃ fd : FuncData, (∀ (s : Shared) (u : Value), BindsTo s fd ⟨[u], []⟩ [("_law_script", u)]) ∧ ∀ base : Heap, (K w.params).In base → base.Ns mainGlobals mg → FnG l.prog w (K w.params) mg base 5 fa fd ["_law_script"] (spLaw (K w.params))) :
    PySem.W.WalkO q loose XP YP l.row.toRowW d [] (fun f vs => PySem.call f vs) :=
  walkG_of (n := 63) (k := 5) (x := "_law_script") (sp := fun w => spLaw (K w.params)) hn (by decide) hdf ⟨rfl, by decide, by decide⟩ hY F (fun w H a ns hl _ hS => ⟨a, ns, rfl, hS, hl, fun _ => rfl⟩)
end K00
open PySem PySem.W PyProof.Rows
set_option maxRecDepth 100000 in
set_option maxHeartbeats 0 in
theorem PySem.Challenge.cw_layerpost_k00_errors_and_kinds_of_values_holds : PySem.Challenge.rw_layerpost_k00_errors_and_kinds_of_values.Holds := by
  w_on; o_law; k_head; (case hw => w_witness2)
  k_fill
  refine K00.walk (l := PySem.Challenge.rw_layerpost_k00_errors_and_kinds_of_values) rfl rfl (fun w h Y => PySem.W.kIn_of Y) ?F
  case F =>
    intro w mg fa h KX G hmg
    refine' K00.all_mk KX G hmg ?hInt ?hWi ?hNa ?hSi ?hSw ?hLe ?hPe ?hDr ?hPi ?hPa ?hOt ?hCl ?hIe ?hEr ?hKi ?hLa ?c0 ?no0a ?c1 ?no1a ?c2 ?no2a ?c3 ?no3a ?c4 ?no4a ?c5 ?no5a ?c6 ?no6a ?c7 ?no7a ?c8 ?no8a ?c9 ?no9a ?c10 ?no10a ?c11 ?no11a ?c12 ?no12a ?c13 ?no13a ?c14 ?no14a ?c15 ?no15a ?c16 ?no16a ?c17 ?no17a ?c18 ?no18a ?c19 ?no19a ?c20 ?no20a ?c21 ?no21a ?c22 ?no22a ?c23 ?no23a ?c24 ?no24a ?c25 ?no25a ?no25b ?c26 ?no26a ?no26b ?c27 ?cg ?gB ?clB ?tyB ?qN ?z_isinstance ?z_int ?z_bool ?z_str ?z_len ?z_abs ?z_list ?z_range ?z_repr ?z_ValueError ?k8 ?kA ?k200 ?nd ?nB
    (case hInt => exact ⟨by k_is, ⟨_, _, _, _, _, _, _, _, _, by k_is, by k_is⟩, by k_is⟩)
    (case hWi => exact ⟨by k_is, ⟨_, _, _, _, _, _, _, _, _, by k_is, by k_is⟩, by k_is⟩)
    (case hNa => exact ⟨by k_is, ⟨_, _, _, _, _, _, _, _, _, by k_is, by k_is⟩, by k_is⟩)
    (case hSi => exact ⟨by k_is, ⟨_, _, _, _, _, _, _, _, _, by k_is, by k_is⟩, by k_is⟩)
    (case hSw => exact ⟨by k_is, ⟨_, _, _, _, _, _, _, _, _, by k_is, by k_is⟩, by k_is⟩)
    (case hLe => exact ⟨by k_is, ⟨_, _, _, _, _, _, _, _, _, by k_is, by k_is⟩, by k_is⟩)
    (case hPe => exact ⟨by k_is, ⟨_, _, _, _, _, _, _, _, _, by k_is, by k_is⟩, by k_is⟩)
    (case hDr => exact ⟨by k_is, ⟨_, _, _, _, _, _, _, _, _, by k_is, by k_is⟩, by k_is⟩)
    (case hPi => exact ⟨by k_is, ⟨_, _, _, _, _, _, _, _, _, by k_is, by k_is⟩, by k_is⟩)
    (case hPa => exact ⟨by k_is, ⟨_, _, _, _, _, _, _, _, _, by k_is, by k_is⟩, by k_is⟩)
    (case hOt => exact ⟨by k_is, ⟨_, _, _, _, _, _, _, _, _, by k_is, by k_is⟩, by k_is⟩)
    (case hCl => exact ⟨by k_is, ⟨_, _, _, _, _, _, _, _, _, by k_is, by k_is⟩, by k_is⟩)
    (case hIe => exact ⟨by k_is, ⟨_, _, _, _, _, _, _, _, _, by k_is, by k_is⟩, by k_is⟩)
    (case hEr => exact ⟨by k_is, ⟨_, _, _, _, _, _, _, _, _, by k_is, by k_is⟩, by k_is⟩)
    (case hKi => exact ⟨by k_is, ⟨_, _, _, _, _, _, _, _, _, by k_is, by k_is⟩, by k_is⟩)
    (case hLa => exact ⟨by k_is, ⟨_, _, _, _, _, _, _, _, _, by k_is, by k_is⟩, by k_is⟩)
    (case c0 => exact ⟨⟨by k_is, ⟨_, _, _, _, _, _, _, _, _, _, _, _, _, _, by k_is⟩, by k_is, by k_is, by k_is, by k_is, by k_is, by k_is⟩, by k_is, ⟨_, _, _, _, _, _, _, _, _, by k_is, by k_is⟩, by k_is, by k_is⟩)
    (case no0a => k_is)
    (case c1 => exact ⟨⟨by k_is, ⟨_, _, _, _, _, _, _, _, _, _, _, _, _, _, by k_is⟩, by k_is, by k_is, by k_is, by k_is, by k_is, by k_is⟩, by k_is, ⟨_, _, _, _, _, _, _, _, _, by k_is, by k_is⟩, by k_is, by k_is⟩)
    (case no1a => k_is)
    (case c2 => exact ⟨⟨by k_is, ⟨_, _, _, _, _, _, _, _, _, _, _, _, _, _, by k_is⟩, by k_is, by k_is, by k_is, by k_is, by k_is, by k_is⟩, by k_is, ⟨_, _, _, _, _, _, _, _, _, by k_is, by k_is⟩, by k_is, by k_is⟩)
    (case no2a => k_is)
    (case c3 => exact ⟨⟨by k_is, ⟨_, _, _, _, _, _, _, _, _, _, _, _, _, _, by k_is⟩, by k_is, by k_is, by k_is, by k_is, by k_is, by k_is⟩, by k_is, ⟨_, _, _, _, _, _, _, _, _, by k_is, by k_is⟩, by k_is, by k_is⟩)
    (case no3a => k_is)
    (case c4 => exact ⟨⟨by k_is, ⟨_, _, _, _, _, _, _, _, _, _, _, _, _, _, by k_is⟩, by k_is, by k_is, by k_is, by k_is, by k_is, by k_is⟩, by k_is, ⟨_, _, _, _, _, _, _, _, _, by k_is, by k_is⟩, by k_is, by k_is⟩)
    (case no4a => k_is)
    (case c5 => exact ⟨⟨by k_is, ⟨_, _, _, _, _, _, _, _, _, _, _, _, _, _, by k_is⟩, by k_is, by k_is, by k_is, by k_is, by k_is, by k_is⟩, by k_is, ⟨_, _, _, _, _, _, _, _, _, by k_is, by k_is⟩, by k_is, by k_is⟩)
    (case no5a => k_is)
    (case c6 => exact ⟨⟨by k_is, ⟨_, _, _, _, _, _, _, _, _, _, _, _, _, _, by k_is⟩, by k_is, by k_is, by k_is, by k_is, by k_is, by k_is⟩, by k_is, ⟨_, _, _, _, _, _, _, _, _, by k_is, by k_is⟩, by k_is, by k_is⟩)
    (case no6a => k_is)
    (case c7 => exact ⟨⟨by k_is, ⟨_, _, _, _, _, _, _, _, _, _, _, _, _, _, by k_is⟩, by k_is, by k_is, by k_is, by k_is, by k_is, by k_is⟩, by k_is, ⟨_, _, _, _, _, _, _, _, _, by k_is, by k_is⟩, by k_is, by k_is⟩)
    (case no7a => k_is)
    (case c8 => exact ⟨⟨by k_is, ⟨_, _, _, _, _, _, _, _, _, _, _, _, _, _, by k_is⟩, by k_is, by k_is, by k_is, by k_is, by k_is, by k_is⟩, by k_is, ⟨_, _, _, _, _, _, _, _, _, by k_is, by k_is⟩, by k_is, by k_is⟩)
    (case no8a => k_is)
    (case c9 => exact ⟨⟨by k_is, ⟨_, _, _, _, _, _, _, _, _, _, _, _, _, _, by k_is⟩, by k_is, by k_is, by k_is, by k_is, by k_is, by k_is⟩, by k_is, ⟨_, _, _, _, _, _, _, _, _, by k_is, by k_is⟩, by k_is, by k_is⟩)
    (case no9a => k_is)
    (case c10 => exact ⟨⟨by k_is, ⟨_, _, _, _, _, _, _, _, _, _, _, _, _, _, by k_is⟩, by k_is, by k_is, by k_is, by k_is, by k_is, by k_is⟩, by k_is, ⟨_, _, _, _, _, _, _, _, _, by k_is, by k_is⟩, by k_is, by k_is⟩)
    (case no10a => k_is)
    (case c11 => exact ⟨⟨by k_is, ⟨_, _, _, _, _, _, _, _, _, _, _, _, _, _, by k_is⟩, by k_is, by k_is, by k_is, by k_is, by k_is, by k_is⟩, by k_is, ⟨_, _, _, _, _, _, _, _, _, by k_is, by k_is⟩, by k_is, by k_is⟩)
    (case no11a => k_is)
    (case c12 => exact ⟨⟨by k_is, ⟨_, _, _, _, _, _, _, _, _, _, _, _, _, _, by k_is⟩, by k_is, by k_is, by k_is, by k_is, by k_is, by k_is⟩, by k_is, ⟨_, _, _, _, _, _, _, _, _, by k_is, by k_is⟩, by k_is, by k_is⟩)
    (case no12a => k_is)
    (case c13 => exact ⟨⟨by k_is, ⟨_, _, _, _, _, _, _, _, _, _, _, _, _, _, by k_is⟩, by k_is, by k_is, by k_is, by k_is, by k_is, by k_is⟩, by k_is, ⟨_, _, _, _, _, _, _, _, _, by k_is, by k_is⟩, by k_is, by k_is⟩)
    (case no13a => k_is)
    (case c14 => exact ⟨⟨by k_is, ⟨_, _, _, _, _, _, _, _, _, _, _, _, _, _, by k_is⟩, by k_is, by k_is, by k_is, by k_is, by k_is, by k_is⟩, by k_is, ⟨_, _, _, _, _, _, _, _, _, by k_is, by k_is⟩, by k_is, by k_is⟩)
    (case no14a => k_is)
    (case c15 => exact ⟨⟨by k_is, ⟨_, _, _, _, _, _, _, _, _, _, _, _, _, _, by k_is⟩, by k_is, by k_is, by k_is, by k_is, by k_is, by k_is⟩, by k_is, ⟨_, _, _, _, _, _, _, _, _, by k_is, by k_is⟩, by k_is, by k_is⟩)
    (case no15a => k_is)
    (case c16 => exact ⟨⟨by k_is, ⟨_, _, _, _, _, _, _, _, _, _, _, _, _, _, by k_is⟩, by k_is, by k_is, by k_is, by k_is, by k_is, by k_is⟩, by k_is, ⟨_, _, _, _, _, _, _, _, _, by k_is, by k_is⟩, by k_is, by k_is⟩)
    (case no16a => k_is)
    (case c17 => exact ⟨⟨by k_is, ⟨_, _, _, _, _, _, _, _, _, _, _, _, _, _, by k_is⟩, by k_is, by k_is, by k_is, by k_is, by k_is, by k_is⟩, by k_is, ⟨_, _, _, _, _, _, _, _, _, by k_is, by k_is⟩, by k_is, by k_is⟩)
    (case no17a => k_is)
    (case c18 => exact ⟨⟨by k_is, ⟨_, _, _, _, _, _, _, _, _, _, _, _, _, _, by k_is⟩, by k_is, by k_is, by k_is, by k_is, by k_is, by k_is⟩, by k_is, ⟨_, _, _, _, _, _, _, _, _, by k_is, by k_is⟩, by k_is, by k_is⟩)
    (case no18a => k_is)
    (case c19 => exact ⟨⟨by k_is, ⟨_, _, _, _, _, _, _, _, _, _, _, _, _, _, by k_is⟩, by k_is, by k_is, by k_is, by k_is, by k_is, by k_is⟩, by k_is, ⟨_, _, _, _, _, _, _, _, _, by k_is, by k_is⟩, by k_is, by k_is⟩)
    (case no19a => k_is)
    (case c20 => exact ⟨⟨by k_is, ⟨_, _, _, _, _, _, _, _, _, _, _, _, _, _, by k_is⟩, by k_is, by k_is, by k_is, by k_is, by k_is, by k_is⟩, by k_is, ⟨_, _, _, _, _, _, _, _, _, by k_is, by k_is⟩, by k_is, by k_is⟩)
    (case no20a => k_is)
    (case c21 => exact ⟨⟨by k_is, ⟨_, _, _, _, _, _, _, _, _, _, _, _, _, _, by k_is⟩, by k_is, by k_is, by k_is, by k_is, by k_is, by k_is⟩, by k_is, ⟨_, _, _, _, _, _, _, _, _, by k_is, by k_is⟩, by k_is, by k_is⟩)
    (case no21a => k_is)
    (case c22 => exact ⟨⟨by k_is, ⟨_, _, _, _, _, _, _, _, _, _, _, _, _, _, by k_is⟩, by k_is, by k_is, by k_is, by k_is, by k_is, by k_is⟩, by k_is, ⟨_, _, _, _, _, _, _, _, _, by k_is, by k_is⟩, by k_is, by k_is⟩)
    (case no22a => k_is)
    (case c23 => exact ⟨⟨by k_is, ⟨_, _, _, _, _, _, _, _, _, _, _, _, _, _, by k_is⟩, by k_is, by k_is, by k_is, by k_is, by k_is, by k_is⟩, by k_is, ⟨_, _, _, _, _, _, _, _, _, by k_is, by k_is⟩, by k_is, by k_is⟩)
    (case no23a => k_is)
    (case c24 => exact ⟨⟨by k_is, ⟨_, _, _, _, _, _, _, _, _, _, _, _, _, _, by k_is⟩, by k_is, by k_is, by k_is, by k_is, by k_is, by k_is⟩, by k_is, ⟨_, _, _, _, _, _, _, _, _, by k_is, by k_is⟩, by k_is, by k_is⟩)
    (case no24a => k_is)
    (case c25 => exact ⟨⟨by k_is, ⟨_, _, _, _, _, _, _, _, _, _, _, _, _, _, by k_is⟩, by k_is, by k_is, by k_is, by k_is, by k_is, by k_is⟩, by k_is, ⟨_, _, _, _, _, _, _, _, _, by k_is, by k_is⟩, by k_is, by k_is⟩)
    (case no25a => k_is)
    (case no25b => k_is)
    (case c26 => exact ⟨⟨by k_is, ⟨_, _, _, _, _, _, _, _, _, _, _, _, _, _, by k_is⟩, by k_is, by k_is, by k_is, by k_is, by k_is, by k_is⟩, by k_is, ⟨_, _, _, _, _, _, _, _, _, by k_is, by k_is⟩, by k_is, by k_is⟩)
    (case no26a => k_is)
    (case no26b => k_is)
    (case c27 => exact ⟨by k_is, ⟨_, _, _, _, _, _, _, _, _, _, _, _, _, _, by k_is⟩, by k_is, by k_is, by k_is, by k_is, by k_is, by k_is⟩)
    (case cg => exact ⟨by k_is, by k_is⟩)
    (case gB => k_is)
    (case clB => exact ⟨_, by k_is⟩)
    (case tyB => k_is)
    (case qN => k_exc)
    (case z_isinstance => k_is)
    (case z_int => k_is)
    (case z_bool => k_is)
    (case z_str => k_is)
    (case z_len => k_is)
    (case z_abs => k_is)
    (case z_list => k_is)
    (case z_range => k_is)
    (case z_repr => k_is)
    (case z_ValueError => k_is)
    (case k8 => exact ⟨_, by k_is⟩)
    (case kA => exact ⟨_, by k_is⟩)
    (case k200 => exact ⟨_, by k_is⟩)
    (case nd => decide +kernel)
    (case nB => decide +kernel)
#print axioms PySem.Challenge.cw_layerpost_k00_errors_and_kinds_of_values_holds
