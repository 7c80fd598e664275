import PyProof.Rows.All
import Wide.All
import OpenK.AllK
import Wide.FinOn
import HandS.ForMost
import HandS.Lambda
import HandS.ForExc
import HandS.ExcInit
import HandS.ExcValue
import HandS.ExcField
import HandS.IsInst
import KE.KExcIs
import HandS.Star
import HandS.SlotsOwn
import HandS.OwnEq
import KE.KOpsOwn
import HandS.ClsMeth
import HandS.Defaults
import HandS.RaiseMore
import HandS.Codes
import KE.KCallOwn
import HandS.Evl
import PyProof.Rows.SortStr
import HandS.CallLocal
import HandS.TupMul
import HandS.Iter
import HandS.Walk
import KE.GoesMore
import KE.GoesEnum
import PyProof.EqAt
import PyProof.EqKinds
import PyProof.TupleCall
import PyProof.Rows.SortShell
import PyProof.Rows.SortWalk
import KE.KSortTup
import HandS.Base
import HandS.Call
import HandS.Dict
import HandS.Sort
import HandS.SortOrd
import HandS.SortRule
import HandS.SetFor
import HandS.Strs
import HandS.TupSets
import HandS.SortKw
import PyProof.SetRoads
import HandS.MakeKwOnly
import HandS.Text
import HandS.StrMore
import HandS.Wide
import HandS.TupAny
import HandS.Conv
import HandS.Keys
import HandS.ExcIs
import HandS.Deep
import HandS.WordsExc
import HandS.TupLe
import PyProof.StrOps2
import HandS.Style
import HandS.Small
import HandS.EndTab
import HandS.MakeKw
import KE.KNest
import PySem.Challenge.RW_layerpost_k08_frame_rules_made_and_read
set_option Elab.async false
set_option linter.all false
set_option maxRecDepth 100000
set_option maxHeartbeats 8000000
/-! a lambda handed to a def: what its call lets out is told beside the names of the def as they stand at the call -/
namespace LamY
open PySem PySem.Spec PyProof.Rows L2 LamX
abbrev nm : Str := "<lambda>"
/-- the def's own suite, entered at z0 -/
abbrev Suite (X : Cx) (N : List Str) (x : Str) (sc : Scope) (g : Addr) (cd : Value) (z0 : Shared) (G0 : Hp) : Cx := cxOf C8.CX0 X.prog X.w X.K X.mg X.base N x sc g cd X.A X.stack z0 G0 C8.E0
abbrev Deep (X : Cx) (x : Str) (sc : Scope) (g : Addr) (cd : Value) (z0 : Shared) : Around := X.A.deeper (envOfC x sc z0.heap.objs.size g cd)
section
variable {X : Cx} {pins : List (Addr × Obj)} {σ : L2.St} {G0 : Hp} {z0 : Shared} {N : List Str} {x a : Str} {sc scope : Scope} {g f c' : Addr} {cd pm ctv : Value} {params : Arguments} {body : Expr} {k i : Nat} {tb : XK → TE} {p1 p2 : Pos}
abbrev lamObj (X : Cx) (params : Arguments) (body : Expr) (scope : Scope) (pm ctv : Value) (c' : Addr) : Obj := PySem.W.kla_obj nm (X.env.qual ++ nm) params body scope (cloFrom X.env.cells scope.names []) pm c' ctv
/-- the call itself -/
theorem asked {pn : List (Addr × Obj)} {xe : Value → Shared → Prop} {E : XK} {Q : VK} (I : Inv X pins σ G0 z0) (L : LamS X.env.scope scope) (at_ : z0.heap.get? f = some (lamObj X params body scope pm ctv c')) (un0 : G0 f = none) (off : f ∉ frs X.stack)
    (bare : bindArgs (PySem.W.kla_fn nm (X.env.qual ++ nm) params body scope (cloFrom X.env.cells scope.names []) pm (.ref c') ctv) ⟨[], []⟩ = pure []) (room : Room (k + 1) (Deep X x sc g cd z0))
    (reads : ∀ (A : Around) (outer : List Env) (z : Shared) (G : Hp), Room k (A.deeper (lamEnv X scope z.heap.objs.size f c')) → PE (lamCx X A outer z G E scope f c') body (tb E))
    {pz : List (Addr × Obj)} {τ : L2.St} {G : Hp} {z : Shared} (J : Inv ((Suite X N x sc g cd z0 G0).tr pn xe) pz τ G z) (code : G c' = some (CodeO c' (X.env.qual ++ nm))) (told : tb E σ G Q) :
    codeAny (model X.prog X.w) (Deep X x sc g cd z0) (.call (.ref f) ⟨[], []⟩) (CR (L2.CX X.prog X.w) (envOfC x sc z0.heap.objs.size g cd :: X.stack) X.prog X.w G z Q E) z := by
  have here := J.base.keep f _ at_ un0 off (fun h => nomatch (show f ∈ ([] : List Addr) from h))
  obtain ⟨⟨_, _, _, q1, q2, q3⟩, _⟩ := J.hok c' _ code
  apply PySem.W.kla_callFunE room.depth here rfl L.co L.gen rfl ⟨c', _, _, _, rfl, q1, q2, q3⟩
  rw [bare]
  apply wpAny_pure
  refine wpAny_newFunctionEnv (fun y hy => (L.own y hy).2) (fun _ h => by cases h) (fun h1 ns sb => ?_) L.kind
  refine ⟨J.nolimit.fresh _ sb, ?_⟩
  have stays : ∀ (b : Addr) (o : Obj), z.heap.get? b = some o → h1.get? b = some o := fun b o e => sb.extBut b o (Nat.ne_of_lt (Heap.lt_size e)) (Heap.get?_push_of_some _ e)
  have begun := lam_start2 (E := E) (f := f) (c' := c') (tk := z.toks + ([] : List (Str × Value)).length) I L J.env0 room.hd J.base ns stays
  have run := (reads _ _ z G (room.deeper _)).run [] _ _ G Q begun told
  apply PySem.W.kla_codeExpr
  refine wpAny_mono run (fun v z1 back => ?_) (fun _ _ h => h)
  obtain ⟨u, G1, J1, ru, q⟩ := back
  exact ⟨u, G1, J1.os, J1.bare, J1.base, J1.hok, ru, q⟩
/-- a(), in that suite: what goes out is told of the names as they stand -/
theorem pe_ask {pn : List (Addr × Obj)} {xe : Value → Shared → Prop} {W : WX} (I : Inv X pins σ G0 z0) (L : LamS X.env.scope scope) (at_ : z0.heap.get? f = some (lamObj X params body scope pm ctv c')) (un0 : G0 f = none) (off : f ∉ frs X.stack)
    (bare : bindArgs (PySem.W.kla_fn nm (X.env.qual ++ nm) params body scope (cloFrom X.env.cells scope.names []) pm (.ref c') ctv) ⟨[], []⟩ = pure []) (tk : Takes ((Suite X N x sc g cd z0 G0).tr pn xe) W) (room : Room (k + 1) (Deep X x sc g cd z0))
    (reads : ∀ (E : XK) (A : Around) (outer : List Env) (z : Shared) (G : Hp), Room k (A.deeper (lamEnv X scope z.heap.objs.size f c')) → PE (lamCx X A outer z G E scope f c') body (tb E))
    (hN : N[i]? = some a) (vis : Vis sc a) (nd : (a == ("__debug__" : Str)) = false) (nc : (a == ("__classdict__" : Str)) = false) :
    PE ((Suite X N x sc g cd z0 G0).tr pn xe) (.Call (.Name a p1) [] [] p2)
      (fun τ G Q => τ[i]? = some (some (.ref f)) ∧ G c' = some (CodeO c' (X.env.qual ++ nm)) ∧ ∃ E : XK, (∀ cls d G', E cls d G' → W cls d τ G') ∧ tb E σ G Q) := by
  constructor
  rintro pz z τ G Q J ⟨here, code, E, up, told⟩
  have name := (pe_var (X := (Suite X N x sc g cd z0 G0).tr pn xe) (pos := p1) (i := i) hN vis nd nc).run pz z τ G (fun v G1 => v = .ref f ∧ G1 = G) J ⟨.ref f, here, rfl, rfl⟩
  apply wpAny_Call_Name_kw
  refine thn name fun u z1 back => ?_
  obtain ⟨v, G1, J1, ru, ev, eG⟩ := back
  subst ev
  subst eG
  cases (show u = Value.ref f from ru)
  have still := J1.base.keep f _ at_ un0 off (fun h => nomatch (show f ∈ ([] : List Addr) from h))
  apply PySem.W.callWith_F0 ⟨_, _, _, _, still⟩
  refine wpAny_call (codeAny_mono (asked I L at_ un0 off bare room (reads E) J1 code told) fun r z2 out => ?_)
  match r, out with
  | .error e, out => exact tk e z2 (XE.of_call J1 (fun cls d G' h => up cls d G' h) out)
  | .ok (.ret u), out => exact J1.after out
  | .ok .next, out => exact out.elim
  | .ok .brk, out => exact out.elim
  | .ok .cont, out => exact out.elim
/-- what a def makes of a lambda that it calls by the name a -/
def GivesS (X : Cx) (N : List Str) (x : Str) (sc : Scope) (g : Addr) (cd : Value) (suite : List Stmt) (a q : Str) (TT : (XK → Hp → VK → Prop) → Hp → VK → Prop) : Prop :=
  ∀ (f c' : Addr) (z0 : Shared) (G0 : Hp) (Q : VK) (tl : XK → Hp → VK → Prop),
    (∀ (W : WX) (pn : List (Addr × Obj)) (xe : Value → Shared → Prop) (p1 p2 : Pos), Takes ((Suite X N x sc g cd z0 G0).tr pn xe) W →
      PE ((Suite X N x sc g cd z0 G0).tr pn xe) (.Call (.Name a p1) [] [] p2) (fun τ G Q => τ[0]? = some (some (.ref f)) ∧ G c' = some (CodeO c' q) ∧ ∃ E : XK, (∀ cls d G', E cls d G' → W cls d τ G') ∧ tl E G Q)) →
    G0 c' = some (CodeO c' q) → TT tl G0 Q → ∃ t, PSs (Suite X N x sc g cd z0 G0).nox suite t ∧ t { nx := fun _ G' => Q .non G', rt := Q } (L2.start N [.ref f]) G0
/-- x(lambda: e) -/
theorem pe_lamcallS {T : List (Addr × Str)} {TT : (XK → Hp → VK → Prop) → Hp → VK → Prop} {c Pt : Addr} {pg : Arguments} {suite : List Stmt} {dV kV doc pmG ctG oc : Value} {an od : Option Addr} {osl : Array (Option Value)} {p lpos pos : Pos} (glob : Gl X x) (isG : X.mg x = some (.ref g)) (keep : PySem.W.keepIn X.K (.ref g) = true)
    (lk : X.K.lookup g = some ⟨oc, od, .func (PySem.W.fnOf x x pg suite sc dV kV doc pmG an cd ctG), osl⟩) (codeG : PySem.W.codeIn X.K cd x = true) (binds : L2.Binds X.K (PySem.W.fnOf x x pg suite sc dV kV doc pmG an cd ctG) [a] []) (S : FnScope N [a] sc) (hN : N[0]? = some a) (vis : Vis sc a)
    (gives : GivesS X N x sc g cd suite a (X.env.qual ++ nm) TT) (TB : TabB X.base X.mg c Pt) (hcode : X.env.code = .ref c) (hT : (Pt, X.env.qual ++ nm) ∈ T) (hu : ∀ p ∈ T, p.1 = Pt → p.2 = X.env.qual ++ nm) (room : Room (k + 2) X.A) (L : LamS X.env.scope scope) (hdef : defaultsOf params X.env = ([], []))
    (bare : ∀ (q : Str) (cl : List (Str × Addr)) (pm cv ctv : Value), bindArgs (PySem.W.kla_fn nm q params body scope cl pm cv ctv) ⟨[], []⟩ = pure [])
    (reads : ∀ (A : Around) (outer : List Env) (z : Shared) (G : Hp) (E : XK) (f c' : Addr), Room k (A.deeper (lamEnv X scope z.heap.objs.size f c')) → PE (lamCx X A outer z G E scope f c') body (tb E))
    (xd : (x == ("__debug__" : Str)) = false := by decide) (nd : (a == ("__debug__" : Str)) = false := by decide) (nc : (a == ("__classdict__" : Str)) = false := by decide) : PE X (.Call (.Name x p) [.Lambda params body scope lpos] [] pos) (tLam T TT tb) := by
  constructor
  rintro pins s τ H Q I ⟨tabs, told⟩
  apply wpAny_Call_Name_kw
  refine ld_glob I glob isG ?_ xd
  refine PySem.W.callWith_K (h₀ := X.base) I.ok.mod.kin keep ?_ (by rfl) (by rfl)
  refine Calls.spliced_cons (x := eval (.Lambda params body scope lpos) X.env) (rest := backTo pos (starEach [] X.env)) (lam_make2 I TB hcode hT hu tabs hdef (L.has I.ok) fun f c' pm' ctv H1 s1 I1 more tabs1 at_ un0 off code => ?_)
  refine Calls.spliced_nil ⟨I1.kIn, ?_⟩
  have ran : codeAny (model X.prog X.w) X.A (.call (.ref g) ⟨[.ref f], []⟩) (CR C8.CX0 X.stack X.prog X.w H1 s1 Q C8.E0) s1 := by
    apply run_ofS (N := N) (ps := [a]) (us := [.ref f]) (vs := [.ref f]) lk codeG S room I1.env0 (binds s1 [.ref f] I1.kIn rfl) (.cons rfl .nil) rfl
    intro room'
    obtain ⟨t, reads', told'⟩ := gives f c' s1 H1 Q (fun E G Q' => tb E τ G Q') (fun W pn xe p1 p2 tk => pe_ask (i := 0) I1 L at_ un0 off (bare _ _ _ _ _) tk room' (fun E A outer z G r => reads A outer z G E f c' r) hN vis nd nc) code (told H1 more tabs1)
    exact ⟨t, reads'.nox, told'⟩
  refine wpAny_call (codeAny_mono ran fun r s2 out => ?_)
  match r, out with
  | .error e, out => exact (show False from out).elim
  | .ok (.ret u), out => exact I1.after out
  | .ok .next, out => exact out.elim
  | .ok .brk, out => exact out.elim
  | .ok .cont, out => exact out.elim
end
end LamY
/-! an error that was caught, kept in a name behind its suite: isinstance of it, its fields -/
namespace EXC
open PySem PySem.Spec PyProof.Rows L2
/-- a caught error at a: its class, its own dict -/
def ExC (cls : Value) (d : Option Addr) (a : Addr) : HO := .ext fun h => ∃ (oe : Obj) (vs : Array Value), h.get? a = some oe ∧ Zc cls d oe ∧ oe.data = .fields vs
theorem exC_ok {P : Program} {w : World} {H : Hp} {h : Heap} {a : Addr} {cls : Value} {d : Option Addr} {oe : Obj} {vs : Array Value} (e : h.get? a = some oe) (z : Zc cls d oe) (hd : oe.data = .fields vs) : ObjOk P w H h a (ExC cls d a) :=
  ⟨⟨oe, vs, e, z, hd⟩, ⟨oe, e⟩, fun _ _ ⟨o, v, q, r⟩ k => ⟨o, v, k o q, r⟩⟩
section
variable {X : Cx} {pins : List (Addr × Obj)} {σ : L2.St} {H : Hp} {s : Shared} {a : Addr} {o : HO}
/-- what stands there untracked, and did not stand at the entry, is tracked from now on -/
theorem Inv.track {oe : Obj} {vs : Array Value} (I : Inv X pins σ H s) (here : s.heap.get? a = some oe) (hd : oe.data = .fields vs) (n : H a = none) (n0 : X.s_0.heap.get? a = none) (nL : a ≠ X.env.locals) (nP : ∀ p ∈ X.pn ++ pins, p.1 ≠ a)
    (ok : ObjOk X.prog X.w (upd H a o) s.heap a o) : Inv X pins σ (upd H a o) s := by
  have off : ∀ b, b ≠ a → upd H a o b = H b := fun b hb => upd_ne hb
  have ne0 : ∀ b u, X.s_0.heap.get? b = some u → b ≠ a := fun b u e z => by rw [z, n0] at e; cases e
  have neS : ∀ b u, H b = some u → b ≠ a := fun b u e z => by rw [z, n] at e; cases e
  have base : Un X.fs X.ex X.H_0 (upd H a o) X.s_0.heap s.heap := {
    keep := I.base.keep
    slot := I.base.slot
    free := fun b u e m x => by rw [off b (ne0 b u e)]; exact I.base.free b u e m x
    there := I.base.there
    tups := fun b xs e => by
      have q := I.base.tups b xs e
      rw [off b (neS b _ q)]; exact q
    frzs := fun b u v e => by
      have q := I.base.frzs b u v e
      rw [off b (neS b _ q)]; exact q
    tbls := fun b ps e => by
      obtain ⟨m, q⟩ := I.base.tbls b ps e
      exact ⟨m, by rw [off b (neS b _ q)]; exact q⟩ }
  refine ⟨I.ok, I.os, I.bare, base, I.loc, I.cell, ?_, fun x c e => ?_, fun p hp => ?_, I.hok.laidN (fun _ _ e => e) n ok, I.len⟩
  · rw [off _ nL.symm]; exact I.free
  · have ne : c ≠ a := fun z => by
      obtain ⟨v, oc, hc, hv⟩ := I.cell x c e
      rw [z, here] at hc
      cases hc
      rw [hd] at hv
      cases hv
    rw [off _ ne]
    exact I.freeC x c e
  · obtain ⟨q1, q2, q3⟩ := I.pin p hp
    exact ⟨q1, by rw [off _ (nP p hp)]; exact q2, q3⟩
end
/-- what the clause 'except x as n' (n in slot i) wishes of each error of the body; behind it the error is kept -/
def wHeld (K : PySem.W.Frag) (c : Value) (i : Nat) (ts : Addr → Value → Option Addr → TS) (D : Ends) : WX := fun cls d σ H => PySem.W.exmOne K cls c = some true ∧
  ∀ a, H a = none → ts a cls d { nx := fun σ2 H2 => D.nx (σ2.set i none) (upd H2 a (ExC cls d a)), rt := fun _ _ => False, bk := fun _ _ => False, ct := fun _ _ => False } (σ.set i (some (.ref a))) H
section
variable {X : Cx} {x n : Str} {c : Value} {i : Nat} {body suite : List Stmt} {b₀ : Stmt} {np pos pos' : Pos} {tb : WX → TS} {ts : Addr → Value → Option Addr → TS}
theorem ps_try_held (hs : X.stack = X.env :: X.outer) (hf : X.env.frame = some X.env.locals) (hex : X.ex = []) (nd : X.N.Nodup) (at_i : X.N[i]? = some n) (loc : X.env.kindOf n = some .local) (hc : Names X x c)
    (hb : ∀ (W : WX) (pn : List (Addr × Obj)) (xe : Value → Shared → Prop), Takes (X.tr pn xe) W → PassesOwn (model X.prog X.w) X.A X.env xe → PSs (X.tr pn xe) body (tb W))
    (hsu : ∀ (a : Addr) (oe : Obj) (cls : Value) (d : Option Addr) (pn : List (Addr × Obj)), Zc cls d oe → (∃ vs, oe.data = .fields vs) → PSs (X.suite a ((a, oe) :: pn)) (b₀ :: suite) (ts a cls d)) :
    PS X (.Try body [.ExceptHandler (some (.Name x np)) (some n) (b₀ :: suite) pos'] [] [] pos) (fun D σ H => tb (wHeld X.K c i ts D) D σ H) := by
  refine ⟨fun pins s σ H D I h => ?_⟩
  have ok := I.ok
  have frames : X.A.frames = some (X.env :: X.outer) := ok.frames.trans (congrArg some hs)
  let catch' : Value → Shared → Prop := fun e s1 => wpAny (model X.prog X.w) X.A (noteFrame e X.env) (fun _ s2 => wpAny (model X.prog X.w) X.A (setFlight e none) (fun _ s3 =>
    wpAny (model X.prog X.w) X.A (handleBy e X.env [.ExceptHandler (some (.Name x np)) (some n) (b₀ :: suite) pos']) (SP X pins D) X.xe s3) X.xe s2) X.xe s1
  have takes : Takes (X.tr (X.pn ++ pins) catch') (wHeld X.K c i ts D) := by
    rintro u s' ⟨a, B, sI, ps, σ1, H1, cls, d, rfl, J0, nb, up, sky, na, os, ag, hit, next⟩
    have J : Inv X pins σ1 H1 sI := J0.ofTry ok
    rw [show (X.tr (X.pn ++ pins) catch').stack = X.env :: X.outer from hs] at sky
    show wpAny (model X.prog X.w) X.A (noteFrame (.ref a) X.env) _ _ _
    refine Sky.land Zc.steady frames hf sky fun h3 fl3 up3 => ?_
    have J3 : Inv X pins σ1 H1 { s' with heap := h3 } := J.landed nb (by exact fl3.1) (up.trans up3) os ag
    obtain ⟨o3, f3, g3, z3, d3⟩ := fl3.there
    have apart : a ∉ frs (X.env :: X.outer) := fun hm => by
      obtain ⟨_, o, e, hno⟩ := fl3.2.2.1.mem hm
      rw [g3] at e
      cases e
      exact hno _ d3
    have nL : a ≠ X.env.locals := fun z => apart (List.mem_filterMap.mpr ⟨X.env, List.mem_cons_self, by rw [hf, z]⟩)
    have nF : a ∉ X.fs := fun hm => by
      obtain ⟨e, he, q⟩ := List.mem_filterMap.mp hm
      exact apart (List.mem_filterMap.mpr ⟨e, List.mem_cons_of_mem _ he, q⟩)
    have new : sI.heap.get? a = none := by
      cases q : sI.heap.get? a with
      | none => rfl
      | some o =>
        have z := nb a o q (by rw [show (X.tr (X.pn ++ pins) catch').stack = X.env :: X.outer from hs]; exact apart)
        rw [fl3.2.1] at z
        cases z
    have new0 : X.s_0.heap.get? a = none := by
      cases q : X.s_0.heap.get? a with
      | none => rfl
      | some o =>
        obtain ⟨o2, z⟩ := J.base.there a o q (by rw [hex]; exact List.not_mem_nil)
        rw [new] at z
        cases z
    have unpinned : ∀ p ∈ X.pn ++ pins, p.1 ≠ a := fun p hp z => by
      have q := (J.pin p hp).1
      rw [z, new] at q
      cases q
    have S3 := J3.suite g3 d3 na nL nF
    refine wpAny_handleBy_cons (codeAny_handlers_test ?_) (by intro q; cases q)
    have looks : PySem.W.Looks (model X.prog X.w) h3 (typeOf (.ref a)) cls := fun _ _ _ _ k q => wpAny_typeOf_ref (k _ _ g3) (by rw [z3.1]; exact q)
    have hits := PySem.W.exm_one (M := model X.prog X.w) J3.kIn looks hit
    have named : ∀ {Q E : Value → Shared → Prop}, Q c { s' with heap := h3 } → wpAny (model X.prog X.w) (X.A.mark (some (.ref a))) (eval (.Name x np) X.env) Q E { s' with heap := h3 } := fun {Q E} q => by
      obtain ⟨g, nodbg, m | ⟨m, v, w⟩⟩ := hc
      · exact ld_glob (X := X.suite a ((a, o3) :: (X.pn ++ pins))) S3 g m q nodbg
      · exact ld_blt (X := X.suite a ((a, o3) :: (X.pn ++ pins))) S3 g m v q w nodbg
    refine named (hits.here (codeAny_handlers_suite_as (HandSPX.lands_againZ fl3 fun h4 fl4 up4 => ?_)))
    have J4 : Inv X pins σ1 H1 { s' with heap := h4 } := J.landed nb (by exact fl4.1) ((up.trans up3).trans up4) os ag
    obtain ⟨o4, f4, g4, z4, d4⟩ := fl4.there
    refine store_ok (X := X.suite a ((a, o4) :: (X.pn ++ pins))) (v := .ref a) (J4.suite g4 d4 na nL nF) nd at_i (.inl loc) rfl (fun s5 S5 => ?_) (.inr loc)
    refine wpAny_mono ((hsu a o4 cls d (X.pn ++ pins) z4 ⟨_, d4⟩).run [] s5 _ H1 _ S5 (next a na)) (fun fl s6 back => ?_) (fun _ _ z => z.elim)
    cases fl with
    | next =>
      obtain ⟨σ6, H6, S6, q6⟩ := back
      refine gone_ok (X := X.suite a ((a, o4) :: (X.pn ++ pins))) S6 nd at_i loc fun s7 S7 => ?_
      obtain ⟨p1, p2, _⟩ := S7.pin (a, o4) (List.mem_append_left _ List.mem_cons_self)
      exact ⟨_, _, Inv.track (S7.unsuite ok) p1 d4 p2 new0 nL unpinned (exC_ok p1 z4 d4), q6⟩
    | brk =>
      obtain ⟨_, _, _, z⟩ := back
      exact False.elim z
    | cont =>
      obtain ⟨_, _, _, z⟩ := back
      exact False.elim z
    | ret u =>
      obtain ⟨_, _, _, _, _, z⟩ := back
      exact False.elim z
  refine wpAny_Try_except (wpAny_mono ((hb _ _ catch' takes PassesOwn.looking).run [] s σ H D (I.toTry _) h) (fun fl s1 back => ?_) fun _ _ z => z)
  cases fl with
  | next =>
    obtain ⟨σ1, H1, J, q⟩ := back
    exact wpAny_execs_nil ⟨σ1, H1, J.ofTry ok, q⟩
  | brk =>
    obtain ⟨σ1, H1, J, q⟩ := back
    exact ⟨σ1, H1, J.ofTry ok, q⟩
  | cont =>
    obtain ⟨σ1, H1, J, q⟩ := back
    exact ⟨σ1, H1, J.ofTry ok, q⟩
  | ret u =>
    obtain ⟨v, σ1, H1, J, r, q⟩ := back
    exact ⟨v, σ1, H1, J.ofTry ok, r, q⟩
end
/-! ### isinstance of it, a field of it -/
def Dct (H : Hp) (d : Option Addr) : Prop := ∀ dd, d = some dd → ∃ fs, H dd = some (.xd fs)
theorem inst_of {X : Cx} {pins : List (Addr × Obj)} {σ : L2.St} {H : Hp} {s : Shared} {a C : Addr} {d : Option Addr} (I : Inv X pins σ H s) (ha : H a = some (ExC (.ref C) d a)) (hd : Dct H d) : ∃ ox od, PySem.W.InstAt s.heap a ox C od := by
  obtain ⟨⟨oe, vs, ho, hz, hf⟩, _, _⟩ := I.hok a _ ha
  have nc : PySem.W.notCls oe = true := by unfold PySem.W.notCls; rw [hf]
  cases d with
  | none => exact ⟨oe, none, ho, hz.1, nc, by rw [hz.2]; exact True.intro⟩
  | some dd =>
    obtain ⟨fs, e⟩ := hd dd rfl
    obtain ⟨mA, hns, _⟩ := (show ObjOk X.prog X.w H s.heap dd (.xd fs) from I.hok dd _ e)
    obtain ⟨od, hod, _⟩ := lookIn_ns hns
    exact ⟨oe, some od, ho, hz.1, nc, by rw [hz.2]; exact hod⟩
structure XcC (K : PySem.W.Frag) (C : Addr) : Prop where
  hcl : (PySem.W.clsIn K C).isSome = true
  hga : PySem.W.findIn K (.ref C) "__getattribute__" = some (some (.builtin "BaseException.__getattribute__"))
  hgt : PySem.W.findIn K (.ref C) "__getattr__" = some none
  hsub : PySem.W.subIn K (.ref C) (.type "BaseException") = some true
  hdct : PySem.W.hasDictIn K C = true
  ha : PySem.W.findIn K (.ref C) "__class__" = some (some (.builtin "object.__class__"))
  hn : PySem.W.specialIn K (.builtin "object.__class__") "__get__" = some (some (.builtin "getset_descriptor.__get__"))
  htk : PySem.W.takesIn K (.builtin "object.__class__") = some true
  hm : PySem.W.mroIn K C (.type "object") = some true
def rXc (K : PySem.W.Frag) : List V → Hp → VK → Prop := fun xs H Q => ∃ (a C : Addr) (d : Option Addr) (c : V) (u : Value) (b : Bool), xs = [.ref a, c] ∧ ClsV c u ∧ H a = some (ExC (.ref C) d a) ∧ Dct H d ∧ XcC K C ∧ PySem.W.kitOne K (.ref C) u = some b ∧ Q (.bl b) H
theorem call_xc {X : Cx} : CallR X (.builtin "isinstance") (rXc X.K) := by
  intro pins s σ H xs us Q I r h
  obtain ⟨a, C, d, c, u, b, rfl, k, xa, xd, T, e, q⟩ := h
  obtain ⟨u1, u2, rfl, r1, r2⟩ := vals2 r
  have e2 := k.eq r2
  subst e2
  obtain rfl : u1 = Value.ref a := r1
  obtain ⟨ox, od, J⟩ := inst_of I xa xd
  exact PySem.W.kia_one (PySem.W.kitx_exc T.hcl T.hga T.hgt T.hsub T.ha T.hn T.htk T.hm) I.kIn J e (fun z => nomatch z) fun tk => ⟨.bl b, H, I.tok tk, rfl, q⟩
/-- e.f, e a caught error -/
def tXcF (K : PySem.W.Frag) (f : Str) (te : TE) : TE := fun σ H Q => te σ H fun x H1 => ∃ (a C d : Addr) (fs : List (Str × V)) (v : V), x = .ref a ∧ H1 a = some (ExC (.ref C) (some d) a) ∧ H1 d = some (.xd fs) ∧ XcC K C ∧ PySem.W.findIn K (.ref C) f = some none ∧ fs.lookup f = some v ∧ Q v H1
theorem pe_xcF {X : Cx} {e : Expr} {te : TE} {pos : Pos} {n : Str} (he : PE X e te) (hb : attributeBase e n X.env (eval e X.env) = eval e X.env := by rfl) : PE X (.Attribute e n pos) (tXcF X.K n te) := by
  refine ⟨fun pins s σ H Q I h => attr_of hb (thn (he.run pins s σ H _ I h) fun u s1 ⟨x, H1, J, rx, a, C, d, fs, v, ex, ea, ed, T, own, l, q⟩ => ?_)⟩
  subst ex
  obtain rfl : u = Value.ref a := rx
  obtain ⟨⟨oe, vs, ho, hz, hf⟩, _, _⟩ := J.hok a _ ea
  obtain ⟨mA, hns, rel⟩ := (show ObjOk X.prog X.w H1 s1.heap d (.xd fs) from J.hok d _ ed)
  obtain ⟨od, hod, found⟩ := lookIn_ns hns
  obtain ⟨u2, hu, ru⟩ := RelO.some_of (v := v) (o := mA n) (l ▸ rel n)
  have at_ : PySem.W.InstAt s1.heap a oe C (some od) := ⟨ho, hz.1, by unfold PySem.W.notCls; rw [hf], by rw [hz.2]; exact hod⟩
  exact HandSPX.exc_get J.kIn at_ T.hga T.hgt T.hsub (PySem.W.findObj_own T.hdct own rfl (by rw [found, hu])) (handed_of ru) ⟨v, H1, J.tok _, ru, q⟩
end EXC
/-! operators of own classes, for instances with a dict or with slots -/
namespace OpX
open PySem PySem.Spec PyProof.Rows L2 StX
section
variable {prog : Program} {w : World} {A : Around} {E : Value → Shared → Prop} {s : Shared} {K : PySem.W.Frag} {x y C f L : Addr} {h₀ : Heap} {m : Str → Option Value} {ox oy : Obj} {od od' : Option Obj}
/-- some answer came -/
def Told (Q : Value → Shared → Prop) (r : Option Value) (s' : Shared) : Prop := ∃ v, r = some v ∧ Q v s'
/-- what an operator's first try told is the operator's word -/
theorem told_pure {M : Model} {B : Around} {F : Value → Shared → Prop} {Q : Value → Shared → Prop} {t : Sem (Option Value)} {k : Option Value → Sem Value} {s' : Shared} (h : wpAny M B t (Told Q) F s') (hk : ∀ v, k (some v) = pure v) : wpAny M B (t >>= k) Q F s' :=
  wpAny_bind (wpAny_mono h (fun r s'' ⟨v, e, q⟩ => by rw [e, hk]; exact wpAny_pure q) fun _ _ z => z)
open Builtin in
/-- object's own != asks the class's == and turns its bool about -/
theorem turned {Q : Value → Shared → Prop} {b : Value} (hu : A.in1.units < cLine) (X : K.In s.heap) (I : PySem.W.InstAt s.heap x ox C od) (hm : PySem.W.mroIn K C (.type "object") = some true)
    (hs : PySem.W.findIn K (.ref C) "__eq__" = some (some (.ref f))) (hf : PySem.W.isFn K (.ref f) = true)
    (h : wpAny (model prog w) A.in1 (call (.ref f) [.ref x, b]) (fun r s' => ∃ c, r = .bool c ∧ Q (.bool (!c)) s') E s) : wpAny (model prog w) A (call (.builtin "object.__ne__") [.ref x, b]) Q E s := by
  refine wpAny_call (codeAny_call_builtin PySem.F.slot_object_ne.plain PySem.F.entry_object_ne (PySem.W.check_slot (i := "object.__ne__") (owner := "object") (n := "__ne__") (by decide +kernel) (by decide +kernel) (I.type.andThen (PySem.W.looks_mroIn X hm)) (PySem.F.args_object_ne_2 _ _) ?_))
  show wpAny _ _ (Builtin.«object.__ne__» _) _ _ _
  unfold Builtin.«object.__ne__»
  exact wpAny_bind (m := slotArgs "__ne__" 1 _) (wpAny_pure (wpAny_bind (m := cRoomFor _ _) (wpAny_cRoomFor hu (wpAny_bind (m := callSpecialIfBound? (.ref x) (Str.ofString "__eq__") _)
    (PySem.W.ifBound_K X I hs hf (wpAny_mono h (fun r s' ⟨c, e, q⟩ => by
      subst e
      exact wpAny_bind (m := truthy (.bool c)) (wpAny_truthy_bool (wpAny_pure q))) fun _ _ z => z))))))
/-- x != y, both of one class that has an own == and object's != -/
theorem ne_same {Q : Value → Shared → Prop} (hu : A.units < cLine) (hu1 : A.in1.units < cLine) (X : K.In s.heap) (I : PySem.W.InstAt s.heap x ox C od) (J : PySem.W.InstAt s.heap y oy C od')
    (hne : PySem.W.findIn K (.ref C) "__ne__" = some (some (.builtin "object.__ne__"))) (hm : PySem.W.mroIn K C (.type "object") = some true) (hs : PySem.W.findIn K (.ref C) "__eq__" = some (some (.ref f))) (hf : PySem.W.isFn K (.ref f) = true)
    (h : wpAny (model prog w) A.in1 (call (.ref f) [.ref x, .ref y]) (fun r s' => ∃ c, r = .bool c ∧ Q (.bool (!c)) s') E s) : wpAny (model prog w) A (richCompare .NotEq (.ref x) (.ref y)) Q E s := by
  have word := turned (Q := fun v s' => Q v s' ∧ ∃ c, v = .bool c) hu1 X I hm hs hf (wpAny_mono h (fun r s' ⟨c, e, q⟩ => ⟨c, e, q, _, rfl⟩) fun _ _ z => z)
  have bnd : PySem.W.Looks (model prog w) s.heap (bindSpecial (.builtin "object.__ne__") (.ref x)) (.builtin "object.__ne__", [.ref x]) := PySem.W.Looks.of_pure (PySem.F.slot_object_ne.bind _)
  have asked : wpAny (model prog w) A (call (.builtin "object.__ne__") ([.ref x] ++ [.ref y]) >>= fun v => pure (some v)) (Told fun v s' => Q v s' ∧ ∃ c, v = .bool c) E s := wpAny_bind (wpAny_mono word (fun v s' q => wpAny_pure ⟨v, rfl, q⟩) fun _ _ z => z)
  have tried : wpAny (model prog w) A (tryCompare (.ref x) (cmpInfo .NotEq).2.1 (.ref y)) (Told Q) E s := by
    unfold tryCompare callSpecialIfBound? bindSpecialIfBound?
    refine wpAny_bind (wpAny_holding (wpAny_bind (wpAny_bind (wpAny_bind (I.type.here ((PySem.W.looks_findIn X hne).here (wpAny_bind (wpAny_askSetting (wpAny_ite ?_)))))))))
    split
    · refine wpAny_bind (bnd.here (wpAny_pure ?_))
      exact wpAny_mono asked (fun r s' ⟨v, e, q, c, ec⟩ => by
        subst e ec
        exact wpAny_pure ⟨_, rfl, q⟩) fun _ _ z => z
    · refine wpAny_tryCatch (wpAny_bind (bnd.here (wpAny_pure ?_)))
      exact wpAny_mono asked (fun r s' ⟨v, e, q, c, ec⟩ => by
        subst e ec
        exact wpAny_pure ⟨_, rfl, q⟩) fun _ _ z => z
  have same : (Value.ref C != Value.ref C) = false := by simp
  unfold richCompare
  rw [oneThing_ref]
  refine wpAny_holding (wpAny_bind (wpAny_cRoomFor hu (wpAny_bind (I.type.here (wpAny_bind (J.type.here ?_))))))
  rw [same, if_neg Bool.false_ne_true]
  exact wpAny_bind (wpAny_pure (told_pure tried fun _ => rfl))
end
section
variable {X : Cx} {CX : CXT} {n : Nat} {C g : Addr} {sp : Sp} {E : XK}
/-- x op y: both of the class at C -/
def rS (X : Cx) (C : Addr) (sp : Sp) (E : XK) : R2 := fun x y H Q => ∃ a b, x = .ref a ∧ y = .ref b ∧ InsC X H a C ∧ InsC X H b C ∧ sp [.ref a, .ref b] H Q E
/-- x op i: x of the class at C, i an int -/
def rI (X : Cx) (C : Addr) (sp : Sp) (E : XK) : R2 := fun x y H Q => ∃ a i, x = .ref a ∧ y = .int i ∧ InsC X H a C ∧ sp [.ref a, .int i] H Q E
/-- i op x: the reflected one -/
def rR (X : Cx) (C : Addr) (sp : Sp) (E : XK) : R2 := fun x y H Q => ∃ a i, x = .int i ∧ y = .ref a ∧ InsC X H a C ∧ sp [.ref a, .int i] H Q E
/-- the def of an operator -/
structure Has (K : PySem.W.Frag) (C g : Addr) (name : Str) : Prop where
  at_ : PySem.W.findIn K (.ref C) name = some (some (.ref g))
  fn : PySem.W.isFn K (.ref g) = true
theorem run_own {pins : List (Addr × Obj)} {σ : L2.St} {H : Hp} {s : Shared} {Q : VK} {us : List Value} {vs : List V} (F : FnR X.prog X.w X.K X.mg X.base CX n g sp) (hr : Room n X.A) (hx : Passes CX X E) (I : Inv X pins σ H s) (r : Vals vs us)
    (q : sp vs H Q E) : wpAny (model X.prog X.w) X.A (call (.ref g) us) (PySem.W.CmpBack (EP X pins σ Q)) X.xe s := by
  refine wpAny_mono (wpAny_call (run_fnR F hr hx I r q)) (fun w s' z => ?_) fun _ _ x => x
  obtain ⟨z', H', I', rz, qz⟩ := z
  exact SlX.cmpback rz ⟨z', H', I', rz, qz⟩
theorem op_binS {op : Operator} (hc : PySem.W.selfFirst X.K C = true) (h : Has X.K C g (PySem.dunder op.info.2)) (F : FnR X.prog X.w X.K X.mg X.base CX n g sp) (hr : Room n X.A) (hx : Passes CX X E) :
    OpR X (binaryOp op) (rS X C sp E) := by
  intro pins s σ H x y v u Q I rx ry hq
  obtain ⟨a, b, rfl, rfl, ha, hb, q⟩ := hq
  cases (show v = Value.ref a from rx)
  cases (show u = Value.ref b from ry)
  obtain ⟨ox, od, J, _⟩ := insC_at I ha
  obtain ⟨ox', od', J', _⟩ := insC_at I hb
  obtain ⟨m, hF⟩ := I.fr
  exact PySem.W.binop_K hF I.ok.mod.kin J J'.type hc h.at_ h.fn (run_own (us := [.ref a, .ref b]) (vs := [.ref a, .ref b]) F hr hx I (.cons rfl (.cons rfl .nil)) q)
theorem op_binI {op : Operator} {fo ro rc : Option Value} (hc : PySem.W.selfFirst X.K C = true) (h : Has X.K C g (PySem.dunder op.info.2)) (hrf : PySem.W.findIn X.K (.ref C) (dunderR op.info.2) = some rc) (hp : rc = none ∨ ∃ g : Addr, rc = some (.ref g))
    (h1 : PySem.W.findIn X.K (.type "int") (PySem.dunder op.info.2) = some fo) (h2 : PySem.W.findIn X.K (.type "int") (dunderR op.info.2) = some ro) (hsub : PySem.W.subIn X.K (.type "int") (.ref C) = some false)
    (F : FnR X.prog X.w X.K X.mg X.base CX n g sp) (hr : Room n X.A) (hx : Passes CX X E) : OpR X (binaryOp op) (rI X C sp E) := by
  intro pins s σ H x y v u Q I rx ry hq
  obtain ⟨a, i, rfl, rfl, ha, q⟩ := hq
  cases (show v = Value.ref a from rx)
  obtain ⟨t, e⟩ := (show ∃ t, u = Value.int i t from ry)
  subst e
  obtain ⟨ox, od, J, _⟩ := insC_at I ha
  obtain ⟨m, hF⟩ := I.fr
  exact PySem.W.ksp_binT (T := "int") hF I.ok.mod.kin J rfl hc h.at_ h.fn hrf hp h1 h2 hsub (run_own (us := [.ref a, .int i t]) (vs := [.ref a, .int i]) F hr hx I (.cons rfl (.cons ⟨t, rfl⟩ .nil)) q)
/-- x == y: x of the class at C; y an instance of a class that is not below C -/
def rEqO (X : Cx) (C : Addr) (sp : Sp) (E : XK) : R2 := fun x y H Q => ∃ a b C', x = .ref a ∧ y = .ref b ∧ InsC X H a C ∧ InsC X H b C' ∧ PySem.W.notFirst X.K C (.ref C') = true ∧ sp [.ref a, .ref b] H Q E
theorem op_eqO {op : CmpOp} (hop : ∀ a b, compareOp op a b = richCompare op a b) (h : Has X.K C g (cmpInfo op).2.1) (F : FnR X.prog X.w X.K X.mg X.base CX n g sp)
    (hr : Room n X.A) (hx : Passes CX X E) : OpR X (compareOp op) (rEqO X C sp E) := by
  intro pins s σ H x y v u Q I rx ry hq
  obtain ⟨a, b, C', rfl, rfl, ha, hb, hn, q⟩ := hq
  cases (show v = Value.ref a from rx)
  cases (show u = Value.ref b from ry)
  obtain ⟨ox, od, J, _⟩ := insC_at I ha
  obtain ⟨ox', od', J', _⟩ := insC_at I hb
  obtain ⟨m, hF⟩ := I.fr
  rw [hop]
  exact PySem.W.cmp_K (op := op) (tb := .ref C') hr.units0 hF I.ok.mod.kin J J'.type hn h.at_ h.fn (run_own (us := [.ref a, .ref b]) (vs := [.ref a, .ref b]) F hr hx I (.cons rfl (.cons rfl .nil)) q)
/-- x != y, both of the class at C, which has an own == -/
def rNeO (X : Cx) (C : Addr) (sp : Sp) (E : XK) : R2 := fun x y H Q => ∃ a b, x = .ref a ∧ y = .ref b ∧ InsC X H a C ∧ InsC X H b C ∧ sp [.ref a, .ref b] H (fun v H' => ∃ c, v = .bl c ∧ Q (.bl (!c)) H') E
theorem op_neO (h : Has X.K C g "__eq__") (hne : PySem.W.findIn X.K (.ref C) "__ne__" = some (some (.builtin "object.__ne__"))) (hm : PySem.W.mroIn X.K C (.type "object") = some true) (F : FnR X.prog X.w X.K X.mg X.base CX n g sp)
    (hr : Room (n + 1) X.A) (hx : Passes CX X E) : OpR X (compareOp .NotEq) (rNeO X C sp E) := fun pins s σ H x y v u Q I rx ry ⟨a, b, ex, ey, ha, hb, q⟩ => by
  subst ex ey
  cases (show v = Value.ref a from rx)
  cases (show u = Value.ref b from ry)
  obtain ⟨ox, od, J, _⟩ := insC_at I ha
  obtain ⟨ox', od', J', _⟩ := insC_at I hb
  refine ne_same hr.units0 hr.in1.units0 I.kIn J J' hne hm h.at_ h.fn (wpAny_mono (wpAny_call (SlX.run_at (us := [.ref a, .ref b]) (ws := [.ref a, .ref b]) F hr.in1 I.env0.in1 hx I (.cons rfl (.cons rfl .nil)) q)) (fun r s' back => ?_) fun _ _ z => z)
  obtain ⟨_, H', I', rr, c, ec, qc⟩ := back
  subst ec
  cases (show r = Value.bool c from rr)
  exact ⟨c, rfl, .bl (!c), H', I', rfl, qc⟩
end
end OpX
/-! a static method called off its class -/
namespace StM
open PySem PySem.Spec PyProof.Rows L2 ClX
/-- C.m is a staticmethod: its record at p, its def at g -/
structure SMet (K : PySem.W.Frag) (C : Addr) (mc : Value) (m : Str) (p g : Addr) : Prop where
  at_ : PySem.W.findCls K (.ref C) mc m = some (.get (.builtin "staticmethod.__get__") (.ref p) .none (.ref C))
  rc : ∃ rest, PySem.W.recIn K p "staticmethod" = some (.ref g :: rest)
  kp : PySem.W.keepIn K (.ref g) = true
/-- e.m(..), e the class at C -/
def tSMeth (C : Addr) (sp : Sp) (E : XK) (ta : TE) (t : TA) : TE := fun σ H Q => ta σ H fun x H1 => x = .ref C ∧ t σ H1 fun vs H2 => sp vs H2 Q E
section
variable {X : Cx} {CX : CXT} {k : Nat} {C p g : Addr} {mc : Value} {sp : Sp} {E : XK} {o e : Expr} {es : List Expr} {m : Str} {pos apos : Pos} {ta : TE} {t : TA} {pl : Sem Bool}
theorem pe_smeth (he : PE X o ta) (r : CRead X.K C mc) (c : SMet X.K C mc m p g) (F : FnR X.prog X.w X.K X.mg X.base CX k g sp) (hr : Room k X.A) (hx : Passes CX X E) (ha : PA X (e :: es) t)
    (hst : starEach (e :: es) X.env = (false, eval e X.env) :: starEach es X.env := by rfl) (hpl : (backTo pos (starEach es X.env)).any (·.1) = false := by rfl)
    (ht : eval (.Call (.Attribute o m apos) (e :: es) [] pos) X.env = (do
      let ov ← eval o X.env
      standAt apos.atName
      let (f, first) ← holding [ov] (getMethod ov m pl)
      callWith pos f first (backTo pos (starEach (e :: es) X.env)) (backToKw pos (keywordEach [] X.env))) := by rfl) :
    PE X (.Call (.Attribute o m apos) (e :: es) [] pos) (tSMeth C sp E ta t) := by
  refine ⟨fun pins s σ H Q I h => ?_⟩
  refine PySem.W.methodCall_KW (pl := pl) (thn (he.run pins s σ H _ I h) fun u s1 ⟨x, H1, I1, rx, ex, q⟩ => ?_) ht
  subst ex
  obtain rfl : u = Value.ref C := rx
  obtain ⟨rest, hp⟩ := c.rc
  refine PySem.W.method_cls I1.kIn r.ga (PySem.W.cls_bind I1.kIn r.rd c.at_ ?_)
  refine wpAny_call (PySem.W.sm_get (s := { s1 with toks := s1.toks + 1 }) I1.kIn hp (PySem.W.handed_on rfl ?_))
  have I2 : Inv X pins σ H1 { s1 with toks := s1.toks + 1 } := I1.tok _
  refine PySem.W.callWith_K (h₀ := X.base) I2.ok.mod.kin c.kp (thn (ha.run pos pins _ σ H1 _ I2 q) fun us s3 ⟨vs, H2, I3, rv, q2⟩ => ⟨I3.kIn, ?_⟩) hst hpl
  exact wpAny_call (run_fnR (us := us) (vs := vs) F hr hx I3 rv q2)
end
end StM
/-! str of an own instance; str of an int or a text; C.m() of a static method; o.m(k = v) -/
namespace OwX
open PySem PySem.Spec PyProof.Rows L2 ClX StX
/-- a class's own __str__ -/
structure StrIn (K : PySem.W.Frag) (C g : Addr) : Prop where
  there : PySem.W.findIn K (.ref C) "__str__" = some (some (.ref g))
  isDef : PySem.W.isFn K (.ref g) = true
section
variable {X : Cx} {CX : CXT} {n : Nat} {C g : Addr} {sp : Sp} {E : XK}
theorem call_strI (c : StrIn X.K C g) (F : FnR X.prog X.w X.K X.mg X.base CX n g sp) (hr : Room (n + 2) X.A) (hx : Passes CX X E) :
    CallR X (.type "str") (fun xs H Q => ∃ a, xs = [.ref a] ∧ InsC X H a C ∧ sp [.ref a] H (fun v H' => ∃ y, v = .str y ∧ Q v H') E) := by
  intro pins s σ H xs us Q I r h
  obtain ⟨a, rfl, ha, q⟩ := h
  obtain ⟨u, rfl, ru⟩ := vals1 r
  cases (show u = Value.ref a from ru)
  obtain ⟨ox, od, J, _⟩ := insC_at I ha
  refine PySem.W.kso_call hr.in1.in1.units0 I.kIn J c.there c.isDef ?_
  refine wpAny_mono (wpAny_call (SlX.run_at (us := [.ref a]) (ws := [.ref a]) F hr.in1.in1 I.env0.in1.in1 hx I (.cons rfl .nil) q)) (fun v s' back => ?_) fun _ _ z => z
  obtain ⟨v', H', I', rv, y, ey, qy⟩ := back
  subst ey
  obtain ⟨t, et⟩ := (show ∃ t, v = Value.str y t from rv)
  subst et
  exact ⟨.str y, H', I', ⟨t, rfl⟩, qy⟩
/-- of an int that is not too long, and of a text -/
theorem call_strV : CallR X (.type "str") (fun xs H Q => (∃ i, xs = [.int i] ∧ i.natAbs.log2 < 1920 ∧ Q (.str (toString i)) H) ∨ ∃ a, xs = [.str a] ∧ Q (.str a) H) := fun pins s σ H xs us Q I r h =>
  h.elim (fun hi => call_str_int pins s σ H xs us Q I r hi) fun ha => SkE.call_str_str pins s σ H xs us Q I r ha
end
section
variable {X : Cx} {k : Nat} {C p f : Addr} {mc : Value} {fd : FuncData} {ps ks : List Str} {sp : Sp} {o : Expr} {m : Str} {pos apos : Pos} {ta : TE} {tk : TA} {pl : Sem Bool} {kws : List Keyword} {g : List Value → List Value → List Value} {gV : List V → List V → List V}
/-- o.m(k = v, ..), keywords alone -/
theorem pe_methKw (he : PE X o ta) (c : Cls X.K C) (hm : Meth X.K C m f) (F : FnOk X.prog X.w X.K X.mg X.base CX0 k f fd ps sp) (hr : Room k X.A) (hb : KBn X.K fd ps 1 ks g gV) (hkw : PK X kws tk)
    (some_ : (backToKw pos (keywordEach kws X.env)).all (·.1.isSome) = true := by rfl) (names : (backToKw pos (keywordEach kws X.env)).filterMap (·.1) = ks := by rfl)
    (none_ : ((backTo pos (starEach [] X.env)).any (·.1) || (backToKw pos (keywordEach kws X.env)).any (·.1.isNone)) = false := by rfl)
    (form : eval (.Call (.Attribute o m apos) [] kws pos) X.env = (do let ov ← eval o X.env; standAt apos.atName; let (f, first) ← holding [ov] (getMethod ov m pl); callWith pos f first (backTo pos (starEach [] X.env)) (backToKw pos (keywordEach kws X.env))) := by rfl) :
    PE X (.Call (.Attribute o m apos) [] kws pos) (fun σ H Q => ta σ H fun x H1 => ∃ a dx fs, x = .ref a ∧ H1 a = some (.ins C dx fs) ∧ fs.lookup m = none ∧ tk σ H1 fun zs H2 => zs.length = ks.length ∧ sp (gV [.ref a] zs) H2 Q E0) := by
  refine ⟨fun pins s σ H Q I h => PySem.W.methodCall_KW (pl := pl) (thn (he.run pins s σ H _ I h) fun u s1 ⟨x, H1, J, rx, a, dx, fs, ex, ea, l, q⟩ => ?_) form⟩
  subst ex
  cases (show u = Value.ref a from rx)
  refine getmeth_ok J ea c hm l (PySem.W.callWith_KW0 (first := [.ref a]) (h₀ := X.base) J.ok.mod.kin hm.kp some_ ?_ none_)
  refine thn (hkw.run pos pins s1 σ H1 _ J q) fun ws s2 ⟨zs, H2, J2, rz, l2, q2⟩ => ⟨J2.kIn, ?_⟩
  rw [names]
  exact run_fnN (us := [.ref a]) (vs := [.ref a]) F hr hb pass0 J2 (.cons rfl .nil) rz rfl l2 q2
end
end OwX
/-! x == y, y a tuple; C.m(k = v, ..) of a static method -/
namespace EqT
open PySem PySem.Spec PyProof.Rows L2 StX OpX
section
variable {X : Cx} {CX : CXT} {n : Nat} {C g : Addr} {sp : Sp} {E : XK}
/-- x == y: x of the class at C; y a tuple -/
def rEqT (X : Cx) (C : Addr) (sp : Sp) (E : XK) : R2 := fun x y H Q => ∃ a b ys, x = .ref a ∧ y = .ref b ∧ InsC X H a C ∧ SqT X.K H b ys ∧ PySem.W.notFirst X.K C (.type "tuple") = true ∧ sp [.ref a, .ref b] H Q E
theorem op_eqT {op : CmpOp} (hop : ∀ a b, compareOp op a b = richCompare op a b) (h : Has X.K C g (cmpInfo op).2.1) (F : FnR X.prog X.w X.K X.mg X.base CX n g sp)
    (hr : Room n X.A) (hx : Passes CX X E) : OpR X (compareOp op) (rEqT X C sp E) := by
  intro pins s σ H x y v u Q I rx ry hq
  obtain ⟨a, b, ys, rfl, rfl, ha, hb, hn, q⟩ := hq
  cases (show v = Value.ref a from rx)
  cases (show u = Value.ref b from ry)
  obtain ⟨ox, od, J, _⟩ := insC_at I ha
  obtain ⟨its, rv, ⟨o, ho, hc, nn, hd⟩, _⟩ := I.tuple hb
  have ty : PySem.W.Looks (model X.prog X.w) s.heap (typeOf (.ref b)) (.type "tuple") := fun A Q E s k q => wpAny_typeOf_ref (k _ _ ho) (by rw [hc]; exact q)
  obtain ⟨m, hF⟩ := I.fr
  rw [hop]
  exact PySem.W.cmp_K (op := op) (tb := .type "tuple") hr.units0 hF I.ok.mod.kin J ty hn h.at_ h.fn (run_own (us := [.ref a, .ref b]) (vs := [.ref a, .ref b]) F hr hx I (.cons rfl (.cons rfl .nil)) q)
end
end EqT
namespace StM
open PySem PySem.Spec PyProof.Rows L2 ClX
/-- e.m(k = v, ..), e the class at C -/
def tSMethK (C : Addr) (n : Nat) (sp : Sp) (gV : List V → List V → List V) (E : XK) (ta : TE) (tk : TA) : TE := fun σ H Q => ta σ H fun x H1 => x = .ref C ∧ tk σ H1 fun zs H2 => zs.length = n ∧ sp (gV [] zs) H2 Q E
section
variable {X : Cx} {k : Nat} {C p f : Addr} {mc : Value} {fd : FuncData} {ps ks : List Str} {sp : Sp} {o : Expr} {m : Str} {pos apos : Pos} {ta : TE} {tk : TA} {pl : Sem Bool} {kws : List Keyword} {g : List Value → List Value → List Value} {gV : List V → List V → List V}
theorem pe_smethK (he : PE X o ta) (r : CRead X.K C mc) (c : SMet X.K C mc m p f) (F : FnOk X.prog X.w X.K X.mg X.base CX0 k f fd ps sp) (hr : Room k X.A) (hb : KBn X.K fd ps 0 ks g gV) (hkw : PK X kws tk)
    (some_ : (backToKw pos (keywordEach kws X.env)).all (·.1.isSome) = true := by rfl) (names : (backToKw pos (keywordEach kws X.env)).filterMap (·.1) = ks := by rfl)
    (none_ : ((backTo pos (starEach [] X.env)).any (·.1) || (backToKw pos (keywordEach kws X.env)).any (·.1.isNone)) = false := by rfl)
    (form : eval (.Call (.Attribute o m apos) [] kws pos) X.env = (do let ov ← eval o X.env; standAt apos.atName; let (f, first) ← holding [ov] (getMethod ov m pl); callWith pos f first (backTo pos (starEach [] X.env)) (backToKw pos (keywordEach kws X.env))) := by rfl) :
    PE X (.Call (.Attribute o m apos) [] kws pos) (tSMethK C ks.length sp gV E0 ta tk) := by
  refine ⟨fun pins s σ H Q I h => PySem.W.methodCall_KW (pl := pl) (thn (he.run pins s σ H _ I h) fun u s1 ⟨x, H1, J, rx, ex, q⟩ => ?_) form⟩
  subst ex
  cases (show u = Value.ref C from rx)
  obtain ⟨rest, hp⟩ := c.rc
  refine PySem.W.method_cls J.kIn r.ga (PySem.W.cls_bind J.kIn r.rd c.at_ (wpAny_call (PySem.W.sm_get (s := { s1 with toks := s1.toks + 1 }) J.kIn hp (PySem.W.handed_on rfl ?_))))
  have J2 : Inv X pins σ H1 { s1 with toks := s1.toks + 1 } := J.tok _
  refine PySem.W.callWith_KW0 (first := []) (h₀ := X.base) J2.ok.mod.kin c.kp some_ ?_ none_
  refine thn (hkw.run pos pins _ σ H1 _ J2 q) fun ws s2 ⟨zs, H2, I2, rz, l2, q2⟩ => ⟨I2.kIn, ?_⟩
  rw [names]
  exact run_fnN (us := []) (vs := []) F hr hb pass0 I2 .nil rz rfl l2 q2
end
end StM
/-! texts in order: one row only -/
namespace StO
open PySem PySem.Spec PyProof.Rows L2
def lt (a b : Str) : Prop := ltCps a.cps.toList b.cps.toList = true
theorem lt_iff {a b : Str} : lt a b ↔ a.cps.toList < b.cps.toList := by
  unfold lt
  rw [ltCps_eq, decide_eq_true_iff]
theorem str_ext {a b : Str} (h : a.cps.toList = b.cps.toList) : a = b := by
  cases a
  cases b
  simp only [Str.mk.injEq]
  exact Array.toList_inj.mp h
theorem lt_irr (a : Str) : ¬ lt a a := fun h => List.lt_irrefl _ (lt_iff.mp h)
theorem lt_tr {a b c : Str} (h : lt a b) (h' : lt b c) : lt a c := lt_iff.mpr (List.lt_trans (lt_iff.mp h) (lt_iff.mp h'))
theorem lt_of_ne {a b : Str} (h : ¬ lt b a) (n : a ≠ b) : lt a b := by
  rw [lt_iff] at h ⊢
  have le : a.cps.toList ≤ b.cps.toList := List.not_lt.mp h
  by_cases z : a.cps.toList < b.cps.toList
  · exact z
  · exact absurd (str_ext (List.le_antisymm le (List.not_lt.mp z))) n
/-- rising, each once -/
theorem chain : ∀ (p : Str) (l : List Str), risingS p l = true → (p :: l).Nodup → (p :: l).Pairwise lt
  | p, [], _, _ => List.pairwise_singleton ..
  | p, x :: r, h, d => by
    have h : (!ltCps x.cps.toList p.cps.toList && risingS x r) = true := h
    obtain ⟨h1, h2⟩ := Bool.and_eq_true_iff.mp h
    obtain ⟨d1, d2⟩ := List.nodup_cons.mp d
    have ih := chain x r h2 d2
    have px : lt p x := lt_of_ne (fun z => by
      have z : ltCps x.cps.toList p.cps.toList = true := z
      rw [z] at h1
      cases h1) fun z => d1 (z ▸ List.mem_cons_self)
    refine List.pairwise_cons.mpr ⟨fun y hy => ?_, ih⟩
    rcases List.mem_cons.mp hy with rfl | hy
    · exact px
    · exact lt_tr px ((List.pairwise_cons.mp ih).1 y hy)
theorem rows {l : List Str} (h : sortedS l = true) (d : l.Nodup) : l.Pairwise lt := by
  cases l with
  | nil => exact List.Pairwise.nil
  | cons x r => exact chain x r h d
theorem one : ∀ {l m : List Str}, l.Pairwise lt → m.Pairwise lt → (∀ z, z ∈ l ↔ z ∈ m) → l = m
  | [], [], _, _, _ => rfl
  | [], y :: m, _, _, h => absurd ((h y).mpr List.mem_cons_self) (by simp)
  | x :: l, [], _, _, h => absurd ((h x).mp List.mem_cons_self) (by simp)
  | x :: l, y :: m, hl, hm, h => by
    obtain ⟨a1, a2⟩ := List.pairwise_cons.mp hl
    obtain ⟨b1, b2⟩ := List.pairwise_cons.mp hm
    have e : x = y := by
      rcases List.mem_cons.mp ((h x).mp List.mem_cons_self) with z | z
      · exact z
      · rcases List.mem_cons.mp ((h y).mpr List.mem_cons_self) with u | u
        · exact u.symm
        · exact absurd (lt_tr (a1 y u) (b1 x z)) (lt_irr x)
    subst e
    refine congrArg (x :: ·) (one a2 b2 fun z => ?_)
    constructor
    · intro hz
      rcases List.mem_cons.mp ((h z).mp (List.mem_cons_of_mem _ hz)) with rfl | q
      · exact absurd (a1 z hz) (lt_irr z)
      · exact q
    · intro hz
      rcases List.mem_cons.mp ((h z).mpr (List.mem_cons_of_mem _ hz)) with rfl | q
      · exact absurd (b1 z hz) (lt_irr z)
      · exact q
end StO
/-! C.m(k = v) of a class method; x(e, ..), x a name of the def that holds a class -/
namespace ClK
open PySem PySem.Spec PyProof.Rows L2 ClX StX
section
variable {X : Cx} {CX : CXT} {k : Nat} {C p g f : Addr} {mc : Value} {fd : FuncData} {ps ks : List Str} {sp : Sp} {E : XK} {o e : Expr} {es : List Expr} {x m : Str} {pos apos p1 : Pos} {ta : TE} {tk t : TA} {pl : Sem Bool} {kws : List Keyword} {gg : List Value → List Value → List Value} {gV : List V → List V → List V} {i : Nat}
/-- C.m(k = v, ..), keywords alone, m a class method -/
theorem pe_cmethK (he : PE X o ta) (r : CRead X.K C mc) (c : CMet X.K C mc m p g) (F : FnOk X.prog X.w X.K X.mg X.base CX k g fd ps sp) (hr : Room k X.A) (hx : Passes CX X E) (hb : KBn X.K fd ps 1 ks gg gV) (hkw : PK X kws tk)
    (some_ : (backToKw pos (keywordEach kws X.env)).all (·.1.isSome) = true := by rfl) (names : (backToKw pos (keywordEach kws X.env)).filterMap (·.1) = ks := by rfl)
    (none_ : ((backTo pos (starEach [] X.env)).any (·.1) || (backToKw pos (keywordEach kws X.env)).any (·.1.isNone)) = false := by rfl)
    (form : eval (.Call (.Attribute o m apos) [] kws pos) X.env = (do let ov ← eval o X.env; standAt apos.atName; let (f, first) ← holding [ov] (getMethod ov m pl); callWith pos f first (backTo pos (starEach [] X.env)) (backToKw pos (keywordEach kws X.env))) := by rfl) :
    PE X (.Call (.Attribute o m apos) [] kws pos) (fun σ H Q => ta σ H fun x H1 => x = .ref C ∧ tk σ H1 fun zs H2 => zs.length = ks.length ∧ sp (gV [.ref C] zs) H2 Q E) := by
  refine ⟨fun pins s σ H Q I h => PySem.W.methodCall_KW (pl := pl) (thn (he.run pins s σ H _ I h) fun u s1 ⟨x, H1, I1, rx, ex, q⟩ => ?_) form⟩
  subst ex
  cases (show u = Value.ref C from rx)
  refine getmethcm_ok I1 r c fun s2 I2 => ?_
  refine PySem.W.callWith_of (P := PySem.W.MethP X.K s1.heap.objs.size g (.ref C)) none_ (PySem.W.keeps_M c.fi) (PyProof.Rows.evalArgs_kw2_nil some_ (thn (hkw.run pos _ s2 σ H1 _ I2 q) fun ws s3 ⟨zs, H2, I3, rz, l2, q2⟩ => ⟨⟨pin_at I3, I3.kIn⟩, ?_⟩))
  rw [names]
  have went : wpAny (model X.prog X.w) X.A (call (.ref s1.heap.objs.size) [] (ks.zip ws)) (EP X ((s1.heap.objs.size, PySem.W.methodObj (.ref g) (.ref C)) :: pins) σ Q) X.xe s3 := by
    refine wpAny_call (PySem.W.method_call (pin_at I3) (codeAny_mono (F.run X.A X.stack s3 H2 ⟨[.ref C], ks.zip ws⟩ (gg [.ref C] ws) (gV [.ref C] zs) Q E hr I3.env0 (hb.to s3 [.ref C] ws I3.kIn rfl (rz.length.symm.trans l2)) (hb.rel (.cons rfl .nil) rz) q2) fun r s' back => ?_))
    match r, back with
    | .error er, z => exact hx _ _ _ _ _ _ I3 z
    | .ok (.ret u), z => exact I3.after z
    | .ok .next, z => exact z.elim
    | .ok .brk, z => exact z.elim
    | .ok .cont, z => exact z.elim
  exact thn went fun _ _ y => unpinE y
/-- x(e, ..), x a name of the def (slot i) that holds the class at C -/
def tMakeL (i : Nat) (C : Addr) (sp : Sp) (E : XK) (t : TA) : TE := fun σ H Q => σ[i]? = some (some (.ref C)) ∧ tMakeR C sp E t σ H Q
theorem pe_makeL (M : Mk X.K C f) (F : FnR X.prog X.w X.K X.mg X.base CX k f sp) (hr : Room (k + 1) X.A) (hN : X.N[i]? = some x) (hv : Vis X.env.scope x) (hx : Passes CX X E) (ha : PA X (e :: es) t)
    (notDebug : (x == ("__debug__" : Str)) = false := by decide) (notDict : (x == ("__classdict__" : Str)) = false := by decide)
    (head : starEach (e :: es) X.env = (false, eval e X.env) :: starEach es X.env := by rfl) (plain : (backTo pos (starEach es X.env)).any (·.1) = false := by rfl) : PE X (.Call (.Name x p1) (e :: es) [] pos) (tMakeL i C sp E t) := by
  refine ⟨fun pins s σ H Q I ⟨hs, h⟩ => ?_⟩
  refine wpAny_Call_Name_kw (thn ((pe_var (pos := p1) (i := i) hN hv notDebug notDict).run pins s σ H (fun v H1 => v = .ref C ∧ H1 = H) I ⟨.ref C, hs, rfl, rfl⟩) fun u s1 ⟨v, H1, I1, r1, ev, eH⟩ => ?_)
  subst ev eH
  cases (show u = Value.ref C from r1)
  exact PySem.W.callWith_K (h₀ := X.base) I1.ok.mod.kin M.kp (thn (ha.run pos pins s1 σ _ _ I1 h) fun us s2 ⟨vs, H2, I2, r, q⟩ => ⟨I2.kIn, run_makeR M F hr hx I2 r q⟩) head plain
end
/-- nothing is let out where nothing is wished -/
theorem passN {P : Program} {w : World} {X : Cx} (hp : X.prog = P) (hw : X.w = w) : Passes (L2.CX P w) X E0 := fun _ _ _ _ _ _ _ ⟨_, _, _, _, _, _, _, _, _, _, _, _, z⟩ => z.elim
end ClK
/-! operators of own classes: an int on the left, +=, in, len, truth, [] -/
namespace OpX
open PySem PySem.Spec PyProof.Rows L2 StX
section
variable {prog : Program} {w : World} {A : Around} {E : Value → Shared → Prop} {s : Shared} {K : PySem.W.Frag} {x C f L : Addr} {h₀ : Heap} {m : Str → Option Value} {ox : Obj} {od : Option Obj} {b tb : Value}
open Builtin in
/-- an int does not know an instance -/
theorem intMul_ref {Q : Value → Shared → Prop} {i : Int} {t : Tok} (ho : s.heap.get? x = some ox) (hd : ox.data = .plain) (h : Q .notImplemented s) : wpAny (model prog w) A (call (.builtin "int.__mul__") [.int i t, .ref x]) Q E s := by
  refine wpAny_call (codeAny_call_builtin PySem.F.slot_int_mul.plain PySem.F.entry_int_mul (PySem.F.slot_int_mul.check _ _ _ _ _ _ _ _ (typeIs_int _ _ _) (PySem.F.args_int_mul_2 _ _) ?_))
  unfold Builtin.«int.__mul__»
  unfold Int.intBinary
  refine wpAny_bind (m := slotArgs "__mul__" 1 _) (wpAny_pure ?_)
  refine wpAny_bind (m := Int.intOfSelf _) (wpAny_bind (m := asInt? _) (wpAny_pure (wpAny_pure ?_)))
  refine wpAny_bind (m := asInt? (.ref x)) (wpAny_bind (wpAny_load ho ?_))
  rw [hd]
  exact wpAny_pure (wpAny_bind (wpAny_rule (wpAny_pure h)))
/-- i * x, x of a class with * on both sides: an int declines, the class's reflected one is asked -/
theorem bin1_rint {i : Int} {t : Tok} {g : Addr} {Q : Value → Shared → Prop} (X : K.In s.heap) (I : PySem.W.InstAt s.heap x ox C od) (hd : ox.data = .plain) (hc : PySem.W.selfFirst K C = true) (hm : PySem.W.findIn K (.ref C) (PySem.dunder "mul") = some (some (.ref g)))
    (hs : PySem.W.findIn K (.ref C) (dunderR "mul") = some (some (.ref f))) (hf : PySem.W.isFn K (.ref f) = true) (hsub : PySem.W.subIn K (.ref C) (.type "int") = some false)
    (h : wpAny (model prog w) A (call (.ref f) [.ref x, .int i t]) (PySem.W.CmpBack Q) E s) : wpAny (model prog w) A (binaryOp1 "mul" (.int i t) (.ref x)) (Told Q) E s := by
  obtain ⟨cd, rest, hcd, hmm⟩ := PySem.W.ksp_first hc
  have mine := PySem.W.fills_K (M := model prog w) X hcd hmm hm
  have apart := PySem.W.looks_subIn (M := model prog w) X hsub
  have plainInt : numberSlotInPython (.type "int") "mul" = pure false := rfl
  have unlike : (Value.type "int" == Value.ref C) = false := by simp
  have answer := PySem.W.ksp_try (name := dunderR "mul") X I hs hf h
  unfold binaryOp1
  refine wpAny_bind (wpAny_typeOf (typeIs_int _ _ _) (wpAny_bind (I.type.here (wpAny_bind (wpAny_of_eq PySem.F.fills_int_mul ?_)))))
  simp only [unlike, Bool.false_eq_true, if_false]
  refine wpAny_bind (mine.here ?_)
  simp only [Bool.and_self, if_true]
  refine wpAny_bind (apart.here ?_)
  simp only [plainInt, Bool.not_false, Bool.and_self, Bool.false_eq_true, if_true, if_false, pure_bind]
  refine wpAny_bind (wpAny_tryMethod_declines (typeIs_int _ _ _) PySem.F.slot_int_mul (intMul_ref I.at_ hd ⟨rfl, ?_⟩))
  simp only [pure_bind]
  exact wpAny_bind (wpAny_mono answer (fun r s' ⟨v, e, q⟩ => by
    subst e
    exact wpAny_bind (wpAny_rule (wpAny_pure ⟨v, rfl, q⟩))) fun _ _ z => z)
/-- x op y, both of one class with an own op -/
theorem bin1_same {nm : String} {y : Addr} {oy : Obj} {od' : Option Obj} {Q : Value → Shared → Prop} (X : K.In s.heap) (I : PySem.W.InstAt s.heap x ox C od) (J : PySem.W.InstAt s.heap y oy C od') (hc : PySem.W.selfFirst K C = true)
    (hs : PySem.W.findIn K (.ref C) (PySem.dunder nm) = some (some (.ref f))) (hf : PySem.W.isFn K (.ref f) = true) (h : wpAny (model prog w) A (call (.ref f) [.ref x, .ref y]) (PySem.W.CmpBack Q) E s) :
    wpAny (model prog w) A (binaryOp1 nm (.ref x) (.ref y)) (Told Q) E s := by
  obtain ⟨cd, rest, hcd, hmm⟩ := PySem.W.ksp_first hc
  have answer := PySem.W.ksp_try (name := PySem.dunder nm) X I hs hf h
  have alike : (Value.ref C == Value.ref C) = true := by simp
  unfold binaryOp1
  refine wpAny_bind (I.type.here (wpAny_bind (J.type.here (wpAny_bind ((PySem.W.fills_K (M := model prog w) X hcd hmm hs).here ?_)))))
  simp only [alike, pure_bind, Bool.and_false, Bool.false_and, Bool.false_eq_true, if_true, if_false]
  exact wpAny_bind (wpAny_mono answer (fun r s' ⟨v, e, q⟩ => by
    subst e
    exact wpAny_pure ⟨v, rfl, q⟩) fun _ _ z => z)
theorem mul_of_bin1 {M : Model} {a b : Value} {Q : Value → Shared → Prop} (h : wpAny M A (binaryOp1 "mul" a b) (Told Q) E s) : wpAny M A (binaryOp .Mult a b) Q E s := by
  unfold binaryOp
  exact wpAny_holding (told_pure (t := binaryOp1 "mul" a b) h fun _ => rfl)
/-- a class of the text whose only base is object, without an own in-place operator -/
structure NoI (K : PySem.W.Frag) (C : Addr) (nm : String) : Prop where
  mro : (PySem.W.clsIn K C).any (fun cd => cd.mro == [.ref C, .type "object"]) = true
  own : PySem.W.findIn K (.ref C) (dunderI nm) = some none
  obj : PySem.W.findIn K (.type "object") (dunderI nm) = some none
theorem fillsI_no {M : Model} {h : Heap} {nm : String} {add : Bool} (X : K.In h) (N : NoI K C nm) : PySem.W.Looks M h (fillsInplaceSlot (.ref C) nm add) false := by
  intro A Q E s k q
  obtain ⟨cd, hc, hm⟩ := PySem.W.any_some N.mro
  have hm' : cd.mro = [.ref C, .type "object"] := beq_iff_eq.mp hm
  unfold fillsInplaceSlot
  refine wpAny_bind ((PySem.W.looks_clsIn X hc).andThen (f := fun cd => pure cd.mro) .now A _ E s k ?_)
  rw [hm', List.anyM_cons]
  refine wpAny_bind (wpAny_bind (PySem.W.looks_findIn X N.own A _ E s k (wpAny_pure ?_)))
  simp only [Bool.false_eq_true, if_false]
  rw [List.anyM_cons]
  refine wpAny_bind (wpAny_bind (PySem.W.looks_findIn X N.obj A _ E s k (wpAny_pure ?_)))
  simp only [Bool.false_eq_true, if_false]
  exact wpAny_pure q
theorem inp_of_bin1 {op : Operator} {b : Value} {Q : Value → Shared → Prop} (X : K.In s.heap) (I : PySem.W.InstAt s.heap x ox C od) (N : NoI K C op.info.2) (h : wpAny (model prog w) A (binaryOp1 op.info.2 (.ref x) b) (Told Q) E s) :
    wpAny (model prog w) A (inplaceOp op (.ref x) b) Q E s := by
  unfold inplaceOp
  refine wpAny_holding (wpAny_bind (I.type.here (wpAny_bind ((fillsI_no X N).here ?_))))
  rw [if_neg Bool.false_ne_true]
  exact told_pure h fun _ => rfl
end
section
variable {X : Cx} {CX : CXT} {n : Nat} {C g g' : Addr} {sp : Sp} {E : XK}
theorem op_rmul (hc : PySem.W.selfFirst X.K C = true) (hm : PySem.W.findIn X.K (.ref C) (PySem.dunder "mul") = some (some (.ref g'))) (h : Has X.K C g (dunderR "mul")) (hsub : PySem.W.subIn X.K (.ref C) (.type "int") = some false)
    (F : FnR X.prog X.w X.K X.mg X.base CX n g sp) (hr : Room n X.A) (hx : Passes CX X E) : OpR X (binaryOp .Mult) (rR X C sp E) := by
  intro pins s σ H x y v u Q I rx ry hq
  obtain ⟨a, i, rfl, rfl, ha, q⟩ := hq
  cases (show u = Value.ref a from ry)
  obtain ⟨t, e⟩ := (show ∃ t, v = Value.int i t from rx)
  subst e
  obtain ⟨ox, od, J, hd⟩ := insC_at I ha
  exact mul_of_bin1 (bin1_rint I.kIn J hd hc hm h.at_ h.fn hsub (run_own (us := [.ref a, .int i t]) (vs := [.ref a, .int i]) F hr hx I (.cons rfl (.cons ⟨t, rfl⟩ .nil)) q))
theorem op_inS {op : Operator} (hc : PySem.W.selfFirst X.K C = true) (N : NoI X.K C op.info.2) (h : Has X.K C g (PySem.dunder op.info.2)) (F : FnR X.prog X.w X.K X.mg X.base CX n g sp) (hr : Room n X.A) (hx : Passes CX X E) :
    OpR X (inplaceOp op) (rS X C sp E) := by
  intro pins s σ H x y v u Q I rx ry hq
  obtain ⟨a, b, rfl, rfl, ha, hb, q⟩ := hq
  cases (show v = Value.ref a from rx)
  cases (show u = Value.ref b from ry)
  obtain ⟨ox, od, J, _⟩ := insC_at I ha
  obtain ⟨ox', od', J', _⟩ := insC_at I hb
  exact inp_of_bin1 I.kIn J N (bin1_same I.kIn J J' hc h.at_ h.fn (run_own (us := [.ref a, .ref b]) (vs := [.ref a, .ref b]) F hr hx I (.cons rfl (.cons rfl .nil)) q))
end
end OpX
/-! a tuple times any number from one on; x(*y), x a name of the def that holds a class; an own object beside a list -/
namespace RdX
open PySem PySem.Spec PyProof.Rows L2 StX OpX
/-- t * 1 is t itself -/
theorem once_mul (l : Addr) (items : Array Value) (n : Nat) (dd : Option Addr) (sl : Array (Option Value)) (u : Tok) : Meets (Builtin.«tuple.__mul__» ⟨[.ref l, .int 1 u], []⟩) (fun _ R s => s.heap.get? l = some { cls := .type "tuple", dict := dd, data := .seq items n, slots := sl } ∧ R (.ok (.ret (.ref l))) s) := Meets.of_wp fun prog w A R s hh => by
  rcases s with ⟨hp, gs, ds, tk, sys⟩
  rcases hh with ⟨at_, goal⟩
  have f1 := AutoSeq1.idx_int
  have c0 : (decide ((1 : Int) < -(2 ^ 63)) || decide ((1 : Int) ≥ 2 ^ 63)) = false := by decide
  have c1 : (items.isEmpty || (1 : Int) == 1) = true := by rw [show ((1 : Int) == 1) = true from rfl, Bool.or_true]
  wp_walk using wpAny_loadPart' at_
  repeat (first
    | (refine wpAny_ite_false (decide_eq_false (by rw [c0]; exact Bool.false_ne_true)) ?_; wp_walk using wpAny_loadPart' at_)
    | (refine wpAny_ite_true (decide_eq_true c1) ?_; wp_walk using wpAny_loadPart' at_))
  exact ⟨_, rfl, goal⟩
def rOnce (K : PySem.W.Frag) : R2 := fun x y H Q => ∃ l xs, x = .ref l ∧ y = .int 1 ∧ SqT K H l xs ∧ Q (.ref l) H
section
variable {X : Cx}
theorem op_once : OpR X (binaryOp .Mult) (rOnce X.K) := by
  intro pins s σ H x y v u Q I rx ry hq
  obtain ⟨l, xs, rfl, rfl, hT, q⟩ := hq
  cases (show v = Value.ref l from rx)
  obtain ⟨t, e⟩ := (show ∃ t, u = Value.int 1 t from ry)
  subst e
  obtain ⟨its, r, ⟨⟨cls, dd, data, sl⟩, ho, hc, n, hd⟩, hs⟩ := I.tuple hT
  simp only at hc hd
  subst hc hd
  have kind : s.TypeIs (.ref l) "tuple" := ⟨_, ho, rfl⟩
  exact wpAny_binaryOp_repeat_ref (T := "tuple") (U := "int") (by decide) kind (fun s' => typeIs_int s' 1 t) noFill_tuple_mul F.fills_int_mul F.slot_int_rmul repeat_tuple F.slot_int_index.lookup
    (call_meets F.slot_int_rmul (typeIs_int s 1 t) F.entry_int_rmul (F.args_int_rmul_2 _ _) (int_rmul_tuple 1 t l its.toArray n dd sl) ⟨ho, rfl, kind, call_meets F.slot_tuple_mul kind F.entry_tuple_mul (F.args_tuple_mul_2 _ _) (once_mul l its.toArray n dd sl t) ⟨ho, ⟨.ref l, H, I, rfl, q⟩⟩⟩)
end
section
variable {X : Cx} {CX : CXT} {k n i : Nat} {f C g : Addr} {sp : Sp} {E : XK} {x : Str} {e : Expr} {te : TE} {p q pos : Pos}
/-- C(*y), C a class of the module -/
def tMakeS (X : Cx) (C : Addr) (sp : Sp) (E : XK) (te : TE) : TE := fun σ H Q => te σ H fun y H1 => ∃ a xs, y = V.ref a ∧ (SqT X.K H1 a xs ∨ SqL X.K H1 a xs) ∧ ∀ x dx, H1 x = Option.none → H1 dx = Option.none → dx ≠ x →
  sp (V.ref x :: xs) (upd (upd H1 dx (.own x)) x (.ins C dx [])) (fun v H2 => v = .non ∧ Q (.ref x) H2) E
theorem pe_makeS1 (M : Mk X.K C f) (F : FnR X.prog X.w X.K X.mg X.base CX k f sp) (hr : Room (k + 1) X.A) (hg : Gl X x) (hm : X.mg x = some (.ref C)) (hx : Passes CX X E) (he : PE X e te) (hd : (x == ("__debug__" : Str)) = false := by decide)
    (hst : starEach [.Starred e q] X.env = [(true, eval e X.env)] := by rfl) : PE X (.Call (.Name x p) [.Starred e q] [] pos) (tMakeS X C sp E te) := by
  refine ⟨fun pins s σ H Q I h => wpAny_Call_Name_kw (ld_glob I hg hm (PySem.W.callWith_S (h₀ := X.base) I.ok.mod.kin M.kp (thn (he.run pins s σ H _ I h) fun v s1 z => ?_) hst) hd)⟩
  obtain ⟨y, H1, J, ry, a, xs, ey, hxs, q⟩ := z
  subst ey
  cases (show v = Value.ref a from ry)
  exact star_any J hxs fun us s2 J2 rv => ⟨J2.kIn, run_makeR M F hr hx J2 rv q⟩
/-- x(*y), x a name of the def (slot i) that holds the class at C -/
def tMakeLS (X : Cx) (i : Nat) (C : Addr) (sp : Sp) (E : XK) (te : TE) : TE := fun σ H Q => σ[i]? = some (some (.ref C)) ∧ tMakeS X C sp E te σ H Q
theorem pe_makeLS (M : Mk X.K C f) (F : FnR X.prog X.w X.K X.mg X.base CX k f sp) (hr : Room (k + 1) X.A) (hN : X.N[i]? = some x) (hv : Vis X.env.scope x) (hx : Passes CX X E) (he : PE X e te) (hd : (x == ("__debug__" : Str)) = false := by decide) (hcd : (x == ("__classdict__" : Str)) = false := by decide)
    (hst : starEach [.Starred e q] X.env = [(true, eval e X.env)] := by rfl) : PE X (.Call (.Name x p) [.Starred e q] [] pos) (tMakeLS X i C sp E te) := by
  refine ⟨fun pins s σ H Q I ⟨hs, h⟩ => wpAny_Call_Name_kw (thn ((pe_var (pos := p) (i := i) hN hv hd hcd).run pins s σ H (fun v H1 => v = .ref C ∧ H1 = H) I ⟨.ref C, hs, rfl, rfl⟩) fun u s1 z => ?_)⟩
  obtain ⟨v, H1, J, r1, ev, eH⟩ := z
  subst ev eH
  cases (show u = Value.ref C from r1)
  refine PySem.W.callWith_S (h₀ := X.base) J.ok.mod.kin M.kp (thn (he.run pins s1 σ _ _ J h) fun v s2 z => ?_) hst
  obtain ⟨y, H2, J2, ry, a, xs, ey, hxs, q⟩ := z
  subst ey
  cases (show v = Value.ref a from ry)
  exact star_any J2 hxs fun us s3 J3 rv => ⟨J3.kIn, run_makeR M F hr hx J3 rv q⟩
/-- x == y: x of the class at C, y a list -/
def rEqL (X : Cx) (C : Addr) (sp : Sp) (E : XK) : R2 := fun x y H Q => ∃ a b ys, x = .ref a ∧ y = .ref b ∧ InsC X H a C ∧ SqL X.K H b ys ∧ PySem.W.notFirst X.K C (.type "list") = true ∧ sp [.ref a, .ref b] H Q E
theorem op_eqL {op : CmpOp} (hop : ∀ a b, compareOp op a b = richCompare op a b) (h : Has X.K C g (cmpInfo op).2.1) (F : FnR X.prog X.w X.K X.mg X.base CX n g sp) (hr : Room n X.A) (hx : Passes CX X E) : OpR X (compareOp op) (rEqL X C sp E) := fun pins s σ H x y v u Q I rx ry hq => by
  obtain ⟨a, b, ys, rfl, rfl, ha, hb, hn, q⟩ := hq
  cases (show v = Value.ref a from rx)
  cases (show u = Value.ref b from ry)
  obtain ⟨ox, od, J, _⟩ := insC_at I ha
  obtain ⟨its, rv, pl, _⟩ := I.list hb
  obtain ⟨o, ho, hc, _⟩ := pl.isList
  obtain ⟨m, hF⟩ := I.fr
  have kind : PySem.W.Looks (model X.prog X.w) s.heap (typeOf (.ref b)) (.type "list") := fun _ _ _ _ k z => wpAny_typeOf_ref (k _ _ ho) (by rw [hc]; exact z)
  rw [hop]
  exact PySem.W.cmp_K (op := op) (tb := .type "list") hr.units0 hF I.ok.mod.kin J kind hn h.at_ h.fn (run_own (us := [.ref a, .ref b]) (vs := [.ref a, .ref b]) F hr hx I (.cons rfl (.cons rfl .nil)) q)
end
end RdX
/-! x(e, .., *y), x a name of the def that holds a class; range(a, b, c), c above nought -/
namespace RdX
open PySem PySem.Spec PyProof.Rows L2 StX OpX ClX ClK
section
variable {X : Cx} {CX : CXT} {k i : Nat} {f C : Addr} {sp : Sp} {E : XK} {x : Str} {e : Expr} {es : List Expr} {t : TA} {p pos : Pos}
theorem pe_makeL2 (M : Mk X.K C f) (F : FnR X.prog X.w X.K X.mg X.base CX k f sp) (hr : Room (k + 1) X.A) (hN : X.N[i]? = some x) (hv : Vis X.env.scope x) (hx : Passes CX X E) (ha : PA X (e :: es) t) (hd : (x == ("__debug__" : Str)) = false := by decide) (hcd : (x == ("__classdict__" : Str)) = false := by decide)
    (head : starEach (e :: es) X.env = (false, eval e X.env) :: starEach es X.env := by rfl) (starred : (backTo pos (starEach es X.env)).any (·.1) = true := by rfl) : PE X (.Call (.Name x p) (e :: es) [] pos) (tMakeL i C sp E t) := by
  refine ⟨fun pins s σ H Q I ⟨hs, h⟩ => wpAny_Call_Name_kw (thn ((pe_var (pos := p) (i := i) hN hv hd hcd).run pins s σ H (fun v H1 => v = .ref C ∧ H1 = H) I ⟨.ref C, hs, rfl, rfl⟩) fun u s1 z => ?_)⟩
  obtain ⟨v, H1, J, r1, ev, eH⟩ := z
  subst ev eH
  cases (show u = Value.ref C from r1)
  refine PySem.W.callWith_S2 (h₀ := X.base) J.ok.mod.kin M.kp (thn (ha.run pos pins s1 σ _ _ J h) fun us s2 z => ?_) head starred
  obtain ⟨vs, H2, J2, r, q⟩ := z
  exact ⟨J2.kIn, run_makeR M F hr hx J2 r q⟩
end
theorem rgc_up {i j c : Int} (hc : 0 < c) (hc2 : c < 1000000) (hi : 0 ≤ i) (hi2 : i < 1000000) (hj : i ≤ j) (hj2 : j < 1000000) : RgC i j c ((j - i + c - 1) / c).toNat := by
  have e : Builtin.Range.rangeSize i j c = (((j - i + c - 1) / c).toNat : Int) := by
    unfold Builtin.Range.rangeSize
    rw [if_pos hc]
    by_cases h : i < j
    · rw [if_pos h, show j - i + c - 1 = (j - i - 1) + c by omega, Int.add_ediv_of_dvd_right (Int.dvd_refl c), Int.ediv_self (by omega)]
      have : 0 ≤ (j - i - 1) / c := Int.ediv_nonneg (by omega) (by omega)
      omega
    · have h2 : i = j := by omega
      subst h2
      rw [if_neg h, Int.ediv_eq_zero_of_lt (by omega) (by omega)]
      rfl
  refine ⟨by omega, by omega, ?_, e⟩
  unfold Builtin.Range.small
  rw [e]
  have b : ((j - i + c - 1) / c) ≤ j - i + c - 1 := Int.ediv_le_self _ (by omega)
  have b0 : 0 ≤ ((j - i + c - 1) / c) := Int.ediv_nonneg (by omega) (by omega)
  rw [Int.toNat_of_nonneg b0]
  generalize (j - i + c - 1) / c = n at b b0 ⊢
  simp only [Builtin.Range.rangeFitsLong, Bool.and_eq_true, Bool.or_eq_true, decide_eq_true_eq, beq_iff_eq, if_pos hc]
  omega
end RdX
/-! enumerate over a tuple -/
namespace EnT
open PySem PySem.Spec PyProof.Rows L2
/-- the iterator of a tuple, as it begins -/
abbrev tupIt (t : Addr) : Obj := { cls := .type "tuple_iterator", data := .fields #[.ref t, .int 0 0] }
/-- the enumeration over the iterator at n, as it begins -/
abbrev enuAt (n : Addr) : Obj := { cls := .type "enumerate", data := .fields #[.none, .bool false, .ref n, rawInt 0, .none, .none] }
set_option maxHeartbeats 2000000 in
theorem new_enumT (t : Addr) (its : Array Value) : Meets (Builtin.«enumerate.__new__» ⟨[.type "enumerate", .ref t], []⟩)
    (fun _ R s => s.heap.IsTuple t its ∧ R (.ok (.ret (.ref (s.heap.push (tupIt t)).objs.size))) { s with heap := (s.heap.push (tupIt t)).push (enuAt s.heap.objs.size) }) := Meets.of_wp fun P w A R s hh => by
  rcases s with ⟨hp, gs, ds, tk, sys⟩
  rcases hh with ⟨hT, goal⟩
  have kind := sub_enumerate
  have begin_ : ∀ {B : Around} {E : Value → Shared → Prop} {Q : Value → Shared → Prop}, Q (.ref hp.objs.size) ⟨hp.push (tupIt t), gs, ds, tk, sys⟩ → wpAny (model P w) B (pyIter (.ref t)) Q E ⟨hp, gs, ds, tk, sys⟩ := fun q => wpAny_pyIter_tuple hT q
  wp_walk using begin_
  refine wpAny_stack_any (fun _ => wpAny_pure ?_)
  split
  next c _ _ _ _ _ => cases (c == Value.type "enumerate") <;> (wp_walk using begin_; exact ⟨_, rfl, goal⟩)
  next => (wp_walk using begin_; exact ⟨_, rfl, goal⟩)
theorem call_enumT {P : Program} {w : World} {A : Around} {E : Value → Shared → Prop} {s : Shared} {t : Addr} {its : Array Value} {Q : Value → Shared → Prop} (hT : s.heap.IsTuple t its)
    (k : ∀ h', IsEnum h' (s.heap.objs.size + 1) s.heap.objs.size 0 .none → h'.IsTupleIter s.heap.objs.size t 0 → (∀ b o, s.heap.get? b = some o → h'.get? b = some o) → Q (.ref (s.heap.objs.size + 1)) { s with heap := h' }) :
    wpAny (model P w) A (call (.type "enumerate") [.ref t]) Q E s := by
  have sz : (s.heap.push (tupIt t)).objs.size = s.heap.objs.size + 1 := Heap.size_push ..
  have at1 : ((s.heap.push (tupIt t)).push (enuAt s.heap.objs.size)).get? (s.heap.objs.size + 1) = some (enuAt s.heap.objs.size) := sz ▸ Heap.get?_push_size (s.heap.push (tupIt t)) rfl
  have at0 : ((s.heap.push (tupIt t)).push (enuAt s.heap.objs.size)).get? s.heap.objs.size = some (tupIt t) := Heap.get?_push_of_some _ (Heap.get?_push_size _ rfl)
  refine callType_new F.called_enumerate (by decide) (F.typeCall_enumerate_1 _) (F.newCall_enumerate_1 _) (fun obj => F.args_object_init_2 obj _) F.entry_enumerate_new (new_enumT t its) ⟨hT, ?_⟩
  show _ ∧ _
  rw [sz]
  exact ⟨⟨_, at1, rfl⟩, k _ at1 ⟨_, at0, rfl, rfl⟩ fun b o e => Heap.get?_push_of_some _ (Heap.get?_push_of_some _ e)⟩
/-- the tuple at a, turn by turn: each item with its place, in a new pair -/
def Itn (K : PySem.W.Frag) (a : Addr) : It where
  go i H := ∃ (ys : List V) (y : V), SqT K H a ys ∧ ys[i]? = some y
  yld i H v H' := ∃ T y, v = .ref T ∧ H T = none ∧ H' = upd H T (.tup [.int (i : Nat), y]) ∧ ∀ ys, SqT K H a ys → ys[i]? = some y
  stop i H := ∃ ys : List V, SqT K H a ys ∧ ys.length = i
theorem turn_enumT {P : Program} {w : World} {K : PySem.W.Frag} {elts : List Expr} {kk : Nat} {tpos : Pos} (a e it : Addr) :
    Turn P w K (.Tuple elts kk tpos) (Itn K a) [e, it] e (fun i h => (∃ old, IsEnum h e it ((i : Nat) : Int) old) ∧ h.IsTupleIter it a i) where
  mem := List.mem_cons_self ..
  obj := fun i h ⟨⟨old, he⟩, o, ho, _, hd⟩ b hb => by
    rcases List.mem_cons.mp hb with rfl | hb
    · exact ⟨_, he, fun v q => nomatch q⟩
    · obtain rfl := List.mem_singleton.mp hb
      exact ⟨o, ho, fun v q => by rw [hd] at q; cases q⟩
  keep := fun i h h' ⟨⟨old, he⟩, hi⟩ k => ⟨⟨old, k e (List.mem_cons_self ..) _ he⟩, hi.at fun o q => k it (by simp) o q⟩
  item := by
    rintro X rfl rfl rfl hc i pins s σ H E I hf ⟨⟨old, he⟩, hit⟩ ⟨ys, y, hq, hy⟩
    obtain ⟨its, rv, p, hz⟩ := I.tuple hq
    have ht : s.heap.IsTuple a its.toArray := p
    obtain ⟨u, hu, ru⟩ := rv.get hy
    have len : i < its.length := (List.getElem?_eq_some_iff.mp hu).1
    have ai : a ≠ it := fun z => by
      obtain ⟨o1, g1, c1, _⟩ := ht
      obtain ⟨o2, g2, c2, _⟩ := id hit
      rw [z, g2] at g1
      rw [← Option.some.inj g1, c2] at c1
      exact absurd c1 (by decide)
    have ei : e ≠ it := fun z => by
      obtain ⟨o2, g2, c2, _⟩ := id hit
      have g1 : s.heap.get? e = _ := he
      rw [z, g2] at g1
      rw [Option.some.inj g1] at c2
      exact absurd (show Value.type "enumerate" = Value.type "tuple_iterator" from c2) (by decide)
    have ea : e ≠ a := fun z => by
      obtain ⟨o2, g2, c2, _⟩ := ht
      have g1 : s.heap.get? e = _ := he
      rw [z, g2] at g1
      rw [Option.some.inj g1] at c2
      exact absurd (show Value.type "enumerate" = Value.type "tuple" from c2) (by decide)
    refine wpAny_pyNext_enum_itemD (Draws.tuple (A := X.A.in1) (I.ok.hd hc) it a ai its.toArray) he ⟨hit, ht⟩ (by simpa using len) ei (by simp [ei, ea]) fun x h' tk hx ho hst hT sz1 hk => ?_
    have xu : x = u := by
      have : its[i]? = some x := by simpa using hx
      rw [hu] at this
      exact (Option.some.inj this).symm
    subst xu
    have hel : e < s.heap.objs.size := Heap.lt_size he
    have hil : it < s.heap.objs.size := by obtain ⟨_, q, _⟩ := hit; exact Heap.lt_size q
    refine ⟨_, rfl, wpAny_letOwnedTupleGo_enum (s := { s with heap := h', toks := tk + 1 }) ho fun h2 he2 sb => ?_⟩
    have pair : h2.get? s.heap.objs.size = some { cls := .type "tuple", data := .seq #[.int i tk, x] } := (sb.2 _ (Nat.ne_of_gt hel)).trans hT
    have new : ObjOk X.prog X.w (upd H s.heap.objs.size (.tup [.int (i : Nat), y])) h2 s.heap.objs.size (.tup [.int (i : Nat), y]) :=
      ⟨by show 2 ≤ sizeLine; decide, [.int i tk, x], .cons ⟨_, rfl⟩ (.cons ru .nil), ⟨_, pair, rfl, _, rfl⟩⟩
    have J : Inv X pins σ (upd H s.heap.objs.size (.tup [.int (i : Nat), y])) { s with heap := h2, toks := tk + 1 } :=
      I.turnedNew (ch := [e, it]) (fun b o hb q => (sb.2 b fun z => hb (by simp [z])).trans (hk b o (fun z => hb (by simp [z])) (fun z => hb (by simp [z])) q)) hf (Nat.le_refl _) new
    refine ⟨.ref s.heap.objs.size, _, J, rfl, ⟨_, y, rfl, I.hok.fresh (Nat.le_refl _), rfl, fun zs hz => by rw [I.tuple_inj hz hq]; exact hy⟩, ⟨⟨x, ?_⟩, hst.1.at fun o q => (sb.2 it (Ne.symm ei)).trans q⟩, fun b hb => ?_⟩
    · have e1 : ((i + 1 : Nat) : Int) = (i : Int) + 1 := rfl
      rw [e1]
      exact he2
    · have lt : b < s.heap.objs.size := by
        rcases List.mem_cons.mp hb with rfl | hb
        · exact hel
        · obtain rfl := List.mem_singleton.mp hb
          exact hil
      rw [upd_ne (Nat.ne_of_lt lt)]
      exact (hf b hb).1
  done := by
    rintro X rfl rfl rfl hc i pins s σ H E I hf ⟨⟨old, he⟩, hit⟩ ⟨ys, hq, hy⟩
    obtain ⟨its, rv, p, hz⟩ := I.tuple hq
    have ht : s.heap.IsTuple a its.toArray := p
    have hl := rv.length
    obtain ⟨f0, f1, f2, f3, f4, f5⟩ := hf it (by simp)
    have ai : a ≠ it := fun z => by
      obtain ⟨o1, g1, c1, _⟩ := ht
      obtain ⟨o2, g2, c2, _⟩ := id hit
      rw [z, g2] at g1
      rw [← Option.some.inj g1, c2] at c1
      exact absurd c1 (by decide)
    have hi : its.toArray.size = i := by rw [List.size_toArray]; omega
    exact wpAny_pyNext_enum_endD (Draws.tuple (A := X.A.in1) (I.ok.hd hc) it a ai its.toArray) he (hi.symm ▸ ⟨hit, ht⟩) fun h' eb => ⟨rfl, I.turned (t' := s.toks) (fun b o hb z => eb b o hb z) f0 f1 f3 f4 f5⟩
  self := fun A i s Q E ⟨⟨_, he⟩, _⟩ h => wpAny_pyIter_enum he h
/-- enumerate(a tuple) -/
def iEnumT (K : PySem.W.Frag) (ta : TA) : TI := fun σ H R => ta σ H fun vs H1 => ∃ a ys, vs = [.ref a] ∧ SqT K H1 a ys ∧ R (Itn K a) H1
theorem pi_enumT {X : Cx} {e : Expr} {ta : TA} {p pos tpos : Pos} {elts : List Expr} {kk : Nat} (hg : Gl X "enumerate") (hm : X.mg "enumerate" = none) (ha : PA X [e] ta)
    (one : starEach [e] X.env = [(false, eval e X.env)] := by rfl) : PI X (.Tuple elts kk tpos) (.Call (.Name "enumerate" p) [e] [] pos) (iEnumT X.K ta) := by
  refine ⟨fun pins s σ H R I h => Call_ (ld_blt I hg hm boot_enumerate (PyProof.Rows.callWith_type1 (thn (ha.run pos pins s σ H _ I h) fun us s1 ⟨vs, H1, J, r1, a, ys, ev, hq, q⟩ => ?_) one rfl))⟩
  subst ev
  rcases r1 with _ | ⟨r, r0⟩
  cases r0
  cases r
  obtain ⟨its, rv, at_, hz⟩ := J.tuple hq
  refine call_enumT (its := its.toArray) at_ fun h' he hit hk => wpAny_pyIter_enum he ?_
  refine ⟨s1.heap.objs.size + 1, [s1.heap.objs.size + 1, s1.heap.objs.size], _, _, H1, rfl, J.kept (t' := s1.toks) hk, turn_enumT a _ _, ⟨⟨.none, he⟩, hit⟩, fun b hb => ?_, q⟩
  have le : s1.heap.objs.size ≤ b := by
    rcases List.mem_cons.mp hb with rfl | hb
    · exact Nat.le_succ _
    · exact Nat.le_of_eq (List.mem_singleton.mp hb).symm
  exact J.fpOk le (J.hok.fresh le)
theorem walk_enumT {K : PySem.W.Frag} {a : Addr} {ys : List V} : Walk (Itn K a) ys.length (fun H => SqT K H a ys) (YPair (fun i => some (.int (i : Nat))) (fun i => ys[i]?)) :=
  ⟨fun i _ hi q => ⟨ys, ys[i], q, List.getElem?_eq_getElem hi⟩, fun _ q => ⟨ys, q, rfl⟩, fun i H v H' _ q ⟨T, y, h1, h2, h3, h4⟩ => ⟨T, .int (i : Nat), y, h1, h2, h3, rfl, h4 ys q⟩⟩
end EnT
/-! sorted of a tuple of pairs of texts -/
namespace SrtT
open PySem PyProof.Rows SrtO
/-- one text before another -/
def ltB (x y : Str) : Bool := decide (x.cps.toList < y.cps.toList)
theorem ltB_irr (x : Str) : ltB x x = false := decide_eq_false (List.lt_irrefl _)
theorem ltB_tr {x y z : Str} (h : ltB x y = true) (h' : ltB y z = true) : ltB x z = true := decide_eq_true (List.lt_trans (of_decide_eq_true h) (of_decide_eq_true h'))
theorem str_ext {a b : Str} (h : a.cps.toList = b.cps.toList) : a = b := by
  cases a
  cases b
  congr
  exact Array.toList_inj.mp h
theorem ltB_tot {x y : Str} (h : ltB x y = false) (n : x ≠ y) : ltB y x = true := by
  have h1 := of_decide_eq_false h
  refine decide_eq_true ?_
  rcases List.le_iff_lt_or_eq.mp (List.not_lt.mp h1) with z | z
  · exact z
  · exact absurd (str_ext z).symm n
/-- pairs, by their first, then by their second -/
def lexT (p q : Str × Str) : Bool := if p.1 = q.1 then ltB p.2 q.2 else ltB p.1 q.1
theorem lexT_irr (p : Str × Str) : lexT p p = false := by unfold lexT; rw [if_pos rfl]; exact ltB_irr _
theorem lexT_tr {p q r : Str × Str} (h : lexT p q = true) (h' : lexT q r = true) : lexT p r = true := by
  unfold lexT at *
  by_cases a : p.1 = q.1
  · rw [if_pos a] at h
    by_cases b : q.1 = r.1
    · rw [if_pos b] at h'
      rw [if_pos (a.trans b)]
      exact ltB_tr h h'
    · rw [if_neg b] at h'
      rw [if_neg (a ▸ b), a]
      exact h'
  · rw [if_neg a] at h
    by_cases b : q.1 = r.1
    · rw [if_pos b] at h'
      rw [if_neg (b ▸ a), ← b]
      exact h
    · rw [if_neg b] at h'
      have c := ltB_tr h h'
      rw [if_neg (fun z => by
        rw [z, ltB_irr] at c
        cases c)]
      exact c
theorem lexT_tot {p q : Str × Str} (h : lexT p q = false) (n : p ≠ q) : lexT q p = true := by
  unfold lexT at *
  by_cases a : p.1 = q.1
  · rw [if_pos a] at h
    rw [if_pos a.symm]
    exact ltB_tot h fun z => n (Prod.ext a z)
  · rw [if_neg a] at h
    rw [if_neg (fun z => a z.symm)]
    exact ltB_tot h a
theorem swo_lexT {α : Type} (k : α → Str × Str) : Swo fun v u => lexT (k v) (k u) := by
  refine ⟨fun x y h => ?_, fun x y z h1 h2 => ?_⟩
  · cases c : lexT (k y) (k x) with
    | false => rfl
    | true =>
      have := lexT_tr h c
      rw [lexT_irr] at this
      cases this
  · cases c : lexT (k z) (k x) with
    | false => rfl
    | true =>
      by_cases e : k y = k x
      · rw [e] at h2
        rw [c] at h2
        cases h2
      · have a := lexT_tot h1 e
        have b := lexT_tr c a
        rw [b] at h2
        cases h2
def IsPairT (h : Heap) (v : Value) (p : Str × Str) : Prop := ∃ a o t u n, v = .ref a ∧ h.get? a = some o ∧ o.cls = .type "tuple" ∧ o.data = .seq #[.str p.1 t, .str p.2 u] n
theorem IsPairT.keeps {h h' : Heap} {v : Value} {p : Str × Str} (q : IsPairT h v p) (k : ∀ b o, h.get? b = some o → o.cls = .type "tuple" → h'.get? b = some o) : IsPairT h' v p := by
  obtain ⟨a, o, t, u, n, e, ho, hc, hd⟩ := q
  exact ⟨a, o, t, u, n, e, k _ _ ho hc, hc, hd⟩
theorem firsts_of {h : Heap} {k : Value → Str × Str} : ∀ {vs : List Value}, (∀ v ∈ vs, IsPairT h v (k v)) → ∃ fs : List Value, PySem.W.KatTups h vs fs ∧ fs.length = vs.length ∧ ∀ f ∈ fs, ∃ x t, f = Value.str x t
  | [], _ => ⟨[], PySem.W.KatTups.nil, rfl, fun _ hm => by simp at hm⟩
  | v :: vs, hp => by
    obtain ⟨fs, h1, h2, h3⟩ := firsts_of (k := k) (vs := vs) fun v' hm => hp v' (List.mem_cons_of_mem _ hm)
    obtain ⟨a, o, t, u, n, e, ho, hc, hd⟩ := hp v (List.mem_cons_self ..)
    subst e
    refine ⟨.str _ t :: fs, PySem.W.KatTups.cons ho hc hd rfl h1, by rw [List.length_cons, List.length_cons, h2], fun f hm => ?_⟩
    rcases List.mem_cons.mp hm with rfl | hm
    · exact ⟨_, t, rfl⟩
    · exact h3 f hm
section
variable {prog : Program} {w : World} {A : Around} {E : Value → Shared → Prop} {s : Shared}
theorem pair_cmp {vs : List Value} {k : Value → Str × Str} (hp : ∀ v ∈ vs, IsPairT s.heap v (k v)) : Cmp prog w A s (tuples' true) (fun p => p.1 ∈ vs) (lt2 fun v u => lexT (k v) (k u)) := by
  intro p q hm hm'
  have h1 := hp _ hm
  have h2 := hp _ hm'
  show wpAny (model prog w) A (keyLt' (tuples' true) p.1 q.1) (fun r s' => s' = s ∧ r = lexT (k p.1) (k q.1)) (fun _ _ => False) s
  unfold lexT
  generalize k p.1 = P at h1 ⊢
  generalize k q.1 = P' at h2 ⊢
  obtain ⟨x, y⟩ := P
  obtain ⟨x', y'⟩ := P'
  obtain ⟨a, o, t, u, n, e, ho, hc, hd⟩ := h1
  obtain ⟨a', o', t', u', n', e', ho', hc', hd'⟩ := h2
  rw [e, e']
  refine PySem.W.kat_lt ho hd ho' hd' ?_
  show PySem.W.KatLex prog w A true (decide (2 < 2)) _ [(.str x t, .str x' t'), (.str y u, .str y' u')] 0 s
  refine PySem.W.kat_cons (SeqAt.EqAt.str_str x t x' t' prog w _ _ ?_)
  refine PySem.W.kat_go (fun e1 => ?_) (fun e1 => ?_)
  · have ex : x = x' := by simpa using e1
    refine PySem.W.kat_yes (PySem.W.kat_cons (SeqAt.EqAt.str_str y u y' u' prog w _ _ ?_))
    refine PySem.W.kat_go (fun e2 => ?_) (fun e2 => ?_)
    · have ey : y = y' := by simpa using e2
      have e3 : (if x = x' then ltB y y' else ltB x x') = false := by
        rw [if_pos ex, ey]
        exact ltB_irr _
      exact PySem.W.kat_yes (PySem.W.kat_nil ⟨rfl, e3.symm⟩)
    · have e3 : (if x = x' then ltB y y' else ltB x x') = ltB y y' := if_pos ex
      refine PySem.W.kat_no (PySem.W.kat_one _ _ (PyProof.Rows.lt_str ?_))
      exact (show s = s ∧ ltB y y' = (if x = x' then ltB y y' else ltB x x') from ⟨rfl, e3.symm⟩)
  · have ex : ¬ x = x' := by simpa using e1
    have e3 : (if x = x' then ltB y y' else ltB x x') = ltB x x' := if_neg ex
    exact PySem.W.kat_no (oneLt_str ⟨rfl, e3.symm⟩)
theorem pairs_sortable {a : Addr} {vs : List Value} {k : Value → Str × Str} (h0 : 0 < vs.length) (hp : ∀ v ∈ vs, IsPairT s.heap v (k v)) (ha : ∀ o, s.heap.get? a = some o → o.cls ≠ .type "tuple") : SortableO prog w A s a vs fun v u => lexT (k v) (k u) := by
  intro h' keep
  have hp' : ∀ v ∈ vs, IsPairT h' v (k v) := fun v hm => (hp v hm).keeps fun b o e c => keep b o (fun z => by subst z; exact ha o e c) e
  obtain ⟨fs, h1, h2, h3⟩ := firsts_of hp'
  refine ⟨tuples' true, fun Q E hq => ?_, pair_cmp hp'⟩
  refine PySem.W.kat_kind (T := .type "str") h1 (by omega) (fun f hm => ?_) (by rfl) ?_
  · obtain ⟨x, t, rfl⟩ := h3 f hm
    exact PySem.W.Looks.now
  · have e : (Value.type "str" != Value.type "tuple") = true := by first | decide +kernel | rfl | decide
    rw [e]
    exact hq
/-- what sorted collects of a tuple -/
theorem collect_tup {l : Addr} {vs : List Value} {Q : List Value → Shared → Prop} (hl : s.heap.IsTuple l vs.toArray)
    (h : Q vs { s with heap := (s.heap.push (seqObj "list" #[] 0)).update s.heap.objs.size (Obj.mapSeq (· ++ vs.toArray)) }) (hsz : vs.length ≤ sizeLine) :
    wpAny (model prog w) A (collect (.ref l)) Q E s := by
  obtain ⟨o, ho, hc, n, hd⟩ := id hl
  unfold collect
  refine wpAny_bind (wpAny_runValue (codeAny_builtin entry_proto_collect' ?_))
  show wpAny _ _ (do again (.builtin "list.__iadd__" ⟨[← newList [], .ref l], []⟩)) _ _ s
  refine wpAny_bind (wpAny_newList (wpAny_pure ⟨Code.quiet_builtin _ (by decide +kernel), codeAny_builtin entry_list_iadd' ?_⟩))
  show wpAny _ _ (Builtin.List.listExtendWith (.ref s.heap.objs.size) (.ref l) (.ref s.heap.objs.size)) _ _ { s with heap := s.heap.push (seqObj "list" #[] 0) }
  unfold Builtin.List.listExtendWith
  have ho' : (s.heap.push (seqObj "list" #[] 0)).get? l = some o := Heap.get?_push_of_some _ ho
  refine wpAny_bind (wpAny_typeOf (T := "tuple") ⟨o, ho', hc⟩ ?_)
  have ht : (Value.type "tuple" == Value.type "tuple") = true := by rfl
  rw [if_pos (by rw [ht]; simp)]
  refine wpAny_bind (listItems_at ho' hd ?_)
  refine wpAny_bind (listItems_at (xs := #[]) (n := 0) (Heap.get?_push_size _ rfl) rfl ?_)
  rw [if_neg (by simp)]
  refine wpAny_bind (listUpdate_at (xs := #[]) (n := 0) (Heap.get?_push_size _ rfl) rfl ?_ (Nat.zero_le _) (by show (#[] ++ vs.toArray).size ≤ sizeLine + 1; simp only [Array.size_append, List.size_toArray, List.length_nil]; omega))
  refine wpAny_pure ?_
  show wpAny (model prog w) A (do
      let o ← load s.heap.objs.size
      match o.data with
      | .seq xs _ => pure xs.toList
      | _ => unsupported "internal:collect") Q E { s with heap := (s.heap.push (seqObj "list" #[] 0)).update s.heap.objs.size (Obj.mapSeq (· ++ vs.toArray)) }
  refine wpAny_bind (wpAny_load (get?_update_seq (Heap.get?_push_size _ rfl) _) ?_)
  show wpAny _ _ (pure ((#[] : Array Value) ++ vs.toArray).toList) Q E _
  rw [show ((#[] : Array Value) ++ vs.toArray).toList = vs by simp]
  exact wpAny_pure h
theorem sorted_tup {l : Addr} {vs : List Value} {k : Value → Str × Str} {Q : Value → Shared → Prop} (hl : s.heap.IsTuple l vs.toArray) (hz : vs.length ≤ sizeLine) (hp : ∀ v ∈ vs, IsPairT s.heap v (k v))
    (h : ∀ (h' : Heap) (d : Addr) (out : List Value), Srtd (fun v u => lexT (k v) (k u)) out → Stb (fun v u => lexT (k v) (k u)) out vs → (∀ b o, s.heap.get? b = some o → h'.get? b = some o) → s.heap.objs.size ≤ d → (∃ n, h'.get? d = some (seqObj "list" out.toArray n)) → Q (.ref d) { s with heap := h' }) :
    wpAny (model prog w) A (call (.builtin "sorted") [.ref l]) Q E s := by
  refine Calls.call_function_entry kind_sorted plain_sorted entry_sorted (args_sorted1 _) ?_
  unfold Builtin.«sorted»
  refine wpAny_bind (m := checkCount "sorted" 1 1 _) (wpAny_pure ?_)
  refine wpAny_bind (collect_tup hl ?_ hz)
  refine wpAny_bind (wpAny_newList ?_ hz)
  have hsz : ((s.heap.push (seqObj "list" #[] 0)).update s.heap.objs.size (Obj.mapSeq (· ++ vs.toArray))).objs.size = s.heap.objs.size + 1 := by
    rw [Heap.size_update, size_push']
  have hoL : (((s.heap.push (seqObj "list" #[] 0)).update s.heap.objs.size (Obj.mapSeq (· ++ vs.toArray))).push (seqObj "list" vs.toArray 0)).get? (s.heap.objs.size + 1) = some (seqObj "list" vs.toArray 0) := by
    rw [← hsz]; exact Heap.get?_push_size _ rfl
  have keep : ∀ b o, s.heap.get? b = some o → b ≠ s.heap.objs.size + 1 ∧ (((s.heap.push (seqObj "list" #[] 0)).update s.heap.objs.size (Obj.mapSeq (· ++ vs.toArray))).push (seqObj "list" vs.toArray 0)).get? b = some o := fun b o q => by
    have hlt : b < s.heap.objs.size := Heap.lt_size q
    refine ⟨Nat.ne_of_lt (Nat.lt_succ_of_lt hlt), Heap.get?_push_of_some _ ?_⟩
    rw [Heap.get?_update_ne _ _ _ _ (Nat.ne_of_lt hlt)]
    exact Heap.get?_push_of_some _ q
  show wpAny _ _ _ _ _ { s with heap := ((s.heap.push (seqObj "list" #[] 0)).update s.heap.objs.size (Obj.mapSeq (· ++ vs.toArray))).push (seqObj "list" vs.toArray 0) }
  rw [hsz]
  refine wpAny_bind (wpAny_holding (wpAny_call_entry slot_list_sort ⟨_, hoL, rfl⟩ entry_list_sort (list_sort_ord (swo_lexT k) hoL hz (fun h2 => pairs_sortable (by omega) (fun v hm => (hp v hm).keeps fun b o e _ => (keep b o e).2) fun o e => ?_) fun out hs hb => ⟨_, rfl, ?_⟩) (args_list_sort _)))
  · have e' : some o = some (seqObj "list" vs.toArray 0) := e.symm.trans hoL
    cases e'
    intro c
    exact absurd (Value.type.inj c) (by decide)
  · exact wpAny_pure ⟨_, rfl, h _ _ out hs hb (fun b o e => sortedAll_old e) (Nat.le_succ _) (sortedAll_at s.heap vs out.toArray)⟩
end
end SrtT
namespace L2
open PySem PySem.Spec PyProof.Rows
abbrev ltT (k : V → Str × Str) (x y : V) : Bool := SrtT.lexT (k x) (k y)
/-- sorted(xs), xs a tuple of pairs of texts (k says which): a new list -/
def rSortedTT (K : PySem.W.Frag) : List V → Hp → VK → Prop := fun vs H Q => ∃ (a : Addr) (xs : List V) (k : V → Str × Str), vs = [V.ref a] ∧ SqT K H a xs ∧ (∀ x ∈ xs, ∃ t, x = V.ref t ∧ H t = some (.tup [.str (k x).1, .str (k x).2])) ∧
  ∀ ys p, SrtO.Srtd (ltT k) ys → ys.Perm xs → H p = none → Q (.ref p) (upd H p (.lst ys))
section
variable {X : Cx}
theorem cr_sortedTT : CallR X (.builtin "sorted") (rSortedTT X.K) := by
  intro pins s σ H vs us Q I r h
  obtain ⟨a, xs, k, rfl, hs, hx, q⟩ := h
  obtain ⟨its, rv, hl, hz⟩ := I.tuple hs
  obtain ⟨u, rfl, ru⟩ := vals1 r
  obtain rfl : u = Value.ref a := ru
  obtain ⟨e1, e2⟩ := refs_back rv fun x m => by
    obtain ⟨t, e, _⟩ := hx x m
    exact ⟨t, e⟩
  refine SrtT.sorted_tup (k := fun u => k (backV u)) hl (by rw [← rv.length]; exact hz) (fun v hv => ?_) fun h' d out h1 h2 kp hd hn => ?_
  · obtain ⟨t, rfl⟩ := e2 v hv
    have hm : V.ref t ∈ xs := by rw [e1]; exact List.mem_map.mpr ⟨_, hv, rfl⟩
    obtain ⟨t', e, ht⟩ := hx _ hm
    cases e
    obtain ⟨_, its2, r2, o, ho, hc, n, hd⟩ := I.hok _ _ ht
    obtain ⟨u1, u2, rfl, ri, rj⟩ := vals2 r2
    obtain ⟨t1, rfl⟩ := ri
    obtain ⟨t2, rfl⟩ := rj
    exact ⟨t, o, t1, t2, n, rfl, ho, hc, hd⟩
  · have h3 : ∀ u ∈ out, ∃ a, u = Value.ref a := fun u hu => e2 u (h2.perm.mem_iff.mp hu)
    obtain ⟨n, hn⟩ := hn
    have hb : (out.map backV).Perm xs := by
      rw [e1]
      exact h2.perm.map backV
    refine ⟨.ref d, upd H d (.lst (out.map backV)), I.laid (t' := s.toks) kp hd ⟨?_, out, n, vals_back h3, hn⟩, rfl, q _ d (SrtO.srtd_map h1) hb (I.hok.fresh hd)⟩
    rw [hb.length_eq]
    exact hz
end
end L2
/-! set(a list of texts), sorted(it) -/
namespace StS
open PySem PySem.Spec PyProof.Rows L2
/-- the text of a row of a set, and what such a row is -/
def rowT (e : Int × Value) : Str := strOf e.2
def RowT (P : Program) (w : World) (e : Int × Value) : Prop := ∃ k t, e.2 = .str k t ∧ e.1 = (PySem.strKind P w).hash k
/-- at a stands a set of the texts ks, in the order of its rows; its table rises and may be walked -/
def TxS (P : Program) (w : World) (h : Heap) (a : Addr) (ks : List Str) : Prop := ∃ (o : Obj) (es : Array (Int × Value)) (ep : Nat) (t : SetTable), (h.get? a = some o ∧ o.ExactSet ∧ o.data = .set es ep t) ∧
  ((∀ e ∈ es.toList, RowT P w e) ∧ es.toList.map rowT = ks ∧ ks.Nodup) ∧ (es.size < scanBound ∧ t.fits es.size = true) ∧ Ris t.place.toList ∧ (w.params.followText "set-order" = true ∨ t.led = true)
section
variable {P : Program} {w : World} {h h' : Heap} {a : Addr} {ks : List Str}
theorem TxS.at (R : TxS P w h a ks) (k : ∀ o, h.get? a = some o → h'.get? a = some o) : TxS P w h' a ks := by
  obtain ⟨o, es, ep, t, ⟨ho, q⟩, r⟩ := R
  exact ⟨o, es, ep, t, ⟨k o ho, q⟩, r⟩
theorem row_is {e : Int × Value} (r : RowT P w e) (k : Str) : (PySem.strKind P w).is k e.2 = true ↔ rowT e = k := by
  obtain ⟨k0, t, h1, _⟩ := r
  have mine : (PySem.strKind P w).is k0 e.2 = true := by rw [h1]; exact strKind_is P w k0 t
  rw [KeyKind.is_eq_decide mine k, decide_eq_true_iff, show rowT e = k0 by unfold rowT; rw [h1]; rfl]
  exact eq_comm
theorem rows_elems {l : List (Int × Value)} (g : ∀ e ∈ l, RowT P w e) : ElemsOf (PySem.strKind P w) l := fun e he => by
  obtain ⟨k, t, h1, h2⟩ := g e he
  exact ⟨⟨k, by rw [h1]; exact strKind_is P w k t, h2⟩, by rw [h1]; rfl⟩
theorem TxS.len (R : TxS P w h a ks) : ∃ (o : Obj) (es : Array (Int × Value)) (ep : Nat) (t : SetTable), h.get? a = some o ∧ es.size = ks.length := by
  obtain ⟨o, es, ep, t, ⟨ho, _⟩, ⟨_, e, _⟩, _⟩ := R
  exact ⟨o, es, ep, t, ho, by rw [← e, List.length_map, Array.length_toList]⟩
end
section
variable {P : Program} {w : World} {A : Around} {E : Value → Shared → Prop} {s : Shared} {a : Addr} {ks : List Str}
/-- behind the new row: the table may be laid anew -/
theorem settle {g : Bool → Sem Unit} (quiet : ∀ (b : Bool) (s1 : Shared) (Q : Unit → Shared → Prop), Q () s1 → wpAny (model P w) A (g b) Q E s1) {o : Obj} {es es1 : Array (Int × Value)} {ep : Nat} {t t2 : SetTable}
    (ho : s.heap.get? a = some o) (hx : o.ExactSet) (hd : o.data = .set es ep t) (rows : ∀ e ∈ es1.toList, RowT P w e) (once : (es1.toList.map rowT).Nodup) (few : es1.size < scanBound) (fit : t2.fits es1.size = true) (ris : Ris t2.place.toList)
    (led : w.params.followText "set-order" = true ∨ t2.led = true) {old : Bool} {R : Option Bool → Shared → Prop} (out : ∀ h' ks', Heap.SameBut a s.heap h' → ks'.Perm (es1.toList.map rowT) → TxS P w h' a ks' → R (some true) { s with heap := h' }) :
    wpAny (model P w) A (do
        storeSet a es1 t2
        if (!old && t2.tooFull) = true then do
            g (relayAll t2 es1 (SetTable.grown es1.size)).2.2
            storeSet a (relayAll t2 es1 (SetTable.grown es1.size)).1 (relayAll t2 es1 (SetTable.grown es1.size)).2.1
            pure (some true)
          else pure (some true)) R E s := by
  have stored := store_at (es' := es1) (t' := t2) ho hd
  have but1 := Heap.SameBut.update s.heap a (Obj.putSet es1 t2)
  refine wpAny_bind (wpAny_storeSet_of ho hd ?_ (fits_of_scanBound few))
  split
  · have q1 := relayAll_perm t2 es1 (SetTable.grown es1.size)
    have q2 := relayAll_fits t2 es1 (SetTable.grown es1.size)
    have q3 := relayAll_ris t2 es1 (SetTable.grown es1.size)
    have q4 := relayAll_led t2 es1 (SetTable.grown es1.size)
    revert q1 q2 q3 q4
    generalize relayAll t2 es1 (SetTable.grown es1.size) = Z
    obtain ⟨es2, t3, gave⟩ := Z
    dsimp only
    intro q1 q2 q3 q4
    have size : es2.size = es1.size := by rw [← Array.length_toList, q1.length_eq, Array.length_toList]
    have few2 : es2.size < scanBound := size ▸ few
    refine wpAny_bind (quiet _ _ _ (wpAny_bind (wpAny_storeSet_of stored rfl ?_ (fits_of_scanBound few2))))
    exact wpAny_pure (out _ (es2.toList.map rowT) (but1.trans (Heap.SameBut.update _ a _)) (q1.map rowT) ⟨_, es2, _, t3, ⟨store_at stored rfl, hx, rfl⟩, ⟨fun e he => rows e (q1.mem_iff.mp he), rfl, (q1.map rowT).nodup_iff.mpr once⟩, ⟨few2, q2⟩, q3,
      led.imp id fun z => q4.trans z⟩)
  · exact wpAny_pure (out _ _ but1 (List.Perm.refl _) ⟨_, es1, _, t2, ⟨stored, hx, rfl⟩, ⟨rows, rfl, once⟩, ⟨few, fit⟩, ris, led⟩)
/-- a text is added -/
theorem add {k : Str} {tk : Tok} {Q : Bool → Shared → Prop} (R : TxS P w s.heap a ks) (room : ks.length + 1 < scanBound)
    (out : ∀ b h' ks', Heap.SameBut a s.heap h' → (k ∈ ks ∧ ks' = ks ∨ k ∉ ks ∧ ks'.Perm (k :: ks)) → TxS P w h' a ks' → Q b { s with heap := h' }) :
    wpAny (model P w) A (setAddHashed a (.str k tk) ((PySem.strKind P w).hash k)) Q E s := by
  obtain ⟨o, es, ep, t, ⟨ho, hx, hd⟩, ⟨rows, ek, once⟩, ⟨few, fit⟩, ris, led⟩ := id R
  have size : es.size = ks.length := by rw [← ek, List.length_map, Array.length_toList]
  have mine : (PySem.strKind P w).is k (.str k tk) = true := strKind_is P w k tk
  have scan : (Value.str k tk).scannable = true := rfl
  have elems := rows_elems rows
  have within : k ∈ ks ↔ ∃ e ∈ es.toList, (PySem.strKind P w).is k e.2 = true := by
    rw [← ek, List.mem_map]
    exact ⟨fun ⟨e, he, q⟩ => ⟨e, he, (row_is (rows e he) k).mpr q⟩, fun ⟨e, he, q⟩ => ⟨e, he, (row_is (rows e he) k).mp q⟩⟩
  have calm : ∀ (b : Bool) (s1 : Shared) (Q' : Unit → Shared → Prop), Q' () s1 → wpAny (model P w) A (match b with | true => rule "set.scan.the-table-gave-way" | false => pure ()) Q' E s1 := fun b s1 Q' q => by
    cases b
    · exact wpAny_pure q
    · exact wpAny_rule q
  unfold setAddHashed setAddHashedIn
  refine wpAny_holding (wpAny_bind (wpAny_setState_of ho hd fit ?_))
  dsimp only
  rw [byScan_of scan few elems, if_pos rfl]
  unfold setAddByScan
  refine wpAny_bind (wpAny_bind (wpAny_rule (wpAny_bind (wpAny_setScan_of mine ho hd fit elems ?_))))
  cases found : List.findIdx? (fun e => (PySem.strKind P w).is k e.2) es.toList with
  | some j =>
    dsimp only
    obtain ⟨lt, is, _⟩ := List.findIdx?_eq_some_iff_getElem.mp found
    exact wpAny_pure (wpAny_pure (out _ s.heap ks (Heap.SameBut.refl a s.heap) (.inl ⟨within.mpr ⟨_, List.getElem_mem lt, is⟩, rfl⟩) R))
  | none =>
    dsimp only
    have new : k ∉ ks := fun z => by
      obtain ⟨e, he, q⟩ := within.mp z
      have := List.findIdx?_eq_none_iff.mp found e he
      rw [q] at this
      cases this
    have q1 := layNew_perm t es ((PySem.strKind P w).hash k) (.str k tk)
    have q2 := layNew_fits t es ((PySem.strKind P w).hash k) (.str k tk)
    have q3 := layNew_ris t es ((PySem.strKind P w).hash k) (.str k tk) ris
    have q4 := layNew_led t es ((PySem.strKind P w).hash k) (.str k tk)
    revert q1 q2 q3 q4
    generalize layNew t es ((PySem.strKind P w).hash k) (.str k tk) = Z
    obtain ⟨es1, t1, old, gave⟩ := Z
    dsimp only
    intro q1 q2 q3 q4
    have pm : es1.toList.Perm (((PySem.strKind P w).hash k, Value.str k tk) :: es.toList) := by
      rw [Array.toList_push] at q1
      exact q1.trans (List.perm_append_singleton _ _)
    have pk : (es1.toList.map rowT).Perm (k :: ks) := by
      have := pm.map rowT
      rwa [List.map_cons, ek] at this
    have rows1 : ∀ e ∈ es1.toList, RowT P w e := fun e he => by
      rcases List.mem_cons.mp (pm.mem_iff.mp he) with z | z
      · exact z ▸ ⟨k, tk, rfl, rfl⟩
      · exact rows e z
    have few1 : es1.size < scanBound := by
      have := pm.length_eq
      rw [Array.length_toList, List.length_cons, Array.length_toList, size] at this
      omega
    have once1 : (es1.toList.map rowT).Nodup := pk.nodup_iff.mpr (List.nodup_cons.mpr ⟨new, once⟩)
    have led1 : w.params.followText "set-order" = true ∨ t1.led = true := led.imp id fun z => q4.trans z
    refine wpAny_bind (calm _ _ _ ?_)
    split
    · refine wpAny_bind ?_
      rw [hashByValue_scannable 8 scan]
      refine wpAny_pure (settle (fun b s1 Q' q => calm b s1 Q' q) ho hx hd rows1 once1 few1 ?_ ?_ ?_ fun h' ks' sb p r => ?_)
      · first | (split <;> first | exact q2 | exact SetTable.fits_plain_off q2) | exact q2
      · first | (split <;> exact q3) | exact q3
      · first | (split <;> exact led1) | exact led1
      · dsimp only
        exact wpAny_pure (out _ h' ks' sb (.inr ⟨new, p.trans pk⟩) r)
    · refine wpAny_bind (wpAny_pure ?_)
      rw [if_pos rfl]
      refine settle (fun b s1 Q' q => calm b s1 Q' q) ho hx hd rows1 once1 few1 q2 q3 led1 fun h' ks' sb p r => ?_
      dsimp only
      exact wpAny_pure (out _ h' ks' sb (.inr ⟨new, p.trans pk⟩) r)
end
end StS
namespace StS
open PySem PySem.Spec PyProof.Rows L2
section
variable {P : Program} {w : World} {A : Around} {E : Value → Shared → Prop} {s : Shared}
/-- the same texts, each once -/
def Same (ks xs : List Str) : Prop := ks.Nodup ∧ (∀ k, k ∈ ks ↔ k ∈ xs) ∧ ks.length ≤ xs.length
abbrev blank (w : World) : Obj := { cls := .type "set", dict := none, data := .set #[] 0 (.fresh 0 0 (!w.params.followText "set-order")) }
def Done (P : Program) (w : World) (s : Shared) (xs : List Str) (s2 : Shared) : Prop := ∃ hp tk ks, s2 = { s with heap := hp, toks := tk } ∧ TxS P w hp s.heap.objs.size ks ∧ Same ks xs ∧ ∀ b u, s.heap.get? b = some u → hp.get? b = some u
theorem blank_tx {h : Heap} {a : Addr} (e : h.get? a = some (blank w)) : TxS P w h a [] := by
  refine ⟨_, #[], 0, .fresh 0 0 (!w.params.followText "set-order"), ⟨e, ⟨rfl, rfl, rfl⟩, rfl⟩, ⟨fun e he => absurd he (by simp), rfl, List.nodup_nil⟩, ⟨by unfold scanBound; decide, ?_⟩, ?_, ?_⟩
  · rfl
  · exact List.Pairwise.nil
  · cases q : w.params.followText "set-order" with
    | true => exact .inl rfl
    | false => exact .inr rfl
/-- one text after the other -/
theorem goes {I : Addr} {fp wr : List Addr} {G : Array GenState → Array GenState → Prop} {n : Nat} {Pv : Nat → Value → Prop} {St : Nat → Shared → Prop} {R : Result → Shared → Prop} (W : WalksS P w A.in1 I fp wr G n Pv St) (S : Addr) (apart : S ∉ fp) (xs : List Str) (many : n = xs.length)
    (few : xs.length + 1 < scanBound) (tells : ∀ i v, Pv i v → ∃ t, v = .str (xs.getD i Str.empty) t) (left : Nat) : ∀ (i : Nat) (s : Shared) (ks : List Str), n = i + left → St i s → TxS P w s.heap S ks → Same ks (xs.take i) →
      (∀ s' ks', Moved (S :: wr) G s s' → TxS P w s'.heap S ks' → Same ks' xs → R (.ok (.ret .none)) s') → codeAny (model P w) A (.builtin "set.update.loop" ⟨[.ref S, .ref I], []⟩) R s := by
  have off : S ∉ wr := fun z => apart (W.sub _ z)
  have more : ∀ b ∈ wr, b ∈ S :: wr := fun b z => List.mem_cons_of_mem _ z
  induction left with
  | zero =>
    intro i s ks hn st set same out
    have all : xs.take i = xs := List.take_of_length_le (by omega)
    rw [all] at same
    have hin : n = i := hn
    subst hin
    refine codeAny_builtin F.entry_set_update_loop (by
      rw [Around.under_plainId F.plain_set_update_loop _]
      exact wpAny_bind (m := pyNext (.ref I)) (W.done s _ _ st fun s' hm => wpAny_pure (out s' ks (hm.mono more) (set.at fun o e => hm.heap S o off e) same)))
  | succ left ih =>
    intro i s ks hn st set same out
    have lt : i < n := by omega
    refine codeAny_builtin F.entry_set_update_loop (by
      rw [Around.under_plainId F.plain_set_update_loop _]
      refine wpAny_bind (m := pyNext (.ref I)) (W.item i s _ _ lt st fun v s' hP st' hm => ?_)
      obtain ⟨t, rfl⟩ := tells i v hP
      have set' : TxS P w s'.heap S ks := set.at fun o e => hm.heap S o off e
      show wpAny _ A.in1 (holding [Value.str (xs.getD i Str.empty) t] (setAdd S (.str (xs.getD i Str.empty) t)) >>= _) _ _ s'
      have room : ks.length + 1 < scanBound := by
        have := same.2.2
        rw [List.length_take] at this
        omega
      have at_i : xs[i]? = some (xs.getD i Str.empty) := by
        rw [List.getD_eq_getElem?_getD, List.getElem?_eq_getElem (by omega)]
        rfl
      unfold setAdd
      refine wpAny_bind (wpAny_holding (wpAny_holding (wpAny_bind ((PySem.strKind P w).pyHash (k := xs.getD i Str.empty) (strKind_is _ _ _ _) (add (s := { s' with toks := s'.toks + 1 }) set' room fun b h2 ks2 sb which set2 => ?_)))))
      have same2 : Same ks2 (xs.take (i + 1)) := by
        obtain ⟨s1, s2, s3⟩ := same
        rw [List.take_add_one, at_i]
        rcases which with ⟨hin, rfl⟩ | ⟨hout, pm⟩
        · refine ⟨s1, fun k => ?_, by rw [List.length_append]; omega⟩
          rw [List.mem_append]
          refine ⟨fun z => .inl ((s2 k).mp z), fun z => z.elim (s2 k).mpr fun z => ?_⟩
          have e : k = xs.getD i Str.empty := by simpa using z
          rw [e]
          exact hin
        · refine ⟨pm.nodup_iff.mpr (List.nodup_cons.mpr ⟨hout, s1⟩), fun k => ?_, ?_⟩
          · rw [pm.mem_iff, List.mem_cons, List.mem_append, s2 k]
            simp only [Option.toList_some, List.mem_singleton]
            exact Or.comm
          · rw [pm.length_eq, List.length_cons, List.length_append]
            simpa using s3
      refine wpAny_pure ⟨plainId_quiet F.plain_set_update_loop _, ih (i + 1) _ ks2 (by omega) (W.frame _ s' _ _ st' (Nat.le_succ _) fun b hb o e => ?_) set2 same2 fun s3 ks3 mv set3 same3 => ?_⟩
      · exact (sb.2 b fun z => apart (z ▸ hb)).trans e
      · exact out s3 ks3 (Moved.trans W.gtrans ((hm.mono more).then_heap (Nat.le_succ _) fun b o hb e => (sb.2 b fun z => hb (z ▸ List.mem_cons_self)).trans e) mv) set3 same3)
theorem tells_at : ∀ {vs : List Value} {xs : List Str}, StrsAre vs xs → ∀ (i : Nat) (v : Value), vs[i]? = some v → ∃ t, v = .str (xs.getD i Str.empty) t
  | _, _, .nil, i, v, e => by cases e
  | _, _, .cons y t r, 0, v, e => ⟨t, (Option.some.inj e).symm⟩
  | _, _, .cons y t r, i + 1, v, e => tells_at r i v e
theorem blank_at : (s.heap.push (blank w)).get? s.heap.objs.size = some (blank w) := Heap.get?_push_size _ rfl
theorem runs {l : Addr} {its : Array Value} {xs : List Str} (quiet : A.in1.handled = none) (here : s.heap.IsList l its) (are : StrsAre its.toList xs) (few : xs.length + 1 < scanBound) {R : Result → Shared → Prop} (out : ∀ s2, Done P w s xs s2 → R (.ok (.ret .none)) s2) :
    codeAny (model P w) A (.builtin "set.update.loop" ⟨[.ref s.heap.objs.size, .ref (s.heap.objs.size + 1)], []⟩) R { s with heap := (s.heap.push (blank w)).push { cls := .type "list_iterator", data := .fields #[.ref l, .int 0 0] } } := by
  have low : l < s.heap.objs.size := by
    obtain ⟨u, hu, _⟩ := here
    exact Heap.lt_size hu
  have wide : (s.heap.push (blank w)).objs.size = s.heap.objs.size + 1 := Heap.size_push ..
  have many : its.size = xs.length := (Array.length_toList ..).symm.trans are.len_eq
  have apart : s.heap.objs.size ∉ [s.heap.objs.size + 1, l] := fun z => by
    rcases List.mem_cons.mp z with z | z
    · exact absurd z (Nat.ne_of_lt (Nat.lt_succ_self _))
    · exact absurd (List.mem_singleton.mp z) (Nat.ne_of_gt low)
  have old : ∀ b u, s.heap.get? b = some u → ((s.heap.push (blank w)).push { cls := .type "list_iterator", data := .fields #[.ref l, .int 0 0] }).get? b = some u := fun b u e => Heap.get?_push_of_some _ (Heap.get?_push_of_some _ e)
  have iter : ((s.heap.push (blank w)).push { cls := .type "list_iterator", data := .fields #[.ref l, .int 0 0] }).get? (s.heap.objs.size + 1) = some { cls := .type "list_iterator", data := .fields #[.ref l, .int 0 0] } := by
    rw [← wide]
    exact Heap.get?_push_size _ rfl
  refine goes (Walks.list (prog := P) (w := w) quiet (s.heap.objs.size + 1) l (Nat.ne_of_lt (Nat.lt_succ_of_lt low)) its).toS s.heap.objs.size apart xs many few (fun i v hv => tells_at are i v (by rw [Array.getElem?_toList]; exact hv)) its.size 0 _ [] (by omega)
    ⟨⟨_, iter, rfl, rfl⟩, (here.push _).push _⟩ (blank_tx (Heap.get?_push_of_some _ blank_at)) ⟨List.nodup_nil, fun k => by simp, Nat.zero_le _⟩ fun s2 ks moved set same => ?_
  refine out s2 ⟨s2.heap, s2.toks, ks, ?_, set, same, fun b u e => moved.heap b u (fun z => ?_) (old b u e)⟩
  · have a1 := moved.gens
    have a2 := moved.drawn
    have a3 := moved.os
    cases s2
    cases s
    simp only at a1 a2 a3
    subst a1 a2 a3
    rfl
  · have lt := Heap.lt_size e
    rcases List.mem_cons.mp z with z | z
    · exact absurd z (Nat.ne_of_lt lt)
    · exact absurd (List.mem_singleton.mp z) (Nat.ne_of_lt (Nat.lt_succ_of_lt lt))
/-- a new set, told the list's texts -/
theorem fills {l : Addr} {its : Array Value} {xs : List Str} (quiet : A.handled = none) (here : s.heap.IsList l its) (are : StrsAre its.toList xs) (few : xs.length + 1 < scanBound) {B : Around} {R : Result → Shared → Prop} (out : ∀ s2, Done P w s xs s2 → R (.ok (.ret .none)) s2) :
    wpAny (model P w) A (Builtin.«set.__init__» ⟨[.ref s.heap.objs.size, .ref l], []⟩) (fun fin s2 => match fin with | .done f => R (.ok f) s2 | .again c => c.quiet = true ∧ codeAny (model P w) B c R s2) E { s with heap := s.heap.push (blank w) } := by
  have listed : (s.heap.push (blank w)).IsList l its := here.push _
  obtain ⟨⟨ucls, udict, udata, uslots⟩, hu, hc, k, hd⟩ := listed
  simp only at hc hd
  subst hc hd
  have b1 := F.sub_list_set
  have b2 := F.sub_list_frozenset
  have b3 : (Value.type "list" == Value.type "dict") = false := by decide
  have b4 := blank_at (w := w) (s := s)
  unfold Builtin.«set.__init__» noKeywords Builtin.Frozenset.updateFrom
  generalize name : pyIter = walk
  wp_walk
  subst name
  have wide : (s.heap.push (blank w)).objs.size = s.heap.objs.size + 1 := Heap.size_push ..
  refine wpAny_pyIter_list (here.push _) (wpAny_bind (wpAny_runValue ?_))
  rw [wide]
  exact runs (by simp [quiet]) here are few fun s2 z => wpAny_pure (wpAny_pure (out s2 z))
/-- set(xs) -/
theorem makes {l : Addr} {its : Array Value} {xs : List Str} {Q : Value → Shared → Prop} (quiet : A.handled = none) (here : s.heap.IsList l its) (are : StrsAre its.toList xs) (few : xs.length + 1 < scanBound)
    (out : ∀ s2, Done P w s xs s2 → Q (.ref s.heap.objs.size) s2) : wpAny (model P w) A (call (.type "set") [.ref l]) Q E s := by
  have all := F.called_set
  obtain ⟨c0, c1, c2⟩ := all.mro
  have d1 := all.made
  have d2 := all.sub
  have d3 := all.notType
  have d4 := all.canCreate
  have d5 := F.typeCall_set_1 (.ref l)
  refine wpAny_call (codeAny_of_tree ?_)
  show wpAny _ _ (callAny (.type "set") ⟨[.ref l], []⟩) _ _ _
  refine wpAny_pure ⟨Code.quiet_builtin _ (by decide +kernel), codeAny_builtin F.entry_type_call ?_⟩
  rw [Around.under_plain (weight_type_call_type "set" [.ref l] []) rfl]
  repeat (any_goals (first | assumption | wp_step))
  refine codeAny_mono (code_set_led1 (.ref l) (E := E) (Q₁ := fun v s1 => v = .ref s.heap.objs.size ∧ s1 = { s with heap := s.heap.push (blank w) }) ⟨rfl, rfl⟩) fun r s1 h1 => ?_
  cases r with
  | error e => exact h1
  | ok f =>
    cases f with
    | next => exact h1.elim
    | brk => exact h1.elim
    | cont => exact h1.elim
    | ret v =>
      obtain ⟨rfl, rfl⟩ := h1
      have e0 := blank_at (w := w) (s := s)
      have e1 : Shared.TypeIs { s with heap := s.heap.push (blank w) } (.ref s.heap.objs.size) "set" := ⟨_, e0, rfl⟩
      have e2 := all.init.lookup
      have e3 := all.init.bind (.ref s.heap.objs.size)
      repeat (any_goals (first | assumption | wp_step))
      refine codeAny_mono (codeAny_call_builtin (R := wants (fun v s2 => v = .none ∧ Done P w s xs s2) E) all.init.plain F.entry_set_init (check_set_init_1 e1 (fills (by simp [quiet]) here are few fun s2 z => ⟨rfl, z⟩))) fun r s2 h2 => ?_
      cases r with
      | error e => exact h2
      | ok f =>
        cases f with
        | next => exact h2.elim
        | brk => exact h2.elim
        | cont => exact h2.elim
        | ret v =>
          obtain ⟨rfl, z⟩ := h2
          repeat (any_goals (first | assumption | wp_step))
          exact out s2 z
/-- sorted(a set of texts) -/
theorem sorts {a : Addr} {ks : List Str} {Q : Value → Shared → Prop} (R : TxS P w s.heap a ks) (quiet : A.handled = none) (few64 : ks.length < 64)
    (out : ∀ s' p (row : Array Value) (c : Nat) (ys : List Str), (∀ b o, s.heap.get? b = some o → s'.heap.get? b = some o) → s'.gens = s.gens → s'.os = s.os → s.heap.objs.size ≤ p → s'.heap.get? p = some (seqObj "list" row c) → StrsAre row.toList ys → ys.Perm ks → sortedS ys = true → Q (.ref p) s') :
    wpAny (model P w) A (call (.builtin "sorted") [.ref a]) Q E s := by
  obtain ⟨o, es, ep, t, ⟨ho, hx, hd⟩, ⟨rows, ek, once⟩, ⟨few, fit⟩, ris, led⟩ := R
  have size : es.toList.length = ks.length := by rw [← ek, List.length_map]
  refine Calls.call_function_entry kind_sorted plain_sorted entry_sorted (args_sorted1 (.ref a)) (by
    unfold Builtin.«sorted»
    refine wpAny_bind (m := checkCount "sorted" 1 1 _) (wpAny_pure (wpAny_bind (collect_set (A := A.in1) quiet ⟨o, ho, hx.1, hd⟩ fit few ris led fun s1 vs keep lt gens os pm => ?_)))
    have many : vs.length < 64 := by
      rw [pm.length_eq, List.length_map, size]
      exact few64
    have are : StrsAre vs (vs.map strOf) := strsAre_map vs fun v hv => by
      obtain ⟨e, he, q⟩ := List.mem_map.mp (pm.mem_iff.mp hv)
      obtain ⟨k, tk, h1, _⟩ := rows e he
      exact ⟨k, tk, q ▸ h1⟩
    have perm : (vs.map strOf).Perm ks := by
      have := pm.map strOf
      rw [List.map_map] at this
      rw [← ek]
      exact this
    refine wpAny_bind (wpAny_newList ?_ (by rw [sizeLine_eq]; omega))
    have hoL : (s1.heap.push (seqObj "list" vs.toArray 0)).get? s1.heap.objs.size = some (seqObj "list" vs.toArray 0) := Heap.get?_push_size _ rfl
    refine wpAny_bind (wpAny_holding (wpAny_call_entry slot_list_sort ⟨_, hoL, rfl⟩ entry_list_sort (list_sort_treeK strKind_oneLt hoL are.keysOf (fun v₁ v₂ rest e => keyKind_strs (by rw [← e]; exact are)) many fun st' hp hs => ⟨_, rfl, ?_⟩) (args_list_sort _)))
    obtain ⟨ys, y1, y2, y3⟩ := sorted_out_str are hp hs
    obtain ⟨c, hc⟩ := sortedHeap_at (vs := vs) (out := (arrOf st').map (·.2)) hoL
    refine wpAny_pure ⟨_, rfl, out _ s1.heap.objs.size _ c ys (fun b u e => ?_) gens os lt hc y1 (y2.trans perm) y3⟩
    have q := keep b u e
    have small := Heap.lt_size q
    have same : (sortedHeap (s1.heap.push (seqObj "list" vs.toArray 0)) s1.heap.objs.size vs ((arrOf st').map (·.2))).get? b = (s1.heap.push (seqObj "list" vs.toArray 0)).get? b := sortedHeap_old (Nat.ne_of_lt small) (by rw [size_push']; exact Nat.lt_succ_of_lt small)
    exact same.trans (Heap.get?_push_of_some _ q))
end
/-- the set of texts at a, tracked -/
def SetT (P : Program) (w : World) (a : Addr) (ks : List Str) : HO := .ext fun h => TxS P w h a ks
section
variable {X : Cx}
theorem setT_ok {P : Program} {w : World} {H : Hp} {h : Heap} {a : Addr} {ks : List Str} (R : TxS P w h a ks) : ObjOk P w H h a (SetT P w a ks) := by
  obtain ⟨o, es, ep, t, ho, _⟩ := R.len
  exact ⟨R, ⟨o, ho⟩, fun _ _ q k => q.at k⟩
def rSetT (X : Cx) : List V → Hp → VK → Prop := fun vs H Q => ∃ l xs, vs = [.ref l] ∧ SqL X.K H l (xs.map V.str) ∧ xs.length < 1000 ∧ ∀ a ks, H a = none → Same ks xs → Q (.ref a) (upd H a (SetT X.prog X.w a ks))
theorem cr_setT (hc : X.calm = true) : CallR X (.type "set") (rSetT X) := by
  intro pins s σ H vs us Q I r hq
  obtain ⟨l, xs, rfl, hl, hz, q⟩ := hq
  rw [Vals.ref1 r]
  obtain ⟨its, rv, here, _⟩ := I.list hl
  refine makes (I.ok.hd hc) here.isList (xs := xs) (by simpa using rv.strs) (by unfold scanBound; omega) fun s2 z => ?_
  obtain ⟨hp, tk, ks, rfl, R, same, keep⟩ := z
  exact ⟨.ref s.heap.objs.size, _, I.laid (t' := tk) keep (Nat.le_refl _) (setT_ok R), rfl, q _ ks (I.hok.fresh (Nat.le_refl _)) same⟩
def rSortT (X : Cx) : List V → Hp → VK → Prop := fun vs H Q => ∃ a ks, vs = [.ref a] ∧ H a = some (SetT X.prog X.w a ks) ∧ ks.length < 64 ∧ ∀ ys p, ys.Perm ks → sortedS ys = true → H p = none → Q (.ref p) (upd H p (.lst (ys.map V.str)))
theorem cr_sortT (hc : X.calm = true) : CallR X (.builtin "sorted") (rSortT X) := by
  intro pins s σ H vs us Q I r hq
  obtain ⟨a, ks, rfl, ha, hz, q⟩ := hq
  rw [Vals.ref1 r]
  refine sorts ((I.hok a _ ha).1) (I.ok.hd hc) hz fun s' p row c ys keep gens os le at_ are perm srt => ?_
  have new : H p = none := I.hok.fresh le
  have short : (ys.map V.str).length ≤ sizeLine := by rw [List.length_map, perm.length_eq, sizeLine_eq]; omega
  have J : Inv X pins σ (upd H p (.lst (ys.map V.str))) { s with heap := s'.heap, gens := s'.gens, drawn := s'.drawn, toks := s'.toks } :=
    I.call (ch := []) (Un.laid keep le new) (I.hok.laid keep le ⟨short, row.toList, c, vals_of_strs are, at_⟩) (by rw [gens]; exact I.bare) (fun _ z => absurd z (by simp))
  have same : s' = { s with heap := s'.heap, gens := s'.gens, drawn := s'.drawn, toks := s'.toks } := by
    cases s'
    cases s
    cases os
    rfl
  rw [same]
  exact ⟨.ref p, _, J, rfl, q ys p perm srt new⟩
end
end StS
/-! len of a set of texts -/
namespace StS
open PySem PySem.Spec PyProof.Rows L2
section
variable {X : Cx}
def rLenS (X : Cx) : List V → Hp → VK → Prop := fun vs H Q => ∃ a ks, vs = [.ref a] ∧ H a = some (SetT X.prog X.w a ks) ∧ ks.length < 1000 ∧ Q (.int (ks.length : Int)) H
theorem cr_lenS : CallR X (.builtin "len") (rLenS X) := by
  intro pins s σ H vs us Q I r hq
  obtain ⟨a, ks, rfl, ha, hz, q⟩ := hq
  rw [Vals.ref1 r]
  obtain ⟨o, es, ep, t, ⟨ho, hx, hd⟩, ⟨_, ek, _⟩, ⟨_, fit⟩, _⟩ := (I.hok a _ ha).1
  have size : es.size = ks.length := by rw [← ek, List.length_map, Array.length_toList]
  exact call_len_set ho hx hd fit (by rw [size]; omega) ⟨.int ks.length, H, I.tok _, ⟨_, by rw [size]⟩, q⟩
end
end StS
/-! C.m(k = v, ..) of a static method that may let an error out; C(k = v), __init__ with a star behind -/
namespace StM
open PySem PySem.Spec PyProof.Rows L2 ClX
section
variable {X : Cx} {CX : CXT} {E : XK} {k : Nat} {C p f : Addr} {mc : Value} {fd : FuncData} {ps ks : List Str} {sp : Sp} {o : Expr} {m : Str} {pos apos : Pos} {ta : TE} {tk : TA} {pl : Sem Bool} {kws : List Keyword} {g : List Value → List Value → List Value} {gV : List V → List V → List V}
theorem pe_smethKx (he : PE X o ta) (r : CRead X.K C mc) (c : SMet X.K C mc m p f) (F : FnOk X.prog X.w X.K X.mg X.base CX k f fd ps sp) (hr : Room k X.A) (hx : Passes CX X E) (hb : KBn X.K fd ps 0 ks g gV) (hkw : PK X kws tk)
    (some_ : (backToKw pos (keywordEach kws X.env)).all (·.1.isSome) = true := by rfl) (names : (backToKw pos (keywordEach kws X.env)).filterMap (·.1) = ks := by rfl)
    (none_ : ((backTo pos (starEach [] X.env)).any (·.1) || (backToKw pos (keywordEach kws X.env)).any (·.1.isNone)) = false := by rfl)
    (form : eval (.Call (.Attribute o m apos) [] kws pos) X.env = (do let ov ← eval o X.env; standAt apos.atName; let (f, first) ← holding [ov] (getMethod ov m pl); callWith pos f first (backTo pos (starEach [] X.env)) (backToKw pos (keywordEach kws X.env))) := by rfl) :
    PE X (.Call (.Attribute o m apos) [] kws pos) (tSMethK C ks.length sp gV E ta tk) := by
  constructor
  intro pins s σ H Q I h
  refine PySem.W.methodCall_KW (pl := pl) (thn (he.run pins s σ H _ I h) fun u s1 back => ?_) form
  obtain ⟨x, H1, J, rx, ex, q⟩ := back
  subst ex
  cases (show u = Value.ref C from rx)
  obtain ⟨rest, hp⟩ := c.rc
  refine PySem.W.method_cls J.kIn r.ga (PySem.W.cls_bind J.kIn r.rd c.at_ (wpAny_call (PySem.W.sm_get (s := { s1 with toks := s1.toks + 1 }) J.kIn hp (PySem.W.handed_on rfl ?_))))
  have J2 : Inv X pins σ H1 { s1 with toks := s1.toks + 1 } := J.tok _
  refine PySem.W.callWith_KW0 (first := []) (h₀ := X.base) J2.ok.mod.kin c.kp some_ ?_ none_
  refine thn (hkw.run pos pins _ σ H1 _ J2 q) fun ws s2 back => ?_
  obtain ⟨zs, H2, I2, rz, l2, q2⟩ := back
  refine ⟨I2.kIn, ?_⟩
  rw [names]
  exact run_fnN (us := []) (vs := []) F hr hb hx I2 .nil rz rfl l2 q2
end
end StM
namespace StX
open PySem PySem.Spec PyProof.Rows L2
section
variable {CX : CXT} {P : Program} {w : World} {K : PySem.W.Frag} {mg : Str → Option Value} {base : Heap} {k : Nat} {f : Addr} {name qual : Str} {params : Arguments} {body : List Stmt} {scope : Scope} {dV kV doc pm cdv ct oc : Value} {an od : Option Addr} {osl : Array (Option Value)} {N : List Str} {sp : Sp}
/-- a def (self, x, *v), asked with x by its name -/
def Kw1 (P : Program) (w : World) (K : PySem.W.Frag) (mg : Str → Option Value) (base : Heap) (CX : CXT) (k : Nat) (f : Addr) (x : Str) (sp : Sp) : Prop := ∀ (A : Around) (outer : List Env) (s : Shared) (H : Hp) (u0 u1 : Value) (v0 v1 : V) (Q : VK) (E : XK),
  Room k A → Env0 P w K mg base A outer s H → RelV v0 u0 → RelV v1 u1 → (∀ p, H p = none → sp [v0, v1, .ref p] (upd H p (.tup [])) Q E) → codeAny (model P w) A (.call (.ref f) ⟨[u0], [(x, u1)]⟩) (CR CX outer P w H s Q E) s
theorem kw1 {a0 x pv : Str} (lk : K.lookup f = some ⟨oc, od, .func (PySem.W.fnOf name qual params body scope dV kV doc pm an cdv ct), osl⟩) (hcd : PySem.W.codeIn K cdv qual = true) (S : FnScope N [a0, x, pv] scope) (up : CXUp CX)
    (binds : ∀ u0 u1 : Value, bindArgs (PySem.W.fnOf name qual params body scope dV kV doc pm an cdv ct) ⟨[u0], [(x, u1)]⟩ = (newTuple [] >>= fun t => pure [(a0, u0), (x, u1), (pv, t)]))
    (runs : ∀ (A : Around) (outer : List Env) (s : Shared) (H : Hp) (vs : List V) (Q : VK) (E : XK), Room k (A.deeper (envOfC qual scope s.heap.objs.size f cdv)) → sp vs H Q E →
      ∃ t, PSs (cxOf CX P w K mg base N qual scope f cdv A outer s H E) body t ∧ t { nx := fun _ H' => Q .non H', rt := Q } (start N vs) H) : Kw1 P w K mg base CX (k + 1) f x sp := by
  intro A outer s H u0 u1 v0 v1 Q E room e0 r0 r1 told
  have fresh : H s.heap.objs.size = Option.none := e0.hok.fresh (Nat.le_refl _)
  have laid := un_laid (fs := frs outer) (s := s) (o := ({ cls := .type "tuple", data := .seq #[] } : Obj)) (u := .tup []) fresh
  have obj : ObjOk P w (upd H s.heap.objs.size (.tup [])) (s.heap.push ({ cls := .type "tuple", data := .seq #[] } : Obj)) s.heap.objs.size (.tup []) := ⟨Nat.zero_le _, [], .nil, ⟨_, Heap.get?_push_size _ rfl, rfl, _, rfl⟩⟩
  apply run_bnd lk hcd S room e0 (G := fun xs H2 => ∃ p, H p = Option.none ∧ xs = [v0, v1, V.ref p] ∧ H2 = upd H p (.tup []))
  · intro A' Ex Q' h
    rw [binds]
    refine wpAny_bind (wpAny_newTuple (wpAny_pure ?_) (Nat.zero_le _))
    exact h _ _ [v0, v1, V.ref s.heap.objs.size] [u0, u1, Value.ref s.heap.objs.size] (env0_laid e0 obj) laid rfl (fun e s' => up outer s H _ _ E e s' laid (fun b o q => Heap.get?_push_of_some _ q) rfl) (.cons r0 (.cons r1 (.cons rfl .nil))) rfl ⟨_, fresh, rfl, rfl⟩
  · rintro s2 H2 xs ⟨p, hp, rfl, rfl⟩ room'
    exact runs A outer s2 _ _ Q E room' (told p hp)
end
end StX
namespace StX
open PySem PySem.Spec PyProof.Rows L2
section
variable {X : Cx} {CX : CXT} {E : XK} {k : Nat} {C f : Addr} {n x : Str} {sp : Sp} {tk : TA} {kws : List Keyword} {p pos : Pos}
/-- C(x = e), what stands behind x in __init__ is a star -/
def tMakeKw (C : Addr) (sp : Sp) (E : XK) (tk : TA) : TE := fun σ H Q => tk σ H fun zs H1 => ∃ z, zs = [z] ∧ ∀ o dx, H1 o = Option.none → H1 dx = Option.none → dx ≠ o → ∀ q, (upd (upd H1 dx (.own o)) o (.ins C dx [])) q = Option.none →
  sp [V.ref o, z, V.ref q] (upd (upd (upd H1 dx (.own o)) o (.ins C dx [])) q (.tup [])) (fun v H2 => v = .non ∧ Q (.ref o) H2) E
theorem pe_makeKw (M : Mk X.K C f) (F : Kw1 X.prog X.w X.K X.mg X.base CX k f x sp) (room : Room (k + 1) X.A) (glob : Gl X n) (isC : X.mg n = some (.ref C)) (hx : Passes CX X E) (hkw : PK X kws tk)
    (all_ : (backToKw pos (keywordEach kws X.env)).all (·.1.isSome) = true := by rfl) (name : (backToKw pos (keywordEach kws X.env)).filterMap (·.1) = [x] := by rfl)
    (plain : ((backTo pos (starEach [] X.env)).any (·.1) || (backToKw pos (keywordEach kws X.env)).any (·.1.isNone)) = false := by rfl) (nd : (n == ("__debug__" : Str)) = false := by decide) : PE X (.Call (.Name n p) [] kws pos) (tMakeKw C sp E tk) := by
  constructor
  intro pins s σ H Q I h
  apply wpAny_Call_Name_kw
  refine ld_glob I glob isC ?_ nd
  refine PySem.W.callWith_KW0 (first := []) (h₀ := X.base) I.ok.mod.kin M.kp all_ ?_ plain
  refine thn (hkw.run pos pins s σ H _ I h) fun ws s2 back => ?_
  obtain ⟨zs, H2, I2, rz, z, ez, told⟩ := back
  subst ez
  obtain ⟨u, eu, ru⟩ := vals1 rz
  subst eu
  refine ⟨I2.kIn, ?_⟩
  rw [name]
  have I3 := Inv.made (C := C) I2
  have here := told (s2.heap.objs.size + 1) s2.heap.objs.size (I2.hok.fresh (Nat.le_succ _)) (I2.hok.fresh (Nat.le_refl _)) (Nat.ne_of_lt (Nat.lt_succ_self _))
  have ran := F _ X.stack _ _ (Value.ref (s2.heap.objs.size + 1)) u (V.ref (s2.heap.objs.size + 1)) z _ E (room.make C [] [(x, u)]) (I3.env0.make C [] [(x, u)]) rfl ru here
  refine wpAny_call (make_map (f := f) (vs := []) (kw := [(x, u)]) I2.kIn M.makes M.init (beq_iff_eq.mp M.fn) (codeAny_mono ran fun r s3 out => ?_))
  match r, out with
  | .error e, out => exact hx pins σ _ _ e s3 I3 out
  | .ok (.ret v), out =>
    obtain ⟨v', H', I4, rv, ev, q3⟩ := I3.after out
    subst ev
    exact ⟨rv, ⟨V.ref (s2.heap.objs.size + 1), H', I4, rfl, q3⟩⟩
  | .ok .next, out => exact out.elim
  | .ok .brk, out => exact out.elim
  | .ok .cont, out => exact out.elim
end
end StX
/-! pure: signs, distinct texts, words -/
namespace K08
open PySem L2 Evl SrtT
abbrev oi : Str := "01"
abbrev mt : Str := ""
abbrev colon : Str := ":"
abbrev comma : Str := ","
/-! ### signs -/
theorem tw_all {p : Nat → Bool} : ∀ {l : List Nat}, l.all p = true → l.takeWhile p = l
  | [], _ => rfl
  | a :: l, h => by
    rw [List.all_cons, Bool.and_eq_true] at h
    rw [List.takeWhile_cons, if_pos h.1, tw_all h.2]
theorem tw_lt {p : Nat → Bool} : ∀ {l : List Nat}, l.all p = false → (l.takeWhile p).length < l.length
  | a :: l, h => by
    rw [List.takeWhile_cons]
    by_cases ha : p a = true
    · rw [List.all_cons, ha, Bool.true_and] at h
      rw [if_pos ha]
      have := tw_lt h
      rw [List.length_cons, List.length_cons]
      omega
    · rw [if_neg ha]
      simp
theorem tw_off {p : Nat → Bool} : ∀ {l : List Nat}, l.all p = false → (l.drop (l.takeWhile p).length).all p = false
  | a :: l, h => by
    rw [List.takeWhile_cons]
    by_cases ha : p a = true
    · rw [List.all_cons, ha, Bool.true_and] at h
      rw [if_pos ha]
      exact tw_off h
    · rw [if_neg ha]
      show List.all (a :: l) p = false
      rw [List.all_cons, Bool.eq_false_iff.mpr ha, Bool.false_and]
def isO (c : Nat) : Bool := decide (c = 48 ∨ c = 49)
/-- a text of signs alone -/
def Sg (z : Str) : Bool := (TL.tl z).all isO
def signsB (z : Str) : Bool := decide (V.str (Txt.stripChars z oi) = V.str mt)
theorem goes_is (c : Nat) : oi.cps.contains c = isO c := by
  have e : oi.cps = #[48, 49] := by decide +kernel
  rw [e]
  unfold isO
  by_cases h : c = 48
  · subst h; decide +kernel
  · by_cases h2 : c = 49
    · subst h2; decide +kernel
    · simp [h, h2]
theorem strip_tl (z : Str) : TL.tl (Txt.stripChars z oi) = [] ↔ Sg z = true := by
  unfold Txt.stripChars
  rw [PyProof.Rows.stripBy_eq, TL.tl_strSub]
  have e : oi.cps.contains = isO := funext goes_is
  rw [e]
  have lo : stripLo isO true z = ((TL.tl z).takeWhile isO).length := rfl
  have hi : stripHi isO true z (stripLo isO true z) = z.length - (((TL.tl z).drop (stripLo isO true z)).reverse.takeWhile isO).length := rfl
  rw [hi, lo]
  constructor
  · intro h
    cases q : Sg z with
    | true => rfl
    | false =>
      have q : (TL.tl z).all isO = false := q
      have a := tw_lt q
      have b := tw_off q
      have c : (((TL.tl z).drop ((TL.tl z).takeWhile isO).length).reverse.takeWhile isO).length < ((TL.tl z).drop ((TL.tl z).takeWhile isO).length).reverse.length := tw_lt (by rw [List.all_reverse]; exact b)
      rw [List.length_reverse, List.length_drop, ← TL.len_tl] at c
      have d := congrArg List.length h
      rw [List.length_take, List.length_drop, ← TL.len_tl] at d
      rw [← TL.len_tl] at a
      simp only [List.length_nil] at d
      omega
  · intro h
    have h : (TL.tl z).all isO = true := h
    rw [tw_all h, List.drop_length, List.take_nil]
theorem signs_is (z : Str) : signsB z = Sg z := by
  unfold signsB
  rw [Bool.eq_iff_iff, decide_eq_true_iff, ← strip_tl]
  constructor
  · intro h
    rw [V.str.inj h]
    decide +kernel
  · intro h
    exact congrArg V.str (TL.ext_tl (h.trans (by decide +kernel)))
theorem sg_ok {z : Str} (h : Sg z = true) : PyData.strOk z = true := by
  unfold PyData.strOk
  have h : (TL.tl z).all isO = true := h
  rw [List.all_eq_true] at h
  rw [← Array.all_toList, List.all_eq_true]
  intro c hc
  have := h c hc
  unfold isO at this
  rw [decide_eq_true_iff] at this ⊢
  omega
theorem sg_free {z : Str} {s : Nat} (h : Sg z = true) (hs : s < 48) : s ∉ TL.tl z := fun m => by
  have h : (TL.tl z).all isO = true := h
  have := List.all_eq_true.mp h s m
  unfold isO at this
  rw [decide_eq_true_iff] at this
  omega
/-! ### distinct texts -/
theorem few : ∀ (xs ks : List Str), ks.Nodup → (∀ k ∈ ks, k ∈ xs) → ks.length ≤ xs.length ∧ (¬ xs.Nodup → ks.length < xs.length)
  | [], ks, _, h => by
    cases ks with
    | nil => exact ⟨Nat.le_refl _, fun z => absurd List.nodup_nil z⟩
    | cons k ks => exact absurd (h k List.mem_cons_self) (by simp)
  | a :: l, ks, hn, h => by
    by_cases ha : a ∈ l
    · have := few l ks hn fun k hk => (List.mem_cons.mp (h k hk)).elim (fun e => e ▸ ha) id
      rw [List.length_cons]
      exact ⟨by omega, fun _ => by omega⟩
    · have sub : ∀ k ∈ ks.erase a, k ∈ l := fun k hk => by
        obtain ⟨h1, h2⟩ := (List.Nodup.mem_erase_iff hn).mp hk
        exact (List.mem_cons.mp (h k h2)).resolve_left h1
      obtain ⟨r1, r2⟩ := few l (ks.erase a) (hn.erase a) sub
      have len : ks.length ≤ (ks.erase a).length + 1 := by
        by_cases m : a ∈ ks
        · rw [List.length_erase_of_mem m]
          omega
        · rw [List.erase_of_not_mem m]
          omega
      rw [List.length_cons]
      refine ⟨by omega, fun z => ?_⟩
      have := r2 fun y => z (List.nodup_cons.mpr ⟨ha, y⟩)
      omega
theorem all_there (xs ks : List Str) (hx : xs.Nodup) (h : ∀ k ∈ xs, k ∈ ks) : xs.length ≤ ks.length := (few ks xs hx h).1
/-! ### rows that rise -/
theorem one_row {α : Type} {R : α → α → Prop} (irr : ∀ x, ¬ R x x) (tr : ∀ x y z, R x y → R y z → R x z) : ∀ {l m : List α}, l.Pairwise R → m.Pairwise R → (∀ z, z ∈ l ↔ z ∈ m) → l = m
  | [], [], _, _, _ => rfl
  | [], y :: m, _, _, h => absurd ((h y).mpr List.mem_cons_self) (by simp)
  | x :: l, [], _, _, h => absurd ((h x).mp List.mem_cons_self) (by simp)
  | x :: l, y :: m, hl, hm, h => by
    obtain ⟨a1, a2⟩ := List.pairwise_cons.mp hl
    obtain ⟨b1, b2⟩ := List.pairwise_cons.mp hm
    have e : x = y := by
      rcases List.mem_cons.mp ((h x).mp List.mem_cons_self) with z | z
      · exact z
      · rcases List.mem_cons.mp ((h y).mpr List.mem_cons_self) with u | u
        · exact u.symm
        · exact absurd (tr _ _ _ (a1 y u) (b1 x z)) (irr x)
    subst e
    refine congrArg (x :: ·) (one_row irr tr a2 b2 fun z => ?_)
    constructor
    · intro hz
      rcases List.mem_cons.mp ((h z).mp (List.mem_cons_of_mem _ hz)) with rfl | q
      · exact absurd (a1 z hz) (irr z)
      · exact q
    · intro hz
      rcases List.mem_cons.mp ((h z).mpr (List.mem_cons_of_mem _ hz)) with rfl | q
      · exact absurd (b1 z hz) (irr z)
      · exact q
abbrev Pr := Str × Str
/-- pairs whose watches rise -/
def Rise (l : List Pr) : Prop := l.Pairwise fun p q => ltB p.1 q.1 = true
theorem ltB_ne {x y : Str} (h : ltB x y = true) : x ≠ y := fun e => by
  rw [e, ltB_irr] at h
  cases h
theorem rise_lex {l : List Pr} (h : Rise l) : l.Pairwise fun p q => lexT p q = true := List.Pairwise.imp (fun {p q} z => by
  unfold lexT
  rw [if_neg (ltB_ne z)]
  exact z) h
theorem rise_nodup {l : List Pr} (h : Rise l) : (l.map (·.1)).Nodup := by
  unfold List.Nodup
  rw [List.pairwise_map]
  exact List.Pairwise.imp (fun z => ltB_ne z) h
/-- a sorted row that has the same pairs is the row that rises -/
theorem sort_one {l m : List Pr} (hs : l.Pairwise fun p q => lexT q p = false) (hp : l.Perm m) (hm : Rise m) : l = m := by
  have nd : m.Nodup := List.Pairwise.imp (fun {p q} z e => by
    rw [e, ltB_irr] at z
    cases z) hm
  have nl : l.Pairwise (· ≠ ·) := hp.nodup_iff.mpr nd
  have up : l.Pairwise fun p q => lexT p q = true := by
    have := hs.and nl
    exact this.imp fun {p q} z => lexT_tot z.1 fun e => z.2 e.symm
  exact one_row (R := fun p q => lexT p q = true) (fun x h => by
    rw [lexT_irr] at h
    cases h) (fun _ _ _ => lexT_tr) up (rise_lex hm) fun z => hp.mem_iff
end K08
/-! pure: the words of a rule, and where they go wrong -/
namespace K08
open PySem L2 Evl SrtT
/-! ### texts of words -/
def tx (ws : List Str) : Str := Txt.join " " ws
def Free (ws : List Str) : Prop := ∀ w ∈ ws, 32 ∉ TL.tl w
theorem split_tx {ws : List Str} (h : ws ≠ []) (f : Free ws) : Txt.split (tx ws) " " = ws := TL.split_join (y := " ") (s := 32) (S := []) (by decide +kernel) (by decide +kernel) h f
theorem tl_tx (ws : List Str) : TL.tl (tx ws) = TL.joinL [32] (ws.map TL.tl) := by
  unfold tx
  rw [TL.join_eq, TL.tl_join]
  rfl
theorem glue_len (S : List Nat) : ∀ l : List (List Nat), (TL.joinL S l).length ≤ (l.map (·.length)).sum + S.length * l.length
  | [] => by simp [TL.joinL]
  | [p] => by simp [TL.joinL]
  | p :: q :: r => by
    have ih := glue_len S (q :: r)
    show (p ++ (S ++ TL.joinL S (q :: r))).length ≤ _
    rw [List.length_append, List.length_append, List.map_cons, List.sum_cons, List.length_cons (a := p), Nat.mul_add]
    omega
def wsum (ws : List Str) : Nat := (ws.map (·.length)).sum
theorem tx_len (ws : List Str) : (tx ws).length ≤ wsum ws + ws.length := by
  rw [TL.len_tl, tl_tx]
  have := glue_len [32] (ws.map TL.tl)
  rw [List.map_map, List.length_map, List.length_singleton, Nat.one_mul] at this
  have e : ((List.length (α := Nat)) ∘ TL.tl) = fun w : Str => w.length := funext fun w => (TL.len_tl w).symm
  rw [show (fun x : List Nat => x.length) ∘ TL.tl = fun w : Str => w.length from e] at this
  exact this
/-! ### what may stand at a place -/
def gw (ws : List Str) (i : Nat) : Str := ws.getD i mt
def sgB (z : Str) (lo hi : Int) : Bool := signsB z && (decide (lo ≤ (z.length : Int)) && decide ((z.length : Int) ≤ hi))
theorem sgB_iff {z : Str} {lo hi : Int} : sgB z lo hi = true ↔ Sg z = true ∧ lo ≤ (z.length : Int) ∧ (z.length : Int) ≤ hi := by
  unfold sgB
  rw [signs_is, Bool.and_eq_true, Bool.and_eq_true, decide_eq_true_iff, decide_eq_true_iff]
def standB (ws : List Str) (i : Nat) : Bool :=
  if i = 0 then sgB (gw ws 0) 2 8 else if i = 1 then decide (gw ws 1 = colon)
  else if (i - 2) % 3 = 0 then sgB (gw ws i) 1 8 && (decide ((i - 2) / 3 < 4) && (decide ((i - 2) / 3 = 0) || ltB (gw ws (i - 3)) (gw ws i)))
  else if (i - 2) % 3 = 1 then sgB (gw ws i) 1 1 else decide (gw ws i = comma)
def Odd3 (n : Nat) : Prop := n = 1 ∨ (2 < n ∧ n % 3 ≠ 1)
/-- where the words go wrong, if they do -/
def Due (ws : List Str) : Option Nat → Prop
  | some d => (∀ i, i < d → i < ws.length → standB ws i = true) ∧ d ≤ ws.length ∧ (d < ws.length → standB ws d = false) ∧ (d = ws.length → Odd3 ws.length)
  | none => (∀ i, i < ws.length → standB ws i = true) ∧ ¬ Odd3 ws.length
theorem due_one {ws : List Str} {a b : Option Nat} (ha : Due ws a) (hb : Due ws b) : a = b := by
  have lone : ∀ {d : Nat}, Due ws (some d) → Due ws none → False := fun {d} h g => by
    obtain ⟨h1, h2, h3, h4⟩ := h
    rcases Nat.lt_or_ge d ws.length with z | z
    · have := g.1 d z
      rw [h3 z] at this
      cases this
    · exact g.2 (h4 (by omega))
  cases a with
  | none =>
    cases b with
    | none => rfl
    | some d => exact (lone hb ha).elim
  | some d =>
    cases b with
    | none => exact (lone ha hb).elim
    | some e =>
      obtain ⟨h1, h2, h3, h4⟩ := ha
      obtain ⟨g1, g2, g3, g4⟩ := hb
      rcases Nat.lt_trichotomy d e with z | z | z
      · have := g1 d z (by omega)
        rw [h3 (by omega)] at this
        cases this
      · exact congrArg some z
      · have := h1 e z (by omega)
        rw [g3 (by omega)] at this
        cases this
/-! ### rules -/
def PairOk (p : Pr) : Prop := sgB p.1 1 8 = true ∧ sgB p.2 1 1 = true
structure Good (f : Str) (ps : List Pr) : Prop where
  flag : sgB f 2 8 = true
  ok : ∀ p ∈ ps, PairOk p
  many : ps.length ≤ 4
  rise : Rise ps
def pw : List Pr → List Str
  | [] => []
  | [p] => [p.1, p.2]
  | p :: q :: r => p.1 :: p.2 :: comma :: pw (q :: r)
def rw_ (f : Str) (ps : List Pr) : List Str := f :: colon :: pw ps
theorem pw_len : ∀ (ps : List Pr), ps ≠ [] → (pw ps).length + 1 = 3 * ps.length
  | [], h => absurd rfl h
  | [p], _ => rfl
  | p :: q :: r, _ => by
    have := pw_len (q :: r) (by simp)
    show (pw (q :: r)).length + 3 + 1 = _
    rw [List.length_cons (a := p)]
    omega
theorem pw_at : ∀ (ps : List Pr) (k : Nat) (p : Pr), ps[k]? = some p → (pw ps)[3 * k]? = some p.1 ∧ (pw ps)[3 * k + 1]? = some p.2 ∧ (k + 1 < ps.length → (pw ps)[3 * k + 2]? = some comma)
  | [], k, p, h => by simp at h
  | [q], k, p, h => by
    cases k with
    | zero =>
      obtain rfl : q = p := by simpa using h
      exact ⟨rfl, rfl, fun z => by simp at z⟩
    | succ k => simp at h
  | q :: q2 :: r, k, p, h => by
    cases k with
    | zero =>
      obtain rfl : q = p := by simpa using h
      exact ⟨rfl, rfl, fun _ => rfl⟩
    | succ k =>
      have ih := pw_at (q2 :: r) k p (by simpa using h)
      have e : 3 * (k + 1) = 3 * k + 3 := by omega
      rw [e]
      refine ⟨ih.1, ih.2.1, fun z => ih.2.2 ?_⟩
      rw [List.length_cons] at z
      omega
theorem ltB_chain {g : Nat → Str} {m : Nat} (h : ∀ k, k + 1 < m → ltB (g k) (g (k + 1)) = true) : ∀ j i, i < j → j < m → ltB (g i) (g j) = true
  | 0, i, h1, _ => by omega
  | j + 1, i, h1, h2 => by
    by_cases e : i = j
    · subst e
      exact h i h2
    · exact ltB_tr (ltB_chain h j i (by omega) (by omega)) (h j h2)
theorem gw_get {ws : List Str} {i : Nat} (h : i < ws.length) : ws[i]? = some (gw ws i) := by
  unfold gw
  rw [List.getD_eq_getElem?_getD, List.getElem?_eq_getElem h]
  rfl
/-- the pairs that the words tell -/
def pairsOf (ws : List Str) : List Pr := (List.range ((ws.length - 1) / 3)).map fun k => (gw ws (2 + 3 * k), gw ws (3 + 3 * k))
theorem due_none {ws : List Str} (h0 : ws ≠ []) (h : Due ws none) : Good (gw ws 0) (pairsOf ws) ∧ ws = rw_ (gw ws 0) (pairsOf ws) := by
  obtain ⟨st, n3⟩ := h
  have l0 : 0 < ws.length := List.length_pos_iff.mpr h0
  have l1 : ws.length ≠ 1 := fun z => n3 (.inl z)
  have hm : ws.length = 2 ∨ ws.length % 3 = 1 := by
    by_cases z : 2 < ws.length
    · exact .inr (Classical.byContradiction fun y => n3 (.inr ⟨z, y⟩))
    · omega
  have s0 := st 0 l0
  have s1 := st 1 (by omega)
  have s1 : decide (gw ws 1 = colon) = true := s1
  have len : (pairsOf ws).length = (ws.length - 1) / 3 := by unfold pairsOf; rw [List.length_map, List.length_range]
  have getp : ∀ k, k < (ws.length - 1) / 3 → (pairsOf ws)[k]? = some (gw ws (2 + 3 * k), gw ws (3 + 3 * k)) := fun k hk => by
    unfold pairsOf
    rw [List.getElem?_map, List.getElem?_range hk]
    rfl
  have w0 : ∀ k, k < (ws.length - 1) / 3 → sgB (gw ws (2 + 3 * k)) 1 8 = true ∧ k < 4 ∧ (k = 0 ∨ ltB (gw ws (3 * k - 1)) (gw ws (2 + 3 * k)) = true) := fun k hk => by
    have := st (2 + 3 * k) (by omega)
    unfold standB at this
    rw [if_neg (by omega), if_neg (by omega), if_pos (by omega), show (2 + 3 * k - 2) / 3 = k by omega, show 2 + 3 * k - 3 = 3 * k - 1 by omega] at this
    rw [Bool.and_eq_true, Bool.and_eq_true, Bool.or_eq_true, decide_eq_true_iff, decide_eq_true_iff] at this
    exact ⟨this.1, this.2.1, this.2.2⟩
  have w1 : ∀ k, k < (ws.length - 1) / 3 → sgB (gw ws (3 + 3 * k)) 1 1 = true := fun k hk => by
    have := st (3 + 3 * k) (by omega)
    unfold standB at this
    rw [if_neg (by omega), if_neg (by omega), if_neg (by omega), if_pos (by omega)] at this
    exact this
  have w2 : ∀ k, k + 1 < (ws.length - 1) / 3 → gw ws (4 + 3 * k) = comma := fun k hk => by
    have := st (4 + 3 * k) (by omega)
    unfold standB at this
    rw [if_neg (by omega), if_neg (by omega), if_neg (by omega), if_neg (by omega), decide_eq_true_iff] at this
    exact this
  have many : (ws.length - 1) / 3 ≤ 4 := by
    rcases Nat.lt_or_ge 4 ((ws.length - 1) / 3) with z | z
    · have := (w0 4 z).2.1
      omega
    · exact z
  refine ⟨⟨s0, fun p hp => ?_, by rw [len]; exact many, ?_⟩, ?_⟩
  · obtain ⟨k, hk, rfl⟩ := List.mem_map.mp hp
    have hk := List.mem_range.mp hk
    exact ⟨(w0 k hk).1, w1 k hk⟩
  · unfold Rise pairsOf
    rw [List.pairwise_map, List.pairwise_iff_getElem]
    intro i j hi hj hij
    rw [List.length_range] at hi hj
    rw [List.getElem_range, List.getElem_range]
    exact ltB_chain (g := fun k => gw ws (2 + 3 * k)) (m := (ws.length - 1) / 3) (fun k hk => by
      rcases (w0 (k + 1) hk).2.2 with z | z
      · omega
      · rw [show 3 * (k + 1) - 1 = 2 + 3 * k by omega] at z
        exact z) j i hij hj
  · refine List.ext_getElem? fun i => ?_
    have plen : (rw_ (gw ws 0) (pairsOf ws)).length = ws.length := by
      show (pw (pairsOf ws)).length + 2 = _
      by_cases e : pairsOf ws = []
      · rw [e]
        rw [e] at len
        simp only [List.length_nil] at len
        show 0 + 2 = _
        omega
      · have := pw_len _ e
        rw [len] at this
        have : 0 < (ws.length - 1) / 3 := by rw [← len]; exact List.length_pos_iff.mpr e
        omega
    rcases Nat.lt_or_ge i ws.length with hi | hi
    · rw [gw_get hi]
      match i, hi with
      | 0, _ => rfl
      | 1, _ => exact congrArg some (of_decide_eq_true s1)
      | i + 2, hi =>
        show _ = (pw (pairsOf ws))[i]?
        have hk : i / 3 < (ws.length - 1) / 3 := by omega
        obtain ⟨p1, p2, p3⟩ := pw_at (pairsOf ws) (i / 3) _ (getp _ hk)
        rcases (by omega : i = 3 * (i / 3) ∨ i = 3 * (i / 3) + 1 ∨ i = 3 * (i / 3) + 2) with e | e | e
        · rw [show (pw (pairsOf ws))[i]? = (pw (pairsOf ws))[3 * (i / 3)]? from congrArg (fun z => (pw (pairsOf ws))[z]?) e, p1]
          exact congrArg (fun z => some (gw ws z)) (by omega)
        · rw [show (pw (pairsOf ws))[i]? = (pw (pairsOf ws))[3 * (i / 3) + 1]? from congrArg (fun z => (pw (pairsOf ws))[z]?) e, p2]
          exact congrArg (fun z => some (gw ws z)) (by omega)
        · rw [show (pw (pairsOf ws))[i]? = (pw (pairsOf ws))[3 * (i / 3) + 2]? from congrArg (fun z => (pw (pairsOf ws))[z]?) e, p3 (by rw [len]; omega), ← w2 (i / 3) (by omega)]
          exact congrArg (fun z => some (gw ws z)) (by omega)
    · rw [List.getElem?_eq_none hi, List.getElem?_eq_none (by rw [plen]; exact hi)]
end K08
/-! pure: the words of a good rule stand; its text in other words -/
namespace K08
open PySem L2 Evl SrtT
section
variable {f : Str} {ps : List Pr}
theorem rw_len : (rw_ f ps).length = (pw ps).length + 2 := rfl
theorem pw_size : (pw ps).length = 3 * ps.length - 1 := by
  by_cases e : ps = []
  · subst e; rfl
  · have := pw_len ps e
    omega
theorem gw_rw (j : Nat) : gw (rw_ f ps) (j + 2) = (pw ps).getD j mt := by
  unfold gw rw_
  rw [List.getD_cons_succ, List.getD_cons_succ]
theorem gw_pw {j : Nat} {z : Str} (h : (pw ps)[j]? = some z) : gw (rw_ f ps) (j + 2) = z := by
  rw [gw_rw, List.getD_eq_getElem?_getD, h]
  rfl
theorem rw_odd : ¬ Odd3 (rw_ f ps).length := by
  rw [rw_len, pw_size]
  unfold Odd3
  omega
theorem good_get (k : Nat) (h : k < ps.length) : ∃ p, ps[k]? = some p ∧ p ∈ ps := ⟨ps[k], List.getElem?_eq_getElem h, List.getElem_mem h⟩
theorem good_due (G : Good f ps) : Due (rw_ f ps) none := by
  refine ⟨fun i hi => ?_, rw_odd⟩
  rw [rw_len, pw_size] at hi
  match i, hi with
  | 0, _ => exact G.flag
  | 1, _ => exact decide_eq_true (show colon = colon from rfl)
  | i + 2, hi =>
    have hk : i / 3 < ps.length := by omega
    obtain ⟨p, hp, pm⟩ := good_get (ps := ps) (i / 3) hk
    obtain ⟨p1, p2, p3⟩ := pw_at ps (i / 3) p hp
    obtain ⟨o1, o2⟩ := G.ok p pm
    have := G.many
    unfold standB
    rw [if_neg (by omega), if_neg (by omega), show i + 2 - 2 = i by omega]
    rcases (by omega : i = 3 * (i / 3) ∨ i = 3 * (i / 3) + 1 ∨ i = 3 * (i / 3) + 2) with e | e | e
    · rw [if_pos (by omega)]
      have g1 : gw (rw_ f ps) (i + 2) = p.1 := gw_pw (by rw [show (pw ps)[i]? = (pw ps)[3 * (i / 3)]? from congrArg (fun z => (pw ps)[z]?) e]; exact p1)
      rw [g1, o1, Bool.true_and, Bool.and_eq_true, Bool.or_eq_true, decide_eq_true_iff, decide_eq_true_iff]
      refine ⟨by omega, ?_⟩
      by_cases z : i / 3 = 0
      · exact .inl z
      · obtain ⟨q, hq, _⟩ := good_get (ps := ps) (i / 3 - 1) (by omega)
        obtain ⟨q1, _, _⟩ := pw_at ps (i / 3 - 1) q hq
        have g2 : gw (rw_ f ps) (i + 2 - 3) = q.1 := by
          rw [show i + 2 - 3 = 3 * (i / 3 - 1) + 2 by omega]
          exact gw_pw q1
        rw [g2]
        have r := G.rise
        unfold Rise at r
        rw [List.pairwise_iff_getElem] at r
        have := r (i / 3 - 1) (i / 3) (by omega) hk (by omega)
        rw [List.getElem?_eq_getElem (by omega)] at hq
        rw [List.getElem?_eq_getElem hk] at hp
        rw [Option.some.inj hq, Option.some.inj hp] at this
        exact .inr this
    · rw [if_neg (by omega), if_pos (by omega)]
      rw [gw_pw (show (pw ps)[i]? = some p.2 by rw [show (pw ps)[i]? = (pw ps)[3 * (i / 3) + 1]? from congrArg (fun z => (pw ps)[z]?) e]; exact p2)]
      exact o2
    · rw [if_neg (by omega), if_neg (by omega)]
      rw [gw_pw (show (pw ps)[i]? = some comma by rw [show (pw ps)[i]? = (pw ps)[3 * (i / 3) + 2]? from congrArg (fun z => (pw ps)[z]?) e]; exact p3 (by omega))]
      exact decide_eq_true rfl
theorem pairs_rw : pairsOf (rw_ f ps) = ps := by
  unfold pairsOf
  refine List.ext_getElem? fun k => ?_
  rw [List.getElem?_map, rw_len, pw_size]
  have e : (3 * ps.length - 1 + 2 - 1) / 3 = ps.length := by omega
  rw [e]
  rcases Nat.lt_or_ge k ps.length with h | h
  · obtain ⟨p, hp, _⟩ := good_get (ps := ps) k h
    obtain ⟨p1, p2, _⟩ := pw_at ps k p hp
    rw [List.getElem?_range h, hp]
    show some (gw (rw_ f ps) (2 + 3 * k), gw (rw_ f ps) (3 + 3 * k)) = some p
    rw [show 2 + 3 * k = 3 * k + 2 by omega, show 3 + 3 * k = 3 * k + 1 + 2 by omega, gw_pw p1, gw_pw p2]
  · rw [List.getElem?_eq_none (by rw [List.length_range]; exact h), List.getElem?_eq_none h]
    rfl
theorem sgB_free {z : Str} {lo hi : Int} {s : Nat} (h : sgB z lo hi = true) (hs : s < 48) : s ∉ TL.tl z := sg_free (sgB_iff.mp h).1 hs
theorem colon_free : 32 ∉ TL.tl colon := by
  rw [show TL.tl colon = [58] by decide +kernel]
  decide
theorem comma_free : 32 ∉ TL.tl comma := by
  rw [show TL.tl comma = [44] by decide +kernel]
  decide
theorem pw_mem {z : Str} : ∀ {ps : List Pr}, z ∈ pw ps → z = comma ∨ ∃ p ∈ ps, z = p.1 ∨ z = p.2
  | [], h => by simp [pw] at h
  | [p], h => by
    rcases List.mem_cons.mp h with e | e
    · exact .inr ⟨p, List.mem_cons_self, .inl e⟩
    · exact .inr ⟨p, List.mem_cons_self, .inr (List.mem_singleton.mp e)⟩
  | p :: q :: r, h => by
    have h : z ∈ p.1 :: p.2 :: comma :: pw (q :: r) := h
    rcases List.mem_cons.mp h with e | e
    · exact .inr ⟨p, List.mem_cons_self, .inl e⟩
    · rcases List.mem_cons.mp e with e | e
      · exact .inr ⟨p, List.mem_cons_self, .inr e⟩
      · rcases List.mem_cons.mp e with e | e
        · exact .inl e
        · rcases pw_mem e with e | ⟨p', hp, e⟩
          · exact .inl e
          · exact .inr ⟨p', List.mem_cons_of_mem _ hp, e⟩
theorem good_free (G : Good f ps) : Free (rw_ f ps) := fun z hz => by
  rcases List.mem_cons.mp hz with rfl | hz
  · exact sgB_free G.flag (by decide)
  · rcases List.mem_cons.mp hz with rfl | hz
    · exact colon_free
    · rcases pw_mem hz with rfl | ⟨p, hp, rfl | rfl⟩
      · exact comma_free
      · exact sgB_free (G.ok p hp).1 (by decide)
      · exact sgB_free (G.ok p hp).2 (by decide)
theorem good_short (G : Good f ps) : ∀ z ∈ rw_ f ps, z.length ≤ 8 := fun z hz => by
  rcases List.mem_cons.mp hz with rfl | hz
  · have := sgB_iff.mp G.flag
    omega
  · rcases List.mem_cons.mp hz with rfl | hz
    · decide +kernel
    · rcases pw_mem hz with rfl | ⟨p, hp, rfl | rfl⟩
      · decide +kernel
      · have := sgB_iff.mp (G.ok p hp).1
        omega
      · have := sgB_iff.mp (G.ok p hp).2
        omega
end
/-! ### the text of a rule in the law's words -/
/-- w p , w p , .. -/
def pairTx (p : Pr) : Str := p.1 ++ " " ++ p.2
def toldTx (ps : List Pr) : Str := Txt.join " , " (ps.map pairTx)
def ruleTx (f : Str) (ps : List Pr) : Str := f ++ " :" ++ (if toldTx ps = mt then mt else " " ++ toldTx ps)
theorem tl_sp : TL.tl (" " : Str) = [32] := by decide +kernel
theorem tl_told : ∀ ps : List Pr, TL.tl (toldTx ps) = TL.joinL [32] ((pw ps).map TL.tl)
  | [] => by decide +kernel
  | [p] => by
    show TL.tl (p.1 ++ " " ++ p.2) = TL.tl p.1 ++ ([32] ++ TL.tl p.2)
    rw [TL.tl_append, TL.tl_append, tl_sp, List.append_assoc]
  | p :: q :: r => by
    have ih := tl_told (q :: r)
    have e1 : TL.tl (toldTx (p :: q :: r)) = TL.tl (pairTx p) ++ ([32, 44, 32] ++ TL.tl (toldTx (q :: r))) := by
      unfold toldTx
      rw [TL.join_eq, TL.join_eq, TL.tl_join, TL.tl_join, show TL.tl (" , " : Str) = [32, 44, 32] by decide +kernel]
      rfl
    obtain ⟨a, b, hab⟩ : ∃ a b, (pw (q :: r)).map TL.tl = a :: b := by
      cases r with
      | nil => exact ⟨_, _, rfl⟩
      | cons r1 r2 => exact ⟨_, _, rfl⟩
    have e2 : TL.joinL [32] ((pw (p :: q :: r)).map TL.tl) = TL.tl p.1 ++ ([32] ++ (TL.tl p.2 ++ ([32] ++ (TL.tl comma ++ ([32] ++ TL.joinL [32] ((pw (q :: r)).map TL.tl)))))) := by
      show TL.joinL [32] (TL.tl p.1 :: TL.tl p.2 :: TL.tl comma :: (pw (q :: r)).map TL.tl) = _
      rw [hab]
      rfl
    rw [e1, e2, ← ih, show TL.tl comma = [44] by decide +kernel]
    unfold pairTx
    rw [TL.tl_append, TL.tl_append, tl_sp]
    simp
theorem told_mt (ps : List Pr) (h : ∀ p ∈ ps, p.1.length ≠ 0) : (toldTx ps = mt) ↔ ps = [] := by
  constructor
  · intro e
    cases ps with
    | nil => rfl
    | cons p r =>
      have z := congrArg TL.tl e
      rw [tl_told, show TL.tl mt = [] by decide +kernel] at z
      have l := h p List.mem_cons_self
      rw [TL.len_tl] at l
      cases r with
      | nil =>
        have z : TL.tl p.1 ++ ([32] ++ TL.tl p.2) = [] := z
        simp at z
      | cons q r =>
        have z : TL.joinL [32] (TL.tl p.1 :: TL.tl p.2 :: TL.tl comma :: (pw (q :: r)).map TL.tl) = [] := z
        have z : TL.tl p.1 ++ ([32] ++ TL.joinL [32] (TL.tl p.2 :: TL.tl comma :: (pw (q :: r)).map TL.tl)) = [] := z
        simp at z
  · intro e
    subst e
    decide +kernel
theorem rule_tx {f : Str} {ps : List Pr} (h : ∀ p ∈ ps, p.1.length ≠ 0) : ruleTx f ps = tx (rw_ f ps) := by
  refine TL.ext_tl ?_
  unfold ruleTx
  rw [tl_tx]
  by_cases e : ps = []
  · rw [if_pos ((told_mt ps h).mpr e)]
    subst e
    rw [TL.tl_append, TL.tl_append, show TL.tl (" :" : Str) = [32, 58] by decide +kernel, show TL.tl mt = [] by decide +kernel]
    show TL.tl f ++ [32, 58] ++ [] = TL.tl f ++ ([32] ++ TL.tl colon)
    rw [show TL.tl colon = [58] by decide +kernel]
    simp
  · rw [if_neg (fun z => e ((told_mt ps h).mp z)), TL.tl_append, TL.tl_append, TL.tl_append, tl_told, tl_sp, show TL.tl (" :" : Str) = [32, 58] by decide +kernel]
    obtain ⟨a, b, hab⟩ : ∃ a b, (pw ps).map TL.tl = a :: b := by
      match ps, e with
      | [p], _ => exact ⟨_, _, rfl⟩
      | p :: q :: r, _ => exact ⟨_, _, rfl⟩
    show _ = TL.joinL [32] (TL.tl f :: TL.tl colon :: (pw ps).map TL.tl)
    rw [hab]
    show _ = TL.tl f ++ ([32] ++ (TL.tl colon ++ ([32] ++ TL.joinL [32] (a :: b))))
    rw [show TL.tl colon = [58] by decide +kernel]
    simp
end K08
/-! sequences that come round: periods, borders of a row, the least period, the normal form of a growth -/
namespace Gr
/-! ### periods of a sequence -/
def Pd {α : Type} (d : Nat → α) (q : Nat) : Prop := ∀ k, d (k + q) = d k
section
variable {α : Type} {d : Nat → α} {p q n : Nat}
theorem Pd.zero : Pd d 0 := fun _ => rfl
theorem Pd.mul (h : Pd d q) : ∀ j k, d (k + j * q) = d k
  | 0, k => by rw [Nat.zero_mul, Nat.add_zero]
  | j + 1, k => by rw [Nat.succ_mul, ← Nat.add_assoc, h, Pd.mul h j]
theorem Pd.mod (h : Pd d q) (k : Nat) : d (k % q) = d k := by
  have e := Nat.mod_add_div k q
  rw [Nat.mul_comm] at e
  have := Pd.mul h (k / q) (k % q)
  rw [e] at this
  exact this.symm
theorem Pd.sub (hp : Pd d p) (hq : Pd d q) (h : p ≤ q) : Pd d (q - p) := fun k => by
  have e : k + (q - p) + p = k + q := by omega
  rw [← hp (k + (q - p)), e, hq]
theorem Pd.rem (hp : Pd d p) (hq : Pd d q) : Pd d (q % p) := fun k => by
  have e : k + q % p + q / p * p = k + q := by
    have := Nat.mod_add_div q p
    rw [Nat.mul_comm] at this
    omega
  rw [← Pd.mul hp (q / p) (k + q % p), e, hq]
theorem Pd.gcd : ∀ (p q : Nat), Pd d p → Pd d q → Pd d (Nat.gcd p q) := by
  intro p
  induction p using Nat.strongRecOn with
  | ind p ih =>
    intro q hp hq
    rcases Nat.eq_zero_or_pos p with h | h
    · rw [h, Nat.gcd_zero_left]
      exact hq
    · rw [Nat.gcd_rec]
      exact ih (q % p) (Nat.mod_lt _ h) p (hp.rem hq) hp
/-- the least one -/
structure Least (d : Nat → α) (p : Nat) : Prop where
  pos : 0 < p
  pd : Pd d p
  le : ∀ q, 0 < q → Pd d q → p ≤ q
end
/-! ### rows -/
def at' (g : List Int) (i : Nat) : Int := g.getD i 0
/-- the row, again and again -/
def dif (g : List Int) (k : Nat) : Int := at' g (k % g.length)
/-- within the row what stands p further on is the same -/
def Per (g : List Int) (p : Nat) : Prop := ∀ i, i + p < g.length → at' g (i + p) = at' g i
section
variable {g : List Int} {p q : Nat}
theorem dif_pd : Pd (dif g) g.length := fun k => by unfold dif; rw [Nat.add_mod_right]
theorem dif_lt {k : Nat} (h : k < g.length) : dif g k = at' g k := by unfold dif; rw [Nat.mod_eq_of_lt h]
theorem Pd.per (h : Pd (dif g) p) : Per g p := fun i hi => by
  have := h i
  rwa [dif_lt hi, dif_lt (by omega)] at this
theorem Per.mul (h : Per g p) : ∀ j i, i + j * p < g.length → at' g (i + j * p) = at' g i
  | 0, i, _ => by rw [Nat.zero_mul, Nat.add_zero]
  | j + 1, i, hi => by
    rw [Nat.succ_mul, ← Nat.add_assoc] at hi ⊢
    rw [h _ hi, Per.mul h j i (by omega)]
theorem Per.pd (h : Per g p) (hp : 0 < p) (hd : p ∣ g.length) (hn : 0 < g.length) : Pd (dif g) p := fun k => by
  obtain ⟨c, hc⟩ := hd
  have hr : k % g.length < g.length := Nat.mod_lt _ hn
  unfold dif
  rw [Nat.add_mod]
  generalize k % g.length = r at hr
  have hpn : p ≤ g.length := by
    rcases c with _ | c
    · rw [Nat.mul_zero] at hc; omega
    · rw [hc]; exact Nat.le_mul_of_pos_right p (Nat.succ_pos c)
  rcases Nat.lt_or_ge p g.length with h1 | h1
  · rw [Nat.mod_eq_of_lt h1]
    rcases Nat.lt_or_ge (r + p) g.length with h2 | h2
    · rw [Nat.mod_eq_of_lt h2]
      exact h r h2
    · rw [Nat.mod_eq_sub_mod h2, Nat.mod_eq_of_lt (by omega)]
      rcases c with _ | c
      · rw [Nat.mul_zero] at hc; omega
      have e : r + p - g.length + c * p = r := by
        have : p * (c + 1) = c * p + p := by rw [Nat.mul_comm, Nat.succ_mul]
        omega
      have z := h.mul c (r + p - g.length) (by rw [e]; exact hr)
      rw [e] at z
      exact z.symm
  · have e : p = g.length := Nat.le_antisymm hpn h1
    rw [e, Nat.mod_self, Nat.add_zero, Nat.mod_eq_of_lt hr]
end
/-! ### borders: the longest one of each beginning -/
/-- w signs at the end of the first m are the first w -/
def Bd (g : List Int) (m w : Nat) : Prop := w < m ∧ ∀ i, i < w → at' g (m - w + i) = at' g i
structure Lb (g : List Int) (m w : Nat) : Prop where
  bd : Bd g m w
  top : ∀ v, Bd g m v → v ≤ w
section
variable {g : List Int} {m w v : Nat}
theorem bd_zero (h : 0 < m) : Bd g m 0 := ⟨h, fun i hi => absurd hi (Nat.not_lt_zero i)⟩
theorem lb_one : Lb g 1 0 := ⟨bd_zero Nat.one_pos, fun v h => by have := h.1; omega⟩
theorem bd_succ : Bd g (m + 1) (v + 1) ↔ Bd g m v ∧ at' g m = at' g v := by
  constructor
  · rintro ⟨h, a⟩
    have hv : v < m := by omega
    refine ⟨⟨hv, fun i hi => ?_⟩, ?_⟩
    · have := a i (by omega)
      rwa [show m + 1 - (v + 1) + i = m - v + i by omega] at this
    · have := a v (by omega)
      rwa [show m + 1 - (v + 1) + v = m by omega] at this
  · rintro ⟨⟨h, a⟩, e⟩
    refine ⟨by omega, fun i hi => ?_⟩
    rw [show m + 1 - (v + 1) + i = m - v + i by omega]
    rcases Nat.lt_or_ge i v with h1 | h1
    · exact a i h1
    · have : i = v := by omega
      subst this
      rw [show m - i + i = m by omega]
      exact e
/-- a border of a border, and the other way round -/
theorem bd_trans (h : Bd g m w) (h2 : Bd g w v) : Bd g m v := by
  refine ⟨Nat.lt_trans h2.1 h.1, fun i hi => ?_⟩
  have := h.2 (w - v + i) (by have := h2.1; omega)
  rw [show m - w + (w - v + i) = m - v + i by have := h.1; have := h2.1; omega] at this
  rw [this]
  exact h2.2 i hi
theorem bd_down (h : Bd g m w) (h2 : Bd g m v) (hv : v < w) : Bd g w v := by
  refine ⟨hv, fun i hi => ?_⟩
  have a := h.2 (w - v + i) (by omega)
  rw [show m - w + (w - v + i) = m - v + i by have := h.1; omega] at a
  rw [← a]
  exact h2.2 i hi
/-- what the search for the next border keeps: a border, and none that goes on is longer -/
def Srch (g : List Int) (m w : Nat) : Prop := Bd g m w ∧ ∀ v, Bd g m v → at' g m = at' g v → v ≤ w
theorem srch_start (h : Lb g m w) : Srch g m w := ⟨h.bd, fun v b _ => h.top v b⟩
theorem srch_step (h : Srch g m w) (hw : 0 < w) (hne : at' g m ≠ at' g w) {w' : Nat} (b : Lb g w w') : Srch g m w' ∧ w' < w :=
  ⟨⟨bd_trans h.1 b.bd, fun v hv e => by
    have h1 := h.2 v hv e
    have h2 : v ≠ w := fun z => hne (z ▸ e)
    exact b.top v (bd_down h.1 hv (by omega))⟩, b.bd.1⟩
theorem srch_yes (h : Srch g m w) (e : at' g m = at' g w) : Lb g (m + 1) (w + 1) := by
  refine ⟨bd_succ.mpr ⟨h.1, e⟩, fun v hv => ?_⟩
  rcases v with _ | v
  · exact Nat.zero_le _
  · obtain ⟨a, b⟩ := bd_succ.mp hv
    exact Nat.succ_le_succ (h.2 v a b)
theorem srch_no (h : Srch g m 0) (e : at' g m ≠ at' g 0) : Lb g (m + 1) 0 := by
  refine ⟨bd_zero (Nat.succ_pos m), fun v hv => ?_⟩
  rcases v with _ | v
  · exact Nat.le_refl _
  · obtain ⟨a, b⟩ := bd_succ.mp hv
    have : v = 0 := Nat.le_zero.mp (h.2 v a b)
    subst this
    exact absurd b e
end
/-! ### the least period of a row, by its longest border -/
section
variable {g : List Int} {b : Nat}
theorem Per.bd {p : Nat} (h : Per g p) (hp : 0 < p) (hn : p ≤ g.length) : Bd g g.length (g.length - p) := by
  refine ⟨by omega, fun i hi => ?_⟩
  have := h i (by omega)
  rw [show g.length - (g.length - p) + i = i + p by omega]
  exact this
theorem Bd.per (h : Bd g g.length b) : Per g (g.length - b) := fun i hi => by
  have := h.2 i (by have := h.1; omega)
  rwa [Nat.add_comm] at this
theorem least_of (hn : 0 < g.length) (h : Lb g g.length b) : Least (dif g) (if g.length % (g.length - b) = 0 then g.length - b else g.length) := by
  have hb := h.bd.1
  have hq : 0 < g.length - b := by omega
  have per := h.bd.per
  have top : ∀ p, 0 < p → p ≤ g.length → Per g p → g.length - b ≤ p := fun p hp hpn pp => by
    have := h.top _ (pp.bd hp hpn)
    omega
  -- each period of the endless row has a divisor of the length below it that is one too
  have down : ∀ q, 0 < q → Pd (dif g) q → ∃ c, 0 < c ∧ c ∣ g.length ∧ c ≤ q ∧ c ≤ g.length ∧ Pd (dif g) c := fun q hq0 hqd =>
    ⟨Nat.gcd q g.length, Nat.gcd_pos_of_pos_left _ hq0, Nat.gcd_dvd_right _ _, Nat.gcd_le_left _ hq0, Nat.gcd_le_right _ hn, Pd.gcd q g.length hqd dif_pd⟩
  by_cases e : g.length % (g.length - b) = 0
  · rw [if_pos e]
    refine ⟨hq, per.pd hq (Nat.dvd_of_mod_eq_zero e) hn, fun q hq0 hqd => ?_⟩
    obtain ⟨c, c0, _, cq, cn, cd⟩ := down q hq0 hqd
    exact Nat.le_trans (top c c0 cn cd.per) cq
  · rw [if_neg e]
    refine ⟨hn, dif_pd, fun q hq0 hqd => ?_⟩
    obtain ⟨c, c0, cv, cq, cn, cd⟩ := down q hq0 hqd
    rcases Nat.lt_or_ge c g.length with h1 | h1
    · exfalso
      have h2 : g.length - b ≤ c := top c c0 cn cd.per
      obtain ⟨z, hz⟩ := cv
      have h3 : c + c ≤ g.length := by
        rcases z with _ | _ | z
        · rw [Nat.mul_zero] at hz; omega
        · rw [Nat.mul_one] at hz; omega
        · rw [hz, show z + 1 + 1 = z + 2 from rfl, Nat.mul_add, Nat.mul_two]; omega
      have pd : Pd (dif g) (g.length - b) := fun k => by
        have r : k % c < c := Nat.mod_lt _ c0
        have a : dif g (k % c) = dif g k := cd.mod k
        have a2 : dif g (k + (g.length - b)) = dif g (k % c + (g.length - b)) := by
          have e1 := Nat.mod_add_div k c
          rw [Nat.mul_comm] at e1
          have := cd.mul (k / c) (k % c + (g.length - b))
          rw [show k % c + (g.length - b) + k / c * c = k + (g.length - b) by omega] at this
          exact this
        rw [a2, ← a, dif_lt (by omega), dif_lt (by omega)]
        exact per _ (by omega)
      have q2 := Pd.gcd (g.length - b) g.length pd dif_pd
      have g0 : 0 < Nat.gcd (g.length - b) g.length := Nat.gcd_pos_of_pos_left _ hq
      have l1 := top _ g0 (Nat.gcd_le_right _ hn) q2.per
      have l2 := Nat.gcd_le_left (g.length) hq
      have e2 : Nat.gcd (g.length - b) g.length = g.length - b := Nat.le_antisymm l2 l1
      exact e (Nat.mod_eq_zero_of_dvd (e2 ▸ Nat.gcd_dvd_right (g.length - b) g.length))
    · exact Nat.le_trans h1 cq
end
end Gr
namespace Gr
/-! ### sums of beginnings -/
def acc (d : Nat → Int) : Nat → Int
  | 0 => 0
  | n + 1 => acc d n + d n
theorem acc_add (d : Nat → Int) (m : Nat) : ∀ n, acc d (m + n) = acc d m + acc (fun k => d (m + k)) n
  | 0 => by rw [Nat.add_zero]; exact (Int.add_zero _).symm
  | n + 1 => by
    rw [← Nat.add_assoc]
    show acc d (m + n) + d (m + n) = acc d m + (acc _ n + d (m + n))
    rw [acc_add d m n, Int.add_assoc]
theorem acc_congr {d e : Nat → Int} : ∀ n, (∀ k, k < n → d k = e k) → acc d n = acc e n
  | 0, _ => rfl
  | n + 1, h => by
    show acc d n + d n = acc e n + e n
    rw [acc_congr n fun k hk => h k (by omega), h n (Nat.lt_succ_self n)]
theorem acc_mul {d : Nat → Int} {p : Nat} (h : Pd d p) : ∀ j r, acc d (j * p + r) = j * acc d p + acc d r
  | 0, r => by rw [Nat.zero_mul, Nat.zero_add]; show acc d r = ((0 : Nat) : Int) * _ + _; rw [Int.natCast_zero, Int.zero_mul, Int.zero_add]
  | j + 1, r => by
    rw [Nat.succ_mul, show j * p + p + r = p + (j * p + r) by omega, acc_add]
    rw [acc_congr (e := d) (j * p + r) fun k _ => by rw [Nat.add_comm p k]; exact h k]
    rw [acc_mul h j r]
    rw [show ((j + 1 : Nat) : Int) = (j : Int) + 1 from rfl, Int.add_mul, Int.one_mul]
    omega
/-! ### growths -/
/-- the last one of a row -/
def lst (t : List Int) : Int := at' t (t.length - 1)
/-- the value at a number, by told values and gains -/
def val (t g : List Int) (n : Nat) : Int := if n < t.length then at' t n else lst t + acc (dif g) (n - t.length + 1)
section
variable {t t' g g' : List Int} {n : Nat}
theorem val_lt (h : n < t.length) : val t g n = at' t n := if_pos h
/-- from the last told value on -/
theorem val_ge (h0 : 0 < t.length) (k : Nat) : val t g (t.length - 1 + k) = lst t + acc (dif g) k := by
  unfold val
  rcases Nat.eq_zero_or_pos k with h | h
  · subst h
    rw [if_pos (by omega)]
    show at' t (t.length - 1 + 0) = lst t + 0
    rw [Int.add_zero]
    rfl
  · rw [if_neg (by omega), show t.length - 1 + k - t.length + 1 = k by omega]
theorem val_step (h0 : 0 < t.length) (k : Nat) : val t g (t.length - 1 + k + 1) - val t g (t.length - 1 + k) = dif g k := by
  rw [Nat.add_assoc, val_ge h0, val_ge h0]
  show lst t + (acc (dif g) k + dif g k) - (lst t + acc (dif g) k) = dif g k
  omega
/-- the rounds taken at once -/
theorem val_far (h0 : 0 < t.length) (hn : t.length ≤ n) : val t g n = lst t + ((n - t.length + 1) / g.length : Nat) * acc (dif g) g.length + acc (dif g) ((n - t.length + 1) % g.length) := by
  unfold val
  rw [if_neg (by omega)]
  have e := Nat.mod_add_div (n - t.length + 1) g.length
  rw [Nat.mul_comm, Nat.add_comm] at e
  rw [← e, acc_mul dif_pd, e, Int.add_assoc]
/-- the normal form -/
structure NF (t g : List Int) : Prop where
  told : 0 < t.length
  gains : 0 < g.length
  least : Least (dif g) g.length
  few : t.length = 1 ∨ at' t (t.length - 1) - at' t (t.length - 2) ≠ lst g
/-- by how much the values rise -/
def rise (t g : List Int) (n : Nat) : Int := val t g (n + 1) - val t g n
theorem rise_ge (h0 : 0 < t.length) (h : t.length - 1 ≤ n) : rise t g n = dif g (n - (t.length - 1)) := by
  have := val_step (g := g) h0 (n - (t.length - 1))
  rwa [show t.length - 1 + (n - (t.length - 1)) = n by omega] at this
/-- the number of gains is the least number by which the rises come round at last -/
theorem least_end (h : NF t g) {q : Nat} (hq : 0 < q) {m : Nat} (hm : ∀ n, m ≤ n → rise t g (n + q) = rise t g n) : g.length ≤ q := by
  refine h.least.le q hq fun k => ?_
  have a := hm (t.length - 1 + (k + m * g.length)) (by have : m ≤ m * g.length := Nat.le_mul_of_pos_right m h.gains; omega)
  rw [rise_ge h.told (by omega), rise_ge h.told (by omega)] at a
  rw [show t.length - 1 + (k + m * g.length) + q - (t.length - 1) = k + q + m * g.length by omega, show t.length - 1 + (k + m * g.length) - (t.length - 1) = k + m * g.length by omega] at a
  rwa [dif_pd.mul, dif_pd.mul] at a
theorem end_pd (h : NF t g) (n : Nat) (hn : t.length - 1 ≤ n) : rise t g (n + g.length) = rise t g n := by
  rw [rise_ge h.told (by omega), rise_ge h.told hn, show n + g.length - (t.length - 1) = n - (t.length - 1) + g.length by omega]
  exact dif_pd _
theorem at_eq_of {a b : List Int} (hl : a.length = b.length) (h : ∀ i, i < a.length → at' a i = at' b i) : a = b := by
  refine List.ext_getElem? fun i => ?_
  rcases Nat.lt_or_ge i a.length with h1 | h1
  · have := h i h1
    unfold at' at this
    rw [List.getD_eq_getElem?_getD, List.getD_eq_getElem?_getD] at this
    rw [List.getElem?_eq_getElem h1, List.getElem?_eq_getElem (hl ▸ h1)] at this ⊢
    exact congrArg some this
  · rw [List.getElem?_eq_none h1, List.getElem?_eq_none (hl ▸ h1)]
theorem told_le (h : NF t g) (h' : NF t' g') (e : ∀ n, val t g n = val t' g' n) (eg : g.length = g'.length) : t'.length ≤ t.length := by
  rcases Nat.lt_or_ge t.length t'.length with hl | hl
  · exfalso
    have re : ∀ n, rise t g n = rise t' g' n := fun n => by unfold rise; rw [e, e]
    rcases h'.few with z | z
    · have := h.told; omega
    · apply z
      have t0 := h.told
      have a : rise t' g' (t'.length - 2) = at' t' (t'.length - 1) - at' t' (t'.length - 2) := by
        unfold rise
        rw [show t'.length - 2 + 1 = t'.length - 1 by omega, val_lt (by omega), val_lt (by omega)]
      have b : rise t' g' (t'.length - 2 + g.length) = lst g' := by
        have g0 := h.gains
        rw [rise_ge h'.told (by omega), show t'.length - 2 + g.length - (t'.length - 1) = g'.length - 1 by omega, dif_lt (by omega)]
        rfl
      rw [← a, ← b, ← re, ← re]
      exact (end_pd h _ (by omega)).symm
  · exact hl
/-- one normal form -/
theorem nf_one (h : NF t g) (h' : NF t' g') (e : ∀ n, val t g n = val t' g' n) : t = t' ∧ g = g' := by
  have re : ∀ n, rise t g n = rise t' g' n := fun n => by unfold rise; rw [e, e]
  have l1 : g.length ≤ g'.length := least_end h h'.gains (m := t'.length - 1) fun n hn => by rw [re, re]; exact end_pd h' n hn
  have l2 : g'.length ≤ g.length := least_end h' h.gains (m := t.length - 1) fun n hn => by rw [← re, ← re]; exact end_pd h n hn
  have eg : g.length = g'.length := Nat.le_antisymm l1 l2
  have et : t.length = t'.length := Nat.le_antisymm (told_le h' h (fun n => (e n).symm) eg.symm) (told_le h h' e eg)
  refine ⟨at_eq_of et fun i hi => ?_, at_eq_of eg fun i hi => ?_⟩
  · have := e i
    rwa [val_lt hi, val_lt (et ▸ hi)] at this
  · have a := rise_ge (g := g) h.told (n := t.length - 1 + i) (by omega)
    have b := rise_ge (g := g') h'.told (n := t.length - 1 + i) (by omega)
    rw [re, b, show t.length - 1 + i - (t.length - 1) = i by omega, show t.length - 1 + i - (t'.length - 1) = i by omega, dif_lt hi, dif_lt (eg ▸ hi)] at a
    exact a.symm
end
/-! ### told values that the gains give anyway -/
section
variable {t g : List Int} {s : Nat}
/-- the gain that would be i steps ahead of the first one -/
def back (g : List Int) (s : Nat) : Int := at' g (g.length - 1 - s % g.length)
/-- the last s told values are those that the gains give -/
def Spr (t g : List Int) (s : Nat) : Prop := s < t.length ∧ ∀ i, i < s → at' t (t.length - 1 - i) - at' t (t.length - 1 - i - 1) = back g i
theorem spr_zero (h : 0 < t.length) : Spr t g 0 := ⟨h, fun i hi => absurd hi (Nat.not_lt_zero i)⟩
theorem spr_step (h : Spr t g s) (hs : s < t.length - 1) (e : at' t (t.length - 1 - s) - at' t (t.length - 1 - s - 1) = back g s) : Spr t g (s + 1) :=
  ⟨by omega, fun i hi => by
    rcases Nat.lt_or_ge i s with z | z
    · exact h.2 i z
    · rw [show i = s by omega]
      exact e⟩
/-- told values and gains without the last s told values -/
def cutT (t : List Int) (s : Nat) : List Int := t.take (t.length - s)
def cutG (g : List Int) (s : Nat) : List Int := g.drop (g.length - s % g.length) ++ g.take (g.length - s % g.length)
theorem cutT_len (hs : s < t.length) : (cutT t s).length = t.length - s := by
  unfold cutT
  rw [List.length_take]
  omega
theorem cutG_len : (cutG g s).length = g.length := by
  unfold cutG
  rw [List.length_append, List.length_drop, List.length_take]
  omega
theorem at_take {l : List Int} {n i : Nat} (h : i < n) : at' (l.take n) i = at' l i := by
  unfold at'
  rw [List.getD_eq_getElem?_getD, List.getD_eq_getElem?_getD, List.getElem?_take_of_lt h]
theorem at_drop {l : List Int} {n i : Nat} : at' (l.drop n) i = at' l (n + i) := by
  unfold at'
  rw [List.getD_eq_getElem?_getD, List.getD_eq_getElem?_getD, List.getElem?_drop]
theorem at_app {a b : List Int} {i : Nat} : at' (a ++ b) i = if i < a.length then at' a i else at' b (i - a.length) := by
  unfold at'
  rw [List.getD_eq_getElem?_getD, List.getD_eq_getElem?_getD, List.getD_eq_getElem?_getD]
  by_cases h : i < a.length
  · rw [if_pos h, List.getElem?_append_left h]
  · rw [if_neg h, List.getElem?_append_right (by omega)]
/-- the gains turned: each one s places later -/
theorem dif_cut (hg : 0 < g.length) (k : Nat) : dif (cutG g s) (k + s) = dif g k := by
  have hr : s % g.length < g.length := Nat.mod_lt _ hg
  have hk : k % g.length < g.length := Nat.mod_lt _ hg
  unfold dif
  rw [cutG_len, Nat.add_mod]
  unfold cutG
  generalize s % g.length = r at hr ⊢
  generalize k % g.length = q at hk ⊢
  rw [at_app, List.length_drop, show g.length - (g.length - r) = r by omega]
  rcases Nat.lt_or_ge (q + r) g.length with h | h
  · rw [Nat.mod_eq_of_lt h, if_neg (by omega), at_take (by omega), show q + r - r = q by omega]
  · rw [Nat.mod_eq_sub_mod h, Nat.mod_eq_of_lt (by omega), if_pos (by omega), at_drop, show g.length - r + (q + r - g.length) = q by omega]
theorem dif_cut' (hg : 0 < g.length) {k : Nat} (h : s ≤ k) : dif (cutG g s) k = dif g (k - s) := by
  have := dif_cut (s := s) hg (k - s)
  rwa [show k - s + s = k by omega] at this
/-- the gain i places ahead of the first one, told of the turned ones -/
theorem back_cut (hg : 0 < g.length) {i : Nat} (hi : i < s) : dif (cutG g s) (s - 1 - i) = back g i := by
  have p := (dif_pd (g := cutG g s)).mul (i + 1) (s - 1 - i)
  rw [cutG_len] at p
  rw [← p, dif_cut' hg (by have : i + 1 ≤ (i + 1) * g.length := Nat.le_mul_of_pos_right _ hg; omega)]
  unfold dif back
  congr 1
  have hr : i % g.length < g.length := Nat.mod_lt _ hg
  have e := Nat.mod_add_div i g.length
  generalize i % g.length = r at hr e ⊢
  generalize i / g.length = c at e
  have e3 : (i + 1) * g.length = i * g.length + g.length := by rw [Nat.add_mul, Nat.one_mul]
  have e5 : c * g.length = g.length * c := Nat.mul_comm _ _
  have i0 : i ≤ i * g.length := Nat.le_mul_of_pos_right _ hg
  have cl : c ≤ i := by
    have := Nat.le_mul_of_pos_left c hg
    omega
  -- the number of whole rounds left
  have e4 : s - 1 - i + (i + 1) * g.length - s = g.length - 1 - r + (i - c) * g.length := by
    have : (i - c) * g.length = i * g.length - c * g.length := Nat.sub_mul _ _ _
    have le2 : c * g.length ≤ i * g.length := Nat.mul_le_mul_right _ cl
    omega
  rw [e4, Nat.add_mul_mod_self_right, Nat.mod_eq_of_lt (by omega)]
theorem back_zero (hg : 0 < g.length) : back g 0 = lst g := by
  unfold back lst
  rw [Nat.zero_mod, Nat.sub_zero]
/-- what stands s places ahead of the last told value, by the gains -/
theorem spr_told (h : Spr t g s) : ∀ i, i ≤ s → at' t (t.length - 1 - s + i) = lst (cutT t s) + acc (fun k => back g (s - 1 - k)) i
  | 0, _ => by
    have := h.1
    show _ = lst (cutT t s) + 0
    unfold lst
    rw [cutT_len h.1, Int.add_zero]
    unfold cutT
    rw [at_take (by omega), Nat.add_zero, show t.length - s - 1 = t.length - 1 - s by omega]
  | i + 1, hi => by
    have h1 := h.1
    have a := spr_told h i (by omega)
    have b := h.2 (s - 1 - i) (by omega)
    rw [show t.length - 1 - (s - 1 - i) = t.length - 1 - s + (i + 1) by omega, show t.length - 1 - s + (i + 1) - 1 = t.length - 1 - s + i by omega, a] at b
    show _ = lst (cutT t s) + (acc _ i + back g (s - 1 - i))
    omega
/-- the same values -/
theorem val_cut (hg : 0 < g.length) (h : Spr t g s) (n : Nat) : val (cutT t s) (cutG g s) n = val t g n := by
  have h1 := h.1
  have len := cutT_len (t := t) h1
  rcases Nat.lt_or_ge n (t.length - s) with a | a
  · rw [val_lt (by omega), val_lt (by omega)]
    unfold cutT
    rw [at_take a]
  · obtain ⟨k, rfl⟩ : ∃ k, n = t.length - s - 1 + k := ⟨n - (t.length - s - 1), by omega⟩
    have v := val_ge (g := cutG g s) (t := cutT t s) (by omega) k
    rw [len] at v
    rw [v]
    have b : ∀ i, i < s → dif (cutG g s) i = back g (s - 1 - i) := fun i hi => by
      have := back_cut (g := g) (s := s) hg (i := s - 1 - i) (by omega)
      rwa [show s - 1 - (s - 1 - i) = i by omega] at this
    rcases Nat.lt_or_ge k (s + 1) with c | c
    · rw [val_lt (by omega), show t.length - s - 1 + k = t.length - 1 - s + k by omega, spr_told h k (by omega), acc_congr k fun i hi => b i (by omega)]
    · obtain ⟨j, rfl⟩ : ∃ j, k = s + j := ⟨k - s, by omega⟩
      rw [acc_add, acc_congr s b, acc_congr (e := dif g) j fun i _ => by rw [Nat.add_comm s i]; exact dif_cut hg i]
      have l := spr_told h s (Nat.le_refl s)
      rw [show t.length - 1 - s + s = t.length - 1 by omega] at l
      rw [show t.length - s - 1 + (s + j) = t.length - 1 + j by omega, val_ge (by omega)]
      unfold lst at l ⊢
      rw [l]
      omega
theorem least_cut (hg : 0 < g.length) (h : Least (dif g) g.length) : Least (dif (cutG g s)) (cutG g s).length := by
  refine ⟨by rw [cutG_len]; exact hg, dif_pd, fun q hq hp => ?_⟩
  rw [cutG_len]
  refine h.le q hq fun k => ?_
  have := hp (k + s)
  rw [show k + s + q = k + q + s by omega, dif_cut hg, dif_cut hg] at this
  exact this
/-- the search of told values has come to its end: the normal form -/
theorem nf_cut (hg : 0 < g.length) (l : Least (dif g) g.length) (h : Spr t g s) (e : s = t.length - 1 ∨ at' t (t.length - 1 - s) - at' t (t.length - 1 - s - 1) ≠ back g s) : NF (cutT t s) (cutG g s) := by
  have h1 := h.1
  have len := cutT_len (t := t) h1
  refine ⟨by omega, by rw [cutG_len]; exact hg, least_cut hg l, ?_⟩
  rcases e with e | e
  · left
    omega
  · by_cases z : t.length - s = 1
    · left
      omega
    · right
      rw [len]
      unfold cutT
      rw [at_take (by omega), at_take (by omega), show t.length - s - 1 = t.length - 1 - s by omega, show t.length - s - 2 = t.length - 1 - s - 1 by omega]
      have q : lst (cutG g s) = back g s := by
        have a := back_cut (g := g) (s := s + 1) hg (i := s) (Nat.lt_succ_self s)
        have r : dif (cutG g (s + 1)) (s + 1 - 1 - s) = dif (cutG g s) (g.length - 1) := by
          rw [show s + 1 - 1 - s = 0 by omega]
          have p := (dif_pd (g := cutG g (s + 1))).mul (s + 1) 0
          rw [cutG_len] at p
          have m : s + 1 ≤ (s + 1) * g.length := Nat.le_mul_of_pos_right _ hg
          rw [← p, dif_cut' hg (by omega)]
          have p2 := (dif_pd (g := cutG g s)).mul s (g.length - 1)
          rw [cutG_len] at p2
          have m2 : s ≤ s * g.length := Nat.le_mul_of_pos_right _ hg
          have e3 : (s + 1) * g.length = s * g.length + g.length := by rw [Nat.add_mul, Nat.one_mul]
          rw [← p2, dif_cut' hg (by omega)]
          congr 1
          omega
        rw [r, dif_lt (by rw [cutG_len]; omega)] at a
        unfold lst
        rw [cutG_len]
        exact a
      rw [q]
      exact e
end
end Gr
namespace Gr
/-! ### told values and gains of a sequence that rises in rounds at last -/
section
variable {f : Nat → Int} {b l : Nat}
def pT (f : Nat → Int) (b : Nat) : List Int := (List.range b).map f
def pG (f : Nat → Int) (b l : Nat) : List Int := (List.range l).map fun k => f (b + k) - f (b + k - 1)
theorem pT_len : (pT f b).length = b := by unfold pT; rw [List.length_map, List.length_range]
theorem pG_len : (pG f b l).length = l := by unfold pG; rw [List.length_map, List.length_range]
theorem at_map_range {h : Nat → Int} {n i : Nat} (hi : i < n) : at' ((List.range n).map h) i = h i := by
  unfold at'
  rw [List.getD_eq_getElem?_getD, List.getElem?_map, List.getElem?_range hi]
  rfl
theorem val_parted (hb : 0 < b) (hl : 0 < l) (h : ∀ n, b - 1 ≤ n → f (n + l + 1) - f (n + l) = f (n + 1) - f n) (n : Nat) : val (pT f b) (pG f b l) n = f n := by
  have lt := pT_len (f := f) (b := b)
  have lg := pG_len (f := f) (b := b) (l := l)
  rcases Nat.lt_or_ge n b with a | a
  · rw [val_lt (by omega)]
    exact at_map_range a
  · obtain ⟨k, rfl⟩ : ∃ k, n = b - 1 + k := ⟨n - (b - 1), by omega⟩
    have v := val_ge (t := pT f b) (g := pG f b l) (by omega) k
    rw [lt] at v
    rw [v]
    have d : ∀ i, dif (pG f b l) i = f (b - 1 + i + 1) - f (b - 1 + i) := fun i => by
      unfold dif
      rw [lg]
      have hi : i % l < l := Nat.mod_lt _ hl
      have e : at' (pG f b l) (i % l) = f (b + i % l) - f (b + i % l - 1) := at_map_range hi
      rw [e, show b + i % l = b - 1 + i % l + 1 by omega, Nat.add_sub_cancel]
      have p : Pd (fun i => f (b - 1 + i + 1) - f (b - 1 + i)) l := fun i => by
        have := h (b - 1 + i) (by omega)
        rw [show b - 1 + i + l = b - 1 + (i + l) by omega] at this
        exact this
      exact p.mod i
    have la : lst (pT f b) = f (b - 1) := by
      unfold lst
      rw [lt]
      exact at_map_range (by omega)
    rw [la]
    clear v
    induction k with
    | zero => show f (b - 1) + 0 = f (b - 1 + 0); rw [Int.add_zero, Nat.add_zero]
    | succ k ih =>
      show f (b - 1) + (acc _ k + dif (pG f b l) k) = f (b - 1 + (k + 1))
      have ih' : f (b - 1) + acc (dif (pG f b l)) k = f (b - 1 + k) := by
        rcases Nat.lt_or_ge (b - 1 + k) b with c | c
        · have : k = 0 := by omega
          subst this
          show f (b - 1) + 0 = f (b - 1 + 0)
          rw [Int.add_zero, Nat.add_zero]
        · exact ih c
      rw [d k, ← Int.add_assoc, ih', ← Nat.add_assoc]
      omega
end
/-! ### sums -/
section
variable {t g t' g' : List Int}
/-- rises of a growth come round behind its told values, by each number of which its gains are a divisor -/
theorem rise_pd (h0 : 0 < t.length) {l n : Nat} (hd : g.length ∣ l) (hn : t.length - 1 ≤ n) : val t g (n + l + 1) - val t g (n + l) = val t g (n + 1) - val t g n := by
  have a := rise_ge (g := g) h0 (n := n + l) (by omega)
  have b := rise_ge (g := g) h0 hn
  unfold rise at a b
  rw [a, b, show n + l - (t.length - 1) = n - (t.length - 1) + l by omega]
  obtain ⟨c, rfl⟩ := hd
  rw [Nat.mul_comm]
  exact dif_pd.mul c _
theorem val_sum (h0 : 0 < t.length) (h0' : 0 < t'.length) {b l : Nat} (hb : t.length ≤ b) (hb' : t'.length ≤ b) (hl : 0 < l) (hd : g.length ∣ l) (hd' : g'.length ∣ l) (n : Nat) :
    val (pT (fun n => val t g n + val t' g' n) b) (pG (fun n => val t g n + val t' g' n) b l) n = val t g n + val t' g' n := by
  refine val_parted (by omega) hl (fun n hn => ?_) n
  have a := rise_pd (g := g) h0 (l := l) (n := n) hd (by omega)
  have c := rise_pd (g := g') h0' (l := l) (n := n) hd' (by omega)
  omega
/-! ### each value so many times -/
def sc (k : Int) (l : List Int) : List Int := l.map fun x => k * x
theorem sc_len {k : Int} {l : List Int} : (sc k l).length = l.length := List.length_map _
theorem sc_at {k : Int} {l : List Int} {i : Nat} : at' (sc k l) i = k * at' l i := by
  unfold at' sc
  rw [List.getD_eq_getElem?_getD, List.getD_eq_getElem?_getD, List.getElem?_map]
  cases l[i]? with
  | none => show (0 : Int) = k * 0; rw [Int.mul_zero]
  | some x => rfl
theorem acc_sc {k : Int} {d : Nat → Int} : ∀ n, acc (fun i => k * d i) n = k * acc d n
  | 0 => (Int.mul_zero k).symm
  | n + 1 => by
    show acc _ n + k * d n = k * (acc d n + d n)
    rw [acc_sc n, Int.mul_add]
theorem val_sc {k : Int} {n : Nat} : val (sc k t) (sc k g) n = k * val t g n := by
  have d : dif (sc k g) = fun i => k * dif g i := funext fun i => by unfold dif; rw [sc_len, sc_at]
  unfold val
  rw [sc_len]
  by_cases h : n < t.length
  · rw [if_pos h, if_pos h, sc_at]
  · rw [if_neg h, if_neg h, d, acc_sc, Int.mul_add]
    unfold lst
    rw [sc_len, sc_at]
/-! ### begun later -/
/-- the gains turned the other way -/
def rot (g : List Int) (r : Nat) : List Int := g.drop r ++ g.take r
theorem rot_len {r : Nat} (h : r ≤ g.length) : (rot g r).length = g.length := by
  unfold rot
  rw [List.length_append, List.length_drop, List.length_take]
  omega
theorem dif_rot {r : Nat} (h : r < g.length) (k : Nat) : dif (rot g r) k = dif g (k + r) := by
  unfold dif
  rw [rot_len (Nat.le_of_lt h), Nat.add_mod, Nat.mod_eq_of_lt h]
  have hk : k % g.length < g.length := Nat.mod_lt _ (by omega)
  generalize k % g.length = q at hk ⊢
  unfold rot
  rw [at_app, List.length_drop]
  rcases Nat.lt_or_ge (q + r) g.length with c | c
  · rw [Nat.mod_eq_of_lt c, if_pos (by omega), at_drop, Nat.add_comm]
  · rw [Nat.mod_eq_sub_mod c, Nat.mod_eq_of_lt (by omega), if_neg (by omega), at_take (by omega)]
    congr 1
    omega
/-- still within the told values -/
theorem val_shift1 {m : Nat} (hm : m < t.length) (n : Nat) : val (t.drop m) g n = val t g (n + m) := by
  have l : (t.drop m).length = t.length - m := List.length_drop
  rcases Nat.lt_or_ge n (t.length - m) with a | a
  · rw [val_lt (by omega), val_lt (by omega), at_drop, Nat.add_comm]
  · obtain ⟨k, rfl⟩ : ∃ k, n = t.length - m - 1 + k := ⟨n - (t.length - m - 1), by omega⟩
    have v := val_ge (t := t.drop m) (g := g) (by omega) k
    rw [l] at v
    rw [v, show t.length - m - 1 + k + m = t.length - 1 + k by omega, val_ge (by omega)]
    unfold lst
    rw [l, at_drop, show m + (t.length - m - 1) = t.length - 1 by omega]
/-- behind them -/
theorem val_shift2 {m : Nat} (h0 : 0 < t.length) (hg : 0 < g.length) (hm : t.length ≤ m) (n : Nat) : val [val t g m] (rot g ((m - t.length + 1) % g.length)) n = val t g (n + m) := by
  have hr : (m - t.length + 1) % g.length < g.length := Nat.mod_lt _ hg
  have v := val_ge (t := [val t g m]) (g := rot g ((m - t.length + 1) % g.length)) Nat.one_pos n
  rw [show [val t g m].length - 1 + n = n from Nat.zero_add n] at v
  rw [v, show n + m = t.length - 1 + (m - t.length + 1 + n) by omega, val_ge h0, acc_add]
  have e : lst [val t g m] = lst t + acc (dif g) (m - t.length + 1) := by
    show val t g m = _
    have := val_ge (g := g) h0 (m - t.length + 1)
    rwa [show t.length - 1 + (m - t.length + 1) = m by omega] at this
  rw [e, Int.add_assoc]
  congr 2
  refine acc_congr n fun k _ => ?_
  rw [dif_rot hr]
  have p := (dif_pd (g := g)).mul ((m - t.length + 1) / g.length) (k + (m - t.length + 1) % g.length)
  have q := Nat.mod_add_div (m - t.length + 1) g.length
  rw [Nat.mul_comm] at q
  rw [← p]
  congr 1
  omega
end
end Gr
namespace K08
open PySem L2 Evl
def top (i : Nat) : Stmt := PySem.Challenge.pw_layerpost_k08_frame_rules_made_and_read.main.body.getD i (.Pass ⟨0, 0, 0, 0⟩)
abbrev sPen : Stmt := top 26
abbrev sDraw : Stmt := top 27
abbrev sPick : Stmt := top 28
/-! ### the pen: a list of the cells, the place, the rest -/
def PenAt (H : Hp) (p l : Addr) (cells : List Int) (m : Nat) : Prop :=
  ∃ (k : Nat) (r : Int), H p = some (.lst [.ref l, .int (k : Int), .int r]) ∧ H l = some (.lst (cells.map V.int)) ∧ k ≤ m
/-- all but p is as it was -/
def Keep (p : Addr) (H H' : Hp) : Prop := ∀ b o, H b = some o → b ≠ p → H' b = some o
theorem Keep.of_ex {p : Addr} {H H' : Hp} (e : Ex H H') : Keep p H H' := fun b o h _ => e b o h
theorem Keep.trans {p : Addr} {H H1 H2 : Hp} (a : Keep p H H1) (b : Keep p H1 H2) : Keep p H H2 := fun c o h n => b c o (a c o h n) n
theorem Keep.upd {p : Addr} {H : Hp} {o : HO} : Keep p H (upd H p o) := fun b u h n => by rw [upd_ne n]; exact h
theorem PenAt.mono {H H' : Hp} {p l : Addr} {cells : List Int} {m n : Nat} (h : PenAt H p l cells m) (e : Ex H H') (hm : m ≤ n) : PenAt H' p l cells n := by
  obtain ⟨k, r, h1, h2, h3⟩ := h
  exact ⟨k, r, e _ _ h1, e _ _ h2, by omega⟩
theorem PenAt.ne {H : Hp} {p l : Addr} {cells : List Int} {m : Nat} (h : PenAt H p l cells m) : l ≠ p := by
  obtain ⟨k, r, h1, h2, _⟩ := h
  refine ne_of h2 h1 ?_
  intro z
  have z2 := HO.lst.inj z
  cases cells with
  | nil => exact absurd z2 (by simp)
  | cons c cs => exact absurd (List.cons.inj z2).1 (by intro q; cases q)
structure Glb (mg : Str → Option Value) : Prop where
  int : mg "int" = none
  abs : mg "abs" = none
  len : mg "len" = none
  list : mg "list" = none
def spDraw : Sp := fun vs H Q _ => ∃ (p l : Addr) (cells : List Int) (m : Nat) (many : Int), vs = [.ref p, .int many] ∧ PenAt H p l cells m ∧ m ≤ 50000 ∧ cells.length ≤ 63 ∧ 0 < many ∧ many ≤ 1000000000 ∧
  ∀ d H', 0 ≤ d → d < many → PenAt H' p l cells (m + 1) → Keep p H H' → Q (.int d) H'
theorem scDraw : FnScope ["_law_pen_here", "_law_many", "_law_digit", "_law_begun", "_law_cell", "_law_great", "_law_mixed"] ["_law_pen_here", "_law_many"] (defScope sDraw) := ⟨rfl, rfl, rfl, by decide +kernel, rfl, by decide +kernel, by decide +kernel⟩
theorem rc_int {i : Int} {H : Hp} : RC (fun xs H Q => (∃ i, xs = [V.int i] ∧ Q (.int i) H) ∨ ∃ k, xs = [V.bl k] ∧ Q (.int (if k then 1 else 0)) H) [.int i] H (.int i) := fun H1 _ _ q => .inl ⟨i, rfl, q H1 (Ex.refl H1)⟩
theorem rc_intB {b : Bool} {H : Hp} : RC (fun xs H Q => (∃ i, xs = [V.int i] ∧ Q (.int i) H) ∨ ∃ k, xs = [V.bl k] ∧ Q (.int (if k then 1 else 0)) H) [.bl b] H (.int (if b then 1 else 0)) := fun H1 _ _ q => .inr ⟨b, rfl, q H1 (Ex.refl H1)⟩
theorem rc_abs {i : Int} {H : Hp} : RC (fun xs H Q => ∃ i, xs = [V.int i] ∧ Q (.int (if i < 0 then -i else i)) H) [.int i] H (.int (if i < 0 then -i else i)) := fun H1 _ _ q => ⟨i, rfl, q H1 (Ex.refl H1)⟩
theorem rc_len {K : PySem.W.Frag} {p : Addr} {xs : List V} {H : Hp} (h : SqL K H p xs) : RC (fun xs H Q => ∃ p ys, xs = [V.ref p] ∧ (SqL K H p ys ∨ SqT K H p ys) ∧ Q (.int ys.length) H) [.ref p] H (.int (xs.length : Int)) := fun H1 e _ q => ⟨p, xs, rfl, .inl (ex_l e h), q H1 (Ex.refl H1)⟩
theorem dpAll_ints {K : PySem.W.Frag} {H : Hp} : ∀ (ns : List Int), DpAll K H (ns.map V.int) (ns.map PyData.int)
  | [] => .nil
  | n :: ns => .cons (.int n) (dpAll_ints ns)
section
variable {P : Program} {w : World} {K : PySem.W.Frag} {mg : Str → Option Value} {base : Heap}
theorem shaped_nil : SeqAt.shaped (.list []) = true := by decide +kernel
theorem canLay_ints : ∀ (ns : List Int), PyData.canLayAll0 (ns.map PyData.int) = true
  | [] => by simp [PyData.canLayAll0]
  | n :: ns => by simp [PyData.canLayAll0, PyData.canLay0, canLay_ints ns]
theorem depth_ints : ∀ (ns : List Int), PyData.depthAll (ns.map PyData.int) = 0
  | [] => rfl
  | n :: ns => by simp [PyData.depthAll, PyData.depth, depth_ints ns]
theorem shaped_ints (ns : List Int) : SeqAt.shaped (.list (ns.map PyData.int)) = true := by
  unfold SeqAt.shaped
  simp [PyData.canLay0, canLay_ints, PyData.depth, depth_ints]
/-- xs != [], xs a list of ints -/
theorem ev_neNil {σ : L2.St} {H : Hp} {ta : TE} {l : Addr} {cells : List Int} (ha : Ev ta σ H (.ref l)) (h : SqL K H l (cells.map V.int)) :
    ∃ b : Bool, Ev (tOp (rNeD K) ta (tLst tNil)) σ H (.bl b) ∧ (b = true → cells ≠ []) := by
  refine ⟨!(PyData.eqv (.list (cells.map PyData.int)) (.list [])), ev_opL (xs := []) ha (el_lst ea_nil (by decide)) (fun p H1 h1 e => ?_), ?_⟩
  · exact fun H2 e2 Q q => ⟨_, _, .lst (ex_l (e.trans e2) h) (dpAll_ints cells), .lst (sq_of (e2 _ _ h1)) .nil, shaped_ints cells, shaped_nil, q H2 (Ex.refl H2)⟩
  · intro hb hc
    subst hc
    exact absurd hb (by decide +kernel)
end
end K08
namespace K08
open PySem L2 Evl
section
variable {P : Program} {w : World} {K : PySem.W.Frag} {mg : Str → Option Value} {base : Heap}
theorem emod_bd (a b : Int) (h : 0 < b) : 0 ≤ a % b ∧ a % b < b := ⟨Int.emod_nonneg a (by omega), Int.emod_lt_of_pos a h⟩
theorem mul_bd {a b A B : Int} (a0 : 0 ≤ a) (aA : a ≤ A) (b0 : 0 ≤ b) (bB : b ≤ B) : 0 ≤ a * b ∧ a * b ≤ A * B := ⟨Int.mul_nonneg a0 b0, Int.mul_le_mul aA bB b0 (by omega)⟩
/-- the last part of a draw: the mixing -/
theorem ok_draw {f : Addr} {fd : FuncData} (F : Fun K "_law_draw" "_law_draw" sDraw f fd) (T : Glb mg) : FnOk P w K mg base CX0 1 f fd ["_law_pen_here", "_law_many"] spDraw := by
  refine F.ok scDraw (fun vs H Q E h => ?_) (fun cdv A outer s H vs Q E hr h => ?_)
  · obtain ⟨p, l, cells, m, many, rfl, _⟩ := h
    rfl
  · obtain ⟨p, l, cells, m, many, rfl, hp, hm, h63, hm0, hm1, k⟩ := h
    refine ⟨_, pss_cons (ps_if (pt_cmpR op_gt (pe_ix ix_list (pv 0) pe_int (fun _ _ => rfl)) pe_int (nomark _)) (pss_cons (ps_set (i := 2) scDraw.nd rfl (.inl rfl) (pe_op op_mod (pe_callTy call_int1 (by rfl) T.int (by decide +kernel) (pa_cons (pe_ix ix_list (pv 0) pe_int (fun _ _ => rfl)) pa_nil)) (pv 1)))
      (pss_cons (ps_asg (pe_op op_fdiv (pe_callTy call_int1 (by rfl) T.int (by decide +kernel) (pa_cons (pe_ix ix_list (pv 0) pe_int (fun _ _ => rfl)) pa_nil)) (pv 1)) (pg_sub (pv 0) pe_int set_list))
      (pss_one (ps_ret (pv 2))))) pss_nil)
      (pss_cons (ps_set (i := 3) scDraw.nd rfl (.inl rfl) (pe_ix ix_list (pv 0) pe_int (fun _ _ => rfl)))
      (pss_cons (ps_asg (pe_op op_add (pv 3) pe_int) (pg_sub (pv 0) pe_int set_list))
      (pss_cons (ps_set (i := 4) scDraw.nd rfl (.inl rfl) (pe_op op_add (pe_op op_mul pe_int (pv 3)) pe_int))
      (pss_cut (ps_if (pt_cmpR (op_neD hr.units) (pe_ix ix_list (pv 0) pe_int (fun _ _ => rfl)) (pe_lst pa_nil) (nomark _)) (pss_one (ps_set (i := 4) scDraw.nd rfl (.inl rfl) (pe_ix ix_list (pe_ix ix_list (pv 0) pe_int (fun _ _ => rfl)) (pe_op op_mod (pe_callTy call_int1 (by rfl) T.int (by decide +kernel) (pa_cons (pv 3) pa_nil)) (pe_callB call_len_seq (by rfl) T.len PySem.boot_len (pa_cons (pe_ix ix_list (pv 0) pe_int (fun _ _ => rfl)) pa_nil))) (fun _ _ => rfl)))) pss_nil)
      (pss_cons (ps_if (PW.pt (pw_and (pt_cmpR op_lt (pv 3) (pe_callB call_len_seq (by rfl) T.len PySem.boot_len (pa_cons (pe_ix ix_list (pv 0) pe_int (fun _ _ => rfl)) pa_nil)) (nomark _)) (pw_and1 (pt_cmpR op_ge (pe_callB call_abs (by rfl) T.abs (by decide +kernel) (pa_cons (pv 4) pa_nil)) (pe_op op_pow pe_int pe_int) (nomark _))))) (pss_cons (ps_set (i := 5) scDraw.nd rfl (.inl rfl) (pe_op op_add (pe_op op_mul pe_int (pe_op op_sub (pe_callB call_abs (by rfl) T.abs (by decide +kernel) (pa_cons (pv 4) pa_nil)) (pe_op op_pow pe_int pe_int))) (pe_callTy call_int1 (by rfl) T.int (by decide +kernel) (pa_cons (pe_cmpR op_lt (pv 4) pe_int (nomark _)) pa_nil))))
      (pss_cons (ps_asg (pe_op op_fdiv (pe_callTy call_int1 (by rfl) T.int (by decide +kernel) (pa_cons (pv 5) pa_nil)) (pv 1)) (pg_sub (pv 0) pe_int set_list))
      (pss_one (ps_ret (pe_op op_mod (pe_callTy call_int1 (by rfl) T.int (by decide +kernel) (pa_cons (pv 5) pa_nil)) (pv 1)))))) pss_nil)
      (pss_cons (ps_set (i := 6) scDraw.nd rfl (.inl rfl) (pe_op op_mod (pe_callTy call_int1 (by rfl) T.int (by decide +kernel) (pa_cons (pe_op op_pow (pe_op op_add (pe_op op_add (pe_op op_mod (pe_callTy call_int1 (by rfl) T.int (by decide +kernel) (pa_cons (pv 4) pa_nil)) pe_int) (pe_op op_mul pe_int (pv 3))) pe_int) pe_int) pa_nil)) pe_int))
      (pss_cons (ps_set (i := 6) scDraw.nd rfl (.inl rfl) (pe_op op_add (pe_op op_add (pe_op op_mul (pv 6) (pe_op op_add (pe_op op_mul pe_int (pv 3)) pe_int)) (pe_op op_mul (pe_op op_mul pe_int (pv 3)) (pv 3))) pe_int))
      (pss_one (ps_ret (pe_op op_mod (pe_callTy call_int1 (by rfl) T.int (by decide +kernel) (pa_cons (pe_op op_fdiv (pe_op op_mod (pe_callTy call_int1 (by rfl) T.int (by decide +kernel) (pa_cons (pe_op op_pow (pv 6) pe_int) pa_nil)) pe_int) pe_int) pa_nil)) (pv 1))))))))))), ?_⟩
    have hpl := hp.ne
    obtain ⟨n, r, h1, h2, hn⟩ := hp
    have many1 : many < 1073741824 := by omega
    refine q_when (et_test (ev_op (ev_op (ev_var rfl) ev_c (rv_ixL (sq_of h1) (atI_nat (j := 2) rfl))) ev_c rv_I0)) (fun hb H1 e1 => ?_) (fun hb H1 e1 => ?_)
    · -- the rest gives a digit
      have r0 : 0 < r := of_decide_eq_true hb
      have g1 := e1 _ _ h1
      refine q_asg (ev_op (ev_cb (ea_cons (ev_op (ev_var rfl) ev_c (rv_ixL (sq_of g1) (atI_nat (j := 2) rfl))) ea_nil) rc_int) (ev_var rfl) (rv_I hm0)) fun H2 e2 => ?_
      have g2 := e2 _ _ g1
      refine q_setL (j := 2) g2 (ev_op (ev_cb (ea_cons (ev_op (ev_var rfl) ev_c (rv_ixL (sq_of g2) (atI_nat (j := 2) rfl))) ea_nil) rc_int) (ev_var rfl) (rv_I ⟨hm0, many1⟩)) (ev_var rfl) ev_c (by show 2 < 3; decide) fun H3 e3 => ?_
      refine s_ret (ev_var rfl) fun H4 e4 => ?_
      have key : ∀ b o, H b = some o → b ≠ p → H4 b = some o := fun b o hb hbp => e4 b o (by rw [upd_ne hbp]; exact e3 _ _ (e2 _ _ (e1 _ _ hb)))
      exact k _ H4 (emod_bd _ _ hm0).1 (emod_bd _ _ hm0).2 ⟨n, _, e4 _ _ upd_same, key _ _ h2 hpl, by omega⟩ key
    · -- at = pen[1]; pen[1] = at + 1
      have g1 := e1 _ _ h1
      refine q_asg (ev_op (ev_var rfl) ev_c (rv_ixL (sq_of g1) (atI_nat (j := 1) rfl))) fun H2 e2 => ?_
      have g2 := e2 _ _ g1
      refine q_setL (j := 1) g2 (ev_op (ev_var rfl) ev_c rv_I0) (ev_var rfl) ev_c (by show 1 < 3; decide) fun H3 e3 => ?_
      have g3 := e3 _ _ g2
      have hl3 : H3 l = some (.lst (cells.map V.int)) := e3 _ _ (e2 _ _ (e1 _ _ h2))
      have kp3 : ∀ b o, H b = some o → b ≠ p → (upd H3 p (.lst ([V.ref l, V.int (n : Int), V.int r].set 1 (V.int ((n : Int) + 1))))) b = some o := fun b o hb hbp => by
        rw [upd_ne hbp]; exact e3 _ _ (e2 _ _ (e1 _ _ hb))
      generalize hH : upd H3 p (.lst ([V.ref l, V.int (n : Int), V.int r].set 1 (V.int ((n : Int) + 1)))) = J at kp3
      have j1 : J p = some (.lst [V.ref l, V.int ((n + 1 : Nat) : Int), V.int r]) := by
        rw [← hH, upd_same]
        rfl
      have j2 : J l = some (.lst (cells.map V.int)) := kp3 _ _ h2 hpl
      have hn0 : (0 : Int) ≤ (n : Int) ∧ (n : Int) ≤ 50000 := ⟨by omega, by omega⟩
      -- cell = 53791 * at + 4325
      refine q_asg (ev_op (ev_op ev_c (ev_var rfl) (rv_I (.inl ⟨by decide, by decide⟩))) ev_c rv_I0) fun H4 e4 => ?_
      have j41 := e4 _ _ j1
      have j42 := e4 _ _ j2
      -- if pen[0] != []: cell = ..
      obtain ⟨bn, evn, hne⟩ := ev_neNil (K := K) (σ := [some (V.ref p), some (V.int many), none, some (V.int (n : Int)), some (V.int (76665 * (n : Int) + 1209)), none, none]) (H := H4) (cells := cells) (l := l)
        (ta := tOp (rIxL K) (tVar 0) (tC (V.int 0))) (ev_op (ev_var rfl) ev_c (rv_ixL (sq_of j41) (atI_nat (j := 0) rfl))) (sq_of j42)
      refine q_cut (M := fun σ' H' => ∃ c : Int, σ' = [some (V.ref p), some (V.int many), none, some (V.int (n : Int)), some (V.int c), none, none] ∧ Ex H4 H') (s_when (et_test evn) (fun hb H5 e5 => ?_) (fun hb H5 e5 => ⟨_, rfl, e5⟩)) ?_
      · have hlen : 0 < cells.length := List.length_pos_iff.mpr (hne hb)
        have hi : 0 ≤ (n : Int) % (cells.length : Int) ∧ (n : Int) % (cells.length : Int) < (cells.length : Int) := emod_bd _ _ (by omega)
        obtain ⟨i, ei⟩ := Int.eq_ofNat_of_zero_le hi.1
        have il : i < cells.length := by have := hi.2; omega
        have lm : ((cells.map V.int).length : Int) = (cells.length : Int) := by rw [List.length_map]
        refine s_asg (v := V.int (cells[i])) (ev_op (y := V.int (i : Int)) (ev_op (ev_var rfl) ev_c (rv_ixL (sq_of (e5 _ _ j41)) (atI_nat (j := 0) rfl)))
          (ev_is (ev_op (ev_cb (ea_cons (ev_var rfl) ea_nil) rc_int) (ev_cb (ea_cons (ev_op (ev_var rfl) ev_c (rv_ixL (sq_of (e5 _ _ j41)) (atI_nat (j := 0) rfl))) ea_nil) (rc_len (sq_of (e5 _ _ j42)))) (rv_I (by rw [lm]; omega))) (by show V.int ((n : Int) % ((cells.map V.int).length : Int)) = _; rw [lm, ei]))
          (rv_ixL (sq_of (e5 _ _ j42)) (atI_nat (by rw [List.getElem?_map, List.getElem?_eq_getElem il]; rfl)))) fun H6 e6 => ⟨_, rfl, e5.trans e6⟩
      rintro σ' H5 ⟨c, rfl, e5⟩
      have k1 := e5 _ _ j41
      have k2 := e5 _ _ j42
      have kp5 : ∀ b o, H b = some o → b ≠ p → H5 b = some o := fun b o hb hbp => e5 _ _ (e4 _ _ (kp3 _ _ hb hbp))
      have lm : ((cells.map V.int).length : Int) = (cells.length : Int) := by rw [List.length_map]
      refine q_when (et_and (et_test (ev_op (ev_var rfl) (ev_cb (ea_cons (ev_op (ev_var rfl) ev_c (rv_ixL (sq_of k1) (atI_nat (j := 0) rfl))) ea_nil) (rc_len (sq_of k2))) rv_I0))
        (fun _ => et_test (ev_op (ev_cb (ea_cons (ev_var rfl) ea_nil) rc_abs) (ev_op ev_c ev_c (rv_I ⟨by decide, by decide, by decide⟩)) rv_I0))) (fun hb H6 e6 => ?_) (fun hb H6 e6 => ?_)
      · -- a great cell
        refine q_asg (ev_op (ev_op ev_c (ev_op (ev_cb (ea_cons (ev_var rfl) ea_nil) rc_abs) (ev_op ev_c ev_c (rv_I ⟨by decide, by decide, by decide⟩)) rv_I0) (rv_I (.inl ⟨by decide, by decide⟩))) (ev_cb (ea_cons (ev_op (ev_var rfl) ev_c rv_I0) ea_nil) rc_intB) rv_I0) fun H7 e7 => ?_
        have k7 := e7 _ _ (e6 _ _ k1)
        refine q_setL (j := 2) k7 (ev_op (ev_cb (ea_cons (ev_var rfl) ea_nil) rc_int) (ev_var rfl) (rv_I ⟨hm0, many1⟩)) (ev_var rfl) ev_c (by show 2 < 3; decide) fun H8 e8 => ?_
        refine s_ret (ev_op (ev_cb (ea_cons (ev_var rfl) ea_nil) rc_int) (ev_var rfl) (rv_I hm0)) fun H9 e9 => ?_
        have key : ∀ b o, H b = some o → b ≠ p → H9 b = some o := fun b o hb hbp => e9 _ _ (by rw [upd_ne hbp]; exact e8 _ _ (e7 _ _ (e6 _ _ (kp5 _ _ hb hbp))))
        exact k _ H9 (emod_bd _ _ hm0).1 (emod_bd _ _ hm0).2 ⟨n + 1, _, e9 _ _ upd_same, key _ _ h2 hpl, by omega⟩ key
      · -- mixed
        have b1 := emod_bd c 2147483587 (by decide)
        refine q_asg (ev_op (ev_cb (ea_cons (ev_op (ev_op (ev_op (ev_op (ev_cb (ea_cons (ev_var rfl) ea_nil) rc_int) ev_c (rv_I (by decide))) (ev_op ev_c (ev_var rfl) (rv_I (.inl ⟨by decide, by decide⟩))) rv_I0) ev_c rv_I0) ev_c
          (rv_I ⟨by decide, by decide, by omega⟩)) ea_nil) rc_int) ev_c (rv_I (by decide))) fun H7 e7 => ?_
        generalize hx : (c % 2147483587 + 81867 * (n : Int) + 1209) ^ (5 : Int).toNat % 2147483629 = x
        have b2 : 0 ≤ x ∧ x < 2147483629 := by rw [← hx]; exact emod_bd _ _ (by decide)
        have b3 := mul_bd b2.1 (by omega : x ≤ 2147483629) (by omega : 0 ≤ 2 * (n : Int) + 315) (by omega : 2 * (n : Int) + 315 ≤ 100315)
        have b4 := mul_bd (by omega : 0 ≤ 76665 * (n : Int)) (by omega : 76665 * (n : Int) ≤ 3833250000) hn0.1 hn0.2
        refine q_asg (ev_op (ev_op (ev_op (ev_var rfl) (ev_op (ev_op ev_c (ev_var rfl) (rv_I (.inl ⟨by decide, by decide⟩))) ev_c rv_I0) (rv_I (.inl ⟨by omega, by omega⟩)))
            (ev_op (ev_op ev_c (ev_var rfl) (rv_I (.inl ⟨by decide, by decide⟩))) (ev_var rfl) (rv_I (.inl ⟨by omega, by omega⟩))) rv_I0) ev_c rv_I0) fun H8 e8 => ?_
        refine s_ret (ev_op (ev_cb (ea_cons (ev_op (ev_op (ev_cb (ea_cons (ev_op (ev_var rfl) ev_c (rv_I ⟨by decide, by decide, by omega⟩)) ea_nil) rc_int) ev_c (rv_I (by decide))) ev_c (rv_I ⟨by decide, by decide⟩)) ea_nil) rc_int) (ev_var rfl) (rv_I hm0)) fun H9 e9 => ?_
        have k9 := e9 _ _ (e8 _ _ (e7 _ _ (e6 _ _ k1)))
        have key : ∀ b o, H b = some o → b ≠ p → H9 b = some o := fun b o hb hbp => e9 _ _ (e8 _ _ (e7 _ _ (e6 _ _ (kp5 _ _ hb hbp))))
        exact k _ H9 (emod_bd _ _ hm0).1 (emod_bd _ _ hm0).2 ⟨n + 1, _, k9, key _ _ h2 hpl, by omega⟩ key
end
end K08
namespace K08
open PySem L2 Evl
section
variable {P : Program} {w : World} {K : PySem.W.Frag} {mg : Str → Option Value} {base : Heap}
/-! ### _law_pen -/
def spPen (K : PySem.W.Frag) : Sp := fun vs H Q _ => ∃ (a : Addr) (ns : List Int), vs = [.ref a] ∧ SqL K H a (ns.map V.int) ∧ ns.length ≤ 63 ∧
  ∀ p l H', H p = none → H l = none → Ex H H' → PenAt H' p l ns 0 → Q (.ref p) H'
theorem scPen : FnScope ["_law_script"] ["_law_script"] (defScope sPen) := ⟨rfl, rfl, rfl, by decide +kernel, rfl, by decide +kernel, by decide +kernel⟩
theorem cut63 (xs : List V) (h : xs.length ≤ 63) : cutV xs none (some 63) = xs := by
  have e1 : HT.sIx xs.length 0 none = 0 := rfl
  have e2 : HT.sIx xs.length xs.length (some 63) = min 63 xs.length := rfl
  unfold cutV
  rw [e1, e2, List.drop_zero, Nat.sub_zero, Nat.min_eq_right h, List.take_length]
theorem ok_pen {f : Addr} {fd : FuncData} (F : Fun K "_law_pen" "_law_pen" sPen f fd) (T : Glb mg) : FnOk P w K mg base CX0 1 f fd ["_law_script"] (spPen K) := by
  refine F.ok scPen (fun vs H Q E h => ?_) (fun cdv A outer s H vs Q E hr h => ?_)
  · obtain ⟨a, ns, rfl, _⟩ := h
    rfl
  · obtain ⟨a, ns, rfl, hS, hl, k⟩ := h
    refine ⟨_, pss_one (ps_ret (pe_lst (pa_cons (pe_callTy call_list_of (by rfl) T.list (by decide +kernel) (pa_cons (pe_slice sl_list (pv 0) po_none (po_some pe_int)) pa_nil)) (pa_cons pe_int (pa_cons pe_int pa_nil))))), ?_⟩
    have ev := el_sl (K := K) (σ := [some (V.ref a)]) (H := H) (tl := tNoPart) (th := tPart (tC (.int 63))) (ev_var (i := 0) rfl) eo_none (eo_some ev_c) hS
    rw [cut63 _ (by rw [List.length_map]; exact hl)] at ev
    refine ev H (Ex.refl H) _ fun q H1 hq e1 h1 => ?_
    refine ⟨q, _, rfl, .inl (sq_of h1), fun l hl1 => ?_⟩
    refine ⟨by show 3 ≤ sizeLine; decide, fun p hp => ?_⟩
    have hp1 : p ≠ l := fun z => by
      rw [z, upd_same] at hp
      cases hp
    have hpn : H1 p = none := by rw [upd_ne hp1] at hp; exact hp
    exact k p l _ (fresh_back e1 hpn) (fresh_back e1 hl1) ((e1.trans (Ex.new hl1)).trans (Ex.new hp)) ⟨0, 0, upd_same, by rw [upd_ne hp1.symm, upd_same], Nat.le_refl _⟩
/-! ### _law_pick -/
def spPick : Sp := fun vs H Q _ => ∃ (p l a : Addr) (cells : List Int) (m : Nat) (xs : List V), vs = [.ref p, .ref a] ∧ PenAt H p l cells m ∧ m ≤ 50000 ∧ cells.length ≤ 63 ∧ H a = some (.lst xs) ∧ a ≠ p ∧ 0 < xs.length ∧ xs.length ≤ 1000000 ∧
  ∀ (i : Nat) x H', xs[i]? = some x → PenAt H' p l cells (m + 1) → Keep p H H' → Q x H'
theorem scPick : FnScope ["_law_pen_here", "_law_some"] ["_law_pen_here", "_law_some"] (defScope sPick) := ⟨rfl, rfl, rfl, by decide +kernel, rfl, by decide +kernel, by decide +kernel⟩
theorem ok_pick {f fD : Addr} {fd fdD : FuncData} (F : Fun K "_law_pick" "_law_pick" sPick f fd) (T : Glb mg) (FD : Fun K "_law_draw" "_law_draw" sDraw fD fdD) (bD : Binds K fdD ["_law_pen_here", "_law_many"] []) (gD : mg "_law_draw" = some (.ref fD)) :
    FnOk P w K mg base CX0 2 f fd ["_law_pen_here", "_law_some"] spPick := by
  have GD : FnOk P w K mg base CX0 1 fD fdD ["_law_pen_here", "_law_many"] spDraw := ok_draw FD T
  refine F.ok scPick (fun vs H Q E h => ?_) (fun cdv A outer s H vs Q E hr h => ?_)
  · obtain ⟨p, l, a, cells, m, xs, rfl, _⟩ := h
    rfl
  · obtain ⟨p, l, a, cells, m, xs, rfl, hp, hm, h63, ha, hap, hx0, hx1, k⟩ := h
    refine ⟨_, pss_one (ps_ret (pe_ix ix_list (pv 1) (pe_call GD hr (by rfl) gD FD.kp bD .nil pass0 (pa_cons (pv 0) (pa_cons (pe_callB call_len_seq (by rfl) T.len PySem.boot_len (pa_cons (pv 1) pa_nil)) pa_nil))) (fun _ _ => rfl))), ?_⟩
    refine ⟨_, rfl, _, rfl, _, rfl, a, xs, rfl, .inl (sq_of ha), p, l, cells, m, (xs.length : Int), rfl, hp, hm, h63, by omega, by omega, fun d H' d0 d1 hp' kp => ?_⟩
    obtain ⟨i, rfl⟩ := Int.eq_ofNat_of_zero_le d0
    have hi : i < xs.length := by omega
    have ei : xs[i]? = some xs[i] := List.getElem?_eq_getElem hi
    exact ⟨a, xs, (i : Int), xs[i], rfl, rfl, sq_of (kp _ _ ha hap), atI_nat ei, k i _ H' ei hp' kp⟩
end
end K08
namespace L2
open PySem PySem.Spec PyProof.Rows
section
variable {X : Cx} {k : Nat} {f : Addr} {fd : FuncData} {ps ks : List Str} {sp : Sp} {x : Str} {p pos : Pos} {kws : List Keyword} {tk : TA} {g : List Value → List Value → List Value} {gV : List V → List V → List V}
/-- f(k = v, ..), keywords alone -/
theorem pe_callK0 (F : FnOk X.prog X.w X.K X.mg X.base CX0 k f fd ps sp) (hr : Room k X.A) (hg : Gl X x) (hm : X.mg x = some (.ref f)) (hk : PySem.W.keepIn X.K (.ref f) = true) (hb : KBn X.K fd ps 0 ks g gV) (hkw : PK X kws tk)
    (hall : (backToKw pos (keywordEach kws X.env)).all (·.1.isSome) = true := by rfl) (hks : (backToKw pos (keywordEach kws X.env)).filterMap (·.1) = ks := by rfl) (hdb : (x == ("__debug__" : Str)) = false := by decide)
    (hpl : ((backTo pos (starEach [] X.env)).any (·.1) || (backToKw pos (keywordEach kws X.env)).any (·.1.isNone)) = false := by rfl) :
    PE X (.Call (.Name x p) [] kws pos) (tCallN 0 ks.length sp gV E0 tNil tk) := by
  refine ⟨fun pins s σ H Q I h => ?_⟩
  refine wpAny_Call_Name_kw (ld_glob I hg hm ?_ hdb)
  refine PySem.W.callWith_KW0 (h₀ := X.base) I.ok.mod.kin hk hall ?_ hpl
  refine thn (hkw.run pos pins s σ H _ I h) fun ws s2 ⟨zs, H2, I2, rz, l1, l2, q2⟩ => ⟨I2.kIn, ?_⟩
  rw [hks]
  exact run_fnN (us := []) (vs := []) F hr hb pass0 I2 .nil rz rfl l2 q2
/-- how a def without defaults binds keywords alone -/
theorem Fun.kb {K : PySem.W.Frag} {x qual : Str} {st : Stmt} {f : Addr} {fd : FuncData} {ps ks : List Str} (F : Fun K x qual st f fd) (n : Nat) (g : {α : Type} → List α → List α → List α)
    (hrel : ∀ {vs zs : List V} {us ws : List Value}, Vals vs us → Vals zs ws → Vals (g vs zs) (g us ws))
    (h : ∀ (kV doc pm : Value) (an : Option Addr) (cdv ct : Value) (us ws : List Value), us.length = n → ws.length = ks.length → bindArgs (PySem.W.fnOf x qual (defArgs st) (defBody st) (defScope st) .none kV doc pm an cdv ct) ⟨us, ks.zip ws⟩ = pure (ps.zip (g us ws))) :
    KBn K fd ps n ks (fun us ws => g us ws) (fun vs zs => g vs zs) := by
  obtain ⟨oc, od, kV, doc, pm, an, cdv, ct, osl, rfl, lk, hcd⟩ := F.ex
  exact ⟨fun s us ws _ l1 l2 => .of_eq (h kV doc pm an cdv ct us ws l1 l2), fun r1 r2 => hrel r1 r2⟩
end
end L2
namespace K08
open PySem L2 Evl
structure GlbT (mg : Str → Option Value) : Prop where
  inst : mg "isinstance" = none
  int : mg "int" = none
  bool : mg "bool" = none
  str : mg "str" = none
  len : mg "len" = none
theorem tyx_mono {K : PySem.W.Frag} {H H' : Hp} {x : V} {t : Value} (e : Ex H H') (h : TyX K H x t) : TyX K H' x t := by
  cases h with
  | base b =>
    refine .base ?_
    cases b with
    | non => exact .non
    | bl b => exact .bl b
    | int i => exact .int i
    | str x => exact .str x
    | flt x => exact .flt x
    | lst q => exact .lst (e _ _ q)
    | frz q => exact .frz (e _ _ q)
    | tup q => exact .tup (e _ _ q)
    | dK q => exact .dK (e _ _ q)
    | dT q => exact .dT (e _ _ q)
    | ins q a b c d f => exact .ins (e _ _ q) a b c d f
  | byt b => exact .byt b
  | set q => exact .set (e _ _ q)
  | kList q c => exact .kList q c
  | kTuple q c => exact .kTuple q c
  | kDict q c => exact .kDict q c
  | fTuple q => exact .fTuple (e _ _ q)
  | fDict q => exact .fDict (e _ _ q)
theorem rc_isi {K : PySem.W.Frag} {H : Hp} {x : V} {a b : String} {r : Bool} (h : TyX K H x (.type a)) (hk : kitB a b = some r) : RC (rIsi K) [x, .ty b] H (.bl r) := fun H1 e _ q => ⟨x, .ty b, .type a, .type b, r, rfl, .ty b, tyx_mono e h, kit_ty hk, q H1 (Ex.refl H1)⟩
section
variable {P : Program} {w : World} {K : PySem.W.Frag} {mg : Str → Option Value} {base : Heap}
theorem kit_int_int : kitB "int" "int" = some true := by decide +kernel
theorem kit_int_bool : kitB "int" "bool" = some false := by decide +kernel
theorem ev_chain {σ : L2.St} {H : Hp} {ta tb tc : TE} {i j l : Int} {f g : Int → Int → Bool} (ha : Ev ta σ H (.int i)) (hb : Ev tb σ H (.int j)) (hc : Ev tc σ H (.int l)) :
    Ev (tChain (rI0 fun i j => .bl (f i j)) (rI0 fun i j => .bl (g i j)) ta tb tc) σ H (.bl (f i j && g j l)) := fun H1 e Q q =>
  ha H1 e _ fun H2 e2 => hb H2 (e.trans e2) _ fun H3 e3 => ⟨i, j, rfl, rfl, f i j, rfl, by
    cases h : f i j with
    | true =>
      simp only [h, Bool.true_and] at q
      exact hc H3 ((e.trans e2).trans e3) _ fun H4 e4 => ⟨j, l, rfl, rfl, q H4 ((e2.trans e3).trans e4)⟩
    | false =>
      simp only [h, Bool.false_and] at q
      exact q H3 (e2.trans e3)⟩
end
end K08
namespace L2
open PySem PySem.Spec PyProof.Rows
section
variable {X : Cx}
def tNo : TS := fun _ _ _ => False
theorem ps_no {st : Stmt} : PS X st tNo := ⟨fun _ _ _ _ _ _ h => h.elim⟩
end
theorem PI.or {X : Cx} {tg e : Expr} {w1 w2 : TI} (h1 : PI X tg e w1) (h2 : PI X tg e w2) : PI X tg e (fun σ H R => w1 σ H R ∨ w2 σ H R) := ⟨fun pins s σ H R I h => h.elim (h1.run pins s σ H R I) (h2.run pins s σ H R I)⟩
end L2
namespace K08
open PySem L2 Evl Gr
def Sq (K : PySem.W.Frag) (H : Hp) (a : Addr) (xs : List V) : Prop := SqL K H a xs ∨ SqT K H a xs
theorem Sq.mono {K : PySem.W.Frag} {H H' : Hp} {a : Addr} {xs : List V} (e : Ex H H') (h : Sq K H a xs) : Sq K H' a xs := h.elim (fun h => .inl (ex_l e h)) fun h => .inr (ex_t e h)
def vI (g : List Int) : List V := g.map V.int
theorem vI_len {g : List Int} : (vI g).length = g.length := List.length_map _
theorem vI_get {g : List Int} {i : Nat} (h : i < g.length) : (vI g)[i]? = some (V.int (at' g i)) := by
  unfold vI at'
  rw [List.getElem?_map, List.getD_eq_getElem?_getD, List.getElem?_eq_getElem h]
  rfl
theorem rv_ix {K : PySem.W.Frag} {H : Hp} {p : Addr} {xs : List V} {i : Int} {v : V} (h : Sq K H p xs) (ha : atI xs i = some v) : RV (rIx K) (.ref p) (.int i) H v := fun H1 e Q q => by
  rcases h with h | h
  · exact .inl ⟨p, xs, i, v, rfl, rfl, ex_l e h, ha, q H1 (Ex.refl H1)⟩
  · exact .inr (.inl ⟨p, xs, i, v, rfl, rfl, ex_t e h, ha, q H1 (Ex.refl H1)⟩)
theorem rc_lenQ {K : PySem.W.Frag} {p : Addr} {xs : List V} {H : Hp} (h : Sq K H p xs) : RC (fun xs H Q => ∃ p ys, xs = [V.ref p] ∧ (SqL K H p ys ∨ SqT K H p ys) ∧ Q (.int ys.length) H) [.ref p] H (.int (xs.length : Int)) := fun H1 e _ q => ⟨p, xs, rfl, h.mono e, q H1 (Ex.refl H1)⟩
theorem st_asI {K : PySem.W.Frag} {H : Hp} {a : Addr} {g : List Int} (h : H a = some (.lst (vI g))) : Sq K H a (vI g) := .inl (sq_of h)
theorem atI_vI {g : List Int} {i : Nat} (h : i < g.length) : atI (vI g) (i : Int) = some (V.int (at' g i)) := atI_nat (vI_get h)
theorem atI_vlast {g : List Int} (h : 0 < g.length) : atI (vI g) (-1) = some (V.int (at' g (g.length - 1))) := by
  have e : ixN (vI g).length (-1) = some (g.length - 1) := by
    unfold ixN
    rw [vI_len, if_neg (by decide), if_pos (by omega)]
    congr 1
    omega
  unfold atI
  rw [e]
  exact vI_get (by omega)
theorem vI_app {g : List Int} {x : Int} : vI g ++ [V.int x] = vI (g ++ [x]) := by unfold vI; rw [List.map_append]; rfl
theorem vint_inj {x y : Int} : decide (V.int x = V.int y) = decide (x = y) := by
  by_cases h : x = y
  · rw [decide_eq_true h, decide_eq_true (congrArg V.int h)]
  · rw [decide_eq_false h, decide_eq_false fun z => h (V.int.inj z)]
structure GlbS (mg : Str → Option Value) : Prop where
  len : mg "len" = none
  range : mg "range" = none
  tuple : mg "tuple" = none
  list : mg "list" = none
def EvTu (K : PySem.W.Frag) (te : TE) (σ : L2.St) (H : Hp) (xs : List V) : Prop := ∀ H1, Ex H H1 → ∀ Q : VK, (∀ p H2, Ex H1 H2 → SqT K H2 p xs → Q (.ref p) H2) → te σ H1 Q
def rSlQ (K : PySem.W.Frag) : V → Option Int → Option Int → Hp → VK → Prop := fun x lo hi H Q => rSlL K x lo hi H Q ∨ rSlA K x lo hi H Q
theorem sl_seq {X : Cx} : SlR X (rSlQ X.K) := sl_list.or sl_tupA
section
variable {K : PySem.W.Frag} {σ : L2.St} {H : Hp} {te ta tb : TE} {tl th : TO} {a : Addr} {xs ys : List V} {lo hi : Option Int}
theorem cutV_all {n : Nat} (h1 : HT.sIx xs.length 0 lo = 0) (h2 : HT.sIx xs.length xs.length hi = xs.length) : cutV xs lo hi = xs := by
  unfold cutV
  rw [h1, h2, List.drop_zero, Nat.sub_zero, List.take_length]
theorem etu_cut (h : Ev te σ H (.ref a)) (h1 : EvO tl σ H lo) (h2 : EvO th σ H hi) (hs : SqT K H a xs) : EvTu K (tSl (rSlA K) te tl th) σ H (cutV xs lo hi) := fun H1 e Q q =>
  h H1 e _ fun H2 e2 => h1 H2 (e.trans e2) _ fun H3 e3 => h2 H3 ((e.trans e2).trans e3) _ fun H4 e4 =>
    ⟨a, xs, rfl, ex_t (((e.trans e2).trans e3).trans e4) hs, fun z => q a H4 ((e2.trans e3).trans e4) (by rw [cutV_all (n := 0) z.1 z.2]; exact ex_t (((e.trans e2).trans e3).trans e4) hs),
      fun _ p hp => q p _ (((e2.trans e3).trans e4).trans (Ex.new hp)) (st_of upd_same)⟩
theorem etu_cat (h1 : EvTu K ta σ H xs) (h2 : EvTu K tb σ H ys) (hz : xs.length + ys.length ≤ 100000) : EvTu K (tOp (rCatA K) ta tb) σ H (xs ++ ys) := fun H1 e Q q =>
  h1 H1 e _ fun p H2 e2 hp => h2 H2 (e.trans e2) _ fun r H3 e3 hr =>
    ⟨p, r, xs, ys, rfl, rfl, ex_t e3 hp, hr, sz_of hz, fun z => q r H3 (e2.trans e3) (by rw [z]; exact hr), fun _ z => q p H3 (e2.trans e3) (by rw [z, List.append_nil]; exact ex_t e3 hp),
      fun _ _ b hb => q b _ ((e2.trans e3).trans (Ex.new hb)) (st_of upd_same)⟩
theorem etu_of (h : Ev te σ H (.ref a)) (h1 : EvO tl σ H lo) (h2 : EvO th σ H hi) (hs : Sq K H a xs) : EvTu K (tThen (tSl (rSlQ K) te tl th) (kTup K)) σ H (cutV xs lo hi) := fun H1 e Q q =>
  h H1 e _ fun H2 e2 => h1 H2 (e.trans e2) _ fun H3 e3 => h2 H3 ((e.trans e2).trans e3) _ fun H4 e4 => by
    have E := ((e.trans e2).trans e3).trans e4
    have E1 := (e2.trans e3).trans e4
    rcases hs.mono E with z | z
    · exact .inl ⟨a, xs, rfl, z, fun p hp => .inl ⟨p, _, rfl, sq_of upd_same, fun r hr => q r _ ((E1.trans (Ex.new hp)).trans (Ex.new hr)) (st_of upd_same)⟩⟩
    · exact .inr ⟨a, xs, rfl, z, fun c => .inr ⟨a, _, rfl, z, q a H4 E1 (by rw [cutV_all (n := 0) c.1 c.2]; exact z)⟩, fun _ p hp => .inr ⟨p, _, rfl, st_of upd_same, q p _ (E1.trans (Ex.new hp)) (st_of upd_same)⟩⟩
theorem q_asgT {i : Nat} {tz : TS} {D : Ends} (h : EvTu K te σ H xs) (k : ∀ p H1, Ex H H1 → SqT K H1 p xs → tz D (σ.set i (some (.ref p))) H1) : tSeq (tAsg te (gName i)) tz D σ H := h H (Ex.refl H) _ fun p H1 e s => k p H1 e s
end
theorem cut_take {g : List Int} {n : Nat} (h : n ≤ g.length) : cutV (vI g) none (some (n : Int)) = vI (g.take n) := by
  unfold cutV vI
  rw [show HT.sIx (g.map V.int).length 0 none = 0 from rfl, HT.sIx_nat, List.drop_zero, Nat.sub_zero, List.length_map, Nat.min_eq_left h, List.map_take]
theorem cut_drop {g : List Int} {n : Nat} (h : n ≤ g.length) : cutV (vI g) (some (n : Int)) none = vI (g.drop n) := by
  unfold cutV vI
  rw [HT.sIx_none, HT.sIx_nat, List.length_map, Nat.min_eq_left h, List.take_of_length_le (by rw [List.length_drop, List.length_map]; exact Nat.le_refl _), List.map_drop]
theorem ev_fld {K : PySem.W.Frag} {σ : L2.St} {H : Hp} {ta : TE} {o C dx : Addr} {fs : List (Str × V)} {v : V} {f : Str} (ha : Ev ta σ H (.ref o)) (ho : H o = some (.ins C dx fs)) (c : Cls K C) (n : NoAttr K C f) (hf : fs.lookup f = some v) :
    Ev (tFld K ta f) σ H v := fun H1 e Q q => ha H1 e _ fun H2 e2 => ⟨o, C, dx, fs, v, rfl, e2 _ _ (e _ _ ho), c, n, hf, q H2 e2⟩
section
variable {K : PySem.W.Frag} {σ : L2.St} {H H' : Hp} {te ta tb tl : TE} {t : TT} {xs : List V} {p l : Addr} {cells : List Int} {m : Nat} {i : Nat} {D : Ends}
theorem el_ofT (h : EvTu K te σ H xs) : EvL (tCB (rListS K) (tCons te tNil)) σ H xs := fun H1 e Q q =>
  h H1 e _ fun p H2 e2 hp => ⟨p, xs, rfl, .inr hp, fun l hl => q l _ (fresh_back e2 hl) (e2.trans (Ex.new hl)) upd_same⟩
theorem el_lcR2 {ta : TA} {j : Nat} {vs : List Nat} {lo n : Int} (f : Nat → Bool) (v : Nat → V) (h : EvA ta σ H [.int lo, .int n]) (hn : 0 ≤ lo ∧ lo ≤ n ∧ n ≤ 40000) (hw : ∀ x, wipe ((wipe σ vs).set j (some x)) vs = wipe σ vs)
    (ht : ∀ (i : Nat) H1, Ex H H1 → lo + (i : Int) < n → EvT t ((wipe σ vs).set j (some (.int (lo + (i : Int))))) H1 (f i)) (he : ∀ (i : Nat) H1, Ex H H1 → lo + (i : Int) < n → f i = true → Ev te ((wipe σ vs).set j (some (.int (lo + (i : Int))))) H1 (v i)) :
    EvL (tLc (iRng2 ta) (gName j) t te vs) σ H (given (n - lo).toNat f v) := fun H0 e Q q => h H0 e _ fun H1 e1 => ⟨lo, n, rfl, ⟨by omega, by omega, by omega, by omega⟩, fun Dl hD =>
  lc_range (lo := lo) (n := (n - lo).toNat) (Cw H1 f v Dl) ⟨hD, Ex.new hD, upd_same⟩ (fun i H' hi p =>
    ⟨hw _, cw_turn p (by omega) (ht i H1 (e.trans e1) (by omega)) (fun hf => he i H1 (e.trans e1) (by omega) hf)⟩) (fun H' p => q Dl H' (fresh_back e1 p.1) (e1.trans p.2.1) p.2.2)⟩
theorem given_all {n : Nat} {v : Nat → V} : given n (fun _ => true) v = (List.range n).map v := by
  unfold given
  rw [List.filter_eq_self.mpr fun _ _ => rfl]
theorem et_none : EvT (fun σ H Q => Q true H) σ H true := fun H1 _ _ q => q H1 (Ex.refl H1)
def iQ (K : PySem.W.Frag) (tl : TE) : TI := fun σ H R => iList K tl σ H R ∨ iTup K tl σ H R
theorem pi_seq {X : Cx} {tg e : Expr} {tl : TE} (h : PE X e tl) : PI X tg e (iQ X.K tl) := (pi_list h).or (pi_tup h)
theorem el_lcQ {a : Addr} {xs : List V} {tl : TE} {j : Nat} {vs : List Nat} (v : Nat → V) (h : Ev tl σ H (.ref a)) (hx : Sq K H a xs) (hz : xs.length ≤ 40000) (hw : ∀ x, wipe ((wipe σ vs).set j (some x)) vs = wipe σ vs)
    (he : ∀ (i : Nat) (x : V) H1, Ex H H1 → xs[i]? = some x → Ev te ((wipe σ vs).set j (some x)) H1 (v i)) : EvL (tLc (iQ K tl) (gName j) tYes te vs) σ H ((List.range xs.length).map v) := fun H0 e Q q => by
  rcases hx with hx | hx
  · exact .inl (h H0 e _ fun H1 e1 => ⟨a, rfl, ⟨xs, ex_l (e.trans e1) hx⟩, fun Dl hD => lc_it (n := xs.length) (walk_list (xs := xs)) (Cw H1 (fun _ => true) v Dl) ⟨hD, Ex.new hD, upd_same⟩ (fun _ H' _ p => ex_l ((e.trans e1).trans p.2.1) hx)
      (fun k x H' H'' hk p y => by
        obtain ⟨rfl, hx'⟩ := y
        exact ⟨hw _, cw_turn p (by omega) et_none (fun _ => he k x H1 (e.trans e1) hx')⟩)
      (fun H' p => q Dl H' (fresh_back e1 p.1) (e1.trans p.2.1) (by rw [← given_all]; exact p.2.2))⟩)
  · exact .inr (h H0 e _ fun H1 e1 => ⟨a, rfl, ⟨xs, ex_t (e.trans e1) hx⟩, fun Dl hD => lc_it (n := xs.length) (walk_tup (xs := xs)) (Cw H1 (fun _ => true) v Dl) ⟨hD, Ex.new hD, upd_same⟩ (fun _ H' _ p => ex_t ((e.trans e1).trans p.2.1) hx)
      (fun k x H' H'' hk p y => by
        obtain ⟨rfl, hx'⟩ := y
        exact ⟨hw _, cw_turn p (by omega) et_none (fun _ => he k x H1 (e.trans e1) hx')⟩)
      (fun H' p => q Dl H' (fresh_back e1 p.1) (e1.trans p.2.1) (by rw [← given_all]; exact p.2.2))⟩)
theorem sq_ty {a : Addr} {xs : List V} (h : Sq K H a xs) : ∃ T : String, TyX K H (.ref a) (.type T) ∧ (T = "list" ∨ T = "tuple") := by
  rcases h with (h | h) | (h | h)
  · rcases h with h | ⟨o, h⟩
    · exact ⟨"list", .base (.lst h), .inl rfl⟩
    · exact ⟨"list", .base (.frz h), .inl rfl⟩
  · obtain ⟨o, its, n, lk, hc, _⟩ := h
    exact ⟨"list", .kList lk hc, .inl rfl⟩
  · rcases h with h | ⟨o, h⟩
    · exact ⟨"tuple", .base (.tup h), .inr rfl⟩
    · exact ⟨"tuple", .fTuple h, .inr rfl⟩
  · obtain ⟨o, its, n, lk, hc, _⟩ := h
    exact ⟨"tuple", .kTuple lk hc, .inr rfl⟩
theorem sqT_upd {K : PySem.W.Frag} {H : Hp} {o p C dx : Addr} {fs : List (Str × V)} {u : HO} {xs : List V} (h : SqT K H p xs) (ho : H o = some (.ins C dx fs)) : SqT K (upd H o u) p xs := by
  rcases h with (h | ⟨o', h⟩) | h
  · exact .inl (.inl (by rw [upd_ne (fun z => by rw [z, ho] at h; cases h)]; exact h))
  · exact .inl (.inr ⟨o', by rw [upd_ne (fun z => by rw [z, ho] at h; cases h)]; exact h⟩)
  · exact .inr h
theorem eqv_ints : ∀ xs ys : List Int, PyData.eqvAll (xs.map PyData.int) (ys.map PyData.int) = decide (xs = ys)
  | [], [] => by simp [PyData.eqvAll]
  | [], y :: ys => by simp [PyData.eqvAll]
  | x :: xs, [] => by simp [PyData.eqvAll]
  | x :: xs, y :: ys => by
    have ih := eqv_ints xs ys
    simp only [List.map_cons, PyData.eqvAll, PyData.eqv, ih]
    by_cases h : x = y <;> by_cases h2 : xs = ys <;> simp [h, h2]
theorem shaped_tup (ns : List Int) : SeqAt.shaped (.tuple (ns.map PyData.int)) = true := by
  unfold SeqAt.shaped
  simp [PyData.canLay0, canLay_ints, PyData.depth, depth_ints]
theorem ev_eqT {p q : Addr} {xs ys : List Int} (ha : Ev ta σ H (.ref p)) (hb : Ev tb σ H (.ref q)) (hp : SqT K H p (vI xs)) (hq : SqT K H q (vI ys)) : Ev (tOp (rEqD K) ta tb) σ H (.bl (decide (xs = ys))) :=
  ev_op ha hb fun H1 e Q q' => ⟨.tuple (xs.map PyData.int), .tuple (ys.map PyData.int), .tup (ex_t e hp) (dpAll_ints xs), .tup (ex_t e hq) (dpAll_ints ys), shaped_tup xs, shaped_tup ys, by
    have e2 : PyData.eqv (.tuple (xs.map PyData.int)) (.tuple (ys.map PyData.int)) = decide (xs = ys) := by
      rw [← eqv_ints]
      simp [PyData.eqv]
    rw [e2]
    exact q' H1 (Ex.refl H1)⟩
def EvW (p l : Addr) (cells : List Int) (n : Nat) (te : TE) (σ : L2.St) (H : Hp) (R : V → Prop) : Prop := ∀ m H1, Keep p H H1 → PenAt H1 p l cells m → m + n ≤ 50000 → ∀ Q : VK, (∀ v H2, R v → PenAt H2 p l cells (m + n) → Keep p H1 H2 → Q v H2) → te σ H1 Q
theorem w_draw {i : Nat} {tb : TE} {many : Int} (hi : σ[i]? = some (some (.ref p))) (hb : ∀ H1, Keep p H H1 → Ev tb σ H1 (.int many)) (h0 : 0 < many) (h1 : many ≤ 1000000000) (h63 : cells.length ≤ 63) :
    EvW p l cells 1 (tCall spDraw [] E0 (tCons (tVar i) (tCons tb tNil))) σ H (fun v => ∃ d : Nat, v = .int (d : Int) ∧ (d : Int) < many) := fun m H1 kp hP hm Q q =>
  ⟨_, hi, hb H1 kp H1 (Ex.refl H1) _ fun H2 e2 => ⟨p, l, cells, m, many, rfl, hP.mono e2 (Nat.le_refl m), by omega, h63, h0, h1, fun d H3 d0 d1 hP3 k3 => by
    obtain ⟨n, rfl⟩ := Int.eq_ofNat_of_zero_le d0
    exact q _ H3 ⟨n, rfl, d1⟩ hP3 ((Keep.of_ex e2).trans k3)⟩⟩
theorem PenAt.upd' {H : Hp} {p l a : Addr} {cells : List Int} {m : Nat} {o : HO} (h : PenAt H p l cells m) (h1 : a ≠ p) (h2 : a ≠ l) : PenAt (upd H a o) p l cells m := by
  obtain ⟨k, r, q1, q2, q3⟩ := h
  exact ⟨k, r, by rw [upd_ne h1.symm]; exact q1, by rw [upd_ne h2.symm]; exact q2, q3⟩
theorem PenAt.le {H : Hp} {p l : Addr} {cells : List Int} {m n : Nat} (h : PenAt H p l cells m) (hm : m ≤ n) : PenAt H p l cells n := h.mono (Ex.refl H) hm
theorem Keep.mut {p a : Addr} {H H' : Hp} {o : HO} (h : Keep p H H') (ha : H a = none) : Keep p H (L2.upd H' a o) := fun b u hb hn => by
  have : b ≠ a := fun z => by rw [z, ha] at hb; cases hb
  rw [upd_ne this]
  exact h b u hb hn
theorem q_asgR {σ : L2.St} {H : Hp} {te : TE} {i : Nat} {tz : TS} {D : Ends} (h : te σ H fun x H1 => tz D (σ.set i (some x)) H1) : tSeq (tAsg te (gName i)) tz D σ H := h
theorem q_call {σ : L2.St} {H : Hp} {sp : Sp} {dvs vs : List V} {E : XK} {ta : TA} {i : Nat} {tz : TS} {D : Ends} (h : EvA ta σ H vs) (k : ∀ H1, Ex H H1 → sp (vs ++ dvs) H1 (fun v H2 => tz D (σ.set i (some v)) H2) E) :
    tSeq (tAsg (tCall sp dvs E ta) (gName i)) tz D σ H := h H (Ex.refl H) _ k
theorem lst_i {t : TA} {Q : VK} {σ : L2.St} {H : Hp} (h : t σ H fun xs H1 => xs.length ≤ sizeLine ∧ ∀ l, H1 l = none → Q (.ref l) (upd H1 l (.lst xs))) : tLst t σ H Q := h
theorem cons_i {te : TE} {tr : TA} {σ : L2.St} {H : Hp} {Q : List V → Hp → Prop} (h : te σ H fun x H1 => tr σ H1 fun xs H2 => Q (x :: xs) H2) : tCons te tr σ H Q := h
theorem op_i {r : R2} {ta tb : TE} {σ : L2.St} {H : Hp} {Q : VK} (h : ta σ H fun x H1 => tb σ H1 fun y H2 => r x y H2 Q) : tOp r ta tb σ H Q := h
theorem fnR0 {P : Program} {w : World} {K : PySem.W.Frag} {mg : Str → Option Value} {base : Heap} {CX : CXT} {k : Nat} {f : Addr} {fd : FuncData} {ps : List Str} {sp : Sp} (F : FnOk P w K mg base CX k f fd ps sp) (b : Binds K fd ps []) : FnR P w K mg base CX k f sp :=
  (F.raw b .nil).imp fun vs H Q E h => by rw [List.append_nil]; exact h
theorem c_i {x : V} {Q : VK} (h : Q x H) : tC x σ H Q := h
theorem q_par {ta : TA} {i j : Nat} {tz : TS} {D : Ends} (h : ta σ H fun vs H1 => ∃ u v, vs = [u, v] ∧ tz D ((σ.set i (some u)).set j (some v)) H1) : tSeq (tPar i j ta) tz D σ H := h
theorem etu_tuple {K : PySem.W.Frag} {te : TE} {xs : List V} (h : EvL te σ H xs) : EvTu K (tThen te (kTup K)) σ H xs := fun H1 e Q q =>
  h H1 e _ fun p H2 _ e2 h2 => .inl ⟨p, xs, rfl, sq_of h2, fun r hr => q r _ (e2.trans (Ex.new hr)) (st_of upd_same)⟩
def Gfn (P : Program) (w : World) (K : PySem.W.Frag) (mg : Str → Option Value) (base : Heap) (k : Nat) (name : Str) (ps : List Str) (sp : Sp) : Prop :=
  ∃ f fd, FnOk P w K mg base CX0 k f fd ps sp ∧ PySem.W.keepIn K (.ref f) = true ∧ Binds K fd ps [] ∧ mg name = some (.ref f)
theorem sqt_keep {q : Addr} {xs : List V} (hP : PenAt H p l cells m) (kp : Keep p H H') (h : SqT K H q xs) : SqT K H' q xs := by
  obtain ⟨_, _, hp, _⟩ := hP
  rcases h with (h | ⟨o, h⟩) | h
  · exact .inl (.inl (kp _ _ h fun z => by rw [z, hp] at h; cases h))
  · exact .inl (.inr ⟨o, kp _ _ h fun z => by rw [z, hp] at h; cases h⟩)
  · exact .inr h
theorem sql_keep {q : Addr} {xs : List Int} (hP : PenAt H p l cells m) (kp : Keep p H H') (h : SqL K H q (vI xs)) : SqL K H' q (vI xs) := by
  obtain ⟨_, _, hp, _⟩ := hP
  have no : ∀ {k r : Int}, ¬ [V.ref l, V.int k, V.int r] = vI xs := fun e => by
    cases xs with
    | nil => cases e
    | cons x xs => cases e
  rcases h with (h | ⟨o, h⟩) | h
  · exact .inl (.inl (kp _ _ h fun z => by rw [z, hp] at h; exact no (HO.lst.inj (Option.some.inj h))))
  · exact .inl (.inr ⟨o, kp _ _ h fun z => by rw [z, hp] at h; cases h⟩)
  · exact .inr h
theorem yes_i {σ : L2.St} {H : Hp} {A B : Hp → Prop} (h : A H) : tYes σ H (fun b H3 => if b = true then A H3 else B H3) := iteT (A := A H) (B := B H) h
theorem given_none {n : Nat} {v : Nat → V} : given n (fun _ => false) v = vI [] := by
  unfold given
  have f : ∀ l : List Nat, l.filter (fun _ => false) = [] := fun l => by induction l with | nil => rfl | cons a l ih => exact ih
  rw [f]
  rfl
theorem el_noneN {t : TT} {j : Nat} {xs : List V} (hl : EvL tl σ H xs) (h4 : xs.length ≤ 40000) (hw : ∀ x, wipe ((wipe σ [j]).set j (some x)) [j] = wipe σ [j])
    (ht : ∀ (i : Nat) (x : V) H1, Ex H H1 → xs[i]? = some x → EvT t ((wipe σ [j]).set j (some x)) H1 false) : EvL (tLc (iList K tl) (gName j) t (tVar j) [j]) σ H (vI []) := by
  have c := el_lcNL (K := K) (σ := σ) (H := H) (t := t) (te := tVar j) (j := j) (vs := [j]) (fun _ => false) (fun _ => V.non) hl h4 hw ht (fun i x H1 e hi hf => by cases hf)
  rw [given_none] at c
  exact c
theorem el_nil : EvL (tLst tNil) σ H (vI []) := el_lst ea_nil (by decide)
theorem eqv_lists (xs ys : List Int) : PyData.eqv (.list (xs.map PyData.int)) (.list (ys.map PyData.int)) = decide (xs = ys) := by
  have := eqv_ints xs ys
  simpa [PyData.eqv] using this
theorem ev_eqL {xs ys : List Int} (ha : EvL ta σ H (vI xs)) (hb : EvL tb σ H (vI ys)) : Ev (tOp (rEqD K) ta tb) σ H (.bl (decide (xs = ys))) := fun H1 e Q q =>
  ha H1 e _ fun p H2 _ e2 hp => hb H2 (e.trans e2) _ fun r H3 _ e3 hr => ⟨.list (xs.map PyData.int), .list (ys.map PyData.int), .lst (sq_of (e3 _ _ hp)) (dpAll_ints xs), .lst (sq_of hr) (dpAll_ints ys), shaped_ints xs, shaped_ints ys, by rw [eqv_lists]; exact q H3 (e2.trans e3)⟩
theorem eqv_tups (xs ys : List Int) : PyData.eqv (.tuple (xs.map PyData.int)) (.tuple (ys.map PyData.int)) = decide (xs = ys) := by
  have := eqv_ints xs ys
  simpa [PyData.eqv] using this
theorem ev_neTu {xs ys : List Int} (ha : EvTu K ta σ H (vI xs)) (hb : EvTu K tb σ H (vI ys)) : Ev (tOp (rNeD K) ta tb) σ H (.bl (!decide (xs = ys))) := fun H1 e Q q =>
  ha H1 e _ fun p H2 e2 hp => hb H2 (e.trans e2) _ fun r H3 e3 hr => ⟨.tuple (xs.map PyData.int), .tuple (ys.map PyData.int), .tup (ex_t e3 hp) (dpAll_ints xs), .tup hr (dpAll_ints ys), shaped_tup xs, shaped_tup ys, by rw [eqv_tups]; exact q H3 (e2.trans e3)⟩
theorem ev_eqTuG {xs ys : List Int} (ha : EvTu K ta σ H (vI xs)) (hb : EvTu K tb σ H (vI ys)) : Ev (tOp (rEqD K) ta tb) σ H (.bl (decide (xs = ys))) := fun H1 e Q q =>
  ha H1 e _ fun p H2 e2 hp => hb H2 (e.trans e2) _ fun r H3 e3 hr => ⟨.tuple (xs.map PyData.int), .tuple (ys.map PyData.int), .tup (ex_t e3 hp) (dpAll_ints xs), .tup hr (dpAll_ints ys), shaped_tup xs, shaped_tup ys, by rw [eqv_tups]; exact q H3 (e2.trans e3)⟩
theorem ev_lenL {p : Addr} {g : List Int} (h : Ev ta σ H (.ref p)) (hs : SqL K H p (vI g)) : Ev (tCB (fun xs H Q => ∃ p ys, xs = [V.ref p] ∧ (SqL K H p ys ∨ SqT K H p ys) ∧ Q (.int ys.length) H) (tCons ta tNil)) σ H (.int (g.length : Int)) := ev_is (ev_cb (ea_cons h ea_nil) (rc_lenQ (.inl hs))) (by rw [vI_len])
theorem el_listL {p : Addr} {xs : List V} (h : Ev te σ H (.ref p)) (hs : SqL K H p xs) : EvL (tCB (rListS K) (tCons te tNil)) σ H xs := fun H1 e Q q =>
  h H1 e _ fun H2 e2 => ⟨p, xs, rfl, .inl (ex_l (e.trans e2) hs), fun l hl => q l _ (fresh_back e2 hl) (e2.trans (Ex.new hl)) upd_same⟩
theorem etu_tupleP {p : Addr} {xs : List V} (h : Ev te σ H (.ref p)) (hs : SqL K H p xs) : EvTu K (tThen te (kTup K)) σ H xs := fun H1 e Q q =>
  h H1 e _ fun H2 e2 => .inl ⟨p, xs, rfl, ex_l (e.trans e2) hs, fun r hr => q r _ (e2.trans (Ex.new hr)) (st_of upd_same)⟩
theorem el_catN {xs ys : List Int} (ha : EvL ta σ H (vI xs)) (hb : EvL tb σ H (vI ys)) (hz : xs.length + ys.length ≤ 100000) : EvL (tOp rCat ta tb) σ H (vI (xs ++ ys)) := fun H1 e Q k =>
  ha H1 e _ fun p H2 _ e2 hp => hb H2 (e.trans e2) _ fun r H3 _ e3 hr => ⟨p, r, vI xs, vI ys, rfl, rfl, e3 _ _ hp, hr, by rw [vI_len, vI_len]; exact sz_of hz, fun a ha => k a _ (fresh_back (e2.trans e3) ha) ((e2.trans e3).trans (Ex.new ha)) (by rw [upd_same]; unfold vI; rw [List.map_append])⟩
theorem ev_eqLP {p : Addr} {xs ys : List Int} (ha : EvL ta σ H (vI xs)) (hb : Ev tb σ H (.ref p)) (hp : SqL K H p (vI ys)) : Ev (tOp (rEqD K) ta tb) σ H (.bl (decide (xs = ys))) := fun H1 e Q q =>
  ha H1 e _ fun r H2 _ e2 hr => hb H2 (e.trans e2) _ fun H3 e3 => ⟨.list (xs.map PyData.int), .list (ys.map PyData.int), .lst (sq_of (e3 _ _ hr)) (dpAll_ints xs), .lst (ex_l (e.trans (e2.trans e3)) hp) (dpAll_ints ys), shaped_ints xs, shaped_ints ys, by rw [eqv_lists]; exact q H3 (e2.trans e3)⟩
theorem lst_keep {p l q : Addr} {cells : List Int} {m : Nat} {H' : Hp} {xs : List Int} (hP : PenAt H p l cells m) (kp : Keep p H H') (h : H q = some (.lst (vI xs))) : H' q = some (.lst (vI xs)) := by
  obtain ⟨_, _, hp, _⟩ := hP
  have no : ∀ {k r : Int}, ¬ [V.ref l, V.int k, V.int r] = vI xs := fun {k r} e => by
    cases xs with
    | nil => cases e
    | cons x xs => cases e
  exact kp _ _ h fun z => by rw [z, hp] at h; exact no (HO.lst.inj (Option.some.inj h))
theorem tup_keep {p l q : Addr} {cells : List Int} {m : Nat} {H' : Hp} {xs : List V} (hP : PenAt H p l cells m) (kp : Keep p H H') (h : H q = some (.tup xs)) : H' q = some (.tup xs) := by
  obtain ⟨_, _, hp, _⟩ := hP
  exact kp _ _ h fun z => by rw [z, hp] at h; cases h
theorem tup_i {t : TA} {Q : VK} (h : t σ H fun xs H1 => xs.length ≤ sizeLine ∧ ∀ l, H1 l = none → Q (.ref l) (upd H1 l (.tup xs))) : tTup t σ H Q := h
theorem el_catPL {q : Addr} {xs ys : List Int} (ha : Ev ta σ H (.ref q)) (hq : H q = some (.lst (vI xs))) (hb : EvL tb σ H (vI ys)) (hz : xs.length + ys.length ≤ 100000) : EvL (tOp rCat ta tb) σ H (vI (xs ++ ys)) := fun H1 e Q k =>
  ha H1 e _ fun H2 e2 => hb H2 (e.trans e2) _ fun r H3 _ e3 hr => ⟨q, r, vI xs, vI ys, rfl, rfl, (e.trans (e2.trans e3)) _ _ hq, hr, by rw [vI_len, vI_len]; exact sz_of hz, fun a ha => k a _ (fresh_back (e2.trans e3) ha) ((e2.trans e3).trans (Ex.new ha)) (by rw [upd_same]; unfold vI; rw [List.map_append])⟩
theorem etu_fld {o p C dx : Addr} {fs : List (Str × V)} {f : Str} {xs : List V} (ha : Ev ta σ H (.ref o)) (ho : H o = some (.ins C dx fs)) (c : Cls K C) (n : NoAttr K C f) (hf : fs.lookup f = some (.ref p)) (hp : SqT K H p xs) : EvTu K (tFld K ta f) σ H xs := fun H1 e Q q =>
  ev_fld ha ho c n hf H1 e _ fun H2 e2 => q p H2 e2 (ex_t (e.trans e2) hp)
theorem ev_nePP {p q : Addr} {xs ys : List Int} (ha : Ev ta σ H (.ref p)) (hp : SqL K H p (vI xs)) (hb : Ev tb σ H (.ref q)) (hq : SqL K H q (vI ys)) : Ev (tOp (rNeD K) ta tb) σ H (.bl (!decide (xs = ys))) := fun H1 e Q k =>
  ha H1 e _ fun H2 e2 => hb H2 (e.trans e2) _ fun H3 e3 => ⟨.list (xs.map PyData.int), .list (ys.map PyData.int), .lst (ex_l (e.trans (e2.trans e3)) hp) (dpAll_ints xs), .lst (ex_l (e.trans (e2.trans e3)) hq) (dpAll_ints ys), shaped_ints xs, shaped_ints ys, by rw [eqv_lists]; exact k H3 (e2.trans e3)⟩
theorem etu_var {i : Nat} {p : Addr} {xs : List V} (h0 : σ[i]? = some (some (.ref p))) (hs : SqT K H p xs) : EvTu K (tVar i) σ H xs := fun H1 e Q q => ⟨_, h0, q p H1 (Ex.refl H1) (ex_t e hs)⟩
theorem sqt_updL {q Dl : Addr} {xs ys : List V} {u : HO} (s : SqT K H q ys) (hD : H Dl = some (.lst xs)) : SqT K (upd H Dl u) q ys := by
  rcases s with (s | ⟨w, s⟩) | s
  · exact .inl (.inl (by rw [upd_ne (fun e => by rw [e, hD] at s; cases s)]; exact s))
  · exact .inl (.inr ⟨w, by rw [upd_ne (fun e => by rw [e, hD] at s; cases s)]; exact s⟩)
  · exact .inr s
theorem etu_nil : EvTu K (tTup tNil) σ H (vI []) := fun H1 e Q q => ⟨by show 0 ≤ sizeLine; decide, fun p hp => q p _ (Ex.new hp) (st_of upd_same)⟩
theorem for_i {tl : TE} {g : TG} {tu tz : TS} {D : Ends} (h : tl σ H fun x H1 => ∃ a, x = .ref a ∧ (∃ xs, SqL K H1 a xs) ∧ tFor (fun _ _ R => R (Itl K a) H1) g tu { D with nx := tz D } σ H1) : tSeq (tFor (iList K tl) g tu) tz D σ H := h
theorem s_retR {D : Ends} (h : te σ H D.rt) : tRet te D σ H := h
theorem ev_lenT {p : Addr} {g : List Int} (h : Ev ta σ H (.ref p)) (hs : SqT K H p (vI g)) : Ev (tCB (fun xs H Q => ∃ p ys, xs = [V.ref p] ∧ (SqL K H p ys ∨ SqT K H p ys) ∧ Q (.int ys.length) H) (tCons ta tNil)) σ H (.int (g.length : Int)) := ev_is (ev_cb (ea_cons h ea_nil) (rc_lenQ (.inr hs))) (by rw [vI_len])
theorem etu_disp {t : TA} {xs : List V} (h : EvA t σ H xs) (hl : xs.length ≤ 100000) : EvTu K (tTup t) σ H xs := fun H1 e Q q => eu_tup h hl H1 e _ fun p H2 _ e2 h2 => q p H2 e2 (st_of h2)
end
end K08
namespace K08
open PySem L2 Evl
abbrev sCls (i : Nat) : Stmt := inClass (top i) 0
/-- what the written part says of an error class x, PostError at B -/
structure CB (K : PySem.W.Frag) (x : Str) (C B : Addr) : Prop where
  aC : PySem.W.nsIn K mainGlobals x = some (some (.ref C))
  xL : ∃ nm q N bs sn sub ab col dd k0 k1 k2 k3 k5, K.lookup C = some (excClassObj nm q C N bs [.ref B, .type "ValueError", .type "Exception", .type "BaseException", .type "object"] true sn sub ab col dd k0 k1 k2 k3 k5 "ValueError.__new__")
  sa : PySem.W.findIn K (.ref C) "__setattr__" = some (some (.builtin "object.__setattr__"))
  ga : PySem.W.findIn K (.ref C) "__getattribute__" = some (some (.builtin "BaseException.__getattribute__"))
  gg : PySem.W.findIn K (.ref C) "__getattr__" = some none
  cc : PySem.W.findIn K (.ref C) "__class__" = some (some (.builtin "object.__class__"))
  tC : PySem.W.typeIn K (.ref C) = some (.type "type")
  kC : PySem.W.keepIn K (.ref C) = true
/-- .. and of its __init__, the def st -/
structure CF (K : PySem.W.Frag) (x qual : Str) (st : Stmt) (C f B : Addr) : Prop where
  b : CB K x C B
  a1 : PySem.W.findIn K (.ref C) "__init__" = some (some (.ref f))
  l1 : ∃ (oc : Value) (od : Option Addr) (kV doc pm : Value) (an : Option Addr) (cdv ct : Value) (osl : Array (Option Value)),
    K.lookup f = some ⟨oc, od, .func (PySem.W.fnOf "__init__" qual (defArgs st) (defBody st) (defScope st) .none kV doc pm an cdv ct), osl⟩ ∧ PySem.W.codeIn K cdv qual = true
  k1 : PySem.W.keepIn K (.ref f) = true
  t1 : PySem.W.typeIn K (.ref f) = some (.type "function")
structure CG (K : PySem.W.Frag) : Prop where
  sp : PySem.W.specialIn K (.builtin "object.__class__") "__get__" = some (some (.builtin "getset_descriptor.__get__"))
  tk : PySem.W.takesIn K (.builtin "object.__class__") = some true
section
variable {K : PySem.W.Frag} {x qual : Str} {st : Stmt} {C f B : Addr}
theorem CB.cls (T : CB K x C B) : ∃ cd, PySem.W.clsIn K C = some cd ∧ cd.mro = [.ref C, .ref B, .type "ValueError", .type "Exception", .type "BaseException", .type "object"] ∧ cd.hasDict = true := by
  obtain ⟨nm, q, N, bs, sn, sub, ab, col, dd, k0, k1, k2, k3, k5, h⟩ := T.xL
  refine ⟨{ name := nm, bases := bs, mro := .ref C :: [.ref B, .type "ValueError", .type "Exception", .type "BaseException", .type "object"], ns := N, qualname := q, hasDict := true, slotNames := sn, subclasses := sub, abstract := ab, collection := col, hasDel := false }, ?_, rfl, rfl⟩
  unfold PySem.W.clsIn
  rw [h] <;> rfl
theorem CB.mro (T : CB K x C B) (v : Value) : PySem.W.mroIn K C v = some ([Value.ref C, .ref B, .type "ValueError", .type "Exception", .type "BaseException", .type "object"].contains v) := by
  obtain ⟨cd, h1, h2, _⟩ := T.cls
  unfold PySem.W.mroIn
  rw [h1, Option.bind_some, h2]
  rfl
theorem CB.ox (T : CB K x C B) : OexC K C := by
  obtain ⟨nm, q, N, bs, sn, sub, ab, col, dd, k0, k1, k2, k3, k5, h⟩ := T.xL
  exact ⟨⟨nm, q, N, bs, _, sn, sub, ab, col, dd, k0, k1, k2, k3, k5, h, rfl⟩, T.sa, (T.mro _).trans (by rfl), T.tC, T.kC⟩
theorem CB.hd (T : CB K x C B) : PySem.W.hasDictIn K C = true := by
  obtain ⟨cd, h1, h2, h3⟩ := T.cls
  unfold PySem.W.hasDictIn
  rw [h1]
  first | exact h3 | (simp [h3])
theorem CB.xf (T : CB K x C B) : XfC K C := ⟨T.ga, T.gg, (T.mro _).trans (by rfl), T.hd⟩
theorem CB.xc (T : CB K x C B) (G : CG K) : EXC.XcC K C := by
  obtain ⟨cd, h1, _⟩ := T.cls
  exact ⟨by rw [h1]; rfl, T.ga, T.gg, (T.mro _).trans (by rfl), T.hd, T.cc, G.sp, G.tk, (T.mro _).trans (by rfl)⟩
theorem CB.caught (T : CB K x C B) (h1 : PySem.W.subIn K (.ref B) (.type "BaseException") = some true) (h2 : PySem.W.hasDictIn K B = true) (h3 : PySem.W.typeIn K (.ref B) = some (.type "type")) : PySem.W.exmOne K (.ref C) (.ref B) = some true :=
  PySem.W.exm_ref h1 h2 h3 ((T.mro _).trans (by simp))
theorem CF.fn (T : CF K x qual st C f B) : ∃ fd, Fun K "__init__" qual st f fd := by
  obtain ⟨oc, od, kV, doc, pm, an, cdv, ct, osl, h1, h2⟩ := T.l1
  exact ⟨_, fun_mk h1 h2 T.k1⟩
theorem eq_ref (a b : Addr) : (Value.ref a == Value.ref b) = decide (a = b) := by
  by_cases h : a = b
  · subst h
    simp
  · rw [decide_eq_false h]
    exact beq_eq_false_iff_ne.mpr fun z => h (Value.ref.inj z)
/-- isinstance of an instance of C, for another error class D -/
theorem CB.kit {x' : Str} {D : Addr} (T : CB K x C B) (U : CB K x' D B) (h : D ≠ B) : PySem.W.kitOne K (.ref C) (.ref D) = some (decide (D = C)) := by
  unfold PySem.W.kitOne PySem.W.kitCls
  by_cases e : C = D
  · subst e
    rw [if_pos (by simp), decide_eq_true rfl]
  · have e1 : (Value.ref C == Value.ref D) = false := by rw [eq_ref, decide_eq_false e]
    obtain ⟨cd, h1, _⟩ := U.cls
    rw [e1, if_neg Bool.false_ne_true]
    simp only [h1, U.tC, Option.isSome_some, beq_self_eq_true, Bool.and_self, if_true]
    refine (T.mro _).trans ?_
    rw [decide_eq_false (fun z => e z.symm)]
    simp [Ne.symm e, h, Ne.symm h]
theorem CB.kitB' (T : CB K x C B) (hB : ∃ cd, PySem.W.clsIn K B = some cd) (tB : PySem.W.typeIn K (.ref B) = some (.type "type")) : PySem.W.kitOne K (.ref C) (.ref B) = some true := by
  unfold PySem.W.kitOne PySem.W.kitCls
  by_cases e : C = B
  · subst e
    rw [if_pos (by simp)]
  · have e1 : (Value.ref C == Value.ref B) = false := by rw [eq_ref, decide_eq_false e]
    obtain ⟨cd, h1⟩ := hB
    rw [e1, if_neg Bool.false_ne_true]
    simp only [h1, tB, Option.isSome_some, beq_self_eq_true, Bool.and_self, if_true]
    refine (T.mro _).trans ?_
    simp
theorem CB.kitV (T : CB K x C B) : PySem.W.kitOne K (.ref C) (.type "ValueError") = some true := by
  unfold PySem.W.kitOne PySem.W.kitCls
  rw [if_neg (by simp)]
  show (if PySem.W.kitMeta "ValueError" = true then PySem.W.subIn K (.ref C) (.type "ValueError") else none) = some true
  rw [if_pos (by decide +kernel)]
  exact (T.mro _).trans (by rfl)
end
/-! ### __init__ of one field, of two -/
def spI1 (C : Addr) (n : Str) : Sp := fun vs H Q _ => ∃ (a : Addr) (v : V), vs = [.ref a, v] ∧ H a = some (exo a C none) ∧ ∀ d, H d = none → d ≠ a → Q .non (upd (upd H d (exd d [(n, v)])) a (exo a C (some d)))
def spI2 (C : Addr) (n m : Str) : Sp := fun vs H Q _ => ∃ (a : Addr) (v u : V), vs = [.ref a, v, u] ∧ H a = some (exo a C none) ∧ ∀ d, H d = none → d ≠ a → Q .non (upd (upd (upd H d (exd d [(n, v)])) a (exo a C (some d))) d (exd d [(m, u), (n, v)]))
section
variable {P : Program} {w : World} {K : PySem.W.Frag} {mg : Str → Option Value} {base : Heap}
theorem ok_I1 {x qual : Str} {st : Stmt} {C f B : Addr} {fd : FuncData} {n : Str} {p1 p2 p3 p4 : PySem.Pos} (T : CF K x qual st C f B) (F : Fun K "__init__" qual st f fd) (S : FnScope ["self", n] ["self", n] (defScope st)) (hb : defBody st = [Stmt.Assign [.Attribute (.Name "self" p1) n p2] (.Name n p3) p4])
    (l1 : (defScope st).names.lookup ("self" : Str) = some .local) (l2 : (defScope st).names.lookup n = some .local) (hd : (n == ("__debug__" : Str)) = false) (hcd : (n == ("__classdict__" : Str)) = false)
    (hno : PySem.W.findIn K (.ref C) n = some none) : FnOk P w K mg base CX0 1 f fd ["self", n] (spI1 C n) := by
  refine F.ok S (fun vs H Q E h => ?_) (fun cdv A outer s H vs Q E hr h => ?_)
  · obtain ⟨a, v, rfl, _⟩ := h
    rfl
  · obtain ⟨a, v, rfl, ha, k⟩ := h
    rw [hb]
    refine ⟨_, pss_one (ps_ost (pv 0 rfl (.inl l1)) (pv 1 rfl (.inl l2) hd hcd)), ?_⟩
    exact ⟨v, rfl, .ref a, rfl, a, C, rfl, T.b.ox, hno, .inl ⟨ha, fun d hd hda => k d hd hda⟩⟩
theorem ok_I2 {x qual : Str} {st : Stmt} {C f B : Addr} {fd : FuncData} {n m : Str} {p1 p2 p3 p4 q1 q2 q3 q4 : PySem.Pos} (T : CF K x qual st C f B) (F : Fun K "__init__" qual st f fd) (S : FnScope ["self", n, m] ["self", n, m] (defScope st))
    (hb : defBody st = [Stmt.Assign [.Attribute (.Name "self" p1) n p2] (.Name n p3) p4, Stmt.Assign [.Attribute (.Name "self" q1) m q2] (.Name m q3) q4])
    (l1 : (defScope st).names.lookup ("self" : Str) = some .local) (l2 : (defScope st).names.lookup n = some .local) (l3 : (defScope st).names.lookup m = some .local) (hd : (n == ("__debug__" : Str)) = false) (hcd : (n == ("__classdict__" : Str)) = false) (hd2 : (m == ("__debug__" : Str)) = false) (hcd2 : (m == ("__classdict__" : Str)) = false)
    (hno : PySem.W.findIn K (.ref C) n = some none) (hno2 : PySem.W.findIn K (.ref C) m = some none) : FnOk P w K mg base CX0 1 f fd ["self", n, m] (spI2 C n m) := by
  refine F.ok S (fun vs H Q E h => ?_) (fun cdv A outer s H vs Q E hr h => ?_)
  · obtain ⟨a, v, u, rfl, _⟩ := h
    rfl
  · obtain ⟨a, v, u, rfl, ha, k⟩ := h
    rw [hb]
    refine ⟨_, pss_cons (ps_ost (pv 0 rfl (.inl l1)) (pv 1 rfl (.inl l2) hd hcd)) (pss_one (ps_ost (pv 0 rfl (.inl l1)) (pv 2 rfl (.inl l3) hd2 hcd2))), ?_⟩
    refine ⟨v, rfl, .ref a, rfl, a, C, rfl, T.b.ox, hno, .inl ⟨ha, fun d hd hda => ?_⟩⟩
    exact ⟨u, rfl, .ref a, rfl, a, C, rfl, T.b.ox, hno2, .inr ⟨d, _, upd_same, by rw [upd_ne hda]; exact upd_same, by show 1 ≤ 900; decide, k d hd hda⟩⟩
end
end K08
/-! data told by what they are; comprehensions told by filter and map; slots -/
namespace K08
open PySem L2 Evl Gr
mutual
theorem dp_up {K : PySem.W.Frag} {H H' : Hp} (e : Ex H H') : ∀ (d : PyData) {v : V}, Dp K H v d → Dp K H' v d
  | .none, _, .non => .non
  | .bool _, _, .bl b => .bl b
  | .int _, _, .int i => .int i
  | .str _, _, .str x => .str x
  | .list ds, _, .lst h a => .lst (ex_l e h) (dps_up e ds a)
  | .tuple ds, _, .tup h a => .tup (ex_t e h) (dps_up e ds a)
theorem dps_up {K : PySem.W.Frag} {H H' : Hp} (e : Ex H H') : ∀ (ds : List PyData) {vs : List V}, DpAll K H vs ds → DpAll K H' vs ds
  | [], _, .nil => .nil
  | d :: ds, _, .cons h a => .cons (dp_up e d h) (dps_up e ds a)
end
/-- gives a thing that is d -/
def EvD (K : PySem.W.Frag) (te : TE) (σ : L2.St) (H : Hp) (d : PyData) : Prop := ∀ H1, Ex H H1 → ∀ Q : VK, (∀ v H2, Ex H1 H2 → Dp K H2 v d → Q v H2) → te σ H1 Q
section
variable {K : PySem.W.Frag} {σ : L2.St} {H H' : Hp} {te ta tb tl : TE} {t : TT} {d e : PyData} {ds : List PyData} {xs : List V} {v : V} {a : Addr}
theorem EvD.mono (h : EvD K te σ H d) (e : Ex H H') : EvD K te σ H' d := fun H1 e1 => h H1 (e.trans e1)
theorem ed_of (h : Ev te σ H v) (hd : ∀ H1, Ex H H1 → Dp K H1 v d) : EvD K te σ H d := fun H1 e Q q => h H1 e _ fun H2 e2 => q v H2 e2 (hd H2 (e.trans e2))
theorem ed_L (h : EvL te σ H xs) (hd : ∀ H1, Ex H H1 → DpAll K H1 xs ds) : EvD K te σ H (.list ds) := fun H1 e Q q => h H1 e _ fun p H2 _ e2 hp => q _ H2 e2 (.lst (sq_of hp) (hd H2 (e.trans e2)))
theorem ed_T (h : EvTu K te σ H xs) (hd : ∀ H1, Ex H H1 → DpAll K H1 xs ds) : EvD K te σ H (.tuple ds) := fun H1 e Q q => h H1 e _ fun p H2 e2 hp => q _ H2 e2 (.tup hp (hd H2 (e.trans e2)))
theorem ev_eqD (ha : EvD K ta σ H d) (hb : EvD K tb σ H e) (sd : SeqAt.shaped d = true) (se : SeqAt.shaped e = true) : Ev (tOp (rEqD K) ta tb) σ H (.bl (PyData.eqv d e)) := fun H1 e1 Q q =>
  ha H1 e1 _ fun v H2 e2 hv => hb H2 (e1.trans e2) _ fun u H3 e3 hu => ⟨d, e, dp_up e3 d hv, hu, sd, se, q H3 (e2.trans e3)⟩
theorem ev_neD (ha : EvD K ta σ H d) (hb : EvD K tb σ H e) (sd : SeqAt.shaped d = true) (se : SeqAt.shaped e = true) : Ev (tOp (rNeD K) ta tb) σ H (.bl (!PyData.eqv d e)) := fun H1 e1 Q q =>
  ha H1 e1 _ fun v H2 e2 hv => hb H2 (e1.trans e2) _ fun u H3 e3 hu => ⟨d, e, dp_up e3 d hv, hu, sd, se, q H3 (e2.trans e3)⟩
theorem ev_inD (ha : EvD K ta σ H d) (hb : EvD K tb σ H (.list ds)) (sd : SeqAt.shaped d = true) (se : SeqAt.shaped (.list ds) = true) : Ev (tOp (rInD K) ta tb) σ H (.bl (ds.any fun z => PyData.eqv z d)) := fun H1 e1 Q q =>
  ha H1 e1 _ fun v H2 e2 hv => hb H2 (e1.trans e2) _ fun u H3 e3 hu => ⟨d, ds, dp_up e3 d hv, hu, sd, se, q H3 (e2.trans e3)⟩
end
/-! ### what is not deep -/
def Low (n : Nat) (d : PyData) : Prop := d.canLay0 = true ∧ d.depth ≤ n
theorem lay_all : ∀ {ds : List PyData}, (∀ d ∈ ds, d.canLay0 = true) → PyData.canLayAll0 ds = true
  | [], _ => by simp [PyData.canLayAll0]
  | d :: ds, h => by simp [PyData.canLayAll0, h d List.mem_cons_self, lay_all fun x hx => h x (List.mem_cons_of_mem _ hx)]
theorem depth_all {n : Nat} : ∀ {ds : List PyData}, (∀ d ∈ ds, d.depth ≤ n) → PyData.depthAll ds ≤ n
  | [], _ => by simp [PyData.depthAll]
  | d :: ds, h => by
    simp only [PyData.depthAll]
    exact Nat.max_le.mpr ⟨h d List.mem_cons_self, depth_all fun x hx => h x (List.mem_cons_of_mem _ hx)⟩
theorem low_list {n : Nat} {ds : List PyData} (h : ∀ d ∈ ds, Low n d) : Low (n + 1) (.list ds) := by
  refine ⟨?_, ?_⟩
  · simp only [PyData.canLay0]
    exact lay_all fun d hd => (h d hd).1
  · have := depth_all fun d hd => (h d hd).2
    simp only [PyData.depth]
    omega
theorem low_tup {n : Nat} {ds : List PyData} (h : ∀ d ∈ ds, Low n d) : Low (n + 1) (.tuple ds) := by
  refine ⟨?_, ?_⟩
  · simp only [PyData.canLay0]
    exact lay_all fun d hd => (h d hd).1
  · have := depth_all fun d hd => (h d hd).2
    simp only [PyData.depth]
    omega
theorem low_shaped {n : Nat} {d : PyData} (h : Low n d) (hn : n ≤ 64) : SeqAt.shaped d = true := by
  unfold SeqAt.shaped
  rw [h.1, decide_eq_true (Nat.le_trans h.2 hn)]
  rfl
theorem low_int (i : Int) : Low 0 (.int i) := ⟨by simp [PyData.canLay0], by simp [PyData.depth]⟩
theorem low_str {z : Str} (h : PyData.strOk z = true) : Low 0 (.str z) := ⟨by simp [PyData.canLay0, h], by simp [PyData.depth]⟩
theorem low_non : Low 0 .none := ⟨by simp [PyData.canLay0], by simp [PyData.depth]⟩
theorem eqvAll_map {α : Type} [DecidableEq α] (f : α → PyData) (h : ∀ x y, PyData.eqv (f x) (f y) = decide (x = y)) : ∀ xs ys : List α, PyData.eqvAll (xs.map f) (ys.map f) = decide (xs = ys)
  | [], [] => by simp [PyData.eqvAll]
  | [], y :: ys => by simp [PyData.eqvAll]
  | x :: xs, [] => by simp [PyData.eqvAll]
  | x :: xs, y :: ys => by
    simp only [List.map_cons, PyData.eqvAll, eqvAll_map f h xs ys, h]
    by_cases h1 : x = y <;> by_cases h2 : xs = ys <;> simp [h1, h2]
/-! ### comprehensions -/
def at_ {α : Type} (l : List α) (p : α → Bool) (i : Nat) : Bool := (l[i]?).elim false p
def got {α : Type} (l : List α) (g : α → V) (i : Nat) : V := (l[i]?).elim .non g
theorem at_of {α : Type} {l : List α} {i : Nat} {x : α} {p : α → Bool} (h : l[i]? = some x) : at_ l p i = p x := by unfold at_; rw [h]; rfl
theorem got_of {α : Type} {l : List α} {i : Nat} {x : α} {g : α → V} (h : l[i]? = some x) : got l g i = g x := by unfold got; rw [h]; rfl
theorem all_got {α : Type} (l : List α) : (List.range l.length).map (fun i => l[i]?) = l.map some := by
  refine List.ext_getElem? fun i => ?_
  rw [List.getElem?_map, List.getElem?_map]
  by_cases h : i < l.length
  · rw [List.getElem?_range h, List.getElem?_eq_getElem h]
    show some l[i]? = some (some l[i])
    rw [List.getElem?_eq_getElem h]
  · rw [List.getElem?_eq_none (by rw [List.length_range]; omega), List.getElem?_eq_none (by omega)]
    rfl
theorem given_of {α : Type} (l : List α) (p : α → Bool) (g : α → V) : given l.length (at_ l p) (got l g) = (l.filter p).map g := by
  have e1 : given l.length (at_ l p) (got l g) = (((List.range l.length).map fun i => l[i]?).filter fun o => o.elim false p).map fun o => o.elim V.non g := by
    unfold given
    rw [List.filter_map, List.map_map]
    rfl
  rw [e1, all_got, List.filter_map, List.map_map]
  rfl
theorem nth_map {α : Type} {f : α → V} {l : List α} {i : Nat} {x : V} (h : (l.map f)[i]? = some x) : ∃ y, l[i]? = some y ∧ x = f y := by
  rw [List.getElem?_map] at h
  obtain ⟨y, hy, rfl⟩ := Option.map_eq_some_iff.mp h
  exact ⟨y, hy, rfl⟩
section
variable {K : PySem.W.Frag} {σ : L2.St} {H : Hp} {te ta tl : TE} {t : TT} {α : Type}
/-- [e for x in a list if t] -/
theorem el_mapL (f : α → V) {l : List α} {j : Nat} {vs : List Nat} {a : Addr} (p : α → Bool) (g : α → V) (h : Ev tl σ H (.ref a)) (hx : SqL K H a (l.map f)) (hz : l.length ≤ 40000) (hw : ∀ x, wipe ((wipe σ vs).set j (some x)) vs = wipe σ vs)
    (ht : ∀ x ∈ l, ∀ H1, Ex H H1 → EvT t ((wipe σ vs).set j (some (f x))) H1 (p x)) (he : ∀ x ∈ l, ∀ H1, Ex H H1 → p x = true → Ev te ((wipe σ vs).set j (some (f x))) H1 (g x)) : EvL (tLc (iList K tl) (gName j) t te vs) σ H ((l.filter p).map g) := by
  have c := el_lcL (K := K) (σ := σ) (H := H) (t := t) (te := te) (a := a) (xs := l.map f) (tl := tl) (j := j) (vs := vs) (at_ l p) (got l g) h hx (by rw [List.length_map]; exact hz) hw
    (fun i x H1 e hi => by
      obtain ⟨y, hy, rfl⟩ := nth_map hi
      rw [at_of hy]
      exact ht y (List.mem_of_getElem? hy) H1 e)
    (fun i x H1 e hi hf => by
      obtain ⟨y, hy, rfl⟩ := nth_map hi
      rw [at_of hy] at hf
      rw [got_of hy]
      exact he y (List.mem_of_getElem? hy) H1 e hf)
  rw [List.length_map, given_of] at c
  exact c
theorem el_mapNL (f : α → V) {l : List α} {j : Nat} {vs : List Nat} (p : α → Bool) (g : α → V) (h : EvL tl σ H (l.map f)) (hz : l.length ≤ 40000) (hw : ∀ x, wipe ((wipe σ vs).set j (some x)) vs = wipe σ vs)
    (ht : ∀ x ∈ l, ∀ H1, Ex H H1 → EvT t ((wipe σ vs).set j (some (f x))) H1 (p x)) (he : ∀ x ∈ l, ∀ H1, Ex H H1 → p x = true → Ev te ((wipe σ vs).set j (some (f x))) H1 (g x)) : EvL (tLc (iList K tl) (gName j) t te vs) σ H ((l.filter p).map g) := by
  have c := el_lcNL (K := K) (σ := σ) (H := H) (t := t) (te := te) (xs := l.map f) (tl := tl) (j := j) (vs := vs) (at_ l p) (got l g) h (by rw [List.length_map]; exact hz) hw
    (fun i x H1 e hi => by
      obtain ⟨y, hy, rfl⟩ := nth_map hi
      rw [at_of hy]
      exact ht y (List.mem_of_getElem? hy) H1 e)
    (fun i x H1 e hi hf => by
      obtain ⟨y, hy, rfl⟩ := nth_map hi
      rw [at_of hy] at hf
      rw [got_of hy]
      exact he y (List.mem_of_getElem? hy) H1 e hf)
  rw [List.length_map, given_of] at c
  exact c
/-- [e for x in a tuple if t] -/
theorem el_tup {xs : List V} {j : Nat} {vs : List Nat} (f : Nat → Bool) (v : Nat → V) (h : EvTu K tl σ H xs) (hz : xs.length ≤ 40000) (hw : ∀ x, wipe ((wipe σ vs).set j (some x)) vs = wipe σ vs)
    (ht : ∀ (i : Nat) (x : V) H1, Ex H H1 → xs[i]? = some x → EvT t ((wipe σ vs).set j (some x)) H1 (f i)) (he : ∀ (i : Nat) (x : V) H1, Ex H H1 → xs[i]? = some x → f i = true → Ev te ((wipe σ vs).set j (some x)) H1 (v i)) :
    EvL (tLc (iTup K tl) (gName j) t te vs) σ H (given xs.length f v) := fun H0 e Q q => h H0 e _ fun a H1 e1 hx =>
  ⟨a, rfl, ⟨xs, hx⟩, fun Dl hD => lc_it (n := xs.length) (walk_tup (xs := xs)) (Cw H1 f v Dl) ⟨hD, Ex.new hD, upd_same⟩ (fun _ H' _ p => ex_t p.2.1 hx)
    (fun k x H' H'' hk p y => by
      obtain ⟨rfl, hx'⟩ := y
      exact ⟨hw _, cw_turn p (by omega) (ht k x H1 (e.trans e1) hx') fun hf => he k x H1 (e.trans e1) hx' hf⟩)
    (fun H' p => q Dl H' (fresh_back e1 p.1) (e1.trans p.2.1) p.2.2)⟩
theorem el_mapT (f : α → V) {l : List α} {j : Nat} {vs : List Nat} (p : α → Bool) (g : α → V) (h : EvTu K tl σ H (l.map f)) (hz : l.length ≤ 40000) (hw : ∀ x, wipe ((wipe σ vs).set j (some x)) vs = wipe σ vs)
    (ht : ∀ x ∈ l, ∀ H1, Ex H H1 → EvT t ((wipe σ vs).set j (some (f x))) H1 (p x)) (he : ∀ x ∈ l, ∀ H1, Ex H H1 → p x = true → Ev te ((wipe σ vs).set j (some (f x))) H1 (g x)) : EvL (tLc (iTup K tl) (gName j) t te vs) σ H ((l.filter p).map g) := by
  have c := el_tup (K := K) (σ := σ) (H := H) (t := t) (te := te) (xs := l.map f) (tl := tl) (j := j) (vs := vs) (at_ l p) (got l g) h (by rw [List.length_map]; exact hz) hw
    (fun i x H1 e hi => by
      obtain ⟨y, hy, rfl⟩ := nth_map hi
      rw [at_of hy]
      exact ht y (List.mem_of_getElem? hy) H1 e)
    (fun i x H1 e hi hf => by
      obtain ⟨y, hy, rfl⟩ := nth_map hi
      rw [at_of hy] at hf
      rw [got_of hy]
      exact he y (List.mem_of_getElem? hy) H1 e hf)
  rw [List.length_map, given_of] at c
  exact c
/-- [e for i, x in enumerate(a tuple) if t] -/
theorem el_enT {ta : TA} {a : Addr} {xs : List V} {i j : Nat} {vs : List Nat} (f : Nat → Bool) (v : Nat → V) (h : EvA ta σ H [.ref a]) (hx : SqT K H a xs) (hz : xs.length ≤ 40000) (hw : ∀ x y, wipe (((wipe σ vs).set i (some x)).set j (some y)) vs = wipe σ vs)
    (ht : ∀ (k : Nat) (x : V) H1, Ex H H1 → xs[k]? = some x → EvT t (((wipe σ vs).set i (some (.int (k : Int)))).set j (some x)) H1 (f k)) (he : ∀ (k : Nat) (x : V) H1, Ex H H1 → xs[k]? = some x → f k = true → Ev te (((wipe σ vs).set i (some (.int (k : Int)))).set j (some x)) H1 (v k)) :
    EvL (tLc (EnT.iEnumT K ta) (gTup K 2 (gCons (gName i) (gCons (gName j) gNil))) t te vs) σ H (given xs.length f v) := fun H0 e Q q => h H0 e _ fun H1 e1 =>
  ⟨a, xs, rfl, ex_t (e.trans e1) hx, fun Dl hD => lc_it (n := xs.length) (EnT.walk_enumT (ys := xs)) (Cw H1 f v Dl) ⟨hD, Ex.new hD, upd_same⟩ (fun _ H' _ p => ex_t ((e.trans e1).trans p.2.1) hx)
    (fun k x H' H'' hk p y => by
      obtain ⟨T, x1, y1, rfl, hT, rfl, ex, ey⟩ := y
      obtain rfl := Option.some.inj ex
      have e2 := Ex.new (H := H') (o := .tup [.int (k : Nat), y1]) hT
      have p' : Cw H1 f v Dl k (upd H' T (.tup [.int (k : Nat), y1])) := ⟨p.1, p.2.1.trans e2, e2 _ _ p.2.2⟩
      exact ⟨T, _, rfl, st_of upd_same, rfl, _, _, rfl, _, _, rfl, rfl, hw _ _, cw_turn p' (by omega) (ht k y1 H1 (e.trans e1) ey) fun hf => he k y1 H1 (e.trans e1) ey hf⟩)
    (fun H' p => q Dl H' (fresh_back e1 p.1) (e1.trans p.2.1) p.2.2)⟩
end
end K08
namespace K08
open PySem L2 Evl Gr
abbrev sSigns : Stmt := top 3
abbrev sSignsW : Stmt := top 4
abbrev sWo : Stmt := top 18
/-! ### what is let out -/
/-- an error of the class at C with one field goes out -/
def Out1 (C : Addr) (n : Str) (v : V) (H : Hp) (E : XK) : Prop := ∀ d H', H d = none → Ex H H' → H' d = some (.xd [(n, v)]) → E (.ref C) (some d) H'
theorem Out1.mono {C : Addr} {n : Str} {v : V} {H H' : Hp} {E : XK} (e : Ex H H') (h : Out1 C n v H E) : Out1 C n v H' E := fun d H2 hd e2 h2 => h d H2 (fresh_back e hd) (e.trans e2) h2
theorem raise_one {C : Addr} {n : Str} {σ : L2.St} {H : Hp} {E : XK} {v : V} {ta : TA} (h : EvA ta σ H [v]) (b : Out1 C n v H E) : tMkO C (spI1 C n) [] ta σ H (fun cls d H' => E cls d H') :=
  h H (Ex.refl H) _ fun H1 e1 => ⟨by show 1 ≤ 1000; decide, fun a ha => ⟨a, v, rfl, upd_same, fun d hd hda => ⟨rfl, d, [(n, v)], by rw [upd_same], by rw [upd_ne hda]; exact upd_same, by rw [upd_ne hda] at hd; exact hd, by
    rw [upd_ne hda] at hd
    refine b d _ (fresh_back e1 hd) (fun c w hc => ?_) ?_
    · have hc1 := e1 _ _ hc
      have na : c ≠ a := ne_of_none hc1 ha
      have nd : c ≠ d := ne_of_none hc1 hd
      rw [upd_ne nd, del_ne na, upd_ne na, upd_ne nd, upd_ne na]
      exact hc1
    · exact upd_same⟩⟩⟩
/-- an error class of one field -/
structure GOne (P : Program) (w : World) (K : PySem.W.Frag) (mg : Str → Option Value) (base : Heap) (x n : Str) (CN fN : Addr) (fdN : FuncData) : Prop where
  ox : OexC K CN
  init : PySem.W.findIn K (.ref CN) "__init__" = some (some (.ref fN))
  ty : PySem.W.typeIn K (.ref fN) = some (.type "function")
  ok : FnOk P w K mg base CX0 1 fN fdN ["self", n] (spI1 CN n)
  b : Binds K fdN ["self", n] []
  g : mg x = some (.ref CN)
/-- an error of the class at C with two fields goes out -/
def Out2 (C : Addr) (n m : Str) (v u : V) (H : Hp) (E : XK) : Prop := ∀ d H', H d = none → Ex H H' → H' d = some (.xd [(m, u), (n, v)]) → E (.ref C) (some d) H'
theorem Out2.mono {C : Addr} {n m : Str} {v u : V} {H H' : Hp} {E : XK} (e : Ex H H') (h : Out2 C n m v u H E) : Out2 C n m v u H' E := fun d H2 hd e2 h2 => h d H2 (fresh_back e hd) (e.trans e2) h2
theorem raise_two {C : Addr} {n m : Str} {σ : L2.St} {H : Hp} {E : XK} {v u : V} {ta : TA} (h : EvA ta σ H [v, u]) (b : Out2 C n m v u H E) : tMkO C (spI2 C n m) [] ta σ H (fun cls d H' => E cls d H') :=
  h H (Ex.refl H) _ fun H1 e1 => ⟨by show 2 ≤ 1000; decide, fun a ha => ⟨a, v, u, rfl, upd_same, fun d hd hda => ⟨rfl, d, [(m, u), (n, v)], by rw [upd_ne hda.symm]; exact upd_same, upd_same, by rw [upd_ne hda] at hd; exact hd, by
    rw [upd_ne hda] at hd
    refine b d _ (fresh_back e1 hd) (fun c w hc => ?_) upd_same
    have hc1 := e1 _ _ hc
    have na : c ≠ a := ne_of_none hc1 ha
    have nd : c ≠ d := ne_of_none hc1 hd
    rw [upd_ne nd, del_ne na, upd_ne nd, upd_ne na, upd_ne nd, upd_ne na]
    exact hc1⟩⟩⟩
/-- an error class of two fields -/
structure GTwo (P : Program) (w : World) (K : PySem.W.Frag) (mg : Str → Option Value) (base : Heap) (x n m : Str) (CN fN : Addr) (fdN : FuncData) : Prop where
  ox : OexC K CN
  init : PySem.W.findIn K (.ref CN) "__init__" = some (some (.ref fN))
  ty : PySem.W.typeIn K (.ref fN) = some (.type "function")
  ok : FnOk P w K mg base CX0 1 fN fdN ["self", n, m] (spI2 CN n m)
  b : Binds K fdN ["self", n, m] []
  g : mg x = some (.ref CN)
section
variable {K : PySem.W.Frag} {σ : L2.St} {H : Hp} {te ta tb : TE}
theorem rc_lenS {z : Str} (h : z.length ≤ 100000) : RC (fun xs H Q => ∃ x n, xs = [x] ∧ LenV K x H n ∧ Q (.int n) H) [.str z] H (.int (z.length : Int)) := fun H1 _ _ q => ⟨.str z, z.length, rfl, ⟨sz_of h, rfl⟩, q H1 (Ex.refl H1)⟩
theorem ev_strip {a b : Str} (ha : Ev ta σ H (.str a)) (hb : Ev tb σ H (.str b)) (h : a.length ≤ 100000) :
    Ev (tBM K "str" (fun x xs H Q => ∃ a b, x = .str a ∧ xs = [.str b] ∧ a.length ≤ sizeLine ∧ Q (.str (Txt.stripChars a b)) H) ta (tCons tb tNil)) σ H (.str (Txt.stripChars a b)) := fun H1 e Q q =>
  ha H1 e _ fun H2 e2 => ⟨rfl, hb H2 (e.trans e2) _ fun H3 e3 => ⟨a, b, rfl, rfl, sz_of h, q H3 (e2.trans e3)⟩⟩
end
section
variable {P : Program} {w : World} {K : PySem.W.Frag} {mg : Str → Option Value} {base : Heap}
theorem kit_str_str : kitB "str" "str" = some true := by decide +kernel
/-! ### is_signs -/
def spSigns (K : PySem.W.Frag) : Sp := fun vs H Q _ => (∃ z : Str, vs = [.str z] ∧ z.length ≤ 1000 ∧ RetV (.bl (signsB z)) H Q) ∨
  ∃ (x : V) (T : String), vs = [x] ∧ TyX K H x (.type T) ∧ kitB T "str" = some false ∧ RetV (.bl false) H Q
theorem scSigns : FnScope ["value"] ["value"] (defScope sSigns) := ⟨rfl, rfl, rfl, by decide +kernel, rfl, by decide +kernel, by decide +kernel⟩
theorem ok_signs {f : Addr} {fd : FuncData} (F : Fun K "is_signs" "is_signs" sSigns f fd) (T : GlbT mg) : FnOk P w K mg base CX0 1 f fd ["value"] (spSigns K) := by
  refine F.ok scSigns (fun vs H Q E h => ?_) (fun cdv A outer s H vs Q E hr h => ?_)
  · rcases h with ⟨z, rfl, _⟩ | ⟨x, t, rfl, _⟩ <;> rfl
  · rcases h with ⟨z, rfl, hz, k⟩ | ⟨x, t, rfl, ht, hk, k⟩
    all_goals refine ⟨_, pss_one (ps_ret (pe_and (pe_callB call_isi (by rfl) T.inst (by decide +kernel) (pa_cons (pv 0) (pa_cons (pe_bltn (v := .ty "str") (by rfl) T.str (by decide +kernel) rfl) pa_nil)))
        (pe_one (pe_cmpR op_eq (pe_bm PySem.F.plainAttrs_str PySem.F.slot_str_strip PySem.F.type_str_strip mt_stripChars (pv 0) (pa_cons pe_str pa_nil)) pe_str (nomark _))))), ?_⟩
    · refine s_ret (ev_is (ev_andV (ev_cb (ea_cons (ev_var rfl) (ea_cons ev_c ea_nil)) (rc_isi (.base (.str z)) kit_str_str)) fun _ => ev_op (ev_strip (ev_var rfl) ev_c (by omega)) ev_c (rv_eq rfl)) (by rw [Bool.true_and]; rfl)) k
    · refine s_ret (ev_is (ev_andV (b := true) (ev_cb (ea_cons (ev_var rfl) (ea_cons ev_c ea_nil)) (rc_isi ht hk)) fun hb => absurd hb (by decide)) rfl) k
theorem spv_signs {H : Hp} {z : Str} (hz : z.length ≤ 1000) : SpV (spSigns K) [.str z] H (.bl (signsB z)) := fun H1 e Q q E => .inl ⟨z, rfl, hz, q⟩
theorem spv_signs0 {H : Hp} {x : V} {t : String} (ht : TyX K H x (.type t)) (hk : kitB t "str" = some false) : SpV (spSigns K) [x] H (.bl false) := fun H1 e Q q E => .inr ⟨x, t, rfl, tyx_mono e ht, hk, q⟩
/-! ### is_signs_within -/
/-- what is_signs_within tells of x -/
def SgV (K : PySem.W.Frag) (H : Hp) (x : V) (lo hi : Int) (b : Bool) : Prop := (∃ z : Str, x = .str z ∧ z.length ≤ 1000 ∧ b = sgB z lo hi) ∨ ∃ T : String, TyX K H x (.type T) ∧ kitB T "str" = some false ∧ b = false
theorem SgV.mono {H H' : Hp} {x : V} {lo hi : Int} {b : Bool} (e : Ex H H') (h : SgV K H x lo hi b) : SgV K H' x lo hi b := h.imp id fun ⟨T, h1, h2⟩ => ⟨T, tyx_mono e h1, h2⟩
theorem sgv_str {H : Hp} {z : Str} {lo hi : Int} (hz : z.length ≤ 1000) : SgV K H (.str z) lo hi (sgB z lo hi) := .inl ⟨z, rfl, hz, rfl⟩
theorem sgv_not {H : Hp} {x : V} {T : String} {lo hi : Int} (h : TyX K H x (.type T)) (hk : kitB T "str" = some false) : SgV K H x lo hi false := .inr ⟨T, h, hk, rfl⟩
def spSignsW (K : PySem.W.Frag) : Sp := fun vs H Q _ => ∃ (x : V) (lo hi : Int) (b : Bool), vs = [x, .int lo, .int hi] ∧ SgV K H x lo hi b ∧ RetV (.bl b) H Q
theorem scSignsW : FnScope ["value", "least", "most"] ["value", "least", "most"] (defScope sSignsW) := ⟨rfl, rfl, rfl, by decide +kernel, rfl, by decide +kernel, by decide +kernel⟩
theorem ok_signsW {f fS : Addr} {fd fdS : FuncData} (F : Fun K "is_signs_within" "is_signs_within" sSignsW f fd) (T : GlbT mg) (FS : Fun K "is_signs" "is_signs" sSigns fS fdS) (bS : Binds K fdS ["value"] []) (gS : mg "is_signs" = some (.ref fS)) :
    FnOk P w K mg base CX0 2 f fd ["value", "least", "most"] (spSignsW K) := by
  have GS : FnOk P w K mg base CX0 1 fS fdS ["value"] (spSigns K) := ok_signs FS T
  refine F.ok scSignsW (fun vs H Q E h => ?_) (fun cdv A outer s H vs Q E hr h => ?_)
  · obtain ⟨x, lo, hi, b, rfl, _⟩ := h
    rfl
  · obtain ⟨x, lo, hi, b, rfl, ⟨z, rfl, hz, rfl⟩ | ⟨t, ht, hk, rfl⟩, k⟩ := h
    all_goals refine ⟨_, pss_one (ps_ret (pe_and (pe_call GS hr (by rfl) gS FS.kp bS .nil pass0 (pa_cons (pv 0) pa_nil)) (pe_one (pe_chain op_le op_le (pv 1) (pe_callB call_len (by rfl) T.len PySem.boot_len (pa_cons (pv 0) pa_nil)) (pv 2))))), ?_⟩
    · exact s_ret (ev_andV (ev_call (ea_cons (ev_var rfl) ea_nil) (spv_signs hz)) fun _ => ev_chain (ev_var rfl) (ev_cb (ea_cons (ev_var rfl) ea_nil) (rc_lenS (by omega))) (ev_var rfl)) k
    · exact s_ret (ev_is (ev_andV (b := true) (ev_call (ea_cons (ev_var rfl) ea_nil) (spv_signs0 ht hk)) fun hb => absurd hb (by decide)) rfl) k
theorem ev_sgw {σ : L2.St} {H : Hp} {ta tb tc : TE} {x : V} {lo hi : Int} {b : Bool} (ha : Ev ta σ H x) (hb : Ev tb σ H (.int lo)) (hc : Ev tc σ H (.int hi)) (h : SgV K H x lo hi b) : Ev (tCall (spSignsW K) [] E0 (tCons ta (tCons tb (tCons tc tNil)))) σ H (.bl b) :=
  ev_call (z := .bl b) (ea_cons ha (ea_cons hb (ea_cons hc ea_nil))) fun H1 e Q q E => ⟨x, lo, hi, b, rfl, h.mono e, q⟩
/-! ### words_of -/
abbrev BadT (CB : Addr) (n : Int) (H : Hp) (E : XK) : Prop := Out2 CB "line" "word" (.int 0) (.int n) H E
def spWo (K : PySem.W.Frag) (CB : Addr) : Sp := fun vs H Q E => (∃ ws, vs = [.str (tx ws)] ∧ ws ≠ [] ∧ Free ws ∧ (tx ws).length ≤ 1000 ∧ ∀ p H', H p = none → Ex H H' → H' p = some (.lst (ws.map V.str)) → Q (.ref p) H') ∨
  ∃ (x : V) (T : String), vs = [x] ∧ TyX K H x (.type T) ∧ kitB T "str" = some false ∧ BadT CB 0 H E
theorem scWo : FnScope ["text"] ["text"] (defScope sWo) := ⟨rfl, rfl, rfl, by decide +kernel, rfl, by decide +kernel, by decide +kernel⟩
theorem ok_Wo {f CB fB : Addr} {fd fdB : FuncData} (F : Fun K "words_of" "words_of" sWo f fd) (TT : GlbT mg) (B : GTwo P w K mg base "BadText" "line" "word" CB fB fdB) : FnOk P w K mg base (L2.CX P w) 3 f fd ["text"] (spWo K CB) := by
  refine F.okX scWo (fun vs H Q E h => ?_) (fun cdv A outer s H vs Q E hr h => ?_)
  · rcases h with ⟨ws, rfl, _⟩ | ⟨x, t, rfl, _⟩ <;> rfl
  · have hr := hr
    rcases h with ⟨ws, rfl, hn, ok, hl, k⟩ | ⟨x, t, rfl, ht, hk, k⟩
    all_goals refine ⟨_, pss_cons (ps_if (pt_not (pt_val (pe_callB call_isi (by rfl) TT.inst (by decide +kernel) (pa_cons (pv 0) (pa_cons (pe_bltn (v := .ty "str") (by rfl) TT.str (by decide +kernel) rfl) pa_nil)))))
        (pss_one (ps_raise rfl (takes_of rfl rfl rfl rfl) (pmk_oex B.ox B.init B.ty B.ok hr B.b .nil pass0 (by rfl) B.g (pa_cons pe_int (pa_cons pe_int pa_nil))))) pss_nil)
      (pss_one (ps_ret (pe_split (pv 0) pe_str))), ?_⟩
    · refine q_when (b := false) (et_is (et_not (et_B (ev_cb (ea_cons (ev_var rfl) (ea_cons ev_c ea_nil)) (rc_isi (.base (.str _)) kit_str_str)))) rfl) (fun hb => absurd hb (by decide)) (fun _ H1 e1 => ?_)
      refine ⟨_, rfl, ⟨_, rfl⟩, _, " ", rfl, rfl, by decide +kernel, sz_of (n := (tx ws).length + 2) (by omega), ?_⟩
      rw [split_tx hn ok]
      exact fun p hp => k p _ (fresh_back e1 hp) (e1.trans (Ex.new hp)) (by rw [upd_same])
    · refine q_when (b := true) (et_is (et_not (et_B (ev_cb (ea_cons (ev_var rfl) (ea_cons ev_c ea_nil)) (rc_isi ht hk)))) rfl) (fun _ H1 e1 => ?_) (fun hb => absurd hb (by decide))
      exact raise_two (ea_cons ev_c (ea_cons ev_c ea_nil)) (k.mono e1)
end
end K08
namespace K08
open PySem L2 Evl Gr SrtT
abbrev sIsP : Stmt := top 21
abbrev sCan : Stmt := top 22
structure GlbD (mg : Str → Option Value) : Prop where
  most : ∃ t, mg "MOST_PAIRS" = some (.int 4 t)
  divmod : mg "divmod" = none
def rLenQ (K : PySem.W.Frag) : List V → Hp → VK → Prop := fun xs H Q => ∃ p ys, xs = [V.ref p] ∧ (SqL K H p ys ∨ SqT K H p ys) ∧ Q (.int ys.length) H
theorem ty_tup {K : PySem.W.Frag} {H : Hp} {a : Addr} {xs : List V} (h : SqT K H a xs) : TyX K H (.ref a) (.type "tuple") := by
  rcases h with (h | ⟨o, h⟩) | h
  · exact .base (.tup h)
  · exact .fTuple h
  · obtain ⟨o, its, n, lk, hc, _⟩ := h
    exact .kTuple lk hc
theorem rv_ixT_ {K : PySem.W.Frag} {H : Hp} {p : Addr} {xs : List V} {i : Int} {v : V} (h : SqT K H p xs) (ha : atI xs i = some v) : RV (rIxT K) (.ref p) (.int i) H v := fun H1 e Q q => ⟨p, xs, i, v, rfl, rfl, ex_t e h, ha, q H1 (Ex.refl H1)⟩
theorem q_divmod {K : PySem.W.Frag} {σ : L2.St} {H : Hp} {ta : TA} {a b : Int} {i j : Nat} {tz : TS} {D : Ends} (h : EvA ta σ H [.int a, .int b]) (hc : CDiv a b) (k : ∀ H1, Ex H H1 → tz D ((σ.set i (some (.int (a / b)))).set j (some (.int (a % b)))) H1) :
    tSeq (tAsg (tCB (fun xs H Q => ∃ i j, xs = [V.int i, V.int j] ∧ CDiv i j ∧ ∀ p, H p = none → Q (.ref p) (upd H p (.tup [.int (i / j), .int (i % j)]))) ta) (gTup K 2 (gCons (gName i) (gCons (gName j) gNil)))) tz D σ H :=
  h H (Ex.refl H) _ fun H2 e2 => ⟨a, b, rfl, hc, fun p hp => ⟨p, _, rfl, st_of upd_same, rfl, _, _, rfl, _, _, rfl, rfl, k _ (e2.trans (Ex.new hp))⟩⟩
section
variable {P : Program} {w : World} {K : PySem.W.Frag} {mg : Str → Option Value} {base : Heap}
theorem kit_tt : kitB "tuple" "tuple" = some true := by decide +kernel
/-! ### is_pair -/
/-- what is_pair tells of x -/
def PairV (K : PySem.W.Frag) (H : Hp) (x : V) (b : Bool) : Prop := (∃ T : String, TyX K H x (.type T) ∧ kitB T "tuple" = some false ∧ b = false) ∨ (∃ a xs, x = .ref a ∧ SqT K H a xs ∧ xs.length ≠ 2 ∧ b = false) ∨
  ∃ a u v b1 b2, x = .ref a ∧ SqT K H a [u, v] ∧ SgV K H u 1 8 b1 ∧ SgV K H v 1 1 b2 ∧ b = (b1 && b2)
theorem PairV.mono {H H' : Hp} {x : V} {b : Bool} (e : Ex H H') (h : PairV K H x b) : PairV K H' x b := by
  rcases h with ⟨T, h1, h2⟩ | ⟨a, xs, h0, h1, h2⟩ | ⟨a, u, v, b1, b2, h0, h1, h2, h3, h4⟩
  · exact .inl ⟨T, tyx_mono e h1, h2⟩
  · exact .inr (.inl ⟨a, xs, h0, ex_t e h1, h2⟩)
  · exact .inr (.inr ⟨a, u, v, b1, b2, h0, ex_t e h1, h2.mono e, h3.mono e, h4⟩)
def spIsP (K : PySem.W.Frag) : Sp := fun vs H Q _ => ∃ (x : V) (b : Bool), vs = [x] ∧ PairV K H x b ∧ RetV (.bl b) H Q
theorem scIsP : FnScope ["value"] ["value"] (defScope sIsP) := ⟨rfl, rfl, rfl, by decide +kernel, rfl, by decide +kernel, by decide +kernel⟩
theorem ev_lenTu {σ : L2.St} {H : Hp} {ta : TE} {xs : List V} (h : EvTu K ta σ H xs) : Ev (tCB (rLenQ K) (tCons ta tNil)) σ H (.int (xs.length : Int)) := fun H1 e Q q => h H1 e _ fun p H2 e2 hp => ⟨p, xs, rfl, .inr hp, q H2 e2⟩
theorem ok_IsP {f : Addr} {fd : FuncData} (F : Fun K "is_pair" "is_pair" sIsP f fd) (T : GlbT mg) (S : GlbS mg) (GW : Gfn P w K mg base 2 "is_signs_within" ["value", "least", "most"] (spSignsW K)) : FnOk P w K mg base CX0 3 f fd ["value"] (spIsP K) := by
  obtain ⟨fW, fdW, GW, kW, bW, gW⟩ := GW
  refine F.ok scIsP (fun vs H Q E h => ?_) (fun cdv A outer s H vs Q E hr h => ?_)
  · obtain ⟨x, b, rfl, _⟩ := h
    rfl
  · obtain ⟨x, b, rfl, hx, k⟩ := h
    refine ⟨_, pss_cons (ps_if (PW.pt (pw_or (pt_not (pt_val (pe_callB call_isi (by rfl) T.inst (by decide +kernel) (pa_cons (pv 0) (pa_cons (pe_bltn (v := .ty "tuple") (by rfl) S.tuple (by decide +kernel) rfl) pa_nil)))))
        (pw_or1 (pt_cmpR op_ne (pe_callB call_len_seq (by rfl) T.len PySem.boot_len (pa_cons (pv 0) pa_nil)) pe_int (nomark _))))) (pss_one (ps_ret pe_bl)) pss_nil)
      (pss_one (ps_ret (pe_and (pe_call GW hr (by rfl) gW kW bW .nil pass0 (pa_cons (pe_ix ix_tup (pv 0) pe_int (fun _ _ => rfl)) (pa_cons pe_int (pa_cons pe_int pa_nil))))
        (pe_one (pe_call GW hr (by rfl) gW kW bW .nil pass0 (pa_cons (pe_ix ix_tup (pv 0) pe_int (fun _ _ => rfl)) (pa_cons pe_int (pa_cons pe_int pa_nil)))))))), ?_⟩
    rcases hx with ⟨t, ht, hk, rfl⟩ | ⟨a, xs, rfl, hs, hl, rfl⟩ | ⟨a, u, v, b1, b2, rfl, hs, h1, h2, rfl⟩
    · refine q_when (b := true) (et_is (et_or (b := true) (et_not (et_B (ev_cb (ea_cons (ev_var rfl) (ea_cons ev_c ea_nil)) (rc_isi ht hk)))) fun z => absurd z (by decide)) rfl) (fun _ H1 e1 => ?_) (fun hb => absurd hb (by decide))
      exact k H1 e1
    · refine q_when (b := true) (et_is (et_or (et_not (et_B (ev_cb (ea_cons (ev_var rfl) (ea_cons ev_c ea_nil)) (rc_isi (ty_tup hs) kit_tt)))) fun _ => et_test (ev_op (ev_lenTu (etu_var rfl hs)) ev_c (rv_ne rfl))) ?_) (fun _ H1 e1 => ?_) (fun hb => absurd hb (by decide))
      · rw [vint_inj, decide_eq_false (show ¬ ((xs.length : Int) = 2) by omega)]
        rfl
      · exact k H1 e1
    · refine q_when (b := false) (et_is (et_or (et_not (et_B (ev_cb (ea_cons (ev_var rfl) (ea_cons ev_c ea_nil)) (rc_isi (ty_tup hs) kit_tt)))) fun _ => et_test (ev_op (ev_lenTu (etu_var rfl hs)) ev_c (rv_ne rfl))) ?_) (fun hb => absurd hb (by decide)) (fun _ H1 e1 => ?_)
      · rfl
      · have hs1 := ex_t e1 hs
        exact s_ret (ev_andV (ev_sgw (ev_op (ev_var rfl) ev_c (rv_ixT_ hs1 (i := 0) rfl)) ev_c ev_c (h1.mono e1)) fun _ => ev_sgw (ev_op (ev_var rfl) ev_c (rv_ixT_ hs1 (i := 1) rfl)) ev_c ev_c (h2.mono e1)) fun H2 e2 => k H2 (e1.trans e2)
/-! ### can_stand -/
def spCan (K : PySem.W.Frag) : Sp := fun vs H Q _ => ∃ (p : Addr) (ws : List Str) (i : Nat), vs = [.ref p, .int (i : Int)] ∧ SqL K H p (ws.map V.str) ∧ i < ws.length ∧ ws.length ≤ 1000 ∧ (∀ z ∈ ws, z.length ≤ 1000) ∧ RetV (.bl (standB ws i)) H Q
abbrev nCan : List Str := ["words", "at", "word", "pair", "place"]
theorem scCan : FnScope nCan ["words", "at"] (defScope sCan) := ⟨rfl, rfl, rfl, by decide +kernel, rfl, by decide +kernel, by decide +kernel⟩
theorem atI_ws {ws : List Str} {i : Nat} (h : i < ws.length) : atI (ws.map V.str) (i : Int) = some (V.str (gw ws i)) := atI_nat (by rw [List.getElem?_map, gw_get h]; rfl)
theorem gw_mem {ws : List Str} {i : Nat} (h : i < ws.length) : gw ws i ∈ ws := List.mem_of_getElem? (gw_get h)
theorem dec_str {a b : Str} : decide (V.str a = V.str b) = decide (a = b) := by
  rw [decide_eq_decide]
  exact ⟨fun h => V.str.inj h, fun h => congrArg V.str h⟩
theorem ok_Can {f : Addr} {fd : FuncData} (F : Fun K "can_stand" "can_stand" sCan f fd) (D : GlbD mg) (GW : Gfn P w K mg base 2 "is_signs_within" ["value", "least", "most"] (spSignsW K)) : FnOk P w K mg base CX0 3 f fd ["words", "at"] (spCan K) := by
  obtain ⟨fW, fdW, GW, kW, bW, gW⟩ := GW
  obtain ⟨t4, g4⟩ := D.most
  refine F.ok scCan (fun vs H Q E h => ?_) (fun cdv A outer s H vs Q E hr h => ?_)
  · obtain ⟨p, ws, i, rfl, _⟩ := h
    rfl
  · obtain ⟨p, ws, i, rfl, hp, hi, hz, hw, k⟩ := h
    refine ⟨_, pss_cons (ps_asg (pe_ix ix_list (pv 0) (pv 1) (fun _ _ => rfl)) (pg_name (i := 2) scCan.nd rfl (.inl rfl)))
      (pss_cons (ps_if (pt_cmpR op_eq (pv 1) pe_int (nomark _)) (pss_one (ps_ret (pe_call GW hr (by rfl) gW kW bW .nil pass0 (pa_cons (pv 2) (pa_cons pe_int (pa_cons pe_int pa_nil)))))) pss_nil)
      (pss_cons (ps_if (pt_cmpR op_eq (pv 1) pe_int (nomark _)) (pss_one (ps_ret (pe_cmpR op_eq (pv 2) pe_str (nomark _)))) pss_nil)
      (pss_cons (ps_asg (pe_callB call_divmod (by rfl) D.divmod (by decide +kernel) (pa_cons (pe_op op_sub (pv 1) pe_int) (pa_cons pe_int pa_nil))) (pg_tup rfl (pgs_cons (pg_name (i := 3) scCan.nd rfl (.inl rfl)) (pgs_cons (pg_name (i := 4) scCan.nd rfl (.inl rfl)) pgs_nil))))
      (pss_cons (ps_if (pt_cmpR op_eq (pv 4) pe_int (nomark _)) (pss_one (ps_ret (pe_and (pe_call GW hr (by rfl) gW kW bW .nil pass0 (pa_cons (pv 2) (pa_cons pe_int (pa_cons pe_int pa_nil))))
        (pe_and (pe_cmpR op_lt (pv 3) (pe_glob (v := .int 4) rfl g4 ⟨_, rfl⟩) (nomark _)) (pe_one (pe_or (pe_cmpR op_eq (pv 3) pe_int (nomark _)) (pe_one (pe_cmpR op_lt_str (pe_ix ix_list (pv 0) (pe_op op_sub (pv 1) pe_int) (fun _ _ => rfl)) (pv 2) (nomark _))))))))) pss_nil)
      (pss_cons (ps_if (pt_cmpR op_eq (pv 4) pe_int (nomark _)) (pss_one (ps_ret (pe_call GW hr (by rfl) gW kW bW .nil pass0 (pa_cons (pv 2) (pa_cons pe_int (pa_cons pe_int pa_nil)))))) pss_nil)
      (pss_one (ps_ret (pe_cmpR op_eq (pv 2) pe_str (nomark _))))))))), ?_⟩
    have hgw := hw _ (gw_mem hi)
    have wd : ∀ {H1 : Hp} {lo hi : Int}, SgV K H1 (.str (gw ws i)) lo hi (sgB (gw ws i) lo hi) := sgv_str hgw
    refine q_asg (ev_op (ev_var rfl) (ev_var rfl) (rv_ixL hp (atI_ws hi))) fun H1 e1 => ?_
    refine q_when (et_test (ev_op (ev_var rfl) ev_c (rv_eq rfl))) (fun hb H2 e2 => ?_) (fun hb H2 e2 => ?_)
    · rw [vint_inj, decide_eq_true_iff] at hb
      obtain rfl : i = 0 := by omega
      exact s_ret (ev_sgw (ev_var rfl) ev_c ev_c wd) fun H3 e3 => k H3 ((e1.trans e2).trans e3)
    rw [vint_inj, decide_eq_false_iff_not] at hb
    have n0 : i ≠ 0 := by omega
    refine q_when (et_test (ev_op (ev_var rfl) ev_c (rv_eq rfl))) (fun hb H3 e3 => ?_) (fun hb H3 e3 => ?_)
    · rw [vint_inj, decide_eq_true_iff] at hb
      obtain rfl : i = 1 := by omega
      exact s_ret (ev_is (ev_op (ev_var rfl) ev_c (rv_eq rfl)) (by rw [dec_str]; rfl)) fun H4 e4 => k H4 (((e1.trans e2).trans e3).trans e4)
    rw [vint_inj, decide_eq_false_iff_not] at hb
    have n1 : i ≠ 1 := by omega
    have E3 := (e1.trans e2).trans e3
    refine q_divmod (ea_cons (ev_op (ev_var rfl) ev_c rv_I0) (ea_cons ev_c ea_nil)) (by unfold CDiv; omega) fun H4 e4 => ?_
    have c1 : ((i : Int) - 2) / 3 = (((i - 2) / 3 : Nat) : Int) := by omega
    have c2 : ((i : Int) - 2) % 3 = (((i - 2) % 3 : Nat) : Int) := by omega
    rw [c1, c2]
    have E4 := E3.trans e4
    refine q_when (et_test (ev_op (ev_var rfl) ev_c (rv_eq rfl))) (fun hb H5 e5 => ?_) (fun hb H5 e5 => ?_)
    · rw [vint_inj, decide_eq_true_iff] at hb
      have m0 : (i - 2) % 3 = 0 := by omega
      have E5 := E4.trans e5
      refine s_ret (v := .bl (standB ws i)) (ev_is (ev_andV (ev_sgw (ev_var rfl) ev_c ev_c wd) fun _ => ev_andV (ev_op (ev_var rfl) ev_c rv_I0) fun _ =>
        ev_orV (ev_op (ev_var rfl) ev_c (rv_eq rfl)) fun hp0 => ev_op (ev_op (ev_var rfl) (ev_op (ev_var rfl) ev_c rv_I0) (rv_ixL (i := (i : Int) - 3) (v := .str (gw ws (i - 3))) (ex_l E5 hp) ?_)) (ev_var rfl) fun H6 e6 Q q => ⟨_, _, rfl, rfl, q H6 (Ex.refl H6)⟩) ?_) fun H6 e6 => k H6 (E5.trans e6)
      · rw [vint_inj, decide_eq_false_iff_not] at hp0
        rw [show (i : Int) - 3 = ((i - 3 : Nat) : Int) by omega]
        exact atI_ws (by omega)
      · unfold standB
        rw [if_neg n0, if_neg n1, if_pos m0, vint_inj]
        have d1 : decide ((((i - 2) / 3 : Nat) : Int) < 4) = decide ((i - 2) / 3 < 4) := by rw [decide_eq_decide]; omega
        have d2 : decide ((((i - 2) / 3 : Nat) : Int) = 0) = decide ((i - 2) / 3 = 0) := by rw [decide_eq_decide]; omega
        rw [d1, d2]
        rfl
    rw [vint_inj, decide_eq_false_iff_not] at hb
    have m0 : ¬ (i - 2) % 3 = 0 := by omega
    refine q_when (et_test (ev_op (ev_var rfl) ev_c (rv_eq rfl))) (fun hb H6 e6 => ?_) (fun hb H6 e6 => ?_)
    · rw [vint_inj, decide_eq_true_iff] at hb
      have m1 : (i - 2) % 3 = 1 := by omega
      refine s_ret (ev_is (ev_sgw (ev_var rfl) ev_c ev_c wd) ?_) fun H7 e7 => k H7 (((E4.trans e5).trans e6).trans e7)
      unfold standB
      rw [if_neg n0, if_neg n1, if_neg m0, if_pos m1]
    · rw [vint_inj, decide_eq_false_iff_not] at hb
      have m1 : ¬ (i - 2) % 3 = 1 := by omega
      refine s_ret (ev_is (ev_op (ev_var rfl) ev_c (rv_eq rfl)) ?_) fun H7 e7 => k H7 (((E4.trans e5).trans e6).trans e7)
      unfold standB
      rw [if_neg n0, if_neg n1, if_neg m0, if_neg m1, dec_str]
end
end K08
namespace L2
open PySem PySem.Spec PyProof.Rows
section
variable {X : Cx} {st : Stmt} {t : TS}
/-- a statement that lets nothing out, among such as do -/
theorem PS.calm_ (h : PS X.nox st t) : PS X st t := ⟨fun pins s σ H D I hw => wpAny_mono (h.run pins s σ H D (I.wish _) hw) (fun f s' q => SP.unwish q) fun _ _ z => absurd z id⟩
end
end L2
namespace K08
open PySem L2 Evl Gr StX EnT ClX SrtT StS
abbrev sFr (i : Nat) : Stmt := inClass (top 24) i
/-! ### rows of pairs -/
/-- the pair of texts that stands at v -/
def ctn (H : Hp) (v : V) : Option Pr := match v with
  | .ref t => match H t with
    | some (.tup [.str a, .str b]) => some (a, b)
    | _ => none
  | _ => none
theorem ctn_iff {H : Hp} {v : V} {p : Pr} : ctn H v = some p ↔ ∃ t, v = .ref t ∧ H t = some (.tup [.str p.1, .str p.2]) := by
  constructor
  · intro h
    unfold ctn at h
    split at h
    · rename_i t
      split at h
      · rename_i a b e
        cases h
        exact ⟨t, rfl, e⟩
      · cases h
    · cases h
  · rintro ⟨t, rfl, h⟩
    unfold ctn
    simp only [h]
theorem ctn_mono {H H' : Hp} {v : V} {p : Pr} (e : Ex H H') (h : ctn H v = some p) : ctn H' v = some p := by
  rw [ctn_iff] at h ⊢
  obtain ⟨t, h1, h2⟩ := h
  exact ⟨t, h1, e _ _ h2⟩
def Prs (H : Hp) (vs : List V) (ps : List Pr) : Prop := vs.map (ctn H) = ps.map some
theorem Prs.len {H : Hp} {vs : List V} {ps : List Pr} (h : Prs H vs ps) : vs.length = ps.length := by
  have := congrArg List.length h
  rwa [List.length_map, List.length_map] at this
theorem Prs.at {H : Hp} {vs : List V} {ps : List Pr} (h : Prs H vs ps) {k : Nat} {x : V} (hx : vs[k]? = some x) : ∃ t p, x = .ref t ∧ ps[k]? = some p ∧ H t = some (.tup [.str p.1, .str p.2]) := by
  have := congrArg (fun l => l[k]?) h
  simp only [List.getElem?_map, hx, Option.map_some] at this
  obtain ⟨p, hp, e⟩ := Option.map_eq_some_iff.mp this.symm
  obtain ⟨t, h1, h2⟩ := ctn_iff.mp e.symm
  exact ⟨t, p, h1, hp, h2⟩
theorem Prs.to {H H' : Hp} {vs : List V} {ps : List Pr} (h : Prs H vs ps) (k : ∀ (t : Addr) (p : Pr), H t = some (.tup [.str p.1, .str p.2]) → H' t = some (.tup [.str p.1, .str p.2])) : Prs H' vs ps := by
  unfold Prs at *
  rw [← h]
  refine List.map_congr_left fun v hv => ?_
  obtain ⟨p, hp, e⟩ := List.mem_map.mp (h ▸ List.mem_map.mpr ⟨v, hv, rfl⟩ : ctn H v ∈ ps.map some)
  obtain ⟨t, h1, h2⟩ := ctn_iff.mp e.symm
  rw [← e, ctn_iff]
  exact ⟨t, h1, k t p h2⟩
theorem Prs.mono {H H' : Hp} {vs : List V} {ps : List Pr} (e : Ex H H') (h : Prs H vs ps) : Prs H' vs ps := h.to fun t p q => e _ _ q
theorem Prs.upd {H : Hp} {vs : List V} {ps : List Pr} {o C dx : Addr} {fs : List (Str × V)} {u : HO} (h : Prs H vs ps) (ho : H o = some (.ins C dx fs)) : Prs (L2.upd H o u) vs ps := h.to fun t p q => by
  rw [upd_ne (fun z => by rw [z, ho] at q; cases q)]
  exact q
theorem prs_key {H : Hp} {vs : List V} {ps : List Pr} (h : Prs H vs ps) : vs.map (fun x => (ctn H x).getD (mt, mt)) = ps := by
  have := congrArg (List.map fun o : Option Pr => o.getD (mt, mt)) h
  rw [List.map_map, List.map_map] at this
  rw [show (fun x => (ctn H x).getD (mt, mt)) = (fun o : Option Pr => o.getD (mt, mt)) ∘ ctn H from rfl, this]
  exact List.map_id _
theorem prs_key_at {H : Hp} {vs : List V} {ps : List Pr} (h : Prs H vs ps) {x : V} (hx : x ∈ vs) : ctn H x = some ((ctn H x).getD (mt, mt)) := by
  obtain ⟨p, _, e⟩ := List.mem_map.mp (h ▸ List.mem_map.mpr ⟨x, hx, rfl⟩ : ctn H x ∈ ps.map some)
  rw [← e]
  rfl
theorem prs_nil {H : Hp} : Prs H [] [] := rfl
theorem prs_cons {H : Hp} {t : Addr} {p : Pr} {vs : List V} {ps : List Pr} (h : H t = some (.tup [.str p.1, .str p.2])) (r : Prs H vs ps) : Prs H (.ref t :: vs) (p :: ps) := by
  unfold Prs at *
  rw [List.map_cons, List.map_cons, r, ctn_iff.mpr ⟨t, rfl, h⟩]
theorem pair_v {K : PySem.W.Frag} {H : Hp} {t : Addr} {p : Pr} (h : H t = some (.tup [.str p.1, .str p.2])) (ok : PairOk p) : PairV K H (.ref t) true := by
  obtain ⟨h1, h2⟩ := ok
  have l1 := sgB_iff.mp h1
  have l2 := sgB_iff.mp h2
  refine .inr (.inr ⟨t, _, _, true, true, rfl, st_of h, ?_, ?_, rfl⟩)
  · have := sgv_str (K := K) (H := H) (z := p.1) (lo := 1) (hi := 8) (by omega)
    rwa [h1] at this
  · have := sgv_str (K := K) (H := H) (z := p.2) (lo := 1) (hi := 1) (by omega)
    rwa [h2] at this
/-! ### comprehensions over pairs -/
section
variable {K : PySem.W.Frag} {σ : L2.St} {H : Hp} {te ta tl : TE} {t : TT}
theorem el_pairT {ps : List Pr} {xs : List V} {i j : Nat} {vs : List Nat} (f : Pr → Bool) (g : Pr → V) (h : EvTu K tl σ H xs) (hx : Prs H xs ps) (hz : ps.length ≤ 40000) (hw : ∀ x y, wipe (((wipe σ vs).set i (some x)).set j (some y)) vs = wipe σ vs)
    (ht : ∀ p ∈ ps, ∀ H1, Ex H H1 → EvT t (((wipe σ vs).set i (some (.str p.1))).set j (some (.str p.2))) H1 (f p)) (he : ∀ p ∈ ps, ∀ H1, Ex H H1 → f p = true → Ev te (((wipe σ vs).set i (some (.str p.1))).set j (some (.str p.2))) H1 (g p)) :
    EvL (tLc (iTup K tl) (gTup K 2 (gCons (gName i) (gCons (gName j) gNil))) t te vs) σ H ((ps.filter f).map g) := by
  have len := hx.len
  have main : EvL (tLc (iTup K tl) (gTup K 2 (gCons (gName i) (gCons (gName j) gNil))) t te vs) σ H (given xs.length (at_ ps f) (got ps g)) := fun H0 e Q q => h H0 e _ fun a H1 e1 ha =>
    ⟨a, rfl, ⟨xs, ha⟩, fun Dl hD => lc_it (n := xs.length) (walk_tup (xs := xs)) (Cw H1 (at_ ps f) (got ps g) Dl) ⟨hD, Ex.new hD, upd_same⟩ (fun _ H' _ p => ex_t p.2.1 ha)
      (fun k x H' H'' hk p y => by
        obtain ⟨rfl, hx'⟩ := y
        obtain ⟨T, q, rfl, hq, hT⟩ := hx.at hx'
        have eT := (e.trans e1).trans p.2.1
        have hm := List.mem_of_getElem? hq
        refine ⟨T, _, rfl, st_of (eT _ _ hT), rfl, _, _, rfl, _, _, rfl, rfl, hw _ _, cw_turn p (by omega) ?_ fun hf => ?_⟩
        · rw [at_of hq]
          exact ht q hm H1 (e.trans e1)
        · rw [at_of hq] at hf
          rw [got_of hq]
          exact he q hm H1 (e.trans e1) hf)
      (fun H' p => q Dl H' (fresh_back e1 p.1) (e1.trans p.2.1) p.2.2)⟩
  rw [len, given_of] at main
  exact main
end
/-! ### FrameRule -/
structure FName (K : PySem.W.Frag) (mg : Str → Option Value) (C : Addr) (mc : Value) : Prop where
  g : mg "FrameRule" = some (.ref C)
  rd : CRead K C mc
structure FCls (K : PySem.W.Frag) (C : Addr) : Prop where
  cls : Cls K C
  flag : NoAttr K C "flag"
  pairs : NoAttr K C "pairs"
/-- a rule of this flag and these pairs stands at o -/
def RuleAt (K : PySem.W.Frag) (C : Addr) (H : Hp) (o : Addr) (f : Str) (ps : List Pr) : Prop := ∃ dx q vs, H o = some (.ins C dx [("flag", .str f), ("pairs", .ref q)]) ∧ SqT K H q vs ∧ Prs H vs ps ∧ Good f ps
theorem RuleAt.mono {K : PySem.W.Frag} {C : Addr} {H H' : Hp} {o : Addr} {f : Str} {ps : List Pr} (e : Ex H H') (h : RuleAt K C H o f ps) : RuleAt K C H' o f ps := by
  obtain ⟨dx, q, vs, h1, h2, h3, h4⟩ := h
  exact ⟨dx, q, vs, e _ _ h1, ex_t e h2, h3.mono e, h4⟩
theorem RuleAt.good {K : PySem.W.Frag} {C : Addr} {H : Hp} {o : Addr} {f : Str} {ps : List Pr} (h : RuleAt K C H o f ps) : Good f ps := by
  obtain ⟨dx, q, vs, h1, h2, h3, h4⟩ := h
  exact h4
theorem RuleAt.ins {K : PySem.W.Frag} {C : Addr} {H : Hp} {o : Addr} {f : Str} {ps : List Pr} (h : RuleAt K C H o f ps) : ∃ dx fs, H o = some (.ins C dx fs) := by
  obtain ⟨dx, q, vs, h1, _⟩ := h
  exact ⟨dx, _, h1⟩
theorem q_forE {K : PySem.W.Frag} {σ : L2.St} {H : Hp} {a : Addr} {xs : List V} {ta : TA} {g : TG} {tu tz : TS} {D : Ends} (h : EvA ta σ H [.ref a]) (hx : SqT K H a xs) (Pv : Nat → L2.St → Hp → Prop) (h0 : ∀ H1, Ex H H1 → Pv 0 σ H1) (hl : ∀ i σ' H', i ≤ xs.length → Pv i σ' H' → SqT K H' a xs)
    (hs : ∀ i x σ' H' T, xs[i]? = some x → Pv i σ' H' → H' T = none → g (.ref T) σ' (L2.upd H' T (.tup [.int (i : Nat), x])) fun σ2 H2 => tu { D with nx := Pv (i + 1), ct := Pv (i + 1), bk := tz D } σ2 H2)
    (hd : ∀ σ' H', Pv xs.length σ' H' → tz D σ' H') : tSeq (tFor (iEnumT K ta) g tu) tz D σ H :=
  h H (Ex.refl H) _ fun H1 e1 => ⟨a, xs, rfl, ex_t e1 hx, for_it (D := { D with nx := tz D }) walk_enumT Pv (h0 H1 e1) hl (fun i v σ' H' H2 hi p y => by
    obtain ⟨T, x, z, rfl, hn, rfl, ex, ez⟩ := y
    obtain rfl := Option.some.inj ex
    exact hs i z σ' H' T ez p hn) hd⟩
structure GlbI (mg : Str → Option Value) : Prop where
  enum : mg "enumerate" = none
  set : mg "set" = none
  sorted : mg "sorted" = none
/-! what is wrong with what a rule is made of -/
abbrev BadR (CR : Addr) (v : V) (H : Hp) (E : XK) : Prop := Out1 CR "part" v H E
abbrev ManyW (CM : Addr) (H : Hp) (E : XK) : Prop := Out2 CM "what" "most" (.str "watches") (.int 4) H E
/-- what __init__ is told: the flag x, the pairs vs -/
def Made (K : PySem.W.Frag) (CR CM : Addr) (x : V) (vs : List V) (H : Hp) (E : XK) (ok : Str → List Pr → Prop) : Prop :=
  (SgV K H x 2 8 false ∧ BadR CR (.str "flag") H E) ∨ ∃ f, x = .str f ∧ sgB f 2 8 = true ∧
    ((∃ (i : Nat) (y : V), vs[i]? = some y ∧ PairV K H y false ∧ (∀ (j : Nat) (z : V), j < i → vs[j]? = some z → PairV K H z true) ∧ BadR CR (.int (i : Int)) H E) ∨
      ∃ ps, Prs H vs ps ∧ (∀ p ∈ ps, PairOk p) ∧ ps.length ≤ 900 ∧ ((¬ (ps.map (·.1)).Nodup ∧ BadR CR (.str "watch") H E) ∨ ((ps.map (·.1)).Nodup ∧ 4 < ps.length ∧ ManyW CM H E) ∨ ((ps.map (·.1)).Nodup ∧ ps.length ≤ 4 ∧ ok f ps)))
theorem Made.mono {K : PySem.W.Frag} {CR CM : Addr} {x : V} {vs : List V} {H H' : Hp} {E : XK} {ok ok' : Str → List Pr → Prop} (e : Ex H H') (k : ∀ f ps, ok f ps → ok' f ps) (h : Made K CR CM x vs H E ok) : Made K CR CM x vs H' E ok' := by
  rcases h with ⟨h1, h2⟩ | ⟨f, hf, h0, ⟨i, y, h1, h2, h3, h4⟩ | ⟨ps, h1, h2, h3, ⟨h4, h5⟩ | ⟨h4, h5, h6⟩ | ⟨h4, h5, h6⟩⟩⟩
  · exact .inl ⟨h1.mono e, h2.mono e⟩
  · exact .inr ⟨f, hf, h0, .inl ⟨i, y, h1, h2.mono e, fun j z a b => (h3 j z a b).mono e, h4.mono e⟩⟩
  · exact .inr ⟨f, hf, h0, .inr ⟨ps, h1.mono e, h2, h3, .inl ⟨h4, h5.mono e⟩⟩⟩
  · exact .inr ⟨f, hf, h0, .inr ⟨ps, h1.mono e, h2, h3, .inr (.inl ⟨h4, h5, h6.mono e⟩)⟩⟩
  · exact .inr ⟨f, hf, h0, .inr ⟨ps, h1.mono e, h2, h3, .inr (.inr ⟨h4, h5, k _ _ h6⟩)⟩⟩
abbrev nInit : List Str := ["self", "flag", "pairs", "at", "pair", "watch", "_"]
def spInit (K : PySem.W.Frag) (C CR CM : Addr) : Sp := fun vs H Q E => ∃ (o p dx : Addr) (x : V) (xs : List V), vs = [.ref o, x, .ref p] ∧ H o = some (.ins C dx []) ∧ SqT K H p xs ∧ xs.length ≤ 900 ∧
  Made K CR CM x xs H E fun f ps => ∀ qs H', Good f qs → qs.Perm ps → Keep o H H' → RuleAt K C H' o f qs → Q .non H'
def spInitA (K : PySem.W.Frag) (C CR CM : Addr) : Sp := fun vs H Q E => ∃ ws rest, vs = ws ++ rest ∧ ws.length = (["self", "flag"] : List Str).length ∧ rest.length ≤ sizeLine ∧ ∀ p, H p = none → spInit K C CR CM (ws ++ [V.ref p]) (L2.upd H p (.tup rest)) Q E
theorem scInit : FnScope nInit ((["self", "flag"] : List Str) ++ (["pairs"] : List Str)) (defScope (sFr 0)) := ⟨rfl, rfl, rfl, by decide +kernel, rfl, by decide +kernel, by decide +kernel⟩
/-- len(set(a new list of texts)) < n, n its length -/
theorem et_dup {X : Cx} {σ : L2.St} {H : Hp} {te tb : TE} {xs : List Str} (h : EvL te σ H (xs.map V.str)) (hz : xs.length ≤ 900) (hb : Ev tb σ H (.int (xs.length : Int))) :
    EvT (tTest (tOp (rI0 fun i j => .bl (decide (i < j))) (tCB (rLenS X) (tCons (tCB (rSetT X) (tCons te tNil)) tNil)) tb)) σ H (!decide xs.Nodup) := fun H1 e Q q =>
  h H1 e _ fun l H2 hl e2 h2 => ⟨l, xs, rfl, sq_of h2, by omega, fun a ks ha same => by
    obtain ⟨k1, k2, k3⟩ := same
    refine ⟨a, ks, rfl, upd_same, by omega, hb _ (e.trans (e2.trans (Ex.new ha))) _ fun H3 e3 => ⟨_, _, rfl, rfl, _, rfl, ?_⟩⟩
    have c : decide ((ks.length : Int) < (xs.length : Int)) = !decide xs.Nodup := by
      by_cases n : xs.Nodup
      · have := all_there xs ks n fun k hk => (k2 k).mpr hk
        rw [decide_eq_true n, Bool.not_true, decide_eq_false_iff_not]
        omega
      · have := (few xs ks k1 fun k hk => (k2 k).mp hk).2 n
        rw [decide_eq_false n, Bool.not_false, decide_eq_true_iff]
        omega
    rw [c]
    exact q H3 ((e2.trans (Ex.new ha)).trans e3)⟩
/-- sorted pairs with distinct watches rise -/
theorem rise_of {qs : List Pr} (h : qs.Pairwise fun p q => lexT q p = false) (n : (qs.map (·.1)).Nodup) : Rise qs := by
  unfold List.Nodup at n
  rw [List.pairwise_map] at n
  exact (h.and n).imp fun {p q} z => by
    obtain ⟨z1, z2⟩ := z
    unfold lexT at z1
    rw [if_neg (fun e => z2 e.symm)] at z1
    exact ltB_tot z1 fun e => z2 e.symm
section
variable {P : Program} {w : World} {K : PySem.W.Frag} {mg : Str → Option Value} {base : Heap}
/-- the suite of __init__ -/
theorem runs_Init {C f CR fR CM fM : Addr} {cdv : Value} {fdR fdM : FuncData} (G : FCls K C) (T : GlbT mg) (S : GlbS mg) (D : GlbD mg) (I : GlbI mg)
    (B : GOne P w K mg base "BadRule" "part" CR fR fdR) (M : GTwo P w K mg base "TooMany" "what" "most" CM fM fdM) (GW : Gfn P w K mg base 2 "is_signs_within" ["value", "least", "most"] (spSignsW K)) (GP : Gfn P w K mg base 3 "is_pair" ["value"] (spIsP K))
    (A : Around) (outer : List Env) (s : Shared) (H : Hp) (vs : List V) (Q : VK) (E : XK) (hr : Room 3 (A.deeper (PyProof.Rows.envOfC "FrameRule.__init__" (defScope (sFr 0)) s.heap.objs.size f cdv))) (h : spInit K C CR CM vs H Q E) :
    ∃ t, PSs (cxOf (L2.CX P w) P w K mg base nInit "FrameRule.__init__" (defScope (sFr 0)) f cdv A outer s H E) (defBody (sFr 0)) t ∧ t { nx := fun _ H' => Q .non H', rt := Q } (L2.start nInit vs) H := by
  obtain ⟨fW, fdW, GW, kW, bW, gW⟩ := GW
  obtain ⟨fP, fdP, GP, kP, bP, gP⟩ := GP
  obtain ⟨t4, g4⟩ := D.most
  obtain ⟨o, p, dx, x, xs, rfl, hO, hP, hl, hm⟩ := h
  have hr2 := hr.mono (show 2 ≤ 3 by decide)
  refine ⟨_, pss_cons (ps_if (pt_not (pt_val (pe_call GW hr2 (by rfl) gW kW bW .nil pass0 (pa_cons (pv 1) (pa_cons pe_int (pa_cons pe_int pa_nil)))))) (pss_one (ps_raise rfl (takes_of rfl rfl rfl rfl) (pmk_oex B.ox B.init B.ty B.ok hr2 B.b .nil pass0 (by rfl) B.g (pa_cons pe_str pa_nil)))) pss_nil)
    (pss_cons (ps_for (passes_of rfl) rfl (pi_enumT (by rfl) I.enum (pa_cons (pv 2) pa_nil)) (pg_tup rfl (pgs_cons (pg_name (i := 3) scInit.nd rfl (.inl rfl)) (pgs_cons (pg_name (i := 4) scInit.nd rfl (.inl rfl)) pgs_nil)))
      (pss_one (ps_if (pt_not (pt_val (pe_call GP hr (by rfl) gP kP bP .nil pass0 (pa_cons (pv 4) pa_nil)))) (pss_one (ps_raise rfl (takes_of rfl rfl rfl rfl) (pmk_oex B.ox B.init B.ty B.ok hr2 B.b .nil pass0 (by rfl) B.g (pa_cons (pv 3) pa_nil)))) pss_nil)))
    (pss_cons (ps_if (pt_cmpR op_lt (pe_callB cr_lenS (by rfl) T.len PySem.boot_len (pa_cons (pe_callTy (cr_setT rfl) (by rfl) I.set (by decide +kernel) (pa_cons (pe_lc (own := [("watch", 5), ("_", 6)]) (g := gTup K 2 (gCons (gName 5) (gCons (gName 6) gNil))) rfl scInit.nd (pi_tup (pv 2)) (blkOk_by (own := [("watch", 5), ("_", 6)]) (N := nInit) (sc := defScope (sFr 0)) (by decide +kernel))
        (fun _ _ _ _ _ => pg_tup rfl (pgs_cons (pg_name (i := 5) scInit.nd rfl (Or.inl rfl)) (pgs_cons (pg_name (i := 6) scInit.nd rfl (Or.inl rfl)) pgs_nil))) (fun _ _ _ _ _ => pts_nil) (fun _ _ _ _ _ => pv 5)) pa_nil)) pa_nil)) (pe_callB call_len_seq (by rfl) T.len PySem.boot_len (pa_cons (pv 2) pa_nil)) (nomark _))
      (pss_one (ps_raise rfl (takes_of rfl rfl rfl rfl) (pmk_oex B.ox B.init B.ty B.ok hr2 B.b .nil pass0 (by rfl) B.g (pa_cons pe_str pa_nil)))) pss_nil)
    (pss_cons (ps_if (pt_cmpR op_gt (pe_callB call_len_seq (by rfl) T.len PySem.boot_len (pa_cons (pv 2) pa_nil)) (pe_glob (v := .int 4) rfl g4 ⟨_, rfl⟩) (nomark _))
      (pss_one (ps_raise rfl (takes_of rfl rfl rfl rfl) (pmk_oex M.ox M.init M.ty M.ok hr2 M.b .nil pass0 (by rfl) M.g (pa_cons pe_str (pa_cons (pe_glob (v := .int 4) rfl g4 ⟨_, rfl⟩) pa_nil))))) pss_nil)
    (pss_cons (PS.calm_ (ps_fld (pv 0) (pv 1) (by rfl)))
    (pss_one (PS.calm_ (ps_fld (pv 0) (pe_tupleOf (by rfl) S.tuple (pe_callB cr_sortedTT (by rfl) I.sorted (by decide +kernel) (pa_cons (pv 2) pa_nil))) (by rfl)))))))), ?_⟩
  have flagE : ∀ {H1 : Hp} {σ : L2.St} {b : Bool}, σ[1]? = some (some x) → SgV K H1 x 2 8 b → EvT (tNot (tB (tCall (spSignsW K) [] E0 (tCons (tVar 1) (tCons (tC (.int 2)) (tCons (tC (.int 8)) tNil)))))) σ H1 (!b) := fun h0 h1 => et_not (et_B (ev_sgw (ev_var h0) ev_c ev_c h1))
  rcases hm with ⟨h1, h2⟩ | ⟨f', rfl, h0, hm⟩
  · exact q_when (b := true) (flagE rfl h1) (fun _ H1 e1 => raise_one (ea_cons ev_c ea_nil) (h2.mono e1)) (fun z => absurd z (by decide))
  have fl := sgB_iff.mp h0
  have sg : ∀ {H1 : Hp}, SgV K H1 (.str f') 2 8 true := fun {H1} => by
    have := sgv_str (K := K) (H := H1) (z := f') (lo := 2) (hi := 8) (by omega)
    rwa [h0] at this
  refine q_when (b := false) (flagE rfl sg) (fun z => absurd z (by decide)) (fun _ H1 e1 => ?_)
  have turn : ∀ {H2 : Hp} {i : Nat} {y : V} {b : Bool} {x5 x6 : Option V}, PairV K H2 y b → EvT (tNot (tB (tCall (spIsP K) [] E0 (tCons (tVar 4) tNil)))) [some (.ref o), some (.str f'), some (.ref p), some (.int (i : Int)), some y, x5, x6] H2 (!b) := fun h => et_not (et_B (ev_call (z := .bl _) (ea_cons (ev_var rfl) ea_nil) fun H3 e3 Q q E => ⟨_, _, rfl, h.mono e3, q⟩))
  rcases hm with ⟨i, y, hi, hy, all, hE⟩ | ⟨ps, hps, ok, h900, hm⟩
  · have lt := (List.getElem?_eq_some_iff.mp hi).1
    refine q_forE (K := K) (a := p) (xs := xs) (ea_cons (ev_var rfl) ea_nil) (ex_t e1 hP) (fun j σ' H' => j ≤ i ∧ (∃ x1 x2 : Option V, σ' = [some (.ref o), some (.str f'), some (.ref p), x1, x2, none, none]) ∧ Ex H H') (fun H2 e2 => ⟨Nat.zero_le _, ⟨none, none, rfl⟩, e1.trans e2⟩) (fun _ _ H' _ q => ex_t q.2.2 hP) ?_ ?_
    · rintro j z σ' H2 T2 hz ⟨hj, ⟨x1, x2, rfl⟩, e2⟩ hT2
      have e3 := e2.trans (Ex.new (o := .tup [.int (j : Nat), z]) hT2)
      refine ⟨T2, [.int (j : Nat), z], rfl, st_of upd_same, rfl, _, _, rfl, _, _, rfl, rfl, ?_⟩
      by_cases c : j = i
      · subst c
        rw [hi] at hz
        obtain rfl := Option.some.inj hz
        exact s_if (b := true) (turn (hy.mono e3)) (fun _ H3 e4 => raise_one (ea_cons (ev_var rfl) ea_nil) (hE.mono (e3.trans e4))) (fun z => absurd z (by decide))
      · exact s_if (b := false) (turn ((all j z (by omega) hz).mono e3)) (fun hb => absurd hb (by decide)) fun _ H3 e4 => ⟨by omega, ⟨_, _, rfl⟩, e3.trans e4⟩
    · rintro σ' H2 ⟨hj, _⟩
      exact absurd hj (by omega)
  have len := hps.len
  refine q_forE (K := K) (a := p) (xs := xs) (ea_cons (ev_var rfl) ea_nil) (ex_t e1 hP) (fun j σ' H' => (∃ x1 x2 : Option V, σ' = [some (.ref o), some (.str f'), some (.ref p), x1, x2, none, none]) ∧ Ex H H') (fun H2 e2 => ⟨⟨none, none, rfl⟩, e1.trans e2⟩) (fun _ _ H' _ q => ex_t q.2 hP) ?_ ?_
  · rintro j z σ' H2 T2 hz ⟨⟨x1, x2, rfl⟩, e2⟩ hT2
    have e3 := e2.trans (Ex.new (o := .tup [.int (j : Nat), z]) hT2)
    refine ⟨T2, [.int (j : Nat), z], rfl, st_of upd_same, rfl, _, _, rfl, _, _, rfl, rfl, ?_⟩
    obtain ⟨t, q, rfl, hq, ht⟩ := hps.at hz
    exact s_if (b := false) (turn (pair_v (e3 _ _ ht) (ok q (List.mem_of_getElem? hq)))) (fun hb => absurd hb (by decide)) fun _ H3 e4 => ⟨⟨_, _, rfl⟩, e3.trans e4⟩
  · rintro σ' H2 ⟨⟨x1, x2, rfl⟩, e2⟩
    have ln : ∀ {H3 : Hp}, Ex H H3 → Ev (tCB (rLenQ K) (tCons (tVar 2) tNil)) [some (.ref o), some (.str f'), some (.ref p), x1, x2, none, none] H3 (.int (ps.length : Int)) := fun e => ev_is (ev_lenTu (etu_var rfl (ex_t e hP))) (by rw [len])
    have watches : EvL (tLc (iTup K (tVar 2)) (gTup K 2 (gCons (gName 5) (gCons (gName 6) gNil))) (fun σ H Q => Q true H) (tVar 5) [5, 6]) [some (.ref o), some (.str f'), some (.ref p), x1, x2, none, none] H2 ((ps.map (·.1)).map V.str) := by
      have c := el_pairT (K := K) (σ := [some (.ref o), some (.str f'), some (.ref p), x1, x2, none, none]) (H := H2) (t := fun σ H Q => Q true H) (te := tVar 5) (tl := tVar 2) (i := 5) (j := 6) (vs := [5, 6]) (fun _ => true) (fun q => V.str q.1) (etu_var rfl (ex_t e2 hP)) (hps.mono e2) (by omega) (fun _ _ => rfl)
        (fun q hq H1 e => et_none) (fun q hq H1 e _ => ev_var rfl)
      rw [List.filter_eq_self.mpr (fun _ _ => rfl)] at c
      rw [List.map_map]
      exact c
    have lw : (ps.map (·.1)).length = ps.length := List.length_map _
    refine q_when (et_dup watches (by rw [lw]; exact h900) (ev_is (ln e2) (by rw [lw]))) (fun hb H3 e3 => ?_) (fun hb H3 e3 => ?_)
    · rw [Bool.not_eq_true', decide_eq_false_iff_not] at hb
      rcases hm with ⟨_, hE⟩ | ⟨h4, _⟩ | ⟨h4, _⟩
      · exact raise_one (ea_cons ev_c ea_nil) (hE.mono (e2.trans e3))
      · exact absurd h4 hb
      · exact absurd h4 hb
    rw [Bool.not_eq_false', decide_eq_true_iff] at hb
    refine q_when (et_test (ev_op (ln (e2.trans e3)) ev_c rv_I0)) (fun hc H4 e4 => ?_) (fun hc H4 e4 => ?_)
    · have far : (ps.length : Int) > 4 := of_decide_eq_true hc
      rcases hm with ⟨h4, _⟩ | ⟨_, _, hE⟩ | ⟨_, h5, _⟩
      · exact absurd hb h4
      · exact raise_two (ea_cons ev_c (ea_cons ev_c ea_nil)) (hE.mono ((e2.trans e3).trans e4))
      · omega
    have near : ¬ (ps.length : Int) > 4 := of_decide_eq_false hc
    rcases hm with ⟨h4, _⟩ | ⟨_, h5, _⟩ | ⟨_, _, k⟩
    · exact absurd hb h4
    · omega
    have E4 := (e2.trans e3).trans e4
    have hO4 := E4 _ _ hO
    refine ⟨_, rfl, _, rfl, o, C, dx, [], rfl, hO4, G.cls, G.flag, Nat.le_of_ble_eq_true rfl, ?_⟩
    have hP5 := sqT_upd (u := .ins C dx (putF "flag" (.str f') [])) (ex_t E4 hP) hO4
    have hps5 := (hps.mono E4).upd (u := .ins C dx (putF "flag" (.str f') [])) hO4
    have hO5 : (upd H4 o (.ins C dx (putF "flag" (.str f') []))) o = some (.ins C dx [("flag", .str f')]) := upd_same
    have kp5 : Keep o H (upd H4 o (.ins C dx (putF "flag" (.str f') []))) := fun c u hc hn => by rw [upd_ne hn]; exact E4 _ _ hc
    generalize upd H4 o (.ins C dx (putF "flag" (.str f') [])) = H5 at hP5 hps5 hO5 kp5
    refine ⟨_, rfl, p, xs, fun x => (ctn H5 x).getD (mt, mt), rfl, hP5, fun x hx => ctn_iff.mp (prs_key_at hps5 hx), fun ys l srt pm hl => .inl ⟨l, ys, rfl, sq_of upd_same, fun r hr => ?_⟩⟩
    have e6 : Ex H5 (upd (upd H5 l (.lst ys)) r (.tup ys)) := (Ex.new hl).trans (Ex.new hr)
    have hO6 := e6 _ _ hO5
    refine ⟨_, rfl, o, C, dx, _, rfl, hO6, G.cls, G.pairs, Nat.le_of_ble_eq_true rfl, ?_⟩
    have pq : (ys.map fun x => (ctn H5 x).getD (mt, mt)).Perm ps := by
      have := pm.map fun x => (ctn H5 x).getD (mt, mt)
      rwa [prs_key hps5] at this
    have prs5 : Prs H5 ys (ys.map fun x => (ctn H5 x).getD (mt, mt)) := by
      unfold Prs
      rw [List.map_map]
      exact List.map_congr_left fun x hx => prs_key_at hps5 (pm.mem_iff.mp hx)
    have good : Good f' (ys.map fun x => (ctn H5 x).getD (mt, mt)) := by
      refine ⟨h0, fun q hq => ok q (pq.mem_iff.mp hq), by rw [pq.length_eq]; omega, rise_of ?_ ((pq.map (·.1)).nodup_iff.mpr hb)⟩
      rw [List.pairwise_map]
      exact srt
    refine k _ _ good pq (fun c u hc hn => ?_) ⟨dx, r, ys, upd_same, ?_, ?_, good⟩
    · rw [upd_ne hn]
      exact e6 _ _ (kp5 c u hc hn)
    · exact sqT_upd (st_of upd_same) hO6
    · exact (prs5.mono e6).upd hO6
theorem ok_Init {C f CR fR CM fM : Addr} {mc : Value} {fd fdR fdM : FuncData} (F : Fun K "__init__" "FrameRule.__init__" (sFr 0) f fd) (G : FCls K C) (T : GlbT mg) (S : GlbS mg) (D : GlbD mg) (I : GlbI mg)
    (B : GOne P w K mg base "BadRule" "part" CR fR fdR) (M : GTwo P w K mg base "TooMany" "what" "most" CM fM fdM) (GW : Gfn P w K mg base 2 "is_signs_within" ["value", "least", "most"] (spSignsW K)) (GP : Gfn P w K mg base 3 "is_pair" ["value"] (spIsP K)) :
    FnR P w K mg base (L2.CX P w) 4 f (spInitA K C CR CM) := by
  obtain ⟨oc, od, kV, doc, pm, an, cdv, ct, osl, rfl, lk, hcd⟩ := F.ex
  exact fn_star (ps := ["self", "flag"]) (sp := spInit K C CR CM) lk hcd scInit cxUp (bind_star2 (B := fun us => bindArgs (PySem.W.fnOf "__init__" "FrameRule.__init__" (defArgs (sFr 0)) (defBody (sFr 0)) (defScope (sFr 0)) .none kV doc pm an cdv ct) ⟨us, []⟩) (fun a b => rfl) fun a b r rs => rfl) fun A outer s H vs Q E hr h => runs_Init G T S D I B M GW GP A outer s H vs Q E hr h
/-- FrameRule(flag = e) -/
theorem ok_InitK {C f CR fR CM fM : Addr} {mc : Value} {fd fdR fdM : FuncData} (F : Fun K "__init__" "FrameRule.__init__" (sFr 0) f fd) (G : FCls K C) (T : GlbT mg) (S : GlbS mg) (D : GlbD mg) (I : GlbI mg)
    (B : GOne P w K mg base "BadRule" "part" CR fR fdR) (M : GTwo P w K mg base "TooMany" "what" "most" CM fM fdM) (GW : Gfn P w K mg base 2 "is_signs_within" ["value", "least", "most"] (spSignsW K)) (GP : Gfn P w K mg base 3 "is_pair" ["value"] (spIsP K)) :
    Kw1 P w K mg base (L2.CX P w) 4 f "flag" (spInit K C CR CM) := by
  obtain ⟨oc, od, kV, doc, pm, an, cdv, ct, osl, rfl, lk, hcd⟩ := F.ex
  exact kw1 (a0 := "self") (pv := "pairs") lk hcd scInit cxUp (fun _ _ => rfl) fun A outer s H vs Q E hr h => runs_Init G T S D I B M GW GP A outer s H vs Q E hr h
end
end K08
namespace K08
open PySem L2 Evl Gr StX EnT ClX ClK RdX SrtT StS
abbrev sRw : Stmt := top 23
theorem pw_snoc : ∀ (l : List Pr) (p : Pr), pw (l ++ [p]) = if l = [] then [p.1, p.2] else pw l ++ [comma, p.1, p.2]
  | [], p => rfl
  | [a], p => rfl
  | a :: b :: r, p => by
    have ih := pw_snoc (b :: r) p
    rw [if_neg (by simp)] at ih ⊢
    show a.1 :: a.2 :: comma :: pw ((b :: r) ++ [p]) = (a.1 :: a.2 :: comma :: pw (b :: r)) ++ _
    rw [ih]
    rfl
/-! ### a rule is made -/
def RetRu (K : PySem.W.Frag) (C : Addr) (f : Str) (ps : List Pr) (H : Hp) (Q : VK) : Prop := ∀ o H', Ex H H' → RuleAt K C H' o f ps → Q (.ref o) H'
theorem RetRu.mono {K : PySem.W.Frag} {C : Addr} {f : Str} {ps : List Pr} {H H' : Hp} {Q : VK} (e : Ex H H') (h : RetRu K C f ps H Q) : RetRu K C f ps H' Q := fun o H2 e2 r => h o H2 (e.trans e2) r
/-- gives a rule of this flag and these pairs -/
def EvRu (K : PySem.W.Frag) (C : Addr) (te : TE) (σ : L2.St) (H : Hp) (f : Str) (ps : List Pr) : Prop := ∀ H1, Ex H H1 → ∀ Q : VK, (∀ o H2, Ex H1 H2 → RuleAt K C H2 o f ps → Q (.ref o) H2) → te σ H1 Q
theorem eru_var {K : PySem.W.Frag} {C : Addr} {σ : L2.St} {H : Hp} {f : Str} {ps : List Pr} {i : Nat} {o : Addr} (h0 : σ[i]? = some (some (.ref o))) (h : RuleAt K C H o f ps) : EvRu K C (tVar i) σ H f ps := fun H1 e Q q => ⟨_, h0, q o H1 (Ex.refl H1) (h.mono e)⟩
section
variable {K : PySem.W.Frag} {C CR CM : Addr} {σ : L2.St} {H : Hp} {t : TA} {E : XK} {Q : VK}
/-- what __init__ is told -/
theorem init_told {x dx : Addr} {v : V} {xs : List V} (hx : H x = none) (hd : H dx = none) (hn : dx ≠ x) (hl : xs.length ≤ 900) (m : Made K CR CM v xs H E fun f ps => ∀ qs, Good f qs → qs.Perm ps → RetRu K C f qs H Q) :
    spInitA K C CR CM (V.ref x :: v :: xs) (upd (upd H dx (.own x)) x (.ins C dx [])) (fun v H2 => v = .non ∧ Q (.ref x) H2) E := by
  have e3 : Ex H (upd (upd H dx (.own x)) x (.ins C dx [])) := (Ex.new hd).trans (Ex.new (by rw [upd_ne hn.symm]; exact hx))
  refine ⟨[.ref x, v], xs, rfl, rfl, sz_of (by omega), fun p hp => ?_⟩
  have e4 := Ex.new (o := .tup xs) hp
  refine ⟨x, p, dx, v, xs, rfl, e4 _ _ upd_same, st_of upd_same, hl, m.mono (e3.trans e4) fun f ps k qs H' g pm kp at_ => ⟨rfl, k qs g pm x H' (fun c u hc => kp c u (e4 _ _ (e3 _ _ hc)) (ne_of_none hc hx)) at_⟩⟩
theorem s_makeU {v : V} {xs : List V} (h : EvA t σ H (v :: xs)) (hl : xs.length ≤ 900) (m : Made K CR CM v xs H E fun f ps => ∀ qs, Good f qs → qs.Perm ps → RetRu K C f qs H Q) : tMakeR C (spInitA K C CR CM) E t σ H Q :=
  h H (Ex.refl H) _ fun H1 e1 x dx hx hd hn => init_told hx hd hn hl (m.mono e1 fun f ps k qs g pm => (k qs g pm).mono e1)
end
theorem s_ext {K : PySem.W.Frag} {σ : L2.St} {H : Hp} {ta te : TE} {D : Ends} {l : Addr} {xs ys : List V} (hl : H l = some (.lst xs)) (ha : Ev ta σ H (.ref l)) (h : EvL te σ H ys) (hz : xs.length + ys.length ≤ 100000) (k : ∀ p H1, H p = none → Ex H H1 → H1 p = some (.lst ys) → D.nx σ (upd H1 l (.lst (xs ++ ys)))) :
    tDrop (tBM K "list" rExtend ta (tCons te tNil)) D σ H := ha H (Ex.refl H) _ fun H1 e1 =>
  ⟨Or.inl ⟨rfl, xs, sq_of (e1 l _ hl)⟩, h H1 e1 _ fun p H2 hp e2 h2 => ⟨l, p, xs, ys, rfl, rfl, e2 l _ (e1 l _ hl), h2, sz_of hz, k p H2 (fresh_back e1 hp) (e1.trans e2) h2⟩⟩
/-- a rule whose pairs rise is made of them -/
theorem made_ok {K : PySem.W.Frag} {CR CM : Addr} {H : Hp} {E : XK} {f : Str} {ps qs : List Pr} {xs : List V} {ok : Str → List Pr → Prop} (g : Good f qs) (hp : Prs H xs ps) (pm : ps.Perm qs) (k : ok f ps) : Made K CR CM (.str f) xs H E ok := by
  refine .inr ⟨f, rfl, g.flag, .inr ⟨ps, hp, fun p h => g.ok p (pm.mem_iff.mp h), ?_, .inr (.inr ⟨(pm.map (·.1)).nodup_iff.mpr (rise_nodup g.rise), ?_, k⟩)⟩⟩
  · have := g.many
    have := pm.length_eq
    omega
  · have := g.many
    have := pm.length_eq
    omega
theorem good_one {f : Str} {ps qs : List Pr} (g : Good f ps) (h : Good f qs) (pm : ps.Perm qs) : ps = qs :=
  sort_one (List.Pairwise.imp (fun {p q} z => by
    have z := z
    cases c : lexT q p with
    | false => rfl
    | true =>
      have := lexT_tr z c
      rw [lexT_irr] at this
      cases this) (rise_lex g.rise)) pm h.rise
section
variable {P : Program} {w : World} {K : PySem.W.Frag} {mg : Str → Option Value} {base : Heap}
/-! ### rule_words -/
abbrev nRw : List Str := ["flag", "pairs", "words", "at", "watch", "put"]
def spRw (K : PySem.W.Frag) : Sp := fun vs H Q _ => ∃ (f : Str) (q : Addr) (xs : List V) (ps : List Pr), vs = [.str f, .ref q] ∧ SqT K H q xs ∧ Prs H xs ps ∧ ps.length ≤ 900 ∧ ∀ p H', H p = none → Ex H H' → H' p = some (.lst ((rw_ f ps).map V.str)) → Q (.ref p) H'
theorem scRw : FnScope nRw ["flag", "pairs"] (defScope sRw) := ⟨rfl, rfl, rfl, by decide +kernel, rfl, by decide +kernel, by decide +kernel⟩
theorem ok_Rw {f : Addr} {fd : FuncData} (F : Fun K "rule_words" "rule_words" sRw f fd) (I : GlbI mg) : FnOk P w K mg base CX0 1 f fd ["flag", "pairs"] (spRw K) := by
  refine F.ok scRw (fun vs H Q E h => ?_) (fun cdv A outer s H vs Q E hr h => ?_)
  · obtain ⟨f, q, xs, ps, rfl, _⟩ := h
    rfl
  · obtain ⟨z, q, xs, ps, rfl, hq, hp, hl, k⟩ := h
    refine ⟨_, pss_cons (ps_set (i := 2) scRw.nd rfl (.inl rfl) (pe_lst (pa_cons (pv 0) (pa_cons pe_str pa_nil))))
      (pss_cons (ps_for PassesOwn.never rfl (pi_enumT (by rfl) I.enum (pa_cons (pv 1) pa_nil)) (pg_tup rfl (pgs_cons (pg_name (i := 3) scRw.nd rfl (.inl rfl)) (pgs_cons (pg_tup rfl (pgs_cons (pg_name (i := 4) scRw.nd rfl (.inl rfl)) (pgs_cons (pg_name (i := 5) scRw.nd rfl (.inl rfl)) pgs_nil))) pgs_nil)))
        (pss_cons (ps_if (pt_cmpR op_gt (pv 3) pe_int (nomark _)) (pss_one (ps_expr (pe_bm PySem.F.plainAttrs_list PySem.F.slot_list_append PySem.F.type_list_append mt_append (pv 2) (pa_cons pe_str pa_nil)))) pss_nil)
        (pss_one (ps_expr (pe_bm PySem.F.plainAttrs_list PySem.F.slot_list_extend PySem.F.type_list_extend mt_extend (pv 2) (pa_cons (pe_lst (pa_cons (pv 4) (pa_cons (pv 5) pa_nil))) pa_nil))))))
      (pss_one (ps_ret (pv 2)))), ?_⟩
    have len := hp.len
    refine q_asgL (el_lst (ea_cons (ev_var rfl) (ea_cons ev_c ea_nil)) (by show 2 ≤ 100000; decide)) fun l H1 hl0 e1 h1 => ?_
    refine q_forE (K := K) (a := q) (xs := xs) (ea_cons (ev_var rfl) ea_nil) (ex_t e1 hq) (fun i σ' H' => (∃ x1 x2 x3 : Option V, σ' = [some (.str z), some (.ref q), some (.ref l), x1, x2, x3]) ∧ Ex H H' ∧ H' l = some (.lst ((rw_ z (ps.take i)).map V.str))) (fun H2 e2 => ⟨⟨none, none, none, rfl⟩, e1.trans e2, e2 _ _ h1⟩) (fun _ _ H' _ q' => ex_t q'.2.1 hq) ?_ ?_
    · rintro i x σ' H2 T2 hx ⟨⟨x1, x2, x3, rfl⟩, e2, h2⟩ hT
      obtain ⟨t, p, rfl, hpi, ht⟩ := hp.at hx
      have e3 := e2.trans (Ex.new (o := .tup [.int (i : Nat), .ref t]) hT)
      have h3 : (upd H2 T2 (.tup [.int (i : Nat), .ref t])) l = some (.lst ((rw_ z (ps.take i)).map V.str)) := (Ex.new hT) _ _ h2
      refine ⟨T2, [.int (i : Nat), .ref t], rfl, st_of upd_same, rfl, _, _, rfl, _, _, rfl, t, _, rfl, st_of (e3 _ _ ht), rfl, _, _, rfl, _, _, rfl, rfl, rfl, ?_⟩
      have lt := (List.getElem?_eq_some_iff.mp hpi).1
      have snoc : ps.take (i + 1) = ps.take i ++ [p] := by rw [List.take_add_one, hpi]; rfl
      have short : ((rw_ z (ps.take i)).map V.str).length ≤ 5000 := by
        rw [List.length_map, rw_len, pw_size, List.length_take]
        omega
      have he : ∀ {H4 : Hp}, EvL (tLst (tCons (tVar 4) (tCons (tVar 5) tNil))) [some (.str z), some (.ref q), some (.ref l), some (.int (i : Nat)), some (.str p.1), some (.str p.2)] H4 [.str p.1, .str p.2] := el_lst (ea_cons (ev_var rfl) (ea_cons (ev_var rfl) ea_nil)) (by show 2 ≤ 100000; decide)
      have fin : ∀ {H5 : Hp} {xs4 : List V}, Ex H H5 → xs4 ++ [V.str p.1, V.str p.2] = (rw_ z (ps.take (i + 1))).map V.str → (∃ y1 y2 y3 : Option V, [some (.str z), some (.ref q), some (.ref l), some (.int (i : Nat)), some (.str p.1), some (.str p.2)] = [some (.str z), some (.ref q), some (.ref l), y1, y2, y3]) ∧ Ex H (upd H5 l (.lst (xs4 ++ [V.str p.1, V.str p.2]))) ∧ (upd H5 l (.lst (xs4 ++ [V.str p.1, V.str p.2]))) l = some (.lst ((rw_ z (ps.take (i + 1))).map V.str)) := fun e q => ⟨⟨_, _, _, rfl⟩, Ex.mut e hl0, by rw [upd_same, q]⟩
      refine q_when (et_test (ev_op (ev_var rfl) ev_c rv_I0)) (fun hb H4 e4 => ?_) (fun hb H4 e4 => ?_)
      · have i0 : (i : Int) > 0 := of_decide_eq_true hb
        refine s_app (e4 _ _ h3) (ev_var rfl) ev_c (by omega) fun H5 e5 => ?_
        have e6 : Ex H (upd H5 l (.lst ((rw_ z (ps.take i)).map V.str ++ [V.str ","]))) := Ex.mut ((e3.trans e4).trans e5) hl0
        refine s_ext upd_same (ev_var rfl) he (by rw [List.length_append]; show _ + 1 + 2 ≤ _; omega) fun r H6 hr e7 _ => fin (e6.trans e7) ?_
        rw [snoc]
        unfold rw_
        rw [pw_snoc, if_neg (fun e => by
          have := congrArg List.length e
          rw [List.length_take] at this
          simp only [List.length_nil] at this
          omega)]
        simp
      · have i0 : ¬ (i : Int) > 0 := of_decide_eq_false hb
        obtain rfl : i = 0 := by omega
        refine s_ext (e4 _ _ h3) (ev_var rfl) he (by show _ + 2 ≤ _; omega) fun r H6 hr e7 _ => fin ((e3.trans e4).trans e7) ?_
        rw [snoc]
        unfold rw_
        rw [pw_snoc, if_pos List.take_zero, List.take_zero]
        rfl
    · rintro σ' H2 ⟨⟨x1, x2, x3, rfl⟩, e2, h2⟩
      rw [List.take_of_length_le (by omega)] at h2
      exact s_ret (v := .ref l) (ev_var rfl) fun H3 e3 => k l H3 hl0 (e2.trans e3) (e3 _ _ h2)
/-! ### FrameRule.__eq__ -/
structure FIsi (K : PySem.W.Frag) (C : Addr) : Prop where
  ca : PySem.W.findIn K (.ref C) "__class__" = some (some (.builtin "object.__class__"))
  cn : PySem.W.specialIn K (.builtin "object.__class__") "__get__" = some (some (.builtin "getset_descriptor.__get__"))
  ct : PySem.W.takesIn K (.builtin "object.__class__") = some true
  cm : PySem.W.mroIn K C (.type "object") = some true
  own : PySem.W.kitOne K (.ref C) (.ref C) = some true
theorem ru_ty {K : PySem.W.Frag} {C : Addr} {H : Hp} {o : Addr} {f : Str} {ps : List Pr} (G : FCls K C) (I : FIsi K C) (h : RuleAt K C H o f ps) : TyX K H (.ref o) (.ref C) := by
  obtain ⟨dx, q, vs, h1, _⟩ := h
  exact .base (.ins h1 G.cls I.ca I.cn I.ct I.cm)
def spEq (K : PySem.W.Frag) (C : Addr) : Sp := fun vs H Q _ => ∃ (o : Addr) (f : Str) (ps : List Pr), RuleAt K C H o f ps ∧
  ((∃ (u : Addr) (g : Str) (qs : List Pr), vs = [.ref o, .ref u] ∧ RuleAt K C H u g qs ∧ RetV (.bl (decide (f = g) && decide (ps = qs))) H Q) ∨ ∃ (x : V) (T : String), vs = [.ref o, x] ∧ TyX K H x (.type T) ∧ PySem.W.kitOne K (.type T) (.ref C) = some false ∧ RetV (.bl false) H Q)
theorem scEq : FnScope ["self", "other"] ["self", "other"] (defScope (sFr 8)) := ⟨rfl, rfl, rfl, by decide +kernel, rfl, by decide +kernel, by decide +kernel⟩
/-! pairs as data -/
def pd (p : Pr) : PyData := .tuple [.str p.1, .str p.2]
theorem dp_prs {K : PySem.W.Frag} {H : Hp} : ∀ {vs : List V} {ps : List Pr}, Prs H vs ps → DpAll K H vs (ps.map pd)
  | [], [], _ => .nil
  | [], _ :: _, h => by cases h
  | _ :: _, [], h => by cases h
  | v :: vs, p :: ps, h => by
    have h' : ctn H v :: vs.map (ctn H) = some p :: ps.map some := h
    obtain ⟨h1, h2⟩ := List.cons.inj h'
    obtain ⟨t, rfl, ht⟩ := ctn_iff.mp h1
    exact .cons (.tup (st_of ht) (.cons (.str _) (.cons (.str _) .nil))) (dp_prs h2)
theorem pd_eqv (p q : Pr) : PyData.eqv (pd p) (pd q) = decide (p = q) := by
  obtain ⟨a, b⟩ := p
  obtain ⟨c, d⟩ := q
  simp only [pd, PyData.eqv, PyData.eqvAll, Bool.and_true]
  rw [Bool.eq_iff_iff, Bool.and_eq_true, beq_iff_eq, beq_iff_eq, decide_eq_true_iff, Prod.mk.injEq]
theorem sgB_low {z : Str} {lo hi : Int} (h : sgB z lo hi = true) : Low 0 (.str z) := low_str (sg_ok (sgB_iff.mp h).1)
theorem pd_low {p : Pr} (h : PairOk p) : Low 1 (pd p) := low_tup fun d hd => by
  rcases List.mem_cons.mp hd with rfl | hd
  · exact sgB_low h.1
  · rcases List.mem_cons.mp hd with rfl | hd
    · exact sgB_low h.2
    · cases hd
theorem prs_shaped {ps : List Pr} (h : ∀ p ∈ ps, PairOk p) : SeqAt.shaped (.tuple (ps.map pd)) = true := low_shaped (low_tup (n := 1) fun d hd => by
  obtain ⟨p, hp, rfl⟩ := List.mem_map.mp hd
  exact pd_low (h p hp)) (by decide)
theorem prs_eqv (ps qs : List Pr) : PyData.eqv (.tuple (ps.map pd)) (.tuple (qs.map pd)) = decide (ps = qs) := by
  simp only [PyData.eqv]
  exact eqvAll_map pd pd_eqv ps qs
theorem ed_pairs {K : PySem.W.Frag} {C : Addr} {σ : L2.St} {H : Hp} {ta : TE} {o : Addr} {f : Str} {ps : List Pr} (G : FCls K C) (ha : Ev ta σ H (.ref o)) (h : RuleAt K C H o f ps) : EvD K (tFld K ta "pairs") σ H (.tuple (ps.map pd)) := by
  obtain ⟨dx, q, vs, h1, h2, h3, _⟩ := h
  exact ed_of (ev_fld ha h1 G.cls G.pairs rfl) fun H1 e => .tup (ex_t e h2) (dp_prs (h3.mono e))
theorem ev_flag {K : PySem.W.Frag} {C : Addr} {σ : L2.St} {H : Hp} {ta : TE} {o : Addr} {f : Str} {ps : List Pr} (G : FCls K C) (ha : Ev ta σ H (.ref o)) (h : RuleAt K C H o f ps) : Ev (tFld K ta "flag") σ H (.str f) := by
  obtain ⟨dx, q, vs, h1, h2, h3, _⟩ := h
  exact ev_fld ha h1 G.cls G.flag rfl
theorem ev_isF {K : PySem.W.Frag} {C : Addr} {σ : L2.St} {H : Hp} {ta : TE} {o : Addr} {f : Str} {ps : List Pr} (G : FCls K C) (R : FIsi K C) (ha : Ev ta σ H (.ref o)) (h : RuleAt K C H o f ps) : Ev (tCB (rIsi K) (tCons ta (tCons (tC (.ref C)) tNil))) σ H (.bl true) :=
  ev_cb (ea_cons ha (ea_cons ev_c ea_nil)) fun H1 e _ q => ⟨.ref o, .ref C, .ref C, .ref C, true, rfl, .own C, tyx_mono e (ru_ty G R h), R.own, q H1 (Ex.refl H1)⟩
theorem ok_Eq {C f : Addr} {mc : Value} {fd : FuncData} (F : Fun K "__eq__" "FrameRule.__eq__" (sFr 8) f fd) (N : FName K mg C mc) (G : FCls K C) (R : FIsi K C) (inst : mg "isinstance" = none) : FnOk P w K mg base CX0 1 f fd ["self", "other"] (spEq K C) := by
  refine F.ok scEq (fun vs H Q E h => ?_) (fun cdv A outer s H vs Q E hr h => ?_)
  · rcases h with ⟨o, f, ps, _, ⟨u, g, qs, rfl, _⟩ | ⟨x, T, rfl, _⟩⟩ <;> rfl
  · obtain ⟨o, f', ps, hO, h⟩ := h
    rcases h with ⟨u, g, qs, rfl, hU, k⟩ | ⟨x, T, rfl, ht, hk, k⟩
    all_goals refine ⟨_, pss_one (ps_ret (pe_and (pe_callB call_isi (by rfl) inst (by decide +kernel) (pa_cons (pv 1) (pa_cons (pe_glob (v := .ref C) rfl N.g rfl) pa_nil)))
      (pe_and (pe_cmpR op_eq (pe_fld (pv 0) rfl) (pe_fld (pv 1) rfl) (nomark _)) (pe_one (pe_cmpR (op_eqD hr.units) (pe_fld (pv 0) rfl) (pe_fld (pv 1) rfl) (nomark _)))))), ?_⟩
    · refine s_ret (ev_is (ev_andV (ev_isF G R (ev_var rfl) hU) fun _ => ev_andV (ev_op (ev_flag G (ev_var rfl) hO) (ev_flag G (ev_var rfl) hU) (rv_eq rfl)) fun _ => ev_eqD (ed_pairs G (ev_var rfl) hO) (ed_pairs G (ev_var rfl) hU) (prs_shaped hO.good.ok) (prs_shaped hU.good.ok)) ?_) k
      rw [prs_eqv, dec_str, Bool.true_and]
    · exact s_ret (ev_is (ev_andV (b := true) (a := false) (ev_cb (ea_cons (ev_var rfl) (ea_cons ev_c ea_nil)) fun H1 e _ q => ⟨x, .ref C, .type T, .ref C, false, rfl, .own C, tyx_mono e ht, hk, q H1 (Ex.refl H1)⟩) fun hb => absurd hb (by decide)) rfl) k
end
end K08
namespace K08
open PySem L2 Evl Gr StX EnT ClX ClK RdX SrtT StS
theorem sum_most {b : Nat} : ∀ {l : List Nat}, (∀ n ∈ l, n ≤ b) → l.sum ≤ b * l.length
  | [], _ => by simp
  | a :: l, h => by
    have h1 := h a List.mem_cons_self
    have h2 := sum_most fun n hn => h n (List.mem_cons_of_mem _ hn)
    rw [List.sum_cons, List.length_cons, Nat.mul_add]
    omega
theorem wsum_most {b : Nat} {ws : List Str} (h : ∀ z ∈ ws, z.length ≤ b) : wsum ws ≤ b * ws.length := by
  unfold wsum
  have := sum_most (l := ws.map (·.length)) (b := b) fun n hn => by
    obtain ⟨z, hz, rfl⟩ := List.mem_map.mp hn
    exact h z hz
  rwa [List.length_map] at this
theorem good_size {f : Str} {ps : List Pr} (g : Good f ps) : wsum (rw_ f ps) ≤ 104 ∧ (rw_ f ps).length ≤ 13 := by
  have h1 := wsum_most (good_short g)
  have h2 : (rw_ f ps).length ≤ 13 := by
    rw [rw_len, pw_size]
    have := g.many
    omega
  omega
theorem good_tx {f : Str} {ps : List Pr} (g : Good f ps) : (tx (rw_ f ps)).length ≤ 117 := by
  have := good_size g
  have := tx_len (rw_ f ps)
  omega
abbrev rJoin (K : PySem.W.Frag) : V → List V → Hp → VK → Prop := fun x xs H Q => ∃ a p, ∃ ys : List Str, x = .str a ∧ xs = [.ref p] ∧ (SqL K H p (ys.map V.str) ∨ SqT K H p (ys.map V.str)) ∧ (ys.map (·.length)).sum + ys.length * a.length ≤ 16777216 ∧ Q (.str (Txt.join a ys)) H
section
variable {K : PySem.W.Frag} {C CR CM CB : Addr} {σ : L2.St} {H : Hp} {ta tb te : TE}
theorem ev_joinL {a : Str} {ys : List Str} (h : Ev ta σ H (.str a)) (he : EvL te σ H (ys.map V.str)) (hz : (ys.map (·.length)).sum + ys.length * a.length ≤ 16777216) : Ev (tM1 (rJoin K) ta te) σ H (.str (Txt.join a ys)) := fun H1 e Q q =>
  h H1 e _ fun H2 e2 => ⟨⟨a, rfl⟩, he H2 (e.trans e2) _ fun p H3 hp e3 h3 => ⟨a, p, ys, rfl, rfl, .inl (sq_of h3), hz, q H3 (e2.trans e3)⟩⟩
theorem ev_addS {a b : Str} (ha : Ev ta σ H (.str a)) (hb : Ev tb σ H (.str b)) (hz : a.length + b.length ≤ 100000) : Ev (tOp (fun x y H Q => ∃ i j, x = .str i ∧ y = .str j ∧ i.length + j.length ≤ sizeLine ∧ Q (.str (i ++ j)) H) ta tb) σ H (.str (a ++ b)) := ev_op ha hb fun H1 e Q q => ⟨a, b, rfl, rfl, sz_of hz, q H1 (Ex.refl H1)⟩
theorem ev_lenSq {p : Addr} {xs : List V} (h : Ev ta σ H (.ref p)) (hs : SqL K H p xs) : Ev (tCB (rLenQ K) (tCons ta tNil)) σ H (.int (xs.length : Int)) := fun H1 e Q q => h H1 e _ fun H2 e2 => ⟨p, xs, rfl, .inl (ex_l (e.trans e2) hs), q H2 e2⟩
end
def flip1 (p : Str) : Str := if p = "0" then "1" else "0"
section
variable {P : Program} {w : World} {K : PySem.W.Frag} {mg : Str → Option Value} {base : Heap}
/-! ### FrameRule.__str__ -/
def spStr (K : PySem.W.Frag) (C : Addr) : Sp := fun vs H Q _ => ∃ (o : Addr) (f : Str) (ps : List Pr), vs = [.ref o] ∧ RuleAt K C H o f ps ∧ RetV (.str (tx (rw_ f ps))) H Q
theorem scStr : FnScope ["self"] ["self"] (defScope (sFr 9)) := ⟨rfl, rfl, rfl, by decide +kernel, rfl, by decide +kernel, by decide +kernel⟩
theorem ok_Str {C f : Addr} {fd : FuncData} (F : Fun K "__str__" "FrameRule.__str__" (sFr 9) f fd) (G : FCls K C) (GR : Gfn P w K mg base 1 "rule_words" ["flag", "pairs"] (spRw K)) : FnOk P w K mg base CX0 2 f fd ["self"] (spStr K C) := by
  obtain ⟨fR, fdR, GR, kR, bR, gR⟩ := GR
  refine F.ok scStr (fun vs H Q E h => ?_) (fun cdv A outer s H vs Q E hr h => ?_)
  · obtain ⟨o, f, ps, rfl, _⟩ := h
    rfl
  · obtain ⟨o, f', ps, rfl, hO, k⟩ := h
    refine ⟨_, pss_one (ps_ret (pe_join pe_str (pe_call GR hr (by rfl) gR kR bR .nil pass0 (pa_cons (pe_fld (pv 0) rfl) (pa_cons (pe_fld (pv 0) rfl) pa_nil))))), ?_⟩
    have g := hO.good
    have sz := good_size g
    refine s_ret (ev_joinL ev_c ?_ ?_) k
    · have fl := ev_flag (σ := [some (.ref o)]) (ta := tVar 0) G (ev_var rfl) hO
      obtain ⟨dx, q, vs, h1, h2, h3, _⟩ := id hO
      have hl := g.many
      exact el_call (ea_cons fl (ea_cons (ev_fld (ev_var rfl) h1 G.cls G.pairs rfl) ea_nil)) fun H1 e Q1 q1 E1 => ⟨f', q, vs, ps, rfl, ex_t e h2, h3.mono e, by omega, q1⟩
    · have : ((rw_ f' ps).map (·.length)).sum ≤ 104 := sz.1
      have l1 : (" " : Str).length = 1 := by decide +kernel
      rw [l1]
      omega
/-! ### FrameRule.simple -/
def spSim (K : PySem.W.Frag) (C CR : Addr) : Sp := fun vs H Q E => ∃ x y, vs = [x, y] ∧ ((SgV K H x 1 7 false ∧ BadR CR (.str "watch") H E) ∨ ∃ z, x = .str z ∧ sgB z 1 7 = true ∧ ((SgV K H y 1 1 false ∧ BadR CR (.str "put") H E) ∨
  ∃ p, y = .str p ∧ sgB p 1 1 = true ∧ Good (z ++ flip1 p) [(z, p)] ∧ RetRu K C (z ++ flip1 p) [(z, p)] H Q))
theorem scSim : FnScope ["watch", "put"] ["watch", "put"] (defScope (sFr 1)) := ⟨rfl, rfl, rfl, by decide +kernel, rfl, by decide +kernel, by decide +kernel⟩
theorem ok_Sim {C CR CM f fI fR : Addr} {mc : Value} {fd fdR : FuncData} (F : Fun K "simple" "FrameRule.simple" (sFr 1) f fd) (N : FName K mg C mc) (M : Mk K C fI) (FI : FnR P w K mg base (L2.CX P w) 4 fI (spInitA K C CR CM))
    (B : GOne P w K mg base "BadRule" "part" CR fR fdR) (GW : Gfn P w K mg base 2 "is_signs_within" ["value", "least", "most"] (spSignsW K)) : FnOk P w K mg base (L2.CX P w) 6 f fd ["watch", "put"] (spSim K C CR) := by
  obtain ⟨fW, fdW, GW, kW, bW, gW⟩ := GW
  refine F.okX scSim (fun vs H Q E h => ?_) (fun cdv A outer s H vs Q E hr h => ?_)
  · obtain ⟨x, y, rfl, _⟩ := h
    rfl
  · have r2 := hr.mono (show 2 ≤ 5 by decide)
    obtain ⟨x, y, rfl, h⟩ := h
    refine ⟨_, pss_cons (ps_if (pt_not (pt_val (pe_call GW r2 (by rfl) gW kW bW .nil pass0 (pa_cons (pv 0) (pa_cons pe_int (pa_cons pe_int pa_nil)))))) (pss_one (ps_raise rfl (takes_of rfl rfl rfl rfl) (pmk_oex B.ox B.init B.ty B.ok r2 B.b .nil pass0 (by rfl) B.g (pa_cons pe_str pa_nil)))) pss_nil)
      (pss_cons (ps_if (pt_not (pt_val (pe_call GW r2 (by rfl) gW kW bW .nil pass0 (pa_cons (pv 1) (pa_cons pe_int (pa_cons pe_int pa_nil)))))) (pss_one (ps_raise rfl (takes_of rfl rfl rfl rfl) (pmk_oex B.ox B.init B.ty B.ok r2 B.b .nil pass0 (by rfl) B.g (pa_cons pe_str pa_nil)))) pss_nil)
      (pss_one (ps_ret (pe_makeR (E := E0) M FI hr (by rfl) N.g (passN rfl rfl) (pa_cons (pe_op op_add_str (pv 0) (pe_ifExp (pt_cmpR op_eq (pv 1) pe_str (nomark _)) pe_str pe_str)) (pa_cons (pe_tup (pa_cons (pv 0) (pa_cons (pv 1) pa_nil))) pa_nil)))))), ?_⟩
    have first : ∀ {H1 : Hp} {b : Bool}, SgV K H1 x 1 7 b → EvT (tNot (tB (tCall (spSignsW K) [] E0 (tCons (tVar 0) (tCons (tC (.int 1)) (tCons (tC (.int 7)) tNil)))))) [some x, some y] H1 (!b) := fun h1 => et_not (et_B (ev_sgw (ev_var rfl) ev_c ev_c h1))
    have second : ∀ {H1 : Hp} {b : Bool}, SgV K H1 y 1 1 b → EvT (tNot (tB (tCall (spSignsW K) [] E0 (tCons (tVar 1) (tCons (tC (.int 1)) (tCons (tC (.int 1)) tNil)))))) [some x, some y] H1 (!b) := fun h1 => et_not (et_B (ev_sgw (ev_var rfl) ev_c ev_c h1))
    rcases h with ⟨h1, hE⟩ | ⟨z, rfl, hz, h⟩
    · exact q_when (b := true) (first h1) (fun _ H1 e1 => raise_one (ea_cons ev_c ea_nil) (hE.mono e1)) (fun z => absurd z (by decide))
    have lz := sgB_iff.mp hz
    refine q_when (b := false) (first (b := true) (by
      have := sgv_str (K := K) (H := H) (z := z) (lo := 1) (hi := 7) (by omega)
      rwa [hz] at this)) (fun z => absurd z (by decide)) (fun _ H1 e1 => ?_)
    rcases h with ⟨h2, hE⟩ | ⟨p, rfl, hp, g, k⟩
    · exact q_when (b := true) (second (h2.mono e1)) (fun _ H2 e2 => raise_one (ea_cons ev_c ea_nil) (hE.mono (e1.trans e2))) (fun z => absurd z (by decide))
    have lp := sgB_iff.mp hp
    refine q_when (b := false) (second (b := true) (by
      have := sgv_str (K := K) (H := H1) (z := p) (lo := 1) (hi := 1) (by omega)
      rwa [hp] at this)) (fun z => absurd z (by decide)) (fun _ H2 e2 => ?_)
    have E2 := e1.trans e2
    have fl : Ev (tOp (fun x y H Q => ∃ i j, x = .str i ∧ y = .str j ∧ i.length + j.length ≤ sizeLine ∧ Q (.str (i ++ j)) H) (tVar 0) (tIf (tTest (tOp rEq (tVar 1) (tC (.str "0")))) (tC (.str "1")) (tC (.str "0")))) [some (.str z), some (.str p)] H2 (.str (z ++ flip1 p)) := by
      refine ev_addS (ev_var rfl) (ev_if (b := decide (p = "0")) (et_is (et_test (ev_op (ev_var rfl) ev_c (rv_eq rfl))) dec_str) (fun h => ?_) (fun h => ?_)) ?_
      · unfold flip1
        rw [if_pos (of_decide_eq_true h)]
        exact ev_c
      · unfold flip1
        rw [if_neg (of_decide_eq_false h)]
        exact ev_c
      · have : (flip1 p).length = 1 := by
          unfold flip1
          split <;> decide +kernel
        omega
    refine s_retR (cons_i (fl H2 (Ex.refl H2) _ fun H3 e3 => cons_i (tup_i (cons_i ⟨_, rfl, cons_i ⟨_, rfl, ?_⟩⟩))))
    refine ⟨by show 2 ≤ sizeLine; decide, fun t ht x dx hx hd hn => ?_⟩
    have e4 := Ex.new (o := .tup [.str z, .str p]) ht
    exact init_told (xs := [.ref t]) hx hd hn (by show 1 ≤ 900; decide) (made_ok g (prs_cons (p := (z, p)) upd_same prs_nil) (List.Perm.refl _) fun qs gq pm => by
      rw [good_one gq g pm]
      exact k.mono ((E2.trans e3).trans e4))
end
end K08
namespace K08
open PySem L2 Evl Gr StX EnT ClX ClK RdX SrtT StS
theorem Prs.updL {H : Hp} {vs xs : List V} {ps : List Pr} {l : Addr} {u : HO} (h : Prs H vs ps) (hl : H l = some (.lst xs)) : Prs (L2.upd H l u) vs ps := h.to fun t p q => by
  rw [upd_ne (fun z => by rw [z, hl] at q; cases q)]
  exact q
theorem prs_snoc {H : Hp} {vs : List V} {ps : List Pr} {t : Addr} {p : Pr} (h : Prs H vs ps) (ht : H t = some (.tup [.str p.1, .str p.2])) : Prs H (vs ++ [.ref t]) (ps ++ [p]) := by
  unfold Prs at *
  rw [List.map_append, List.map_append, h, List.map_cons, List.map_nil, ctn_iff.mpr ⟨t, rfl, ht⟩]
  rfl
/-- gives a pair of texts -/
def EvPr (te : TE) (σ : L2.St) (H : Hp) (p : Pr) : Prop := ∀ H1, Ex H H1 → ∀ Q : VK, (∀ t H2, Ex H1 H2 → H2 t = some (.tup [.str p.1, .str p.2]) → Q (.ref t) H2) → te σ H1 Q
section
variable {K : PySem.W.Frag} {σ : L2.St} {H : Hp} {ta : TA} {te tb : TE}
theorem ep_tup {p : Pr} (h1 : Ev te σ H (.str p.1)) (h2 : Ev tb σ H (.str p.2)) : EvPr (tTup (tCons te (tCons tb tNil))) σ H p := fun H1 e Q q =>
  h1 H1 e _ fun H2 e2 => h2 H2 (e.trans e2) _ fun H3 e3 => ⟨by show 2 ≤ sizeLine; decide, fun t ht => q t _ ((e2.trans e3).trans (Ex.new ht)) upd_same⟩
theorem lp_turn {H1 H' : Hp} {Dl : Addr} {σ2 : L2.St} {g : Nat → Pr} {i : Nat} (hD : H1 Dl = none) (p : ∃ xs, H' Dl = some (.lst xs) ∧ Prs H' xs ((List.range i).map g) ∧ Ex H1 H') (hi : i < 900) (he : EvPr te σ2 H1 (g i)) :
    te σ2 H' fun y H4 => ∃ acc, H4 Dl = some (.lst acc) ∧ acc.length < sizeLine ∧ ∃ xs, (upd H4 Dl (.lst (acc ++ [y]))) Dl = some (.lst xs) ∧ Prs (upd H4 Dl (.lst (acc ++ [y]))) xs ((List.range (i + 1)).map g) ∧ Ex H1 (upd H4 Dl (.lst (acc ++ [y]))) := by
  obtain ⟨xs, h1, h2, h3⟩ := p
  refine he H' h3 _ fun t H2 e2 ht => ⟨xs, e2 _ _ h1, ?_, xs ++ [.ref t], upd_same, ?_, Ex.mut (h3.trans e2) hD⟩
  · have := h2.len
    rw [List.length_map, List.length_range] at this
    exact sz_lt (by omega)
  · rw [List.range_succ, List.map_append]
    exact (prs_snoc (h2.mono e2) ht).updL (e2 _ _ h1)
/-- [a pair for k in range(lo, hi, c)] -/
theorem s_pairs3 {j : Nat} {vs : List Nat} {lo hi c : Int} {n : Nat} {Q : VK} (g : Nat → Pr) (h : EvA ta σ H [.int lo, .int hi, .int c]) (hr : RgC lo hi c n) (hn : n ≤ 900) (hw : ∀ x, wipe ((wipe σ vs).set j (some x)) vs = wipe σ vs)
    (he : ∀ k, k < n → ∀ H1, Ex H H1 → EvPr te ((wipe σ vs).set j (some (.int (lo + (k : Nat) * c)))) H1 (g k)) (q : ∀ p xs H', H p = none → Ex H H' → H' p = some (.lst xs) → Prs H' xs ((List.range n).map g) → Q (.ref p) H') :
    tLc (iRng3 ta) (gName j) (fun σ H Q => Q true H) te vs σ H Q := h H (Ex.refl H) _ fun H1 e1 => ⟨lo, hi, c, n, rfl, hr, fun Dl hD => lc_it (n := n) (walk_rangeC (lo := lo) (c := c)) (g := gName j) (tt := fun σ H Q => Q true H) (te := te) (vs := vs) (σ := σ) (fun i H' => ∃ xs, H' Dl = some (.lst xs) ∧ Prs H' xs ((List.range i).map g) ∧ Ex H1 H')
      ⟨[], upd_same, prs_nil, Ex.new hD⟩ (fun _ _ _ _ => trivial)
      (fun k x H' H'' hk p y => by
        obtain ⟨rfl, rfl⟩ := y
        exact ⟨hw _, lp_turn hD p (by omega) (he k hk H1 e1)⟩)
      (fun H' ⟨xs, h1, h2, h3⟩ => q Dl xs H' (fresh_back e1 hD) (e1.trans h3) h1 h2)⟩
end
section
variable {P : Program} {w : World} {K : PySem.W.Frag} {mg : Str → Option Value} {base : Heap}
/-! ### FrameRule.read -/
abbrev nRead : List Str := ["cls", "text", "words", "at", "pairs"]
def spRead (K : PySem.W.Frag) (C CB : Addr) : Sp := fun vs H Q E => (∃ ws d, vs = [.ref C, .str (tx ws)] ∧ ws ≠ [] ∧ Free ws ∧ (tx ws).length ≤ 1000 ∧ (∀ z ∈ ws, z.length ≤ 1000) ∧ ws.length ≤ 1000 ∧ Due ws d ∧
    (∀ i, d = some i → BadT CB (i : Int) H E) ∧ (d = none → RetRu K C (gw ws 0) (pairsOf ws) H Q)) ∨
  ∃ (x : V) (T : String), vs = [.ref C, x] ∧ TyX K H x (.type T) ∧ kitB T "str" = some false ∧ BadT CB 0 H E
theorem scRead : FnScope nRead ["cls", "text"] (defScope (sFr 10)) := ⟨rfl, rfl, rfl, by decide +kernel, rfl, by decide +kernel, by decide +kernel⟩
theorem ok_Read {C CR CM CB f fI fB : Addr} {mc : Value} {fd fdB : FuncData} (F : Fun K "read" "FrameRule.read" (sFr 10) f fd) (T : GlbT mg) (S : GlbS mg) (M : Mk K C fI) (FI : FnR P w K mg base (L2.CX P w) 4 fI (spInitA K C CR CM))
    (B : GTwo P w K mg base "BadText" "line" "word" CB fB fdB) {fW : Addr} {fdW : FuncData} (GW : FnOk P w K mg base (L2.CX P w) 3 fW fdW ["text"] (spWo K CB)) (kW : PySem.W.keepIn K (.ref fW) = true) (bW : Binds K fdW ["text"] []) (gW : mg "words_of" = some (.ref fW))
    (GC : Gfn P w K mg base 3 "can_stand" ["words", "at"] (spCan K)) : FnOk P w K mg base (L2.CX P w) 6 f fd ["cls", "text"] (spRead K C CB) := by
  obtain ⟨fC, fdC, GC, kC, bC, gC⟩ := GC
  refine F.okX scRead (fun vs H Q E h => ?_) (fun cdv A outer s H vs Q E hr h => ?_)
  · rcases h with ⟨ws, d, rfl, _⟩ | ⟨x, t, rfl, _⟩ <;> rfl
  · have r3 := hr.mono (show 3 ≤ 5 by decide)
    have r2 := hr.mono (show 2 ≤ 5 by decide)
    rcases h with ⟨ws, d, rfl, hn, ok, hl, hz, hl2, due, kd, kn⟩ | ⟨x, t, rfl, ht, hk, k⟩
    all_goals refine ⟨_, pss_cons (ps_set (i := 2) scRead.nd rfl (.inr rfl) (pe_call (E := E) GW r3 (by rfl) gW kW bW .nil (passes_call (takes_of rfl rfl rfl rfl) fun _ _ _ _ z => z) (pa_cons (pv 1) pa_nil)))
      (pss_cons (ps_for (passes_of rfl) rfl (pi_range1 (by rfl) S.range (pa_cons (pe_callB call_len_seq (by rfl) T.len PySem.boot_len (pa_cons (pv 2) pa_nil)) pa_nil)) (pg_name (i := 3) scRead.nd rfl (.inl rfl))
        (pss_one (ps_if (pt_not (pt_val (pe_call GC r3 (by rfl) gC kC bC .nil pass0 (pa_cons (pv 2) (pa_cons (pv 3) pa_nil))))) (pss_one (ps_raise rfl (takes_of rfl rfl rfl rfl) (pmk_oex B.ox B.init B.ty B.ok r2 B.b .nil pass0 (by rfl) B.g (pa_cons pe_int (pa_cons (pv 3) pa_nil))))) pss_nil)))
      (pss_cons (ps_if (PW.pt (pw_or (pt_cmpR op_eq (pe_callB call_len_seq (by rfl) T.len PySem.boot_len (pa_cons (pv 2) pa_nil)) pe_int (nomark _)) (pw_or1 (PW.pt (pw_and (pt_cmpR op_gt (pe_callB call_len_seq (by rfl) T.len PySem.boot_len (pa_cons (pv 2) pa_nil)) pe_int (nomark _)) (pw_and1 (pt_cmpR op_ne (pe_op op_mod (pe_callB call_len_seq (by rfl) T.len PySem.boot_len (pa_cons (pv 2) pa_nil)) pe_int) pe_int (nomark _))))))))
        (pss_one (ps_raise rfl (takes_of rfl rfl rfl rfl) (pmk_oex B.ox B.init B.ty B.ok r2 B.b .nil pass0 (by rfl) B.g (pa_cons pe_int (pa_cons (pe_callB call_len_seq (by rfl) T.len PySem.boot_len (pa_cons (pv 2) pa_nil)) pa_nil))))) pss_nil)
      (pss_cons (ps_setLc (i := 4) (own := [("at", 3)]) (g := gName 3) rfl scRead.nd rfl (by rfl) (by rfl) (pi_range3 (by rfl) S.range (pa_cons pe_int (pa_cons (pe_callB call_len_seq (by rfl) T.len PySem.boot_len (pa_cons (pv 2) pa_nil)) (pa_cons pe_int pa_nil)))) (blkOk_by (own := [("at", 3)]) (N := nRead) (sc := defScope (sFr 10)) (by decide +kernel))
        (fun _ _ _ _ _ => pg_name (i := 3) scRead.nd rfl (Or.inl rfl)) (fun _ _ _ _ _ => pts_nil) (fun _ _ _ _ _ => pe_tup (pa_cons (pe_ix (show IxR _ (rIxL K) from ix_list) (pv 2) (pv 3) (fun _ _ => rfl)) (pa_cons (pe_ix (show IxR _ (rIxL K) from ix_list) (pv 2) (pe_op op_add (pv 3) pe_int) (fun _ _ => rfl)) pa_nil))))
      (pss_one (ps_ret (pe_makeL2 (i := 0) (E := E0) M FI hr rfl (.inl rfl) (passN rfl rfl) (pa_cons (pe_ix ix_list (pv 2) pe_int (fun _ _ => rfl)) (pa_star (pv 4) pa_nil)))))))), ?_⟩
    · refine q_call (ea_cons (ev_var rfl) ea_nil) fun H1 e1 => .inl ⟨ws, rfl, hn, ok, hl, fun p H2 hp e2 h2 => ?_⟩
      have E2 := e1.trans e2
      have sq : ∀ {H3 : Hp}, Ex H2 H3 → SqL K H3 p (ws.map V.str) := fun e => ex_l e (sq_of h2)
      have ln : ∀ {H3 : Hp} {x3 x4 : Option V}, Ex H2 H3 → Ev (tCB (rLenQ K) (tCons (tVar 2) tNil)) [some (.ref C), some (.str (tx ws)), some (.ref p), x3, x4] H3 (.int (ws.length : Int)) := fun e => ev_is (ev_lenSq (ev_var rfl) (sq e)) (by rw [List.length_map])
      refine q_forR1 (ea_cons (ln (Ex.refl H2)) ea_nil) (by omega) (fun i σ' H' => (∃ x3, σ' = [some (.ref C), some (.str (tx ws)), some (.ref p), x3, none]) ∧ Ex H2 H' ∧ ∀ j, j < i → standB ws j = true) (fun H3 e3 => ⟨⟨none, rfl⟩, e3, fun j hj => by omega⟩) ?_ ?_
      · rintro i σ' H3 hi ⟨⟨x3, rfl⟩, e3, all⟩
        have hi : i < ws.length := by omega
        refine s_if (et_not (et_B (ev_call (z := .bl (standB ws i)) (σ := [some (.ref C), some (.str (tx ws)), some (.ref p), some (.int (i : Int)), none]) (ea_cons (ev_var rfl) (ea_cons (ev_var rfl) ea_nil)) fun H4 e4 Q q E => ⟨p, ws, i, rfl, sq (e3.trans e4), hi, hl2, hz, q⟩))) (fun hb H4 e4 => ?_) (fun hb H4 e4 => ?_)
        · have st : standB ws i = false := by simpa using hb
          have dd : Due ws (some i) := ⟨fun j hj _ => all j hj, by omega, fun _ => st, fun z => by omega⟩
          exact raise_two (ea_cons ev_c (ea_cons (ev_var rfl) ea_nil)) ((kd i (due_one due dd)).mono ((E2.trans e3).trans e4))
        · have st : standB ws i = true := by simpa using hb
          refine ⟨⟨_, rfl⟩, e3.trans e4, fun j hj => ?_⟩
          by_cases c : j = i
          · rw [c]; exact st
          · exact all j (by omega)
      · rintro σ' H3 ⟨⟨x3, rfl⟩, e3, all⟩
        rw [Int.toNat_natCast] at all
        have odd : ∀ b : Bool, b = (decide ((ws.length : Int) = 1) || (decide ((ws.length : Int) > 2) && !decide ((ws.length : Int) % 3 = 1))) → (b = true ↔ Odd3 ws.length) := fun b hb => by
          rw [hb]
          unfold Odd3
          rw [Bool.or_eq_true, Bool.and_eq_true, decide_eq_true_iff, decide_eq_true_iff, Bool.not_eq_true', decide_eq_false_iff_not]
          omega
        refine q_when (et_or (et_test (ev_op (ln e3) ev_c (rv_eq rfl))) fun _ => et_and (et_test (ev_op (ln e3) ev_c rv_I0)) fun _ => et_test (ev_op (ev_op (ln e3) ev_c (rv_I (by decide))) ev_c (rv_ne rfl))) (fun hb H4 e4 => ?_) (fun hb H4 e4 => ?_)
        · rw [vint_inj, vint_inj] at hb
          have od := (odd _ rfl).mp hb
          have dd : Due ws (some ws.length) := ⟨fun j hj _ => all j hj, Nat.le_refl _, fun z => by omega, fun _ => od⟩
          exact raise_two (ea_cons ev_c (ea_cons (ln (e3.trans e4)) ea_nil)) ((kd _ (due_one due dd)).mono ((E2.trans e3).trans e4))
        · rw [vint_inj, vint_inj] at hb
          have od : ¬ Odd3 ws.length := fun z => by
            have := (odd _ rfl).mpr z
            rw [hb] at this
            cases this
          have dd : Due ws none := ⟨all, od⟩
          have k := kn (due_one due dd)
          obtain ⟨g, hw⟩ := due_none hn dd
          have l0 : 0 < ws.length := List.length_pos_iff.mpr hn
          have E4 := e3.trans e4
          have two : 2 ≤ ws.length := by
            unfold Odd3 at od
            omega
          have cnt : (((ws.length : Int) - 2 + 3 - 1) / 3).toNat = (ws.length - 1) / 3 := by
            unfold Odd3 at od
            omega
          refine q_asgR (s_pairs3 (j := 3) (vs := [3]) (lo := 2) (hi := (ws.length : Int)) (c := 3) (σ := [some (.ref C), some (.str (tx ws)), some (.ref p), x3, none]) (g := fun k => (gw ws (2 + 3 * k), gw ws (3 + 3 * k))) (ea_cons ev_c (ea_cons (ln E4) (ea_cons ev_c ea_nil))) (rgc_up (by decide) (by decide) (by decide) (by decide) (by omega) (by omega)) (by omega) (fun _ => rfl) (fun k hk H5 e5 => ?_) (fun l xs H5 hl5 e5 h5 hp5 => ?_))
          · refine ep_tup (ev_op (ev_var rfl) (ev_var rfl) (rv_ixL (sq (E4.trans e5)) ?_)) (ev_op (ev_var rfl) (ev_op (ev_var rfl) ev_c rv_I0) (rv_ixL (sq (E4.trans e5)) ?_))
            · rw [show (2 : Int) + (k : Nat) * 3 = ((2 + 3 * k : Nat) : Int) by omega]
              exact atI_ws (by omega)
            · rw [show (2 : Int) + (k : Nat) * 3 + 1 = ((3 + 3 * k : Nat) : Int) by omega]
              exact atI_ws (by unfold Odd3 at od; omega)
          · rw [cnt] at hp5
            have hp5 : Prs H5 xs (pairsOf ws) := hp5
            refine s_retR ⟨rfl, cons_i (ev_op (ev_var rfl) ev_c (rv_ixL (sq (E4.trans e5)) (atI_ws (i := 0) l0)) H5 (Ex.refl H5) _ fun H6 e6 => ⟨.ref l, rfl, l, xs, rfl, .inr (sq_of (e6 _ _ h5)), ?_⟩)⟩
            refine fun x dx hx hd hne => ?_
            rw [List.append_nil]
            have := g.many
            have := hp5.len
            exact init_told hx hd hne (by omega) (made_ok g (hp5.mono e6) (List.Perm.refl _) fun qs gq pm => by
              rw [good_one gq g pm]
              exact k.mono (((E2.trans E4).trans e5).trans e6))
    · exact q_call (ea_cons (ev_var rfl) ea_nil) fun H1 e1 => .inr ⟨x, t, rfl, tyx_mono e1 ht, hk, k.mono e1⟩
end
end K08
namespace K08
open PySem L2 Evl Gr StX EnT ClX ClK RdX SrtT StS
abbrev sRt : Stmt := top 31
abbrev sMade : Stmt := top 33
abbrev sLis : Stmt := top 35
/-! ### comprehensions over lists of pairs, over texts -/
section
variable {K : PySem.W.Frag} {σ : L2.St} {H : Hp} {te ta tl : TE} {t : TT}
theorem el_pairL {ps : List Pr} {xs : List V} {a : Addr} {i j : Nat} {vs : List Nat} (f : Pr → Bool) (g : Pr → V) (h : Ev tl σ H (.ref a)) (ha : SqL K H a xs) (hx : Prs H xs ps) (hz : ps.length ≤ 40000) (hw : ∀ x y, wipe (((wipe σ vs).set i (some x)).set j (some y)) vs = wipe σ vs)
    (ht : ∀ p ∈ ps, ∀ H1, Ex H H1 → EvT t (((wipe σ vs).set i (some (.str p.1))).set j (some (.str p.2))) H1 (f p)) (he : ∀ p ∈ ps, ∀ H1, Ex H H1 → f p = true → Ev te (((wipe σ vs).set i (some (.str p.1))).set j (some (.str p.2))) H1 (g p)) :
    EvL (tLc (iList K tl) (gTup K 2 (gCons (gName i) (gCons (gName j) gNil))) t te vs) σ H ((ps.filter f).map g) := by
  have len := hx.len
  have main : EvL (tLc (iList K tl) (gTup K 2 (gCons (gName i) (gCons (gName j) gNil))) t te vs) σ H (given xs.length (at_ ps f) (got ps g)) := fun H0 e Q q => h H0 e _ fun H1 e1 =>
    ⟨a, rfl, ⟨xs, ex_l (e.trans e1) ha⟩, fun Dl hD => lc_it (n := xs.length) (walk_list (xs := xs)) (g := gTup K 2 (gCons (gName i) (gCons (gName j) gNil))) (tt := t) (te := te) (vs := vs) (σ := σ) (Cw H1 (at_ ps f) (got ps g) Dl) ⟨hD, Ex.new hD, upd_same⟩ (fun _ H' _ p => ex_l ((e.trans e1).trans p.2.1) ha)
      (fun k x H' H'' hk p y => by
        obtain ⟨rfl, hx'⟩ := y
        obtain ⟨T, q, rfl, hq, hT⟩ := hx.at hx'
        have eT := (e.trans e1).trans p.2.1
        have hm := List.mem_of_getElem? hq
        refine ⟨T, _, rfl, st_of (eT _ _ hT), rfl, _, _, rfl, _, _, rfl, rfl, hw _ _, cw_turn p (by omega) ?_ fun hf => ?_⟩
        · rw [at_of hq]
          exact ht q hm H1 (e.trans e1)
        · rw [at_of hq] at hf
          rw [got_of hq]
          exact he q hm H1 (e.trans e1) hf)
      (fun H' p => q Dl H' (fresh_back e1 p.1) (e1.trans p.2.1) p.2.2)⟩
  rw [len, given_of] at main
  exact main
/-- a comprehension over a text -/
theorem el_lcS {z : Str} {tl : TE} {j : Nat} {vs : List Nat} (f : Nat → Bool) (v : Nat → V) (h : Ev tl σ H (.str z)) (hz : z.cps.size ≤ 40000) (hw : ∀ x, wipe ((wipe σ vs).set j (some x)) vs = wipe σ vs)
    (ht : ∀ (i c : Nat) H1, Ex H H1 → z.cps[i]? = some c → EvT t ((wipe σ vs).set j (some (.str ⟨#[c]⟩))) H1 (f i)) (he : ∀ (i c : Nat) H1, Ex H H1 → z.cps[i]? = some c → f i = true → Ev te ((wipe σ vs).set j (some (.str ⟨#[c]⟩))) H1 (v i)) :
    EvL (tLc (iStr tl) (gName j) t te vs) σ H (given z.cps.size f v) := fun H0 e Q q => h H0 e _ fun H1 e1 => ⟨z, rfl, fun Dl hD => lc_it (n := z.cps.size) (walk_str (z := z)) (g := gName j) (tt := t) (te := te) (vs := vs) (σ := σ) (Cw H1 f v Dl) ⟨hD, Ex.new hD, upd_same⟩ (fun _ _ _ _ => trivial)
      (fun i x H' H'' hi p y => by
        obtain ⟨rfl, c, hc, rfl⟩ := y
        exact ⟨hw _, cw_turn p (by omega) (ht i c H1 (e.trans e1) hc) fun hf => he i c H1 (e.trans e1) hc hf⟩)
      (fun H' p => q Dl H' (fresh_back e1 p.1) (e1.trans p.2.1) p.2.2)⟩
end
/-- the signs of z that stand not in oi -/
def offs (z : Str) : List Str := ((List.range z.cps.size).filter fun i => !decide (z.cps.toList.getD i 0 ∈ oi.cps.toList)).map fun i => ⟨#[z.cps.toList.getD i 0]⟩
theorem oi_list : oi.cps.toList = [48, 49] := by decide +kernel
theorem offs_nil (z : Str) : (offs z = []) ↔ Sg z = true := by
  unfold offs Sg
  rw [List.map_eq_nil_iff, List.filter_eq_nil_iff, List.all_eq_true, oi_list]
  constructor
  · intro h c hc
    obtain ⟨i, hi, e⟩ := List.mem_iff_getElem.mp hc
    have hi' : i < z.cps.size := hi
    have := h i (List.mem_range.mpr hi')
    rw [List.getD_eq_getElem?_getD, List.getElem?_eq_getElem hi'] at this
    have e : z.cps.toList[i] = c := e
    rw [Option.getD_some, e] at this
    have this : ¬ (c ≠ 48 ∧ c ≠ 49) := by simpa using this
    unfold isO
    rw [decide_eq_true_iff]
    omega
  · intro h i hi
    have hi : i < z.cps.size := List.mem_range.mp hi
    have := h z.cps.toList[i] (List.getElem_mem hi)
    rw [List.getD_eq_getElem?_getD, List.getElem?_eq_getElem hi, Option.getD_some]
    unfold isO at this
    rw [decide_eq_true_iff] at this
    have this : ¬ (z.cps.toList[i] ≠ 48 ∧ z.cps.toList[i] ≠ 49) := by omega
    simpa using this
theorem dps_strs {K : PySem.W.Frag} {H : Hp} : ∀ (ns : List Str), DpAll K H (ns.map V.str) (ns.map PyData.str)
  | [] => .nil
  | n :: ns => .cons (.str n) (dps_strs ns)
theorem eqv_nil (ds : List PyData) : PyData.eqv (.list ds) (.list []) = decide (ds = []) := by
  cases ds with
  | nil => simp [PyData.eqv, PyData.eqvAll]
  | cons d ds => simp [PyData.eqv, PyData.eqvAll]
theorem sh_strs {ns : List Str} (h : ∀ z ∈ ns, PyData.strOk z = true) : SeqAt.shaped (.list (ns.map PyData.str)) = true := low_shaped (low_list (n := 0) fun d hd => by
  obtain ⟨z, hz, rfl⟩ := List.mem_map.mp hd
  exact low_str (h z hz)) (by decide)
theorem strOk_one {z : Str} (h : PyData.strOk z = true) {c : Nat} (hc : c ∈ z.cps.toList) : PyData.strOk ⟨#[c]⟩ = true := by
  unfold PyData.strOk at *
  rw [← Array.all_toList, List.all_eq_true] at h
  simpa using h c hc
section
variable {P : Program} {w : World} {K : PySem.W.Frag} {mg : Str → Option Value} {base : Heap}
/-! ### _law_is_signs -/
abbrev nLis : List Str := ["_law_word", "_law_least", "_law_most", "_law_sign"]
def spLis : Sp := fun vs H Q _ => ∃ (z : Str) (lo hi : Int), vs = [.str z, .int lo, .int hi] ∧ z.length ≤ 1000 ∧ PyData.strOk z = true ∧ RetV (.bl (sgB z lo hi)) H Q
theorem scLis : FnScope nLis ["_law_word", "_law_least", "_law_most"] (defScope sLis) := ⟨rfl, rfl, rfl, by decide +kernel, rfl, by decide +kernel, by decide +kernel⟩
theorem ok_Lis {f : Addr} {fd : FuncData} (F : Fun K "_law_is_signs" "_law_is_signs" sLis f fd) (T : GlbT mg) : FnOk P w K mg base CX0 1 f fd ["_law_word", "_law_least", "_law_most"] spLis := by
  refine F.ok scLis (fun vs H Q E h => ?_) (fun cdv A outer s H vs Q E hr h => ?_)
  · obtain ⟨z, lo, hi, rfl, _⟩ := h
    rfl
  · obtain ⟨z, lo, hi, rfl, hz, ok, k⟩ := h
    refine ⟨_, pss_one (ps_ret (pe_and (pe_chain op_le op_le (pv 1) (pe_callB call_len (by rfl) T.len PySem.boot_len (pa_cons (pv 0) pa_nil)) (pv 2))
      (pe_one (pe_cmpR (op_eqD hr.units) (pe_lc (own := [("_law_sign", 3)]) (g := gName 3) rfl scLis.nd (pi_str (pv 0)) (blkOk_by (own := [("_law_sign", 3)]) (N := nLis) (sc := defScope sLis) (by decide +kernel))
        (fun _ _ _ _ _ => pg_name (i := 3) scLis.nd rfl (Or.inl rfl)) (fun _ _ _ _ _ => pts_one (pt_cmpR op_notIn_sign (pv 3) pe_str (by rfl))) (fun _ _ _ _ _ => pv 3)) (pe_lst pa_nil) (nomark _))))), ?_⟩
    have given_is : given z.cps.size (fun i => !decide (z.cps.toList.getD i 0 ∈ oi.cps.toList)) (fun i => V.str ⟨#[z.cps.toList.getD i 0]⟩) = (offs z).map V.str := by
      unfold offs given
      rw [List.map_map]
      rfl
    have hc : ∀ {i c : Nat}, z.cps[i]? = some c → z.cps.toList.getD i 0 = c := fun {i c} e => by
      have : z.cps.toList[i]? = some c := by rw [Array.getElem?_toList]; exact e
      rw [List.getD_eq_getElem?_getD, this]
      rfl
    have c := el_lcS (σ := [some (.str z), some (.int lo), some (.int hi), none]) (H := H) (z := z) (tl := tVar 0) (t := tTest (tOp (fun x y H Q => ∃ (c : Nat) (z : Str), x = .str ⟨#[c]⟩ ∧ y = .str z ∧ Q (.bl (!decide (c ∈ z.cps.toList))) H) (tVar 3) (tC (.str oi)))) (te := tVar 3) (j := 3) (vs := [3])
      (fun i => !decide (z.cps.toList.getD i 0 ∈ oi.cps.toList)) (fun i => V.str ⟨#[z.cps.toList.getD i 0]⟩) (ev_var rfl) (by have : z.cps.size ≤ 1000 := hz; omega) (fun _ => rfl)
      (fun i c H1 e hi => by
        rw [hc hi]
        exact et_test (ev_op (ev_var rfl) ev_c fun H2 e2 Q q => ⟨c, oi, rfl, rfl, q H2 (Ex.refl H2)⟩))
      (fun i c H1 e hi _ => by
        rw [hc hi]
        exact ev_var rfl)
    rw [given_is] at c
    have oks : ∀ y ∈ offs z, PyData.strOk y = true := fun y hy => by
      obtain ⟨i, hi, rfl⟩ := List.mem_map.mp hy
      have hi := List.mem_range.mp (List.mem_filter.mp hi).1
      refine strOk_one ok ?_
      rw [List.getD_eq_getElem?_getD, List.getElem?_eq_getElem (show i < z.cps.toList.length from hi), Option.getD_some]
      exact List.getElem_mem _
    refine s_ret (ev_is (ev_andV (ev_chain (ev_var rfl) (ev_cb (ea_cons (ev_var rfl) ea_nil) (rc_lenS (by omega))) (ev_var rfl)) fun _ => ev_eqD (ed_L c fun _ _ => dps_strs _) (ed_L (ds := []) el_nil fun _ _ => .nil) (sh_strs oks) (by decide +kernel)) ?_) k
    unfold sgB
    rw [eqv_nil, signs_is, Bool.and_comm]
    have : decide ((offs z).map PyData.str = []) = Sg z := by
      rw [Bool.eq_iff_iff, decide_eq_true_iff, List.map_eq_nil_iff, offs_nil]
    rw [this]
/-! ### _law_rule_text -/
abbrev nRt : List Str := ["_law_plan_here", "_law_told", "_law_watch", "_law_put"]
/-- a plan of this flag and these pairs stands at v -/
def PlanAt (H : Hp) (v : V) (f : Str) (ps : List Pr) : Prop := ∃ t l xs, v = .ref t ∧ H t = some (.tup [.str f, .ref l]) ∧ H l = some (.lst xs) ∧ Prs H xs ps
theorem PlanAt.mono {H H' : Hp} {v : V} {f : Str} {ps : List Pr} (e : Ex H H') (h : PlanAt H v f ps) : PlanAt H' v f ps := by
  obtain ⟨t, l, xs, h1, h2, h3, h4⟩ := h
  exact ⟨t, l, xs, h1, e _ _ h2, e _ _ h3, h4.mono e⟩
def spRt : Sp := fun vs H Q _ => ∃ (v : V) (f : Str) (ps : List Pr), vs = [v] ∧ PlanAt H v f ps ∧ Good f ps ∧ RetV (.str (tx (rw_ f ps))) H Q
theorem scRt : FnScope nRt ["_law_plan_here"] (defScope sRt) := ⟨rfl, rfl, rfl, by decide +kernel, rfl, by decide +kernel, by decide +kernel⟩
theorem ok_Rt {f : Addr} {fd : FuncData} (F : Fun K "_law_rule_text" "_law_rule_text" sRt f fd) : FnOk P w K mg base CX0 1 f fd ["_law_plan_here"] spRt := by
  refine F.ok scRt (fun vs H Q E h => ?_) (fun cdv A outer s H vs Q E hr h => ?_)
  · obtain ⟨v, f, ps, rfl, _⟩ := h
    rfl
  · obtain ⟨v, f', ps, rfl, hv, g, k⟩ := h
    refine ⟨_, pss_cons (ps_set (i := 1) scRt.nd rfl (.inl rfl) (pe_join pe_str (pe_lc (own := [("_law_watch", 2), ("_law_put", 3)]) (g := gTup K 2 (gCons (gName 2) (gCons (gName 3) gNil))) rfl scRt.nd (pi_list (pe_ix ix_tup (pv 0) pe_int (fun _ _ => rfl))) (blkOk_by (own := [("_law_watch", 2), ("_law_put", 3)]) (N := nRt) (sc := defScope sRt) (by decide +kernel))
        (fun _ _ _ _ _ => pg_tup rfl (pgs_cons (pg_name (i := 2) scRt.nd rfl (Or.inl rfl)) (pgs_cons (pg_name (i := 3) scRt.nd rfl (Or.inl rfl)) pgs_nil))) (fun _ _ _ _ _ => pts_nil) (fun _ _ _ _ _ => pe_op op_add_str (pe_op op_add_str (pv 2) pe_str) (pv 3)))))
      (pss_one (ps_ret (pe_op op_add_str (pe_op op_add_str (pe_ix ix_tup (pv 0) pe_int (fun _ _ => rfl)) pe_str) (pe_ifExp (pt_cmpR op_ne (pv 1) pe_str (nomark _)) (pe_op op_add_str pe_str (pv 1)) pe_str)))), ?_⟩
    obtain ⟨t, l, xs, rfl, ht, hl, hp⟩ := hv
    have fl := sgB_iff.mp g.flag
    have lens : ∀ p ∈ ps, p.1.length ≤ 8 ∧ p.2.length = 1 ∧ p.1.length ≠ 0 := fun p h => by
      have h1 := sgB_iff.mp (g.ok p h).1
      have h2 := sgB_iff.mp (g.ok p h).2
      omega
    have l1 : (" " : Str).length = 1 := by decide +kernel
    have lapp : ∀ a b : Str, (a ++ b).length = a.length + b.length := fun a b => by rw [TL.len_tl, TL.tl_append, List.length_append, ← TL.len_tl, ← TL.len_tl]
    have many := g.many
    have c := el_pairL (K := K) (σ := [some (.ref t), none, none, none]) (H := H) (t := fun σ H Q => Q true H) (te := tOp (fun x y H Q => ∃ i j, x = .str i ∧ y = .str j ∧ i.length + j.length ≤ sizeLine ∧ Q (.str (i ++ j)) H) (tOp (fun x y H Q => ∃ i j, x = .str i ∧ y = .str j ∧ i.length + j.length ≤ sizeLine ∧ Q (.str (i ++ j)) H) (tVar 2) (tC (.str " "))) (tVar 3))
      (tl := tOp (rIxT K) (tVar 0) (tC (.int 1))) (i := 2) (j := 3) (vs := [2, 3]) (a := l) (fun _ => true) (fun p => V.str (pairTx p)) (ev_op (ev_var rfl) ev_c (rv_ixT_ (st_of ht) (i := 1) rfl)) (sq_of hl) hp (by omega) (fun _ _ => rfl) (fun _ _ _ _ => et_none)
      (fun p hp H1 e _ => by
        have := lens p hp
        exact ev_addS (ev_addS (ev_var rfl) ev_c (by rw [l1]; omega)) (ev_var rfl) (by rw [lapp, l1]; omega))
    rw [List.filter_eq_self.mpr (fun _ _ => rfl)] at c
    have c2 := c
    rw [show (ps.map fun p => V.str (pairTx p)) = (ps.map pairTx).map V.str by rw [List.map_map]; rfl] at c2
    have psum : ((ps.map pairTx).map (·.length)).sum ≤ 10 * (ps.map pairTx).length := by
      have := sum_most (l := (ps.map pairTx).map (·.length)) (b := 10) fun n hn => by
        obtain ⟨z, hz, rfl⟩ := List.mem_map.mp hn
        obtain ⟨p, hp, rfl⟩ := List.mem_map.mp hz
        have := lens p hp
        unfold pairTx
        rw [lapp, lapp, l1]
        omega
      rwa [List.length_map (as := ps.map pairTx)] at this
    rw [List.length_map] at psum
    have l3 : (" , " : Str).length = 3 := by decide +kernel
    have told : Ev (tM1 (rJoin K) (tC (.str " , ")) (tLc (iList K (tOp (rIxT K) (tVar 0) (tC (.int 1)))) (gTup K 2 (gCons (gName 2) (gCons (gName 3) gNil))) (fun σ H Q => Q true H) (tOp (fun x y H Q => ∃ i j, x = .str i ∧ y = .str j ∧ i.length + j.length ≤ sizeLine ∧ Q (.str (i ++ j)) H) (tOp (fun x y H Q => ∃ i j, x = .str i ∧ y = .str j ∧ i.length + j.length ≤ sizeLine ∧ Q (.str (i ++ j)) H) (tVar 2) (tC (.str " "))) (tVar 3)) [2, 3])) [some (.ref t), none, none, none] H (.str (toldTx ps)) := ev_joinL ev_c c2 (by rw [l3, List.length_map]; omega)
    have tlen : (toldTx ps).length ≤ 100 := by
      have e := glue_len (TL.tl (" , " : Str)) ((ps.map pairTx).map TL.tl)
      rw [show TL.joinL (TL.tl (" , " : Str)) ((ps.map pairTx).map TL.tl) = TL.tl (toldTx ps) by unfold toldTx; rw [TL.join_eq, TL.tl_join], ← TL.len_tl, ← TL.len_tl, l3, List.length_map, List.length_map, List.map_map] at e
      have e2 : ((ps.map pairTx).map ((fun x : List Nat => x.length) ∘ TL.tl)) = (ps.map pairTx).map (·.length) := List.map_congr_left fun z _ => (TL.len_tl z).symm
      rw [e2] at e
      omega
    refine q_asg told fun H1 e1 => ?_
    have l2 : (" :" : Str).length = 2 := by decide +kernel
    refine s_ret (ev_is (ev_addS (b := if toldTx ps = mt then mt else " " ++ toldTx ps) (ev_addS (ev_op (ev_var rfl) ev_c (rv_ixT_ (st_of (e1 _ _ ht)) (i := 0) rfl)) ev_c (by rw [l2]; omega)) (ev_if (b := !decide (toldTx ps = mt)) (et_is (et_test (ev_op (ev_var rfl) ev_c (rv_ne rfl))) (by rw [dec_str])) (fun h => ?_) (fun h => ?_)) ?_) ?_) fun H2 e2 => k H2 (e1.trans e2)
    · rw [Bool.not_eq_true', decide_eq_false_iff_not] at h
      rw [if_neg h]
      exact ev_addS ev_c (ev_var rfl) (by rw [l1]; omega)
    · rw [Bool.not_eq_false', decide_eq_true_iff] at h
      rw [if_pos h]
      exact ev_c
    · have : (if toldTx ps = mt then mt else " " ++ toldTx ps).length ≤ 101 := by
        split
        · have : mt.length = 0 := by decide +kernel
          omega
        · rw [lapp, l1]
          omega
      rw [lapp, l2]
      omega
    · exact congrArg V.str (rule_tx (f := f') (ps := ps) fun p h => (lens p h).2.2)
theorem len_two {xs : List V} (h : xs.length = 2) : ∃ a b, xs = [a, b] := by
  match xs, h with
  | [a, b], _ => exact ⟨a, b, rfl⟩
theorem len_three {xs : List V} (h : xs.length = 3) : ∃ a b c, xs = [a, b, c] := by
  match xs, h with
  | [a, b, c], _ => exact ⟨a, b, c, rfl⟩
/-! ### _law_made -/
def spMd (K : PySem.W.Frag) (C : Addr) : Sp := fun vs H Q _ => ∃ (f : Str) (l : Addr) (xs : List V) (ps qs : List Pr), vs = [.str f, .ref l] ∧ SqL K H l xs ∧ Prs H xs ps ∧ ps.length ≤ 3 ∧ Good f qs ∧ ps.Perm qs ∧ RetRu K C f qs H Q
theorem scMd : FnScope ["_law_flag", "_law_pairs"] ["_law_flag", "_law_pairs"] (defScope sMade) := ⟨rfl, rfl, rfl, by decide +kernel, rfl, by decide +kernel, by decide +kernel⟩
theorem ok_Md {C CR CM f fI : Addr} {mc : Value} {fd : FuncData} (F : Fun K "_law_made" "_law_made" sMade f fd) (N : FName K mg C mc) (T : GlbT mg) (M : Mk K C fI) (FI : FnR P w K mg base (L2.CX P w) 4 fI (spInitA K C CR CM)) : FnOk P w K mg base CX0 6 f fd ["_law_flag", "_law_pairs"] (spMd K C) := by
  refine F.ok scMd (fun vs H Q E h => ?_) (fun cdv A outer s H vs Q E hr h => ?_)
  · obtain ⟨f, l, xs, ps, qs, rfl, _⟩ := h
    rfl
  · obtain ⟨f', l, xs, ps, qs, rfl, hl, hp, h3, g, pm, k⟩ := h
    refine ⟨_, pss_cons (ps_if (pt_cmpR op_eq (pe_callB call_len_seq (by rfl) T.len PySem.boot_len (pa_cons (pv 1) pa_nil)) pe_int (nomark _)) (pss_one (ps_ret (pe_makeR (E := E0) M FI hr (by rfl) N.g (passN rfl rfl) (pa_cons (pv 0) pa_nil)))) pss_nil)
      (pss_cons (ps_if (pt_cmpR op_eq (pe_callB call_len_seq (by rfl) T.len PySem.boot_len (pa_cons (pv 1) pa_nil)) pe_int (nomark _)) (pss_one (ps_ret (pe_makeR (E := E0) M FI hr (by rfl) N.g (passN rfl rfl) (pa_cons (pv 0) (pa_cons (pe_ix ix_list (pv 1) pe_int (fun _ _ => rfl)) pa_nil))))) pss_nil)
      (pss_one (ps_ret (pe_ifExp (pt_cmpR op_eq (pe_callB call_len_seq (by rfl) T.len PySem.boot_len (pa_cons (pv 1) pa_nil)) pe_int (nomark _)) (pe_makeR (E := E0) M FI hr (by rfl) N.g (passN rfl rfl) (pa_cons (pv 0) (pa_cons (pe_ix ix_list (pv 1) pe_int (fun _ _ => rfl)) (pa_cons (pe_ix ix_list (pv 1) pe_int (fun _ _ => rfl)) pa_nil))))
        (pe_makeR (E := E0) M FI hr (by rfl) N.g (passN rfl rfl) (pa_cons (pv 0) (pa_cons (pe_ix ix_list (pv 1) pe_int (fun _ _ => rfl)) (pa_cons (pe_ix ix_list (pv 1) pe_int (fun _ _ => rfl)) (pa_cons (pe_ix ix_list (pv 1) pe_int (fun _ _ => rfl)) pa_nil))))))))), ?_⟩
    have len := hp.len
    have ln : ∀ {H1 : Hp}, Ex H H1 → Ev (tCB (rLenQ K) (tCons (tVar 1) tNil)) [some (.str f'), some (.ref l)] H1 (.int (ps.length : Int)) := fun e => ev_is (ev_lenSq (ev_var rfl) (ex_l e hl)) (by rw [len])
    have fin : ∀ {H1 : Hp} {t : TA}, Ex H H1 → EvA t [some (.str f'), some (.ref l)] H1 (.str f' :: xs) → tMakeR C (spInitA K C CR CM) E0 t [some (.str f'), some (.ref l)] H1 Q := fun e h => s_makeU h (by omega) (made_ok g (hp.mono e) pm fun qs gq pm2 => by
      have : qs = _ := good_one gq g (pm2.trans pm)
      rw [this]
      exact k.mono e)
    have at_ : ∀ {H1 : Hp} {i : Int} {x : V}, Ex H H1 → atI xs i = some x → Ev (tOp (rIxL K) (tVar 1) (tC (.int i))) [some (.str f'), some (.ref l)] H1 x := fun e h => ev_op (ev_var rfl) ev_c (rv_ixL (ex_l e hl) h)
    refine q_when (et_test (ev_op (ln (Ex.refl H)) ev_c (rv_eq rfl))) (fun hb H1 e1 => ?_) (fun hb H1 e1 => ?_)
    · rw [vint_inj, decide_eq_true_iff] at hb
      have : xs = [] := List.length_eq_zero_iff.mp (by omega)
      subst this
      exact s_retR (fin e1 (ea_cons (ev_var rfl) ea_nil))
    rw [vint_inj, decide_eq_false_iff_not] at hb
    refine q_when (et_test (ev_op (ln e1) ev_c (rv_eq rfl))) (fun hc H2 e2 => ?_) (fun hc H2 e2 => ?_)
    · rw [vint_inj, decide_eq_true_iff] at hc
      obtain ⟨a, rfl⟩ := List.length_eq_one_iff.mp (show xs.length = 1 by omega)
      have E := e1.trans e2
      exact s_retR (fin E (ea_cons (ev_var rfl) (ea_cons (at_ E rfl) ea_nil)))
    rw [vint_inj, decide_eq_false_iff_not] at hc
    have E2 := e1.trans e2
    have cond := et_test (ev_op (tb := tC (.int 2)) (ln E2) ev_c (rv_eq rfl))
    refine s_retR (cond H2 (Ex.refl H2) _ fun H3 e3 => ?_)
    have E3 := E2.trans e3
    by_cases h2 : ps.length = 2
    · rw [if_pos (by rw [vint_inj, decide_eq_true_iff]; omega)]
      obtain ⟨a, b, rfl⟩ := len_two (show xs.length = 2 by omega)
      exact fin E3 (ea_cons (ev_var rfl) (ea_cons (at_ E3 rfl) (ea_cons (at_ E3 rfl) ea_nil)))
    · rw [if_neg (by rw [vint_inj, decide_eq_true_iff]; omega)]
      obtain ⟨a, b, c, rfl⟩ := len_three (show xs.length = 3 by omega)
      exact fin E3 (ea_cons (ev_var rfl) (ea_cons (at_ E3 rfl) (ea_cons (at_ E3 rfl) (ea_cons (at_ E3 rfl) ea_nil))))
end
end K08
namespace K08
open PySem L2 Evl Gr StX EnT ClX ClK RdX SrtT StS
abbrev sDue : Stmt := top 36
def at1 (ws : List Str) (i : Nat) : List Str := (ws.drop i).take 1
theorem at1_eq {ws : List Str} {i : Nat} {z : Str} : (at1 ws i = [z]) ↔ i < ws.length ∧ gw ws i = z := by
  unfold at1
  rcases Nat.lt_or_ge i ws.length with h | h
  · rw [List.drop_eq_getElem_cons h]
    have e : gw ws i = ws[i] := by
      unfold gw
      rw [List.getD_eq_getElem?_getD, List.getElem?_eq_getElem h]
      rfl
    rw [e, List.take_succ_cons, List.take_zero]
    simp [h]
  · rw [List.drop_eq_nil_of_le h]
    simp
    omega
theorem cut_one {ws : List Str} {i : Nat} : cutV (ws.map V.str) (some (i : Int)) (some ((i + 1 : Nat) : Int)) = (at1 ws i).map V.str := by
  unfold cutV at1
  rw [HT.sIx_nat, HT.sIx_nat, List.length_map, List.map_take, List.map_drop]
  rcases Nat.lt_or_ge i ws.length with h | h
  · rw [Nat.min_eq_left (by omega), Nat.min_eq_left (by omega), show i + 1 - i = 1 by omega]
  · rw [Nat.min_eq_right h, List.drop_eq_nil_of_le (as := ws.map V.str) (by rw [List.length_map]; exact Nat.le_refl _), List.drop_eq_nil_of_le (as := ws.map V.str) (i := i) (by rw [List.length_map]; exact h), List.take_nil, List.take_nil]
theorem at1_mem {ws : List Str} {i : Nat} {z : Str} (h : z ∈ at1 ws i) : z ∈ ws := List.mem_of_mem_drop (List.mem_of_mem_take h)
theorem str_eqv (a b : Str) : PyData.eqv (.str a) (.str b) = decide (a = b) := by
  rw [show PyData.eqv (.str a) (.str b) = (a == b) by simp [PyData.eqv], Bool.eq_iff_iff, beq_iff_eq, decide_eq_true_iff]
theorem strs_eqv (xs ys : List Str) : PyData.eqv (.list (xs.map PyData.str)) (.list (ys.map PyData.str)) = decide (xs = ys) := by
  simp only [PyData.eqv]
  exact eqvAll_map PyData.str str_eqv xs ys
theorem mt_lt {z : Str} (h : 1 ≤ z.length) : ltB mt z = true := by
  unfold ltB
  rw [show mt.cps.toList = [] by decide +kernel, decide_eq_true_iff]
  have h : 1 ≤ z.cps.toList.length := h
  cases e : z.cps.toList with
  | nil => rw [e] at h; simp at h
  | cons a l => exact List.Lex.nil
def dueV : Option Nat → V
  | none => .non
  | some d => .int (d : Int)
section
variable {P : Program} {w : World} {K : PySem.W.Frag} {mg : Str → Option Value} {base : Heap}
abbrev nDue : List Str := ["_law_words", "_law_at", "_law_last", "_law_many"]
structure WsOk (ws : List Str) : Prop where
  ne : ws ≠ []
  free : Free ws
  few : ws.length ≤ 900
  short : ∀ z ∈ ws, z.length ≤ 1000
  ok : ∀ z ∈ ws, PyData.strOk z = true
def spDue (K : PySem.W.Frag) : Sp := fun vs H Q _ => ∃ (p : Addr) (ws : List Str) (d : Option Nat), vs = [.ref p] ∧ SqL K H p (ws.map V.str) ∧ WsOk ws ∧ Due ws d ∧ RetV (dueV d) H Q
theorem scDue : FnScope nDue ["_law_words"] (defScope sDue) := ⟨rfl, rfl, rfl, by decide +kernel, rfl, by decide +kernel, by decide +kernel⟩
theorem ok_Due {f : Addr} {fd : FuncData} (F : Fun K "_law_due" "_law_due" sDue f fd) (T : GlbT mg) (GL : Gfn P w K mg base 1 "_law_is_signs" ["_law_word", "_law_least", "_law_most"] spLis) : FnOk P w K mg base CX0 2 f fd ["_law_words"] (spDue K) := by
  obtain ⟨fL, fdL, GL, kL, bL, gL⟩ := GL
  refine F.ok scDue (fun vs H Q E h => ?_) (fun cdv A outer s H vs Q E hr h => ?_)
  · obtain ⟨p, ws, d, rfl, _⟩ := h
    rfl
  · obtain ⟨p, ws, d, rfl, hp, W, due, k⟩ := h
    refine ⟨_, pss_cons (ps_if (pt_not (pt_val (pe_call GL hr (by rfl) gL kL bL .nil pass0 (pa_cons (pe_ix ix_list (pv 0) pe_int (fun _ _ => rfl)) (pa_cons pe_int (pa_cons pe_int pa_nil)))))) (pss_one (ps_ret pe_int)) pss_nil)
      (pss_cons (ps_if (pt_cmpR (op_neD hr.units) (pe_slice sl_list (pv 0) (po_some pe_int) (po_some pe_int)) (pe_lst (pa_cons pe_str pa_nil)) (nomark _)) (pss_one (ps_ret pe_int)) pss_nil)
      (pss_cons (ps_asg (pe_tup (pa_cons pe_int (pa_cons pe_str (pa_cons pe_int pa_nil)))) (pg_tup rfl (pgs_cons (pg_name (i := 1) scDue.nd rfl (.inl rfl)) (pgs_cons (pg_name (i := 2) scDue.nd rfl (.inl rfl)) (pgs_cons (pg_name (i := 3) scDue.nd rfl (.inl rfl)) pgs_nil)))))
      (pss_cons (ps_while PassesOwn.never (PW.pt (pw_or (pt_cmpR op_lt (pv 1) (pe_callB call_len_seq (by rfl) T.len PySem.boot_len (pa_cons (pv 0) pa_nil)) (nomark _)) (pw_or1 (PW.pt (pw_and (pt_cmpR op_gt (pv 3) pe_int (nomark _)) (pw_and1 (pt_cmpR (op_eqD hr.units) (pe_slice sl_list (pv 0) (po_some (pe_op op_sub (pv 1) pe_int)) (po_some (pv 1))) (pe_lst (pa_cons pe_str pa_nil)) (nomark _))))))))
        (pss_cons (ps_if (PW.pt (pw_or (pt_cmpR op_ge (pv 1) (pe_callB call_len_seq (by rfl) T.len PySem.boot_len (pa_cons (pv 0) pa_nil)) (nomark _)) (pw_or (pt_cmpR op_eq (pv 3) pe_int (nomark _)) (pw_or (pt_not (pt_val (pe_call GL hr (by rfl) gL kL bL .nil pass0 (pa_cons (pe_ix ix_list (pv 0) (pv 1) (fun _ _ => rfl)) (pa_cons pe_int (pa_cons pe_int pa_nil)))))) (pw_or1 (pt_not (pt_cmpR op_lt_str (pv 2) (pe_ix ix_list (pv 0) (pv 1) (fun _ _ => rfl)) (nomark _)))))))) (pss_one (ps_ret (pv 1))) pss_nil)
        (pss_cons (ps_if (PW.pt (pw_or (pt_cmpR op_ge (pe_op op_add (pv 1) pe_int) (pe_callB call_len_seq (by rfl) T.len PySem.boot_len (pa_cons (pv 0) pa_nil)) (nomark _)) (pw_or1 (pt_not (pt_val (pe_call GL hr (by rfl) gL kL bL .nil pass0 (pa_cons (pe_ix ix_list (pv 0) (pe_op op_add (pv 1) pe_int) (fun _ _ => rfl)) (pa_cons pe_int (pa_cons pe_int pa_nil))))))))) (pss_one (ps_ret (pe_op op_add (pv 1) pe_int))) pss_nil)
        (pss_cons (ps_par (i := 2) (j := 3) rfl scDue.nd rfl rfl (by decide) rfl rfl (pa_cons (pe_ix ix_list (pv 0) (pv 1) (fun _ _ => rfl)) (pa_cons (pe_op op_add (pv 3) pe_int) pa_nil)) (by rfl))
        (pss_cons (ps_if (PW.pt (pw_and (pt_cmpR op_lt (pe_op op_add (pv 1) pe_int) (pe_callB call_len_seq (by rfl) T.len PySem.boot_len (pa_cons (pv 0) pa_nil)) (nomark _)) (pw_and1 (pt_cmpR op_ne (pe_ix ix_list (pv 0) (pe_op op_add (pv 1) pe_int) (fun _ _ => rfl)) pe_str (nomark _))))) (pss_one (ps_ret (pe_op op_add (pv 1) pe_int))) pss_nil)
        (pss_one (ps_set (i := 1) scDue.nd rfl (.inl rfl) (pe_op op_add (pv 1) pe_int))))))))
      (pss_one (ps_ret pe_non))))), ?_⟩
    have n0 : 0 < ws.length := List.length_pos_iff.mpr W.ne
    have few := W.few
    have ret : ∀ {d' : Option Nat} {H1 : Hp}, Ex H H1 → Due ws d' → Q (dueV d') H1 := fun e h => by
      rw [due_one h due]
      exact k _ e
    have wx : ∀ {σ : L2.St} {H1 : Hp} {te : TE} {i : Nat}, σ[0]? = some (some (.ref p)) → Ex H H1 → Ev te σ H1 (.int (i : Int)) → i < ws.length → Ev (tOp (rIxL K) (tVar 0) te) σ H1 (.str (gw ws i)) := fun h0 e h hi => ev_op (ev_var h0) h (rv_ixL (ex_l e hp) (atI_ws hi))
    have ln : ∀ {σ : L2.St} {H1 : Hp}, σ[0]? = some (some (.ref p)) → Ex H H1 → Ev (tCB (rLenQ K) (tCons (tVar 0) tNil)) σ H1 (.int (ws.length : Int)) := fun h0 e => ev_is (ev_lenSq (ev_var h0) (ex_l e hp)) (by rw [List.length_map])
    have lis : ∀ {σ : L2.St} {H1 : Hp} {te : TE} {i : Nat} {lo hi : Int}, i < ws.length → Ev te σ H1 (.str (gw ws i)) → EvT (tNot (tB (tCall spLis [] E0 (tCons te (tCons (tC (.int lo)) (tCons (tC (.int hi)) tNil)))))) σ H1 (!sgB (gw ws i) lo hi) := fun hi h => et_not (et_B (ev_call (z := .bl _) (ea_cons h (ea_cons ev_c (ea_cons ev_c ea_nil))) fun H2 e2 Q q E => ⟨_, _, _, rfl, W.short _ (gw_mem hi), W.ok _ (gw_mem hi), q⟩))
    have cut : ∀ {σ : L2.St} {H1 : Hp} {ta tb : TE} {i : Nat}, σ[0]? = some (some (.ref p)) → Ex H H1 → Ev ta σ H1 (.int (i : Int)) → Ev tb σ H1 (.int ((i + 1 : Nat) : Int)) → EvD K (tSl (rSlL K) (tVar 0) (tPart ta) (tPart tb)) σ H1 (.list ((at1 ws i).map PyData.str)) := fun h0 e h1 h2 => by
      have := el_sl (K := K) (ev_var h0) (eo_some h1) (eo_some h2) (ex_l e hp)
      rw [cut_one] at this
      exact ed_L this fun _ _ => dps_strs _
    have shc : ∀ l : List Str, (∀ z ∈ l, z ∈ ws) → SeqAt.shaped (.list (l.map PyData.str)) = true := fun l h => sh_strs fun z hz => W.ok z (h z hz)
    have one : ∀ {σ : L2.St} {H1 : Hp} {z : Str}, EvD K (tLst (tCons (tC (.str z)) tNil)) σ H1 (.list ([z].map PyData.str)) := ed_L (el_lst (ea_cons ev_c ea_nil) (by show 1 ≤ 100000; decide)) fun _ _ => dps_strs [_]
    refine q_when (lis n0 (wx (i := 0) rfl (Ex.refl H) ev_c n0)) (fun hb H1 e1 => ?_) (fun hb H1 e1 => ?_)
    · refine ret (d' := some 0) e1 ⟨fun i hi => by omega, by omega, fun _ => ?_, fun z => by omega⟩
      show sgB (gw ws 0) 2 8 = false
      simpa using hb
    have s0 : standB ws 0 = true := by
      show sgB (gw ws 0) 2 8 = true
      simpa using hb
    refine q_when (et_test (ev_neD (cut (i := 1) rfl e1 ev_c ev_c) one (shc _ fun z hz => at1_mem hz) (by decide +kernel))) (fun hb H2 e2 => ?_) (fun hb H2 e2 => ?_)
    · rw [strs_eqv, Bool.not_eq_true', decide_eq_false_iff_not, at1_eq] at hb
      refine ret (d' := some 1) (e1.trans e2) ⟨fun i hi _ => ?_, by omega, fun z => ?_, fun z => .inl z.symm⟩
      · obtain rfl : i = 0 := by omega
        exact s0
      · exact decide_eq_false fun y => hb ⟨z, y⟩
    rw [strs_eqv, Bool.not_eq_false', decide_eq_true_iff, at1_eq] at hb
    obtain ⟨n1, h1⟩ := hb
    have s1 : standB ws 1 = true := decide_eq_true h1
    have E2 := e1.trans e2
    refine ⟨by show 3 ≤ sizeLine; decide, fun t3 ht3 => ⟨t3, _, rfl, st_of upd_same, rfl, _, _, rfl, _, _, rfl, _, _, rfl, rfl, ?_⟩⟩
    have e3 := Ex.new (H := H2) (o := .tup [.int 2, .str mt, .int 0]) ht3
    have E3 := E2.trans e3
    refine q_while (fun m σ' H' => ∃ kk : Nat, m = 10 - kk ∧ kk ≤ 4 ∧ σ' = [some (.ref p), some (.int ((2 + 3 * kk : Nat) : Int)), some (.str (if kk = 0 then mt else gw ws (3 * kk - 1))), some (.int (kk : Int))] ∧ Ex H H' ∧ (∀ i, i < 2 + 3 * kk → i < ws.length → standB ws i = true) ∧ 2 + 3 * kk ≤ ws.length + 1) 10
      ⟨0, rfl, by omega, rfl, E3, fun i hi _ => by
        rcases (by omega : i = 0 ∨ i = 1) with z | z
        · rw [z]; exact s0
        · rw [z]; exact s1, by omega⟩ ?_
    rintro m σ' H4 ⟨kk, rfl, k4, rfl, E4, all, near⟩
    generalize hlast : (if kk = 0 then mt else gw ws (3 * kk - 1)) = last
    refine ⟨decide (2 + 3 * kk < ws.length) || (decide (0 < kk) && decide (at1 ws (1 + 3 * kk) = [comma])), ?_, fun hb H5 e5 => ?_, fun hb H5 e5 => ?_⟩
    · refine et_or (et_is (et_test (ev_op (ev_var rfl) (ln rfl E4) rv_I0)) (by rw [decide_eq_decide]; omega)) fun _ => et_and (et_is (et_test (ev_op (ev_var rfl) ev_c rv_I0)) (by rw [decide_eq_decide]; omega)) fun _ => et_is (et_test (ev_eqD (cut (i := 1 + 3 * kk) rfl E4 (ev_is (ev_op (ev_var rfl) ev_c rv_I0) (by congr 1; omega)) (ev_is (ev_var rfl) (by congr 1; omega))) one (shc _ fun z hz => at1_mem hz) (by decide +kernel))) (by rw [strs_eqv])
    · have E5 := E4.trans e5
      have cond : 2 + 3 * kk < ws.length ∨ (0 < kk ∧ 1 + 3 * kk < ws.length) := by
        rw [Bool.or_eq_true, Bool.and_eq_true, decide_eq_true_iff, decide_eq_true_iff, decide_eq_true_iff, at1_eq] at hb
        exact hb.imp id fun z => ⟨z.1, z.2.1⟩
      refine ⟨fun σ2 H6 => ∃ kk' : Nat, kk' = kk + 1 ∧ kk' ≤ 4 ∧ σ2 = [some (.ref p), some (.int ((2 + 3 * kk' : Nat) : Int)), some (.str (if kk' = 0 then mt else gw ws (3 * kk' - 1))), some (.int (kk' : Int))] ∧ Ex H H6 ∧ (∀ i, i < 2 + 3 * kk' → i < ws.length → standB ws i = true) ∧ 2 + 3 * kk' ≤ ws.length + 1, fun σ2 H6 ⟨kk', e, k4', r⟩ => ⟨10 - kk', by omega, kk', rfl, k4', r⟩, ?_⟩
      refine q_when (b := decide (ws.length ≤ 2 + 3 * kk) || (decide (kk = 4) || (!sgB (gw ws (2 + 3 * kk)) 1 8 || !ltB last (gw ws (2 + 3 * kk))))) (et_or (et_is (et_test (ev_op (ev_var rfl) (ln rfl E5) rv_I0)) (by rw [decide_eq_decide]; omega)) fun h1 => et_or (et_is (et_test (ev_op (ev_var rfl) ev_c (rv_eq rfl))) (by rw [vint_inj, decide_eq_decide]; omega)) fun h2 => ?_) (fun hc H6 e6 => ?_) (fun hc H6 e6 => ?_)
      · have lt : 2 + 3 * kk < ws.length := by
          have := of_decide_eq_false h1
          omega
        exact et_or (lis lt (wx rfl E5 (ev_var rfl) lt)) fun _ => et_not (et_test (ev_op (ev_var rfl) (wx rfl E5 (ev_var rfl) lt) fun H6 e6 Q q => ⟨_, _, rfl, rfl, q H6 (Ex.refl H6)⟩))
      · refine s_ret (v := .int ((2 + 3 * kk : Nat) : Int)) (ev_var rfl) fun H7 e7 => ret (d' := some (2 + 3 * kk)) ((E5.trans e6).trans e7) ⟨all, by omega, fun lt => ?_, fun z => .inr (by omega)⟩
        rw [Bool.or_eq_true, Bool.or_eq_true, Bool.or_eq_true, decide_eq_true_iff, decide_eq_true_iff, Bool.not_eq_true', Bool.not_eq_true'] at hc
        unfold standB
        rw [if_neg (by omega), if_neg (by omega), if_pos (by omega), show (2 + 3 * kk - 2) / 3 = kk by omega]
        cases sg : sgB (gw ws (2 + 3 * kk)) 1 8 with
        | false => rfl
        | true =>
          rw [Bool.true_and]
          rcases hc with z | z | z | z
          · omega
          · rw [decide_eq_false (by omega), Bool.false_and]
          · rw [z] at sg
            cases sg
          · by_cases k0 : kk = 0
            · subst k0
              rw [if_pos rfl] at hlast
              have := sgB_iff.mp sg
              rw [← hlast, mt_lt (by omega)] at z
              cases z
            · rw [if_neg k0] at hlast
              rw [← hlast] at z
              rw [decide_eq_false k0, show 2 + 3 * kk - 3 = 3 * kk - 1 by omega, z, Bool.or_false, Bool.and_false]
      rw [Bool.or_eq_false_iff, Bool.or_eq_false_iff, Bool.or_eq_false_iff, decide_eq_false_iff_not, decide_eq_false_iff_not, Bool.not_eq_false', Bool.not_eq_false'] at hc
      obtain ⟨c1, c2, c3, c4⟩ := hc
      have lt : 2 + 3 * kk < ws.length := by omega
      have st2 : standB ws (2 + 3 * kk) = true := by
        unfold standB
        rw [if_neg (by omega), if_neg (by omega), if_pos (by omega), show (2 + 3 * kk - 2) / 3 = kk by omega, c3, decide_eq_true (by omega), Bool.true_and, Bool.true_and]
        by_cases k0 : kk = 0
        · rw [decide_eq_true k0, Bool.true_or]
        · rw [if_neg k0] at hlast
          rw [show 2 + 3 * kk - 3 = 3 * kk - 1 by omega, hlast, c4, Bool.or_true]
      have E6 := E5.trans e6
      have add1 : ∀ {H7 : Hp} {x2 x3 : Option V} {j : Nat}, Ev (tOp (rI0 fun i j => .int (i + j)) (tVar 1) (tC (.int (j : Int)))) [some (.ref p), some (.int ((2 + 3 * kk : Nat) : Int)), x2, x3] H7 (.int ((2 + 3 * kk + j : Nat) : Int)) := ev_is (ev_op (ev_var rfl) ev_c rv_I0) (by congr 1)
      refine q_when (b := decide (ws.length ≤ 3 + 3 * kk) || !sgB (gw ws (3 + 3 * kk)) 1 1) (et_or (et_is (et_test (ev_op (add1 (j := 1)) (ln rfl E6) rv_I0)) (by rw [decide_eq_decide]; omega)) fun h1 => ?_) (fun hc H7 e7 => ?_) (fun hc H7 e7 => ?_)
      · have lt3 : 3 + 3 * kk < ws.length := by
          have := of_decide_eq_false h1
          omega
        exact lis lt3 (wx rfl E6 (ev_is (add1 (j := 1)) (by congr 1; omega)) lt3)
      · refine s_ret (v := .int ((3 + 3 * kk : Nat) : Int)) (ev_is (add1 (j := 1)) (by congr 1; omega)) fun H8 e8 => ret (d' := some (3 + 3 * kk)) ((E6.trans e7).trans e8) ⟨fun i hi hl => ?_, by omega, fun lt3 => ?_, fun z => .inr (by omega)⟩
        · by_cases c : i = 2 + 3 * kk
          · rw [c]; exact st2
          · exact all i (by omega) hl
        · rw [Bool.or_eq_true, decide_eq_true_iff, Bool.not_eq_true'] at hc
          unfold standB
          rw [if_neg (by omega), if_neg (by omega), if_neg (by omega), if_pos (by omega)]
          rcases hc with z | z
          · omega
          · exact z
      rw [Bool.or_eq_false_iff, decide_eq_false_iff_not, Bool.not_eq_false'] at hc
      obtain ⟨d1, d2⟩ := hc
      have lt3 : 3 + 3 * kk < ws.length := by omega
      have st3 : standB ws (3 + 3 * kk) = true := by
        unfold standB
        rw [if_neg (by omega), if_neg (by omega), if_neg (by omega), if_pos (by omega)]
        exact d2
      have E7 := E6.trans e7
      refine q_par ((ea_cons (wx rfl E7 (ev_var rfl) lt) (ea_cons (ev_op (ev_var rfl) ev_c rv_I0) ea_nil)) H7 (Ex.refl H7) _ fun H8 e8 => ⟨_, _, rfl, ?_⟩)
      have E8 := E7.trans e8
      have upto : ∀ i, i < 4 + 3 * kk → i < ws.length → standB ws i = true := fun i hi hl => by
        rcases (by omega : i < 2 + 3 * kk ∨ i = 2 + 3 * kk ∨ i = 3 + 3 * kk) with z | z | z
        · exact all i z hl
        · rw [z]; exact st2
        · rw [z]; exact st3
      refine q_when (b := decide (4 + 3 * kk < ws.length) && !decide (gw ws (4 + 3 * kk) = comma)) (et_and (et_is (et_test (ev_op (add1 (j := 2)) (ln rfl E8) rv_I0)) (by rw [decide_eq_decide]; omega)) fun h1 => ?_) (fun hc H9 e9 => ?_) (fun hc H9 e9 => ?_)
      · have lt4 : 4 + 3 * kk < ws.length := of_decide_eq_true h1
        exact et_is (et_test (ev_op (wx rfl E8 (ev_is (add1 (j := 2)) (by congr 1; omega)) lt4) ev_c (rv_ne rfl))) (by rw [dec_str])
      · rw [Bool.and_eq_true, decide_eq_true_iff, Bool.not_eq_true', decide_eq_false_iff_not] at hc
        refine s_ret (v := .int ((4 + 3 * kk : Nat) : Int)) (ev_is (add1 (j := 2)) (by congr 1; omega)) fun Ha ea => ret (d' := some (4 + 3 * kk)) ((E8.trans e9).trans ea) ⟨upto, by omega, fun _ => ?_, fun z => by omega⟩
        unfold standB
        rw [if_neg (by omega), if_neg (by omega), if_neg (by omega), if_neg (by omega)]
        exact decide_eq_false hc.2
      · refine s_asg (v := .int ((2 + 3 * (kk + 1) : Nat) : Int)) (ev_is (add1 (j := 3)) (by congr 1)) fun Ha ea => ⟨kk + 1, rfl, by omega, ?_, (E8.trans e9).trans ea, fun i hi hl => ?_, by omega⟩
        · rw [if_neg (by omega), show 3 * (kk + 1) - 1 = 2 + 3 * kk by omega]
          rfl
        · by_cases c : i = 4 + 3 * kk
          · have : gw ws (4 + 3 * kk) = comma := by
              rw [c] at hl
              rw [decide_eq_true hl, Bool.true_and, Bool.not_eq_false', decide_eq_true_iff] at hc
              exact hc
            rw [c]
            unfold standB
            rw [if_neg (by omega), if_neg (by omega), if_neg (by omega), if_neg (by omega)]
            exact decide_eq_true this
          · exact upto i (by omega) hl
    · have E5 := E4.trans e5
      rw [Bool.or_eq_false_iff, decide_eq_false_iff_not] at hb
      obtain ⟨b1, b2⟩ := hb
      refine ret (d' := none) E5 ⟨fun i hi => ?_, ?_⟩
      · exact all i (by omega) hi
      · unfold Odd3
        by_cases k0 : kk = 0
        · subst k0
          omega
        · rw [decide_eq_true (by omega), Bool.true_and, decide_eq_false_iff_not, at1_eq] at b2
          have : ¬ 1 + 3 * kk < ws.length := fun z => b2 ⟨z, by
            have := all (1 + 3 * kk) (by omega) z
            unfold standB at this
            rw [if_neg (by omega), if_neg (by omega), if_neg (by omega), if_neg (by omega), decide_eq_true_iff] at this
            exact this⟩
          omega
end
end K08
namespace K08
open PySem L2 Evl Gr StX EnT ClX ClK RdX SrtT StS
abbrev sSg : Stmt := top 30
def Bit (z : Str) : Prop := z = "0" ∨ z = "1"
theorem tl_bit {z : Str} (h : Bit z) : TL.tl z = [48] ∨ TL.tl z = [49] := by
  rcases h with rfl | rfl
  · exact .inl (by decide +kernel)
  · exact .inr (by decide +kernel)
theorem bit_ok {z : Str} (h : Bit z) : sgB z 1 1 = true := by
  rcases h with rfl | rfl <;> decide +kernel
theorem joinL_nil : ∀ (p : List Nat) (r : List (List Nat)), TL.joinL [] (p :: r) = p ++ TL.joinL [] r
  | p, [] => by simp [TL.joinL]
  | p, q :: r => by simp [TL.joinL]
theorem join_bits : ∀ {zs : List Str}, (∀ z ∈ zs, Bit z) → Sg (Txt.join mt zs) = true ∧ (Txt.join mt zs).length = zs.length := by
  have main : ∀ zs : List Str, (∀ z ∈ zs, Bit z) → (TL.joinL [] (zs.map TL.tl)).all isO = true ∧ (TL.joinL [] (zs.map TL.tl)).length = zs.length := fun zs => by
    induction zs with
    | nil => intro _; exact ⟨rfl, rfl⟩
    | cons z zs ih =>
      intro h
      obtain ⟨h1, h2⟩ := ih fun y hy => h y (List.mem_cons_of_mem _ hy)
      rw [List.map_cons, joinL_nil]
      rcases tl_bit (h z List.mem_cons_self) with e | e
      · rw [e]
        exact ⟨by rw [List.all_append, h1]; decide, by rw [List.length_append, h2, List.length_cons]; show 1 + zs.length = zs.length + 1; omega⟩
      · rw [e]
        exact ⟨by rw [List.all_append, h1]; decide, by rw [List.length_append, h2, List.length_cons]; show 1 + zs.length = zs.length + 1; omega⟩
  intro zs h
  obtain ⟨h1, h2⟩ := main zs h
  have e : TL.tl (Txt.join mt zs) = TL.joinL [] (zs.map TL.tl) := by
    rw [TL.join_eq, TL.tl_join]
    rw [show TL.tl mt = [] by decide +kernel]
  refine ⟨?_, ?_⟩
  · unfold Sg
    rw [e]
    exact h1
  · rw [TL.len_tl, e]
    exact h2
section
variable {P : Program} {w : World} {K : PySem.W.Frag} {mg : Str → Option Value} {base : Heap}
/-! ### _law_pick of a text -/
def spPickS : Sp := fun vs H Q _ => ∃ (p l : Addr) (cells : List Int) (m : Nat) (z : Str), vs = [.ref p, .str z] ∧ PenAt H p l cells m ∧ m ≤ 50000 ∧ cells.length ≤ 63 ∧ 0 < z.cps.size ∧ z.cps.size ≤ 1000 ∧
  ∀ c H', c ∈ z.cps.toList → PenAt H' p l cells (m + 1) → Keep p H H' → Q (.str ⟨#[c]⟩) H'
theorem ok_pickS {f fD : Addr} {fd fdD : FuncData} (F : Fun K "_law_pick" "_law_pick" sPick f fd) (T : Glb mg) (FD : Fun K "_law_draw" "_law_draw" sDraw fD fdD) (bD : Binds K fdD ["_law_pen_here", "_law_many"] []) (gD : mg "_law_draw" = some (.ref fD)) :
    FnOk P w K mg base CX0 2 f fd ["_law_pen_here", "_law_some"] spPickS := by
  have GD : FnOk P w K mg base CX0 1 fD fdD ["_law_pen_here", "_law_many"] spDraw := ok_draw FD T
  refine F.ok scPick (fun vs H Q E h => ?_) (fun cdv A outer s H vs Q E hr h => ?_)
  · obtain ⟨p, l, cells, m, z, rfl, _⟩ := h
    rfl
  · obtain ⟨p, l, cells, m, z, rfl, hp, hm, h63, hx0, hx1, k⟩ := h
    refine ⟨_, pss_one (ps_ret (pe_ix ix_str (pv 1) (pe_call GD hr (by rfl) gD FD.kp bD .nil pass0 (pa_cons (pv 0) (pa_cons (pe_callB call_len (by rfl) T.len PySem.boot_len (pa_cons (pv 1) pa_nil)) pa_nil))) (fun _ _ => rfl))), ?_⟩
    have hz : z.length = z.cps.size := rfl
    refine ⟨_, rfl, _, rfl, (ev_cb (σ := [some (.ref p), some (.str z)]) (ea_cons (ev_var (i := 1) rfl) ea_nil) (rc_lenS (K := K) (z := z) (by omega))) H (Ex.refl H) _ fun H1 e1 => ⟨p, l, cells, m, (z.length : Int), rfl, hp.mono e1 (Nat.le_refl m), hm, h63, by omega, by omega, fun d H' d0 d1 hp' kp => ?_⟩⟩
    obtain ⟨i, rfl⟩ := Int.eq_ofNat_of_zero_le d0
    have hi : i < z.cps.toList.length := by
      have : z.cps.toList.length = z.cps.size := rfl
      omega
    exact ⟨z, (i : Int), z.cps.toList[i], rfl, rfl, sz_of (n := z.length) (by omega), atI_nat (List.getElem?_eq_getElem hi), k _ H' (List.getElem_mem hi) hp' ((Keep.of_ex e1).trans kp)⟩
/-! ### _law_signs -/
abbrev nSg : List Str := ["_law_pen_here", "_law_many", "_law_turn"]
def spSg : Sp := fun vs H Q _ => ∃ (p l : Addr) (cells : List Int) (m n : Nat), vs = [.ref p, .int (n : Int)] ∧ PenAt H p l cells m ∧ m + 8 ≤ 50000 ∧ cells.length ≤ 63 ∧ n ≤ 8 ∧
  ∀ z H', Sg z = true → z.length = n → PenAt H' p l cells (m + 8) → Keep p H H' → Q (.str z) H'
theorem scSg : FnScope nSg ["_law_pen_here", "_law_many"] (defScope sSg) := ⟨rfl, rfl, rfl, by decide +kernel, rfl, by decide +kernel, by decide +kernel⟩
theorem ok_Sg {f : Addr} {fd : FuncData} (F : Fun K "_law_signs" "_law_signs" sSg f fd) (S : GlbS mg) (GP : Gfn P w K mg base 2 "_law_pick" ["_law_pen_here", "_law_some"] spPickS) : FnOk P w K mg base CX0 3 f fd ["_law_pen_here", "_law_many"] spSg := by
  obtain ⟨fP, fdP, GP, kP, bP, gP⟩ := GP
  refine F.ok scSg (fun vs H Q E h => ?_) (fun cdv A outer s H vs Q E hr h => ?_)
  · obtain ⟨p, l, cells, m, n, rfl, _⟩ := h
    rfl
  · obtain ⟨p, l, cells, m, n, rfl, hp, hm, h63, hn, k⟩ := h
    refine ⟨_, pss_one (ps_ret (pe_join pe_str (pe_lc (own := [("_law_turn", 2)]) (g := gName 2) rfl scSg.nd (pi_range1 (by rfl) S.range (pa_cons (pv 1) pa_nil)) (blkOk_by (own := [("_law_turn", 2)]) (N := nSg) (sc := defScope sSg) (by decide +kernel))
      (fun _ _ _ _ _ => pg_name (i := 2) scSg.nd rfl (Or.inl rfl)) (fun _ _ _ _ _ => pts_nil) (fun _ _ _ _ _ => pe_call GP hr (by rfl) gP kP bP .nil pass0 (pa_cons (pv 0) (pa_cons pe_str pa_nil)))))), ?_⟩
    refine s_retR ⟨⟨_, rfl⟩, ?_⟩
    refine ⟨_, rfl, (n : Int), rfl, by omega, by omega, fun Dl hD => ?_⟩
    have hDp : Dl ≠ p := fun z => by
      obtain ⟨_, _, q, _⟩ := hp
      rw [z, q] at hD
      cases hD
    have hDl : Dl ≠ l := fun z => by
      obtain ⟨_, _, _, q, _⟩ := hp
      rw [z, q] at hD
      cases hD
    refine lc_range (lo := 0) (n := (n : Int).toNat) (fun i H' => ∃ zs : List Str, H' Dl = some (.lst (zs.map V.str)) ∧ zs.length = i ∧ (∀ z ∈ zs, Bit z) ∧ PenAt H' p l cells (m + i) ∧ Keep p H H') ⟨[], upd_same, rfl, fun y hy => absurd hy (by simp), hp.upd' hDp hDl, (Keep.of_ex (Ex.refl H)).mut hD⟩ (fun i H' hi q => ⟨rfl, ?_⟩) (fun H' q => ?_)
    · obtain ⟨zs, hg, hlen, hb, hP3, k3⟩ := q
      rw [Int.toNat_natCast] at hi
      refine ⟨_, rfl, p, l, cells, m + i, oi, rfl, hP3, by omega, h63, by decide +kernel, by decide +kernel, fun c H4 hc hP4 k4 => ?_⟩
      have bit : Bit ⟨#[c]⟩ := by
        rw [oi_list] at hc
        rcases List.mem_cons.mp hc with rfl | hc
        · exact .inl (by decide +kernel)
        · rw [List.mem_singleton.mp hc]
          exact .inr (by decide +kernel)
      refine ⟨zs.map V.str, k4 _ _ hg hDp, sz_lt (by rw [List.length_map]; omega), zs ++ [⟨#[c]⟩], by rw [upd_same, List.map_append]; rfl, by rw [List.length_append, hlen]; rfl, fun y hy => ?_, (hP4.upd' hDp hDl).le (by omega), (k3.trans k4).mut hD⟩
      rcases List.mem_append.mp hy with z | z
      · exact hb y z
      · rw [List.mem_singleton.mp z]
        exact bit
    · obtain ⟨zs, hg, hlen, hb, hP3, k3⟩ := q
      rw [Int.toNat_natCast] at hlen hP3
      obtain ⟨j1, j2⟩ := join_bits hb
      have sz : (zs.map (·.length)).sum ≤ 1 * (zs.map (·.length)).length := sum_most fun x hx => by
        obtain ⟨z, hz, rfl⟩ := List.mem_map.mp hx
        rcases hb z hz with rfl | rfl <;> decide +kernel
      rw [List.length_map] at sz
      refine ⟨mt, Dl, zs, rfl, rfl, .inl (sq_of hg), ?_, k _ H' j1 (j2.trans hlen) (hP3.le (by omega)) k3⟩
      have : mt.length = 0 := by decide +kernel
      rw [this]
      omega
end
end K08
namespace K08
open PySem L2 Evl Gr StX EnT ClX ClK RdX SrtT StS
abbrev sPlan : Stmt := top 29
/-! ### plans -/
def plansA : List (Str × List Pr) := [("0111111", [("011111", "0")]), ("011", [("01", "0")]), ("0111", [("011", "0")]), ("100", [("10", "1")]), ("0011", [("001", "0")])]
def plansF : List (Str × List Pr) := [("011", [("0000000", "1"), ("01", "0")]), ("0111111", [("00000000", "1"), ("011111", "0")])]
def plansG : List (Str × List Pr) := [("0001", [("000", "1"), ("0111", "0")]), ("01111", [("00", "1"), ("0111", "0")])]
structure Plan (f : Str) (ps : List Pr) : Prop where
  good : Good f ps
  flag : f.length ≤ 7
  many : ps.length ≤ 3
def chk (q : Str × List Pr) : Bool := sgB q.1 2 8 && q.2.all (fun p => sgB p.1 1 8 && sgB p.2 1 1) && decide (q.2.length ≤ 3) && decide (q.1.length ≤ 7) && decide (q.2.Pairwise fun p q => ltB p.1 q.1 = true)
theorem chk_plan {q : Str × List Pr} (h : chk q = true) : Plan q.1 q.2 := by
  unfold chk at h
  simp only [Bool.and_eq_true, decide_eq_true_iff, List.all_eq_true] at h
  obtain ⟨⟨⟨⟨h1, h2⟩, h3⟩, h4⟩, h5⟩ := h
  exact ⟨⟨h1, h2, by omega, h5⟩, h4, h3⟩
theorem plans_ok : ∀ q ∈ plansA ++ (plansF ++ plansG), Plan q.1 q.2 := by
  have : (plansA ++ (plansF ++ plansG)).all chk = true := by decide +kernel
  exact fun q hq => chk_plan (List.all_eq_true.mp this q hq)
def Pls (H : Hp) (xs : List V) (Q : List (Str × List Pr)) : Prop := xs.length = Q.length ∧ ∀ (i : Nat) x q, xs[i]? = some x → Q[i]? = some q → PlanAt H x q.1 q.2
theorem Pls.mono {H H' : Hp} {xs : List V} {Q : List (Str × List Pr)} (e : Ex H H') (h : Pls H xs Q) : Pls H' xs Q := ⟨h.1, fun i x q a b => (h.2 i x q a b).mono e⟩
theorem Pls.app {H : Hp} {xs ys : List V} {Q R : List (Str × List Pr)} (h : Pls H xs Q) (h' : Pls H ys R) : Pls H (xs ++ ys) (Q ++ R) := by
  refine ⟨by rw [List.length_append, List.length_append, h.1, h'.1], fun i x q a b => ?_⟩
  rcases Nat.lt_or_ge i xs.length with z | z
  · rw [List.getElem?_append_left z] at a
    rw [List.getElem?_append_left (by rw [← h.1]; exact z)] at b
    exact h.2 i x q a b
  · rw [List.getElem?_append_right z] at a
    rw [List.getElem?_append_right (by rw [← h.1]; exact z), ← h.1] at b
    exact h'.2 _ x q a b
theorem Pls.at {H : Hp} {xs : List V} {Q : List (Str × List Pr)} (h : Pls H xs Q) {i : Nat} {x : V} (hx : xs[i]? = some x) : ∃ q ∈ Q, PlanAt H x q.1 q.2 := by
  have lt := (List.getElem?_eq_some_iff.mp hx).1
  rw [h.1] at lt
  exact ⟨Q[i], List.getElem_mem lt, h.2 i x _ hx (List.getElem?_eq_getElem lt)⟩
theorem PlanAt.keep {H H' : Hp} {v : V} {f : Str} {ps : List Pr} {p l : Addr} {cells : List Int} {m : Nat} (hP : PenAt H p l cells m) (kp : Keep p H H') (h : PlanAt H v f ps) : PlanAt H' v f ps := by
  obtain ⟨t, a, xs, h1, h2, h3, h4⟩ := h
  obtain ⟨k, r, hp, _⟩ := hP
  refine ⟨t, a, xs, h1, kp _ _ h2 fun z => ?_, kp _ _ h3 fun z => ?_, h4.to fun t p q => kp _ _ q fun z => ?_⟩
  · rw [z, hp] at h2
    cases h2
  · rw [z, hp] at h3
    have e := HO.lst.inj (Option.some.inj h3)
    subst e
    obtain ⟨t, q, e, _⟩ := h4.at (k := 1) (x := V.int k) rfl
    cases e
  · rw [z, hp] at q
    cases q
/-- gives a row of pairs; a plan; a row of plans -/
def EvPp (ta : TA) (σ : L2.St) (H : Hp) (ps : List Pr) : Prop := ∀ H1, Ex H H1 → ∀ Q : List V → Hp → Prop, (∀ xs H2, Ex H1 H2 → Prs H2 xs ps → Q xs H2) → ta σ H1 Q
def EvPl (te : TE) (σ : L2.St) (H : Hp) (f : Str) (ps : List Pr) : Prop := ∀ H1, Ex H H1 → ∀ Q : VK, (∀ v H2, Ex H1 H2 → PlanAt H2 v f ps → Q v H2) → te σ H1 Q
def EvPls (ta : TA) (σ : L2.St) (H : Hp) (R : List (Str × List Pr)) : Prop := ∀ H1, Ex H H1 → ∀ Q : List V → Hp → Prop, (∀ xs H2, Ex H1 H2 → Pls H2 xs R → Q xs H2) → ta σ H1 Q
section
variable {σ : L2.St} {H : Hp} {te tb : TE} {ta : TA} {f : Str} {ps : List Pr} {p : Pr} {R : List (Str × List Pr)}
theorem epp_nil : EvPp tNil σ H [] := fun H1 _ Q q => q [] H1 (Ex.refl H1) prs_nil
theorem epp_cons (h : EvPr te σ H p) (hr : EvPp ta σ H ps) : EvPp (tCons te ta) σ H (p :: ps) := fun H1 e Q q =>
  h H1 e _ fun t H2 e2 ht => hr H2 (e.trans e2) _ fun xs H3 e3 hx => q _ H3 (e2.trans e3) (prs_cons (e3 _ _ ht) hx)
theorem epl_tup (h : Ev te σ H (.str f)) (hr : EvPp ta σ H ps) (hl : ps.length ≤ 100) : EvPl (tTup (tCons te (tCons (tLst ta) tNil))) σ H f ps := fun H1 e Q q =>
  h H1 e _ fun H2 e2 => hr H2 (e.trans e2) _ fun xs H3 e3 hx => ⟨by have := hx.len; exact sz_of (by omega), fun l hl => ⟨by show 2 ≤ sizeLine; decide, fun t ht =>
    q _ _ (((e2.trans e3).trans (Ex.new hl)).trans (Ex.new ht)) ⟨t, l, xs, rfl, upd_same, (Ex.new ht) _ _ upd_same, (hx.mono (Ex.new hl)).mono (Ex.new ht)⟩⟩⟩
theorem epls_nil : EvPls tNil σ H [] := fun H1 _ Q q => q [] H1 (Ex.refl H1) ⟨rfl, fun i x r a => by simp at a⟩
theorem epls_cons (h : EvPl te σ H f ps) (hr : EvPls ta σ H R) : EvPls (tCons te ta) σ H ((f, ps) :: R) := fun H1 e Q q =>
  h H1 e _ fun v H2 e2 hv => hr H2 (e.trans e2) _ fun xs H3 e3 hx => q _ H3 (e2.trans e3) ⟨by rw [List.length_cons, List.length_cons, hx.1], fun i x r a b => by
    cases i with
    | zero =>
      obtain rfl := Option.some.inj a
      obtain rfl := Option.some.inj b
      exact hv.mono e3
    | succ i => exact hx.2 i x r a b⟩
end
section
variable {p l : Addr} {cells : List Int} {σ : L2.St} {H : Hp}
/-- signs: so many as c and a draw say -/
theorem w_signs {i : Nat} {c b : Nat} (hi : σ[i]? = some (some (.ref p))) (h63 : cells.length ≤ 63) (hb : 0 < b) (hcb : c + b ≤ 9) :
    EvW p l cells 9 (tCall spSg [] E0 (tCons (tVar i) (tCons (tOp (rI0 fun i j => .int (i + j)) (tC (.int (c : Int))) (tCall spDraw [] E0 (tCons (tVar i) (tCons (tC (.int (b : Int))) tNil)))) tNil))) σ H (fun v => ∃ z, v = .str z ∧ Sg z = true ∧ c ≤ z.length ∧ z.length < c + b) := fun m H1 kp hP hm Q q =>
  ⟨_, hi, (w_draw (H := H) (many := (b : Int)) hi (fun _ _ => ev_c) (by omega) (by omega) h63) m H1 kp hP (by omega) _ fun v H2 hv hP2 k2 => by
    obtain ⟨d, rfl, hd⟩ := hv
    refine ⟨_, _, rfl, rfl, ?_⟩
    refine ⟨p, l, cells, m + 1, c + d, by rw [Int.natCast_add]; rfl, hP2, by omega, h63, by omega, fun z H3 sg len hP3 k3 => q _ H3 ⟨z, rfl, sg, by omega, by omega⟩ (hP3.le (by omega)) (k2.trans k3)⟩⟩
end
/-! ### the drawn pairs, in a dict -/
structure DOk (kvs : List (Key × V)) (n : Nat) : Prop where
  few : kvs.length ≤ n
  once : (kvs.map (·.1)).Nodup
  ok : ∀ kv ∈ kvs, ∃ k v, kv = (Sum.inr k, V.str v) ∧ PairOk (k, v)
theorem dok_put {kvs : List (Key × V)} {n : Nat} {k v : Str} (h : DOk kvs n) (hp : PairOk (k, v)) : DOk (putK kvs (Sum.inr k) (.str v)) (n + 1) := by
  refine ⟨?_, ?_, ?_⟩
  · have := length_putK kvs (Sum.inr k : Key) (V.str v)
    have := h.few
    omega
  · cases c : valV kvs (Sum.inr k : Key) with
    | none => exact nd_putK _ h.once c
    | some y =>
      unfold putK
      rw [valV_any, c, if_pos (show (some y).isSome = true from rfl), List.map_map]
      rw [show (fun x : Key × V => x.1) ∘ (fun kv => if kv.1 = Sum.inr k then (kv.1, V.str v) else kv) = fun x => x.1 from funext fun x => by
        show (if x.1 = Sum.inr k then (x.1, V.str v) else x).1 = x.1
        split <;> rfl]
      exact h.once
  · intro kv hkv
    unfold putK at hkv
    split at hkv
    · obtain ⟨x, hx, e⟩ := List.mem_map.mp hkv
      split at e
      · rename_i z
        exact ⟨k, v, by rw [← e, z], hp⟩
      · exact e ▸ h.ok x hx
    · rcases List.mem_append.mp hkv with z | z
      · exact h.ok kv z
      · exact ⟨k, v, List.mem_singleton.mp z, hp⟩
def keyT : Key → Str
  | .inl _ => mt
  | .inr z => z
theorem dok_keys {kvs : List (Key × V)} {n : Nat} (h : DOk kvs n) : kvs.map (·.1) = (kvs.map fun kv => keyT kv.1).map Sum.inr := by
  rw [List.map_map]
  refine List.map_congr_left fun kv hkv => ?_
  obtain ⟨k, v, rfl, _⟩ := h.ok kv hkv
  rfl
theorem dok_val {kvs : List (Key × V)} {n : Nat} (h : DOk kvs n) {k : Str} (hk : k ∈ kvs.map fun kv => keyT kv.1) : ∃ v, valV kvs (Sum.inr k) = some (.str v) ∧ PairOk (k, v) := by
  obtain ⟨kv, hkv, rfl⟩ := List.mem_map.mp hk
  obtain ⟨k, v, rfl, _⟩ := h.ok kv hkv
  have any : (kvs.any fun kv => decide (kv.1 = (Sum.inr k : Key))) = true := List.any_eq_true.mpr ⟨_, hkv, decide_eq_true rfl⟩
  rw [valV_any] at any
  obtain ⟨y, hy⟩ := Option.isSome_iff_exists.mp any
  unfold valV at hy
  obtain ⟨e, he, rfl⟩ := Option.map_eq_some_iff.mp hy
  have hm := List.mem_of_find?_eq_some he
  have hq := List.find?_some he
  have hq : e.1 = Sum.inr k := of_decide_eq_true hq
  obtain ⟨k', v', rfl, ok'⟩ := h.ok e hm
  cases hq
  exact ⟨v', hy, ok'⟩
theorem dok_once {kvs : List (Key × V)} {n : Nat} (h : DOk kvs n) : (kvs.map fun kv => keyT kv.1).Nodup := by
  have := h.once
  rw [dok_keys h] at this
  unfold List.Nodup at this ⊢
  rw [List.pairwise_map] at this
  exact this.imp fun {a b} z e => z (congrArg Sum.inr e)
end K08
namespace K08
open PySem L2 Evl Gr StX EnT ClX ClK RdX SrtT StS
section
variable {K : PySem.W.Frag} {σ : L2.St} {H : Hp} {ta : TA} {te tl : TE}
/-- [a pair for x in a list] -/
theorem s_pairsL {ks : List Str} {a : Addr} {j : Nat} {vs : List Nat} {Q : VK} (g : Str → Pr) (ha : H a = some (.lst (ks.map V.str))) (hn : ks.length ≤ 900) (hw : ∀ x, wipe ((wipe σ vs).set j (some x)) vs = wipe σ vs)
    (he : ∀ k ∈ ks, ∀ H1, Ex H H1 → EvPr te ((wipe σ vs).set j (some (.str k))) H1 (g k)) (q : ∀ p xs H', H p = none → Ex H H' → H' p = some (.lst xs) → Prs H' xs (ks.map g) → Q (.ref p) H') :
    tLc (iList K (tC (.ref a))) (gName j) (fun σ H Q => Q true H) te vs σ H Q := by
  have e : (List.range ks.length).map (fun i => g (ks.getD i mt)) = ks.map g := by
    refine List.ext_getElem? fun i => ?_
    rw [List.getElem?_map, List.getElem?_map]
    rcases Nat.lt_or_ge i ks.length with hi | hi
    · rw [List.getElem?_range hi, List.getElem?_eq_getElem hi]
      show some (g (ks.getD i mt)) = some (g ks[i])
      rw [List.getD_eq_getElem?_getD, List.getElem?_eq_getElem hi]
      rfl
    · rw [List.getElem?_eq_none (by rw [List.length_range]; exact hi), List.getElem?_eq_none hi]
      rfl
  refine ⟨a, rfl, ⟨_, sq_of ha⟩, fun Dl hD => lc_it (n := (ks.map V.str).length) (walk_list (K := K) (a := a) (xs := ks.map V.str)) (g := gName j) (tt := fun σ H Q => Q true H) (te := te) (vs := vs) (σ := σ) (fun i H' => ∃ xs, H' Dl = some (.lst xs) ∧ Prs H' xs ((List.range i).map fun i => g (ks.getD i mt)) ∧ Ex H H')
      ⟨[], upd_same, prs_nil, Ex.new hD⟩ (fun _ _ _ ⟨_, _, _, z⟩ => sq_of (z _ _ ha)) (fun k x H' H'' hk p y => ?_) (fun H' ⟨xs, h1, h2, h3⟩ => q Dl xs H' hD h3 h1 ?_)⟩
  · obtain ⟨rfl, hx⟩ := y
    rw [List.getElem?_map] at hx
    obtain ⟨z, hz, rfl⟩ := Option.map_eq_some_iff.mp hx
    have ez : ks.getD k mt = z := by
      rw [List.getD_eq_getElem?_getD, hz]
      rfl
    refine ⟨hw _, lp_turn hD p (by rw [List.length_map] at hk; omega) ?_⟩
    rw [ez]
    exact he z (List.mem_of_getElem? hz) _ (Ex.refl _)
  · rw [List.length_map, e] at h2
    exact h2
/-- [str(k) for k in a dict of texts] -/
theorem el_keys {d : Addr} {kvs : List (Key × V)} {ks : List Str} {i j : Nat} {vs : List Nat} {r : List V → Hp → VK → Prop} (hi : σ[i]? = some (some (.ref d))) (hd : H d = some (.dK kvs)) (hk : kvs.map (·.1) = ks.map Sum.inr) (hn : ks.length ≤ 900) (hw : ∀ x, wipe ((wipe σ vs).set j (some x)) vs = wipe σ vs)
    (hj : ∀ x, ((wipe σ vs).set j (some x))[j]? = some (some x)) (hr : ∀ (z : Str) H' (Q : VK), Q (.str z) H' → r [.str z] H' Q) : EvL (tLockE (tLc (iKeys (tVar i)) (gName j) (fun σ H Q => Q true H) (tCB r (tCons (tVar j) tNil)) vs)) σ H (ks.map V.str) := fun H1 e Q q => by
  have len : kvs.length = ks.length := by
    have := congrArg List.length hk
    rwa [List.length_map, List.length_map] at this
  refine ⟨d, .dK kvs, e _ _ hd, trivial, fun od => ⟨_, hi, d, od, rfl, .inl ⟨kvs, upd_same, fun Dl hD => lc_it (n := kvs.length) (walk_keys (kvs := kvs)) (g := gName j) (tt := fun σ H Q => Q true H) (te := tCB r (tCons (tVar j) tNil)) (vs := vs) (σ := σ) (fun k H' => H' Dl = some (.lst ((ks.take k).map V.str)) ∧ Ex (upd H1 d (.frz od (.dK kvs))) H') ⟨upd_same, Ex.new hD⟩ (fun _ H' _ p => p.2 _ _ upd_same) (fun k x H' H'' hk' p y => ?_) (fun H' p => ?_)⟩⟩⟩
  · obtain ⟨rfl, key, v, hkv, rfl⟩ := y
    have hz : ∃ z, ks[k]? = some z ∧ key = Sum.inr z := by
      have := congrArg (fun l => l[k]?) hk
      simp only [List.getElem?_map, hkv, Option.map_some] at this
      obtain ⟨z, hz, e⟩ := Option.map_eq_some_iff.mp this.symm
      exact ⟨z, hz, e.symm⟩
    obtain ⟨z, hz, rfl⟩ := hz
    refine ⟨hw _, ⟨_, hj _, hr z _ _ ⟨_, p.1, ?_, ?_, Ex.mut p.2 hD⟩⟩⟩
    · rw [List.length_map, List.length_take]
      exact sz_lt (by omega)
    · rw [upd_same, List.take_add_one, hz, List.map_append]
      rfl
  · have hDd : Dl ≠ d := fun z => by rw [z, upd_same] at hD; cases hD
    rw [upd_ne hDd] at hD
    refine ⟨p.2 _ _ upd_same, q Dl _ hD (fun b u hb => ?_) ?_⟩
    · by_cases c : b = d
      · rw [c] at hb ⊢
        rw [e _ _ hd] at hb
        rw [upd_same, hb]
      · rw [upd_ne c]
        exact p.2 _ _ (by rw [upd_ne c]; exact hb)
    · rw [upd_ne hDd, p.1, List.take_of_length_le (by omega)]
end
end K08
namespace K08
open PySem L2 Evl Gr StX EnT ClX ClK RdX SrtT StS
theorem q_asgG {σ : L2.St} {H : Hp} {te : TE} {g : TG} {tz : TS} {D : Ends} (h : te σ H fun x H1 => g x σ H1 fun σ2 H2 => tz D σ2 H2) : tSeq (tAsg te g) tz D σ H := h
/-- for .. in range(a draw) -/
theorem q_forWd {p l : Addr} {cells : List Int} {σ : L2.St} {H : Hp} {te : TE} {b : Int} {m j : Nat} {tu tz : TS} {D : Ends} (hw : EvW p l cells 1 te σ H (fun v => ∃ d : Nat, v = .int (d : Int) ∧ (d : Int) < b)) (hP : PenAt H p l cells m) (hm : m + 1 ≤ 50000)
    (k : ∀ (d : Nat) H1, (d : Int) < b → PenAt H1 p l cells (m + 1) → Keep p H H1 → tSeq (tFor (iRng1 (tCons (tC (.int (d : Int))) tNil)) (gName j) tu) tz D σ H1) : tSeq (tFor (iRng1 (tCons te tNil)) (gName j) tu) tz D σ H :=
  hw m H (Keep.of_ex (Ex.refl H)) hP hm _ fun v H2 hv hP2 k2 => by
    obtain ⟨d, rfl, hd⟩ := hv
    exact k d H2 hd hP2 k2
/-- [a pair for k in sorted(a list of texts)] -/
theorem s_sortPairs {K : PySem.W.Frag} {σ : L2.St} {H : Hp} {te tl : TE} {ks : List Str} {j : Nat} {vs : List Nat} {Q : VK} (g : Str → Pr) (h : EvL tl σ H (ks.map V.str)) (hn : ks.length < 64) (nd : ks.Nodup) (hw : ∀ x, wipe ((wipe σ vs).set j (some x)) vs = wipe σ vs)
    (he : ∀ k ∈ ks, ∀ H1, Ex H H1 → EvPr te ((wipe σ vs).set j (some (.str k))) H1 (g k)) (q : ∀ (p : Addr) (xs : List V) (ys : List Str) (H' : Hp), ys.Perm ks → (ys.Pairwise fun a b => ltB a b = true) → H p = none → Ex H H' → H' p = some (.lst xs) → Prs H' xs (ys.map g) → Q (.ref p) H') :
    tLc (iList K (tCB (rSortedS K) (tCons tl tNil))) (gName j) (fun σ H Q => Q true H) te vs σ H Q :=
  h H (Ex.refl H) _ fun a H1 ha e1 h1 => ⟨a, ks, rfl, sq_of h1, hn, fun ys r pm srt hr => by
    have e2 := e1.trans (Ex.new (o := .lst (ys.map V.str)) hr)
    show tLc (iList K (tC (.ref r))) (gName j) (fun σ H Q => Q true H) te vs σ _ Q
    refine s_pairsL g upd_same (by rw [pm.length_eq]; omega) hw (fun k hk H2 e3 => he k (pm.mem_iff.mp hk) H2 (e2.trans e3)) fun p xs H' hp e3 h3 hx => q p xs ys H' pm ?_ (fresh_back e2 hp) (e2.trans e3) h3 hx
    exact (StO.rows srt (pm.nodup_iff.mpr nd)).imp fun z => decide_eq_true (StO.lt_iff.mp z)⟩
theorem noSl_name {x : Str} {p : PySem.Pos} : NoSl (.Name x p) := fun _ _ => rfl
section
variable {P : Program} {w : World} {K : PySem.W.Frag} {mg : Str → Option Value} {base : Heap}
abbrev nPlan : List Str := ["_law_pen_here", "_law_some", "_law_way", "_law_far", "_law_flag", "_law_pairs", "_law_turn", "_law_watch", "_law_one"]
def spPlan : Sp := fun vs H Q _ => ∃ (p l : Addr) (cells : List Int) (m : Nat), vs = [.ref p] ∧ PenAt H p l cells m ∧ m + 100 ≤ 50000 ∧ cells.length ≤ 63 ∧
  ∀ v f ps H', Plan f ps → PlanAt H' v f ps → PenAt H' p l cells (m + 100) → Keep p H H' → Q v H'
theorem scPlan : FnScope nPlan ["_law_pen_here"] (defScope sPlan) := ⟨rfl, rfl, rfl, by decide +kernel, rfl, by decide +kernel, by decide +kernel⟩
theorem ok_Plan {f fD : Addr} {fd fdD : FuncData} (F : Fun K "_law_plan" "_law_plan" sPlan f fd) (T : GlbT mg) (S : GlbS mg) (I : GlbI mg) (GD : FnOk P w K mg base CX0 1 fD fdD ["_law_pen_here", "_law_many"] spDraw) (kD : PySem.W.keepIn K (.ref fD) = true) (bD : Binds K fdD ["_law_pen_here", "_law_many"] []) (gD : mg "_law_draw" = some (.ref fD))
    (GP : Gfn P w K mg base 2 "_law_pick" ["_law_pen_here", "_law_some"] spPick) (GZ : Gfn P w K mg base 2 "_law_pick" ["_law_pen_here", "_law_some"] spPickS) (GG : Gfn P w K mg base 3 "_law_signs" ["_law_pen_here", "_law_many"] spSg) :
    FnOk P w K mg base CX0 4 f fd ["_law_pen_here"] spPlan := by
  obtain ⟨fP, fdP, GP, kP, bP, gP⟩ := GP
  obtain ⟨fZ, fdZ, GZ, kZ, bZ, gZ⟩ := GZ
  obtain ⟨fG, fdG, GG, kG, bG, gG⟩ := GG
  refine F.ok scPlan (fun vs H Q E h => ?_) (fun cdv A outer s H vs Q E hr h => ?_)
  · obtain ⟨p, l, cells, m, rfl, _⟩ := h
    rfl
  · obtain ⟨p, l, cells, m, rfl, hP, hm, h63, k⟩ := h
    have r1 := hr.mono (show 1 ≤ 3 by decide)
    have r2 := hr.mono (show 2 ≤ 3 by decide)
    have hu : (A.deeper (PyProof.Rows.envOfC "_law_plan" (defScope sPlan) s.heap.objs.size f cdv)).units + 1 < cLine := by have := hr.units; omega
    refine ⟨_, pss_cons (ps_set (i := 1) scPlan.nd rfl (.inl rfl) (pe_lst (pa_cons (pe_tup (pa_cons pe_str (pa_cons (pe_lst (pa_cons (pe_tup (pa_cons pe_str (pa_cons pe_str pa_nil))) pa_nil)) pa_nil))) (pa_cons (pe_tup (pa_cons pe_str (pa_cons (pe_lst (pa_cons (pe_tup (pa_cons pe_str (pa_cons pe_str pa_nil))) pa_nil)) pa_nil))) (pa_cons (pe_tup (pa_cons pe_str (pa_cons (pe_lst (pa_cons (pe_tup (pa_cons pe_str (pa_cons pe_str pa_nil))) pa_nil)) pa_nil))) (pa_cons (pe_tup (pa_cons pe_str (pa_cons (pe_lst (pa_cons (pe_tup (pa_cons pe_str (pa_cons pe_str pa_nil))) pa_nil)) pa_nil))) (pa_cons (pe_tup (pa_cons pe_str (pa_cons (pe_lst (pa_cons (pe_tup (pa_cons pe_str (pa_cons pe_str pa_nil))) pa_nil)) pa_nil))) pa_nil)))))))
      (pss_cons (ps_set (i := 2) scPlan.nd rfl (.inl rfl) (pe_call GD r1 (by rfl) gD kD bD .nil pass0 (pa_cons (pv 0) (pa_cons pe_int pa_nil))))
      (pss_cons (ps_if (pt_cmpR op_lt (pv 2) pe_int (nomark _)) (pss_one (ps_ret (pe_ix ix_list (pv 1) (pv 2) (fun _ _ => rfl)))) pss_nil)
      (pss_cons (ps_if (pt_cmpR op_eq (pv 2) pe_int (nomark _)) (pss_cons (ps_set (i := 3) scPlan.nd rfl (.inl rfl) (pe_lst (pa_cons (pe_tup (pa_cons pe_str (pa_cons (pe_lst (pa_cons (pe_tup (pa_cons pe_str (pa_cons pe_str pa_nil))) (pa_cons (pe_tup (pa_cons pe_str (pa_cons pe_str pa_nil))) pa_nil))) pa_nil))) (pa_cons (pe_tup (pa_cons pe_str (pa_cons (pe_lst (pa_cons (pe_tup (pa_cons pe_str (pa_cons pe_str pa_nil))) (pa_cons (pe_tup (pa_cons pe_str (pa_cons pe_str pa_nil))) pa_nil))) pa_nil))) pa_nil)))) (pss_one (ps_ret (pe_call GP r2 (by rfl) gP kP bP .nil pass0 (pa_cons (pv 0) (pa_cons (pe_op op_cat (pv 3) (pe_lst (pa_cons (pe_tup (pa_cons pe_str (pa_cons (pe_lst (pa_cons (pe_tup (pa_cons pe_str (pa_cons pe_str pa_nil))) (pa_cons (pe_tup (pa_cons pe_str (pa_cons pe_str pa_nil))) pa_nil))) pa_nil))) (pa_cons (pe_tup (pa_cons pe_str (pa_cons (pe_lst (pa_cons (pe_tup (pa_cons pe_str (pa_cons pe_str pa_nil))) (pa_cons (pe_tup (pa_cons pe_str (pa_cons pe_str pa_nil))) pa_nil))) pa_nil))) pa_nil)))) pa_nil)))))) pss_nil)
      (pss_cons (ps_asg (pe_tup (pa_cons (pe_call GG hr (by rfl) gG kG bG .nil pass0 (pa_cons (pv 0) (pa_cons (pe_op op_add pe_int (pe_call GD r1 (by rfl) gD kD bD .nil pass0 (pa_cons (pv 0) (pa_cons pe_int pa_nil)))) pa_nil))) (pa_cons pe_dnewK pa_nil))) (pg_tup rfl (pgs_cons (pg_name (i := 4) scPlan.nd rfl (.inl rfl)) (pgs_cons (pg_name (i := 5) scPlan.nd rfl (.inr rfl)) pgs_nil))))
      (pss_cons (ps_for PassesOwn.never rfl (pi_range1 (by rfl) S.range (pa_cons (pe_call GD r1 (by rfl) gD kD bD .nil pass0 (pa_cons (pv 0) (pa_cons pe_int pa_nil))) pa_nil)) (pg_name (i := 6) scPlan.nd rfl (.inl rfl))
        (pss_one (ps_dput hu (pv 5) (pe_call GG hr (by rfl) gG kG bG .nil pass0 (pa_cons (pv 0) (pa_cons (pe_op op_add pe_int (pe_call GD r1 (by rfl) gD kD bD .nil pass0 (pa_cons (pv 0) (pa_cons pe_int pa_nil)))) pa_nil))) (pe_call GZ r2 (by rfl) gZ kZ bZ .nil pass0 (pa_cons (pv 0) (pa_cons pe_str pa_nil))) (by rfl))))
      (pss_one (ps_ret (pe_tup (pa_cons (pv 4) (pa_cons (pe_lc (own := [("_law_watch", 7)]) (g := gName 7) rfl scPlan.nd (pi_list (pe_callB cr_sortedS (by rfl) I.sorted (by decide +kernel) (pa_cons (pe_lock (pe_lc (own := [("_law_one", 8)]) (g := gName 8) rfl scPlan.nd (pi_keys (pv 5)) (blkOk_by (own := [("_law_one", 8)]) (N := nPlan) (sc := defScope sPlan) (by decide +kernel))
          (fun _ _ _ _ _ => pg_name (i := 8) scPlan.nd rfl (Or.inl rfl)) (fun _ _ _ _ _ => pts_nil) (fun _ _ _ _ _ => pe_callTy OwX.call_strV (by rfl) T.str (by decide +kernel) (pa_cons (pv 8) pa_nil)))) pa_nil)))
          (blkOk_by (own := [("_law_watch", 7)]) (N := nPlan) (sc := defScope sPlan) (by decide +kernel)) (fun _ _ _ _ _ => pg_name (i := 7) scPlan.nd rfl (Or.inl rfl)) (fun _ _ _ _ _ => pts_nil) (fun _ _ _ _ _ => pe_tup (pa_cons (pv 7) (pa_cons (pe_dget hu (pv 5) (pv 7) noSl_name) pa_nil)))) pa_nil)))))))))), ?_⟩
    have pne : ∀ {H1 : Hp} {a : Addr}, Keep p H H1 → H1 p ≠ none → H1 a = none → a ≠ p := fun _ h1 h2 z => h1 (z ▸ h2)
    have there : ∀ {H1 : Hp} {n : Nat}, PenAt H1 p l cells n → H1 p ≠ none := fun ⟨_, _, h, _⟩ z => by rw [h] at z; cases z
    -- the five
    refine q_asgR (lst_i ((show EvPls _ _ _ plansA from (epls_cons (epl_tup ev_c (epp_cons (ep_tup ev_c ev_c) epp_nil) (by decide)) (epls_cons (epl_tup ev_c (epp_cons (ep_tup ev_c ev_c) epp_nil) (by decide)) (epls_cons (epl_tup ev_c (epp_cons (ep_tup ev_c ev_c) epp_nil) (by decide)) (epls_cons (epl_tup ev_c (epp_cons (ep_tup ev_c ev_c) epp_nil) (by decide)) (epls_cons (epl_tup ev_c (epp_cons (ep_tup ev_c ev_c) epp_nil) (by decide)) epls_nil)))))) H (Ex.refl H) _ fun xs H1 e1 hx => ⟨by have := hx.1; rw [this]; exact sz_of (by decide), fun L hL => ?_⟩))
    have e2 : Ex H (upd H1 L (.lst xs)) := e1.trans (Ex.new hL)
    have hL2 : (upd H1 L (.lst xs)) L = some (.lst xs) := upd_same
    have hx2 := hx.mono (Ex.new (o := .lst xs) hL)
    have hP2 := hP.mono e2 (Nat.le_refl m)
    have Lp : L ≠ p := fun z => there (hP.mono e1 (Nat.le_refl m)) (z ▸ hL)
    generalize upd H1 L (.lst xs) = H2 at e2 hL2 hx2 hP2
    refine q_asgR ((w_draw (i := 0) (σ := [some (.ref p), some (.ref L), none, none, none, none, none, none, none]) (many := 8) rfl (fun _ _ => ev_c) (by decide) (by decide) h63) m H2 (Keep.of_ex (Ex.refl H2)) hP2 (by omega) _ fun v H3 hv hP3 k3 => ?_)
    obtain ⟨d, rfl, hd⟩ := hv
    have hL3 := k3 _ _ hL2 Lp
    have hx3 : Pls H3 xs plansA := ⟨hx2.1, fun i x q a b => (hx2.2 i x q a b).keep hP2 k3⟩
    have K3 : Keep p H H3 := (Keep.of_ex e2).trans k3
    have five : xs.length = 5 := hx3.1
    refine q_when (et_test (ev_op (ev_var rfl) ev_c rv_I0)) (fun hb H4 e4 => ?_) (fun hb H4 e4 => ?_)
    · have hd5 : d < xs.length := by
        have := of_decide_eq_true hb
        omega
      have hxd := List.getElem?_eq_getElem hd5
      obtain ⟨q, hq, pl⟩ := hx3.at hxd
      exact s_ret (v := xs[d]) (ev_op (ev_var rfl) (ev_var rfl) (rv_ixL (sq_of (e4 _ _ hL3)) (atI_nat hxd))) fun H5 e5 => k _ q.1 q.2 H5 (plans_ok q (List.mem_append_left _ hq)) (pl.mono (e4.trans e5)) (hP3.mono (e4.trans e5) (by omega)) (K3.trans (Keep.of_ex (e4.trans e5)))
    refine q_when (et_test (ev_op (ev_var rfl) ev_c (rv_eq rfl))) (fun hc H5 e5 => ?_) (fun hc H5 e5 => ?_)
    · have E5 := e4.trans e5
      refine q_asgR (lst_i ((show EvPls _ _ _ plansF from (epls_cons (epl_tup ev_c (epp_cons (ep_tup ev_c ev_c) (epp_cons (ep_tup ev_c ev_c) epp_nil)) (by decide)) (epls_cons (epl_tup ev_c (epp_cons (ep_tup ev_c ev_c) (epp_cons (ep_tup ev_c ev_c) epp_nil)) (by decide)) epls_nil))) H5 (Ex.refl H5) _ fun ys H6 e6 hy => ⟨by have := hy.1; rw [this]; exact sz_of (by decide), fun L2 hL2' => ?_⟩))
      have e7 : Ex H6 (upd H6 L2 (.lst ys)) := Ex.new hL2'
      have hy7 := hy.mono e7
      have hL27 : (upd H6 L2 (.lst ys)) L2 = some (.lst ys) := upd_same
      generalize upd H6 L2 (.lst ys) = H7 at e7 hy7 hL27
      refine s_retR (cons_i ⟨_, rfl, cons_i (op_i ⟨_, rfl, lst_i ((show EvPls _ _ _ plansG from (epls_cons (epl_tup ev_c (epp_cons (ep_tup ev_c ev_c) (epp_cons (ep_tup ev_c ev_c) epp_nil)) (by decide)) (epls_cons (epl_tup ev_c (epp_cons (ep_tup ev_c ev_c) (epp_cons (ep_tup ev_c ev_c) epp_nil)) (by decide)) epls_nil))) H7 (Ex.refl H7) _ fun zs H8 e8 hz => ⟨by have := hz.1; rw [this]; exact sz_of (by decide), fun L3 hL3' => ?_⟩)⟩)⟩)
      have e9 : Ex H8 (upd H8 L3 (.lst zs)) := Ex.new hL3'
      have hz9 := hz.mono e9
      have hL39 : (upd H8 L3 (.lst zs)) L3 = some (.lst zs) := upd_same
      generalize upd H8 L3 (.lst zs) = H9 at e9 hz9 hL39
      have sz : (ys ++ zs).length = 4 := by rw [List.length_append, hy.1, hz.1]; rfl
      refine ⟨L2, L3, ys, zs, rfl, rfl, (e8.trans e9) _ _ hL27, hL39, by rw [← List.length_append, sz]; exact sz_of (by decide), fun a ha => ?_⟩
      have ea := Ex.new (H := H9) (o := .lst (ys ++ zs)) ha
      have all : Pls (upd H9 a (.lst (ys ++ zs))) (ys ++ zs) (plansF ++ plansG) := ((hy7.mono (e8.trans e9)).app hz9).mono ea
      have EA := ((((E5.trans e6).trans e7).trans e8).trans e9).trans ea
      have hPA := hP3.mono EA (Nat.le_refl _)
      have hap : a ≠ p := fun z => there (hP3.mono (((((E5.trans e6).trans e7).trans e8).trans e9)) (Nat.le_refl _)) (z ▸ ha)
      exact ⟨p, l, a, cells, m + 1, ys ++ zs, rfl, hPA, by omega, h63, upd_same, hap, by omega, by omega, fun i x H' hxi hP' k' => by
        obtain ⟨q, hq, pl⟩ := all.at hxi
        exact k x q.1 q.2 H' (plans_ok q (List.mem_append_right _ hq)) (pl.keep hPA k') (hP'.le (by omega)) ((K3.trans (Keep.of_ex EA)).trans k')⟩
    have E5 := e4.trans e5
    have hP5 := hP3.mono E5 (Nat.le_refl _)
    -- a flag, a dict
    refine q_asgG (tup_i (cons_i ((w_signs (i := 0) (c := 2) (b := 4) (σ := [some (.ref p), some (.ref L), some (.int (d : Int)), none, none, none, none, none, none]) rfl h63 (by decide) (by decide)) (m + 1) H5 (Keep.of_ex (Ex.refl H5)) hP5 (by omega) _ fun v H6 hv hP6 k6 => cons_i fun dd hdd => ?_)))
    obtain ⟨z, rfl, sg, z2, z6⟩ := hv
    refine ⟨by show 2 ≤ sizeLine; decide, fun t ht => ⟨t, _, rfl, st_of upd_same, rfl, _, _, rfl, _, _, rfl, rfl, ?_⟩⟩
    have ddp : dd ≠ p := fun z => there hP6 (z ▸ hdd)
    have e7 : Ex H6 (upd (upd H6 dd (.dK [])) t (.tup [.str z, .ref dd])) := (Ex.new hdd).trans (Ex.new ht)
    have hd7 : (upd (upd H6 dd (.dK [])) t (.tup [.str z, .ref dd])) dd = some (.dK []) := (Ex.new ht) _ _ upd_same
    have hddH : H dd = none := by
      cases c : H dd with
      | none => rfl
      | some u =>
        have := k6 _ _ ((Keep.of_ex E5) _ _ (K3 _ _ c ddp) ddp) ddp
        rw [hdd] at this
        cases this
    have K7 : Keep p H (upd (upd H6 dd (.dK [])) t (.tup [.str z, .ref dd])) := ((K3.trans (Keep.of_ex E5)).trans k6).trans (Keep.of_ex e7)
    have hP7 := hP6.mono e7 (Nat.le_refl _)
    generalize upd (upd H6 dd (.dK [])) t (.tup [.str z, .ref dd]) = H7 at e7 hd7 K7 hP7
    refine q_forWd (w_draw (i := 0) (many := 4) rfl (fun _ _ => ev_c) (by decide) (by decide) h63) hP7 (by omega) fun n H8 hn hP8 k8 => ?_
    have K8 := K7.trans k8
    have hd8 := k8 _ _ hd7 ddp
    refine q_forR1 (ea_cons ev_c ea_nil) (by omega) (fun i σ' H' => (∃ x6, σ' = [some (.ref p), some (.ref L), some (.int (d : Int)), none, some (.str z), some (.ref dd), x6, none, none]) ∧ PenAt H' p l cells (m + 1 + 9 + 1 + 10 * i) ∧ Keep p H H' ∧ ∃ kvs, H' dd = some (.dK kvs) ∧ DOk kvs i) (fun H9 e9 => ⟨⟨none, rfl⟩, hP8.mono e9 (by omega), K8.trans (Keep.of_ex e9), [], e9 _ _ hd8, ⟨Nat.le_refl _, List.nodup_nil, fun kv h => by simp at h⟩⟩) ?_ ?_
    · rintro i σ' H9 hi ⟨⟨x6, rfl⟩, hP9, K9, kvs, hk, dok⟩
      refine ⟨_, rfl, p, l, cells, m + 1 + 9 + 1 + 10 * i, oi, rfl, hP9, by omega, h63, by decide +kernel, by decide +kernel, fun c H10 hcm hP10 k10 => ?_⟩
      have bit : Bit ⟨#[c]⟩ := by
        rw [oi_list] at hcm
        rcases List.mem_cons.mp hcm with rfl | hc'
        · exact .inl (by decide +kernel)
        · rw [List.mem_singleton.mp hc']
          exact .inr (by decide +kernel)
      refine ⟨_, rfl, (w_signs (i := 0) (c := 1) (b := 4) (σ := [some (.ref p), some (.ref L), some (.int (d : Int)), none, some (.str z), some (.ref dd), some (.int (i : Int)), none, none]) rfl h63 (by decide) (by decide)) _ H10 (Keep.of_ex (Ex.refl H10)) hP10 (by omega) _ fun v H11 hv hP11 k11 => ?_⟩
      obtain ⟨y, rfl, sgy, y1, y5⟩ := hv
      have hk11 := k11 _ _ (k10 _ _ hk ddp) ddp
      have few := dok.few
      refine ⟨dd, _, rfl, DPut.k (k := Sum.inr y) hk11 (sz_lt (by omega)), ⟨_, rfl⟩, ?_, ?_, _, upd_same, ?_⟩
      · refine (hP11.upd' ddp ?_).le (by omega)
        intro e
        obtain ⟨_, _, _, h2, _⟩ := hP11
        rw [e, h2] at hk11
        cases hk11
      · exact ((K9.trans k10).trans k11).mut hddH
      · exact dok_put dok ⟨sgB_iff.mpr ⟨sgy, by show (1 : Int) ≤ (y.length : Int); omega, by show (y.length : Int) ≤ 8; omega⟩, bit_ok bit⟩
    · rintro σ' H9 ⟨⟨x6, rfl⟩, hP9, K9, kvs, hk, dok⟩
      rw [Int.toNat_natCast] at dok hP9
      have few := dok.few
      have kl : (kvs.map fun kv => keyT kv.1).length = kvs.length := List.length_map _
      have vals : ∀ y ∈ kvs.map (fun kv => keyT kv.1), ∃ v, valV kvs (Sum.inr y) = some (.str v) ∧ PairOk (y, v) := fun y hy => dok_val dok hy
      let g : Str → Pr := fun y => (y, match valV kvs (Sum.inr y : Key) with
        | some (.str v) => v
        | _ => mt)
      have gv : ∀ y ∈ kvs.map (fun kv => keyT kv.1), valV kvs (Sum.inr y : Key) = some (.str (g y).2) ∧ PairOk (g y) := fun y hy => by
        obtain ⟨v, h1, h2⟩ := vals y hy
        have e : g y = (y, v) := by
          show (y, _) = (y, v)
          rw [h1]
        rw [e]
        exact ⟨h1, h2⟩
      refine s_retR (tup_i (cons_i ⟨_, rfl, cons_i (s_sortPairs (K := K) g (el_keys (i := 5) rfl hk (dok_keys dok) (by omega) (fun _ => rfl) (fun _ => rfl) fun z H' Q q => .inr ⟨z, rfl, q⟩) (by omega) (dok_once dok) (fun _ => rfl) (fun y hy H10 e10 => ?_) fun q xs ys H10 pm up hq e10 hq10 hx10 => ?_)⟩))
      · obtain ⟨h1, h2⟩ := gv y hy
        refine ep_tup (ev_var rfl) fun H11 e11 Q q => ⟨_, rfl, _, rfl, dd, _, rfl, .inl ⟨kvs, Sum.inr y, Rd.of ((e10.trans e11) _ _ hk), rfl, h1.symm⟩, q H11 (Ex.refl H11)⟩
      · refine ⟨by show 2 ≤ sizeLine; decide, fun t ht => ?_⟩
        have e11 := e10.trans (Ex.new (o := .tup [.str z, .ref q]) ht)
        have lys : ys.length = kvs.length := by rw [pm.length_eq, kl]
        refine k _ z (ys.map g) _ ⟨⟨sgB_iff.mpr ⟨sg, by omega, by omega⟩, fun p hp => ?_, by rw [List.length_map]; omega, ?_⟩, by omega, by rw [List.length_map]; omega⟩ ⟨t, q, xs, rfl, upd_same, (Ex.new ht) _ _ hq10, hx10.mono (Ex.new ht)⟩ (hP9.mono e11 (by omega)) (K9.trans (Keep.of_ex e11))
        · obtain ⟨y, hy, rfl⟩ := List.mem_map.mp hp
          exact (gv y (pm.mem_iff.mp hy)).2
        · unfold Rise
          rw [List.pairwise_map]
          exact up
end
end K08
namespace K08
open PySem L2 Evl Gr StX EnT ClX ClK RdX SrtT StS
abbrev sBent : Stmt := top 37
def Wok (z : Str) : Bool := PyData.strOk z && !decide (32 ∈ TL.tl z) && decide (z.length ≤ 9)
theorem wok_iff {z : Str} : Wok z = true ↔ PyData.strOk z = true ∧ 32 ∉ TL.tl z ∧ z.length ≤ 9 := by
  unfold Wok
  rw [Bool.and_eq_true, Bool.and_eq_true, decide_eq_true_iff, Bool.not_eq_true', decide_eq_false_iff_not, and_assoc]
structure WB (ws : List Str) (n : Nat) : Prop where
  ne : ws ≠ []
  all : ∀ z ∈ ws, Wok z = true
  few : ws.length ≤ n
theorem WB.le {ws : List Str} {n m : Nat} (h : WB ws n) (hm : n ≤ m) : WB ws m := ⟨h.ne, h.all, Nat.le_trans h.few hm⟩
theorem WB.ok {ws : List Str} {n : Nat} (h : WB ws n) (hn : n ≤ 80) : WsOk ws := ⟨h.ne, fun z hz => (wok_iff.mp (h.all z hz)).2.1, by have := h.few; omega, fun z hz => by have := (wok_iff.mp (h.all z hz)).2.2; omega, fun z hz => (wok_iff.mp (h.all z hz)).1⟩
theorem WB.size {ws : List Str} {n : Nat} (h : WB ws n) : wsum ws ≤ 9 * n := by
  have := wsum_most fun z hz => (wok_iff.mp (h.all z hz)).2.2
  have := h.few
  omega
theorem WB.len {ws : List Str} {n : Nat} (h : WB ws n) : (tx ws).length ≤ 10 * n := by
  have := tx_len ws
  have := h.size
  have := h.few
  omega
theorem sgB_wok {z : Str} {lo hi : Int} (h : sgB z lo hi = true) (hh : hi ≤ 9) : Wok z = true := by
  have := sgB_iff.mp h
  exact wok_iff.mpr ⟨sg_ok this.1, sg_free this.1 (by decide), by omega⟩
theorem good_wb {f : Str} {ps : List Pr} (g : Good f ps) (h3 : ps.length ≤ 3) : WB (rw_ f ps) 10 := by
  refine ⟨by unfold rw_; simp, fun z hz => ?_, by rw [rw_len, pw_size]; omega⟩
  rcases List.mem_cons.mp hz with rfl | hz
  · exact sgB_wok g.flag (by decide)
  · rcases List.mem_cons.mp hz with rfl | hz
    · decide +kernel
    · rcases pw_mem hz with rfl | ⟨p, hp, rfl | rfl⟩
      · decide +kernel
      · exact sgB_wok (g.ok p hp).1 (by decide)
      · exact sgB_wok (g.ok p hp).2 (by decide)
def putsL : List Str := ["", "0", "1", "01", "10", ",", ":", "2", "011", "000000000", "a", "1111", "0\n", "\n"]
theorem puts_ok : ∀ z ∈ putsL, Wok z = true := by
  have : putsL.all Wok = true := by decide +kernel
  exact List.all_eq_true.mp this
/-! new lists of texts of which something holds -/
def GivW (te : TE) (σ : L2.St) (H : Hp) (R : List Str → Prop) : Prop := ∀ H1, Ex H H1 → ∀ Q : VK, (∀ W ws H2, R ws → Ex H1 H2 → H2 W = some (.lst (ws.map V.str)) → Q (.ref W) H2) → te σ H1 Q
section
variable {K : PySem.W.Frag} {σ : L2.St} {H : Hp} {te ta tb : TE} {t : TT} {ws us : List Str} {R : List Str → Prop}
theorem gw_of (h : EvL te σ H (ws.map V.str)) (r : R ws) : GivW te σ H R := fun H1 e Q q => h H1 e _ fun p H2 _ e2 hp => q p ws H2 r e2 hp
theorem gw_var {i : Nat} {W : Addr} (hi : σ[i]? = some (some (.ref W))) (hW : H W = some (.lst (ws.map V.str))) (r : R ws) : GivW (tVar i) σ H R := fun H1 e Q q => ⟨_, hi, q W ws H1 r (Ex.refl H1) (e _ _ hW)⟩
theorem gw_if {b : Bool} (h : EvT t σ H b) (h1 : b = true → GivW ta σ H R) (h2 : b = false → GivW tb σ H R) : GivW (tIf t ta tb) σ H R := fun H1 e Q q => h H1 e _ fun H2 e2 => by
  cases b with
  | true => exact h1 rfl H2 (e.trans e2) Q fun W ws H3 r e3 => q W ws H3 r (e2.trans e3)
  | false => exact h2 rfl H2 (e.trans e2) Q fun W ws H3 r e3 => q W ws H3 r (e2.trans e3)
theorem el_catT (ha : EvL ta σ H (ws.map V.str)) (hb : EvL tb σ H (us.map V.str)) (hz : ws.length + us.length ≤ 100000) : EvL (tOp rCat ta tb) σ H ((ws ++ us).map V.str) := fun H1 e Q k =>
  ha H1 e _ fun p H2 _ e2 hp => hb H2 (e.trans e2) _ fun r H3 _ e3 hr => ⟨p, r, ws.map V.str, us.map V.str, rfl, rfl, e3 _ _ hp, hr, by rw [List.length_map, List.length_map]; exact sz_of hz, fun a ha => k a _ (fresh_back (e2.trans e3) ha) ((e2.trans e3).trans (Ex.new ha)) (by rw [upd_same, List.map_append])⟩
theorem el_catPT {q : Addr} (ha : Ev ta σ H (.ref q)) (hq : H q = some (.lst (ws.map V.str))) (hb : EvL tb σ H (us.map V.str)) (hz : ws.length + us.length ≤ 100000) : EvL (tOp rCat ta tb) σ H ((ws ++ us).map V.str) := fun H1 e Q k =>
  ha H1 e _ fun H2 e2 => hb H2 (e.trans e2) _ fun r H3 _ e3 hr => ⟨q, r, ws.map V.str, us.map V.str, rfl, rfl, (e.trans (e2.trans e3)) _ _ hq, hr, by rw [List.length_map, List.length_map]; exact sz_of hz, fun a ha => k a _ (fresh_back (e2.trans e3) ha) ((e2.trans e3).trans (Ex.new ha)) (by rw [upd_same, List.map_append])⟩
theorem el_takeT {a : Addr} {n : Nat} (h : Ev te σ H (.ref a)) (ha : H a = some (.lst (ws.map V.str))) (hn : Ev ta σ H (.int (n : Int))) : EvL (tSl (rSlL K) te tNoPart (tPart ta)) σ H ((ws.take n).map V.str) := by
  have c := el_sl (K := K) h eo_none (eo_some hn) (sq_of ha)
  have e : cutV (ws.map V.str) none (some (n : Int)) = (ws.take n).map V.str := by
    unfold cutV
    rw [HT.sIx_none, HT.sIx_nat, List.length_map, List.drop_zero, Nat.sub_zero, List.map_take]
    rcases Nat.le_total n ws.length with z | z
    · rw [Nat.min_eq_left z]
    · rw [Nat.min_eq_right z, List.take_of_length_le (by rw [List.length_map]; exact Nat.le_refl _), List.take_of_length_le (by rw [List.length_map]; exact z)]
  rwa [e] at c
theorem el_dropT {a : Addr} {n : Nat} (h : Ev te σ H (.ref a)) (ha : H a = some (.lst (ws.map V.str))) (hn : Ev ta σ H (.int (n : Int))) : EvL (tSl (rSlL K) te (tPart ta) tNoPart) σ H ((ws.drop n).map V.str) := by
  have c := el_sl (K := K) h (eo_some hn) eo_none (sq_of ha)
  have e : cutV (ws.map V.str) (some (n : Int)) none = (ws.drop n).map V.str := by
    unfold cutV
    rw [HT.sIx_none, HT.sIx_nat, List.length_map, List.map_drop]
    rcases Nat.le_total n ws.length with z | z
    · rw [Nat.min_eq_left z, List.take_of_length_le (by rw [List.length_drop, List.length_map]; exact Nat.le_refl _)]
    · rw [Nat.min_eq_right z, List.drop_eq_nil_of_le (as := ws.map V.str) (by rw [List.length_map]; exact Nat.le_refl _), List.drop_eq_nil_of_le (as := ws.map V.str) (i := n) (by rw [List.length_map]; exact z), List.take_nil]
  rwa [e] at c
end
theorem wl_ne {p l W : Addr} {cells : List Int} {m : Nat} {H : Hp} {us : List Str} (hP : PenAt H p l cells m) (h : H W = some (.lst (us.map V.str))) : W ≠ p := fun z => by
  obtain ⟨k, r, hp, _⟩ := hP
  rw [z, hp] at h
  have e := HO.lst.inj (Option.some.inj h)
  cases us with
  | nil => cases e
  | cons u us => cases e
theorem w_inc {p l : Addr} {cells : List Int} {n : Nat} {te : TE} {σ : L2.St} {H : Hp} {b : Int} (h : EvW p l cells n te σ H (fun v => ∃ d : Nat, v = .int (d : Int) ∧ (d : Int) < b)) : EvW p l cells n (tOp (rI0 fun i j => .int (i + j)) (tC (.int 1)) te) σ H (fun v => ∃ d : Nat, v = .int (d : Int) ∧ (d : Int) < b + 1) := fun m H1 kp hP hm Q q =>
  h m H1 kp hP hm _ fun v H2 hv hP2 k2 => by
    obtain ⟨d, rfl, hd⟩ := hv
    exact ⟨1, _, rfl, rfl, q _ H2 ⟨1 + d, by rw [Int.natCast_add]; rfl, by omega⟩ hP2 k2⟩
theorem q_if2 {b : Bool} {σ : L2.St} {H : Hp} {t : TT} {tu tw tz : TS} {D : Ends} (h : EvT t σ H b) (h1 : b = true → ∀ H1, Ex H H1 → tu { D with nx := tz D } σ H1) (h2 : b = false → ∀ H1, Ex H H1 → tw { D with nx := tz D } σ H1) : tSeq (tIfS t tu tw) tz D σ H := s_if (D := { D with nx := tz D }) h h1 h2
theorem a_gw {σ : L2.St} {H : Hp} {te : TE} {R : List Str → Prop} {i : Nat} {D : Ends} (h : GivW te σ H R) (k : ∀ W ws H1, R ws → Ex H H1 → H1 W = some (.lst (ws.map V.str)) → D.nx (σ.set i (some (.ref W))) H1) : tAsg te (gName i) D σ H := h H (Ex.refl H) _ fun W ws H2 r e2 h2 => k W ws H2 r e2 h2
section
variable {P : Program} {w : World} {K : PySem.W.Frag} {mg : Str → Option Value} {base : Heap}
abbrev nBent : List Str := ["_law_pen_here", "_law_text", "_law_words", "_law_turn", "_law_at", "_law_way", "_law_put"]
def spBent : Sp := fun vs H Q _ => ∃ (p l : Addr) (cells : List Int) (m : Nat) (ws : List Str), vs = [.ref p, .str (tx ws)] ∧ PenAt H p l cells m ∧ m + 20 ≤ 50000 ∧ cells.length ≤ 63 ∧ WB ws 10 ∧
  ∀ us H', WB us 30 → PenAt H' p l cells (m + 20) → Keep p H H' → Q (.str (tx us)) H'
theorem scBent : FnScope nBent ["_law_pen_here", "_law_text"] (defScope sBent) := ⟨rfl, rfl, rfl, by decide +kernel, rfl, by decide +kernel, by decide +kernel⟩
theorem ok_Bent {f fD : Addr} {fd fdD : FuncData} (F : Fun K "_law_bent" "_law_bent" sBent f fd) (T : GlbT mg) (S : GlbS mg) (GD : FnOk P w K mg base CX0 1 fD fdD ["_law_pen_here", "_law_many"] spDraw) (kD : PySem.W.keepIn K (.ref fD) = true) (bD : Binds K fdD ["_law_pen_here", "_law_many"] []) (gD : mg "_law_draw" = some (.ref fD))
    (GP : Gfn P w K mg base 2 "_law_pick" ["_law_pen_here", "_law_some"] spPick) : FnOk P w K mg base CX0 3 f fd ["_law_pen_here", "_law_text"] spBent := by
  obtain ⟨fP, fdP, GP, kP, bP, gP⟩ := GP
  refine F.ok scBent (fun vs H Q E h => ?_) (fun cdv A outer s H vs Q E hr h => ?_)
  · obtain ⟨p, l, cells, m, ws, rfl, _⟩ := h
    rfl
  · obtain ⟨p, l, cells, m, ws, rfl, hP, hm, h63, W, k⟩ := h
    have r1 := hr.mono (show 1 ≤ 2 by decide)
    refine ⟨_, pss_cons (ps_set (i := 2) scBent.nd rfl (.inl rfl) (pe_split (pv 1) pe_str))
      (pss_cons (ps_for PassesOwn.never rfl (pi_range1 (by rfl) S.range (pa_cons (pe_op op_add pe_int (pe_call GD r1 (by rfl) gD kD bD .nil pass0 (pa_cons (pv 0) (pa_cons pe_int pa_nil)))) pa_nil)) (pg_name (i := 3) scBent.nd rfl (.inl rfl))
        (pss_cons (ps_par (i := 4) (j := 5) rfl scBent.nd rfl rfl (by decide) rfl rfl (pa_cons (pe_call GD r1 (by rfl) gD kD bD .nil pass0 (pa_cons (pv 0) (pa_cons (pe_op op_add (pe_callB call_len_seq (by rfl) T.len PySem.boot_len (pa_cons (pv 2) pa_nil)) pe_int) pa_nil))) (pa_cons (pe_call GD r1 (by rfl) gD kD bD .nil pass0 (pa_cons (pv 0) (pa_cons pe_int pa_nil))) pa_nil)) (by rfl))
        (pss_cons (ps_set (i := 6) scBent.nd rfl (.inl rfl) (pe_call GP hr (by rfl) gP kP bP .nil pass0 (pa_cons (pv 0) (pa_cons (pe_lst (pa_cons pe_str (pa_cons pe_str (pa_cons pe_str (pa_cons pe_str (pa_cons pe_str (pa_cons pe_str (pa_cons pe_str (pa_cons pe_str (pa_cons pe_str (pa_cons pe_str (pa_cons pe_str (pa_cons pe_str (pa_cons pe_str (pa_cons pe_str pa_nil))))))))))))))) pa_nil))))
        (pss_cons (ps_if (pt_cmpR op_lt (pv 5) pe_int (nomark _)) (pss_one (ps_set (i := 2) scBent.nd rfl (.inl rfl) (pe_op op_cat (pe_op op_cat (pe_slice sl_list (pv 2) po_none (po_some (pv 4))) (pe_lst (pa_cons (pv 6) pa_nil))) (pe_slice sl_list (pv 2) (po_some (pe_op op_add (pv 4) (pv 5))) po_none))))
          (pss_one (ps_set (i := 2) scBent.nd rfl (.inl rfl) (pe_ifExp (pt_cmpR op_eq (pv 5) pe_int (nomark _)) (pe_op op_cat (pe_slice sl_list (pv 2) po_none (po_some (pv 4))) (pe_slice sl_list (pv 2) (po_some (pe_op op_add (pv 4) pe_int)) po_none)) (pe_op op_cat (pv 2) (pe_lst (pa_cons pe_str (pa_cons (pv 6) (pa_cons pe_str pa_nil)))))))))
        (pss_one (ps_set (i := 2) scBent.nd rfl (.inl rfl) (pe_ifExp (pt_cmpR (op_neD hr.units) (pv 2) (pe_lst pa_nil) (nomark _)) (pv 2) (pe_lst (pa_cons pe_str pa_nil)))))))))
      (pss_one (ps_ret (pe_join pe_str (pv 2))))), ?_⟩
    have wl := W.len
    refine ⟨_, rfl, ⟨_, rfl⟩, _, " ", rfl, rfl, by decide +kernel, sz_of (n := (tx ws).length + 2) (by omega), ?_⟩
    rw [split_tx W.ne (W.ok (by decide)).free]
    intro W0 hW0
    have e0 := Ex.new (o := .lst (ws.map V.str)) hW0
    have h0 : (upd H W0 (.lst (ws.map V.str))) W0 = some (.lst (ws.map V.str)) := upd_same
    have hP0 := hP.mono e0 (Nat.le_refl m)
    generalize upd H W0 (.lst (ws.map V.str)) = H0 at e0 h0 hP0
    refine q_forWd (w_inc (w_draw (i := 0) (σ := [some (.ref p), some (.str (tx ws)), some (.ref W0), none, none, none, none]) (many := 3) rfl (fun _ _ => ev_c) (by decide) (by decide) h63)) hP0 (by omega) fun n H1 hn hP1 k1 => ?_
    have h1 := k1 _ _ h0 (wl_ne hP0 h0)
    have K1 := (Keep.of_ex e0).trans k1
    refine q_forR1 (ea_cons ev_c ea_nil) (by omega) (fun i σ' H' => ∃ W1 us x3 x4 x5 x6, σ' = [some (.ref p), some (.str (tx ws)), some (.ref W1), x3, x4, x5, x6] ∧ H' W1 = some (.lst (us.map V.str)) ∧ WB us (10 + 3 * i) ∧ PenAt H' p l cells (m + 1 + 3 * i) ∧ Keep p H H') (fun H2 e2 => ⟨W0, ws, none, none, none, none, rfl, e2 _ _ h1, W, hP1.mono e2 (by omega), K1.trans (Keep.of_ex e2)⟩) ?_ ?_
    · rintro i σ' H2 hi ⟨W1, us, x3, x4, x5, x6, rfl, h2, wb, hP2, K2⟩
      have few := wb.few
      have np := wl_ne hP2 h2
      refine q_par (cons_i ((w_draw (i := 0) (many := (us.length : Int) + 1) rfl (fun H3 k3 => ev_op (ev_is (ev_lenSq (ev_var rfl) (sq_of (k3 _ _ h2 np))) (by rw [List.length_map])) ev_c rv_I0) (by omega) (by omega) h63) _ H2 (Keep.of_ex (Ex.refl H2)) hP2 (by omega) _ fun v H3 hv hP3 k3 => ?_))
      obtain ⟨at_, rfl, hat⟩ := hv
      refine cons_i ((w_draw (i := 0) (many := 4) rfl (fun _ _ => ev_c) (by decide) (by decide) h63) _ H3 (Keep.of_ex (Ex.refl H3)) hP3 (by omega) _ fun v H4 hv hP4 k4 => ?_)
      obtain ⟨way, rfl, hway⟩ := hv
      refine ⟨_, _, rfl, ?_⟩
      have h4 := k4 _ _ (k3 _ _ h2 np) np
      refine q_asgR ⟨_, rfl, (show EvL _ _ H4 (putsL.map V.str) from el_lst (ea_cons ev_c (ea_cons ev_c (ea_cons ev_c (ea_cons ev_c (ea_cons ev_c (ea_cons ev_c (ea_cons ev_c (ea_cons ev_c (ea_cons ev_c (ea_cons ev_c (ea_cons ev_c (ea_cons ev_c (ea_cons ev_c (ea_cons ev_c ea_nil)))))))))))))) (by show 14 ≤ 100000; decide)) H4 (Ex.refl H4) _ fun a H5 ha e5 h5 => ⟨p, l, a, cells, m + 1 + 3 * i + 2, putsL.map V.str, rfl, hP4.mono e5 (by omega), by omega, h63, h5, fun z => ?_, by decide, by decide, fun j x H6 hx hP6 k6 => ?_⟩⟩
      · obtain ⟨_, _, h, _⟩ := hP4
        rw [z, h] at ha
        cases ha
      rw [List.getElem?_map] at hx
      obtain ⟨z, hz, rfl⟩ := Option.map_eq_some_iff.mp hx
      have okz := puts_ok z (List.mem_of_getElem? hz)
      have h6 := k6 _ _ (e5 _ _ h4) np
      have K6 : Keep p H H6 := (((K2.trans k3).trans k4).trans (Keep.of_ex e5)).trans k6
      have R0 : ∀ {W2 : Addr} {vs : List Str} {H7 : Hp} {D : Ends}, (vs.length ≤ us.length + 3 ∧ ∀ y ∈ vs, Wok y = true) → H7 W2 = some (.lst (vs.map V.str)) →
          (∀ W3 us3 H8, WB us3 (10 + 3 * (i + 1)) → Ex H7 H8 → H8 W3 = some (.lst (us3.map V.str)) → D.nx [some (.ref p), some (.str (tx ws)), some (.ref W3), some (.int (i : Int)), some (.int (at_ : Int)), some (.int (way : Int)), some (.str z)] H8) →
          tAsg (tIf (tTest (tOp (rNeD K) (tVar 2) (tLst tNil))) (tVar 2) (tLst (tCons (tC (.str mt)) tNil))) (gName 2) D [some (.ref p), some (.str (tx ws)), some (.ref W2), some (.int (i : Int)), some (.int (at_ : Int)), some (.int (way : Int)), some (.str z)] H7 := fun {W2 vs H7 D} ⟨hl, hv⟩ h7 kk => by
        have cond : EvT (tTest (tOp (rNeD K) (tVar 2) (tLst tNil))) [some (.ref p), some (.str (tx ws)), some (.ref W2), some (.int (i : Int)), some (.int (at_ : Int)), some (.int (way : Int)), some (.str z)] H7 (!decide (vs = [])) :=
          et_is (et_test (ev_neD (ed_of (ev_var rfl) fun H8 e8 => .lst (sq_of (e8 _ _ h7)) (dps_strs vs)) (ed_L (ds := []) el_nil fun _ _ => .nil) (sh_strs fun y hy => (wok_iff.mp (hv y hy)).1) (by decide +kernel))) (by
            rw [eqv_nil]
            congr 1
            rw [decide_eq_decide, List.map_eq_nil_iff])
        refine a_gw (R := fun us3 => WB us3 (10 + 3 * (i + 1))) (gw_if cond (fun hb => gw_var rfl h7 ⟨?_, hv, by omega⟩) fun hb => gw_of (ws := [mt]) (el_lst (ea_cons ev_c ea_nil) (by show 1 ≤ 100000; decide)) ⟨by simp, fun y hy => ?_, by show 1 ≤ _; omega⟩) kk
        · rw [Bool.not_eq_true', decide_eq_false_iff_not] at hb
          exact hb
        · rw [List.mem_singleton.mp hy]
          decide +kernel
      have fin : ∀ {W3 : Addr} {us3 : List Str} {H7 H8 : Hp}, Ex H6 H7 → WB us3 (10 + 3 * (i + 1)) → Ex H7 H8 → H8 W3 = some (.lst (us3.map V.str)) →
          ∃ (W1 : Addr) (us : List Str) (x3 x4 x5 x6 : Option V), ([some (.ref p), some (.str (tx ws)), some (.ref W3), some (.int (i : Int)), some (.int (at_ : Int)), some (.int (way : Int)), some (.str z)] : L2.St) = [some (.ref p), some (.str (tx ws)), some (.ref W1), x3, x4, x5, x6] ∧ H8 W1 = some (.lst (us.map V.str)) ∧ WB us (10 + 3 * (i + 1)) ∧ PenAt H8 p l cells (m + 1 + 3 * (i + 1)) ∧ Keep p H H8 := fun e7 wb3 e8 h8 =>
        ⟨_, _, _, _, _, _, rfl, h8, wb3, hP6.mono (e7.trans e8) (by omega), K6.trans (Keep.of_ex (e7.trans e8))⟩
      have mem : ∀ y ∈ us, Wok y = true := wb.all
      refine q_if2 (et_test (ev_op (ev_var rfl) ev_c rv_I0)) (fun hb H7 e7 => ?_) (fun hb H7 e7 => ?_)
      · have h7 := e7 _ _ h6
        refine a_gw (gw_of (ws := us.take at_ ++ [z] ++ us.drop (at_ + way)) (R := fun vs => vs.length ≤ us.length + 3 ∧ ∀ y ∈ vs, Wok y = true) (el_catT (el_catT (el_takeT (ev_var rfl) h7 (ev_var rfl)) (el_lst (vs := [z].map V.str) (ea_cons (ev_var rfl) ea_nil) (by show 1 ≤ 100000; decide)) ?_) (el_dropT (ev_var rfl) h7 (ev_op (ev_var rfl) (ev_var rfl) rv_I0)) ?_) ⟨?_, fun y hy => ?_⟩) fun W2 vs H8 r e8 h8 => R0 r h8 fun W3 us3 H9 wb3 e9 h9 => fin (e7.trans e8) wb3 e9 h9
        · rw [List.length_take]
          show _ + 1 ≤ _
          omega
        · rw [List.length_append, List.length_take, List.length_drop]
          show _ + 1 + _ ≤ _
          omega
        · rw [List.length_append, List.length_append, List.length_take, List.length_drop]
          show _ + 1 + _ ≤ _
          omega
        · rcases List.mem_append.mp hy with hy | hy
          · rcases List.mem_append.mp hy with hy | hy
            · exact mem y (List.mem_of_mem_take hy)
            · rw [List.mem_singleton.mp hy]
              exact okz
          · exact mem y (List.mem_of_mem_drop hy)
      · have h7 := e7 _ _ h6
        refine a_gw (R := fun vs => vs.length ≤ us.length + 3 ∧ ∀ y ∈ vs, Wok y = true) (gw_if (et_test (ev_op (ev_var rfl) ev_c (rv_eq rfl))) (fun _ => gw_of (ws := us.take at_ ++ us.drop (at_ + 1)) (el_catT (el_takeT (ev_var rfl) h7 (ev_var rfl)) (el_dropT (ev_var rfl) h7 (ev_op (ev_var rfl) ev_c rv_I0)) ?_) ⟨?_, fun y hy => ?_⟩)
          fun _ => gw_of (ws := us ++ [comma, z, "1"]) (el_catPT (ev_var rfl) h7 (el_lst (vs := [comma, z, "1"].map V.str) (ea_cons ev_c (ea_cons (ev_var rfl) (ea_cons ev_c ea_nil))) (by show 3 ≤ 100000; decide)) ?_) ⟨?_, fun y hy => ?_⟩) fun W2 vs H8 r e8 h8 => R0 r h8 fun W3 us3 H9 wb3 e9 h9 => fin (e7.trans e8) wb3 e9 h9
        · rw [List.length_take, List.length_drop]
          omega
        · rw [List.length_append, List.length_take, List.length_drop]
          omega
        · rcases List.mem_append.mp hy with hy | hy
          · exact mem y (List.mem_of_mem_take hy)
          · exact mem y (List.mem_of_mem_drop hy)
        · show _ + 3 ≤ _
          omega
        · rw [List.length_append]
          exact Nat.le_refl _
        · rcases List.mem_append.mp hy with hy | hy
          · exact mem y hy
          · rcases List.mem_cons.mp hy with rfl | hy
            · decide +kernel
            · rcases List.mem_cons.mp hy with rfl | hy
              · exact okz
              · rw [List.mem_singleton.mp hy]
                decide +kernel
    · rintro σ' H2 ⟨W1, us, x3, x4, x5, x6, rfl, h2, wb, hP2, K2⟩
      rw [Int.toNat_natCast] at wb hP2
      have sz := wb.size
      have few := wb.few
      have sz2 : (us.map (·.length)).sum ≤ 9 * (10 + 3 * n) := sz
      have l1 : (" " : Str).length = 1 := by decide +kernel
      exact s_retR ⟨⟨_, rfl⟩, _, rfl, " ", W1, us, rfl, rfl, .inl (sq_of h2), by rw [l1]; omega, k us H2 (wb.le (by omega)) (hP2.le (by omega)) K2⟩
end
end K08
namespace K08
open PySem L2 Evl Gr ClX OwX OpX StX LamX LamY EXC ClK RdX StS EqT EnT SrtT
/-! ### _law_heard -/
abbrev sHd : Stmt := top 32
abbrev nHd : List Str := ["_law_ask", "_law_caught", "_law_found", "error"]
theorem scHd : FnScope nHd ["_law_ask"] (defScope sHd) := ⟨rfl, rfl, rfl, by decide +kernel, rfl, by decide +kernel, by decide +kernel⟩
theorem takes_len {X : Cx} {W : WX} (t : Takes X W) : Takes X (fun c d σ H => σ.length = X.N.length → W c d σ H) := fun u s' ⟨a, B, sI, pins, σ, H, cls, d, e, I, nb, up, sky, na, os, ag, w⟩ => t u s' ⟨a, B, sI, pins, σ, H, cls, d, e, I, nb, up, sky, na, os, ag, w I.len⟩
/-- what is told of an error; the heap at the start is H0 -/
def HdE (p cR cT cM : Addr) (H0 : Hp) (Q : VK) : XK := fun cls d H1 => ∃ dd vs u0, d = some dd ∧ H1 p = some u0 ∧ ((cls = .ref cR ∧ ∃ v, H1 dd = some (.xd [("part", v)]) ∧ vs = [V.str "rule", v]) ∨ (cls = .ref cT ∧ ∃ v u, H1 dd = some (.xd [("word", u), ("line", v)]) ∧ vs = [V.str "text", v, u]) ∨
  (cls = .ref cM ∧ ∃ v u, H1 dd = some (.xd [("most", u), ("what", v)]) ∧ vs = [v, u])) ∧ ∀ H2 l, Keep p H0 H2 → H2 p = some u0 → H2 l = some (.tup vs) → Q (.ref l) H2
def THd (p cR cT cM : Addr) : (XK → Hp → VK → Prop) → Hp → VK → Prop := fun tl H Q => H p ≠ none ∧ ∀ H1, Ex H H1 → tl (fun cls d H' => Keep p H1 H' ∧ HdE p cR cT cM H Q cls d H') H1 fun v H2 => [v].length ≤ sizeLine ∧ ∀ l, H2 l = none → Q (.ref l) (upd H2 l (.lst [v]))
structure HdK (K : PySem.W.Frag) (mg : Str → Option Value) (B cR cT cM : Addr) : Prop where
  gP : mg "PostError" = some (.ref B)
  gR : mg "BadRule" = some (.ref cR)
  gT : mg "BadText" = some (.ref cT)
  gM : mg "TooMany" = some (.ref cM)
  inst : mg "isinstance" = none
  len : mg "len" = none
  hit : ∀ x ∈ [cR, cT, cM], PySem.W.exmOne K (.ref x) (.ref B) = some true
  kit : ∀ x ∈ [cR, cT, cM], ∀ y ∈ [cR, cT, cM], PySem.W.kitOne K (.ref x) (.ref y) = some (decide (y = x))
  ne1 : cT ≠ cR
  ne2 : cM ≠ cR
  ne3 : cM ≠ cT
  xc : ∀ x ∈ [cR, cT, cM], XcC K x
  fp : PySem.W.findIn K (.ref cR) "part" = some none
  fl : PySem.W.findIn K (.ref cT) "line" = some none
  fw : PySem.W.findIn K (.ref cT) "word" = some none
  fa : PySem.W.findIn K (.ref cM) "what" = some none
  fm : PySem.W.findIn K (.ref cM) "most" = some none
section
variable {K : PySem.W.Frag} {σ : L2.St} {H : Hp} {ta tb te tl : TE}
theorem ev_xcF {a C d : Addr} {fs : List (Str × V)} {v : V} {f : Str} (h : Ev te σ H (.ref a)) (ha : H a = some (ExC (.ref C) (some d) a)) (hd : H d = some (.xd fs)) (xc : XcC K C) (own : PySem.W.findIn K (.ref C) f = some none) (l : fs.lookup f = some v) : Ev (tXcF K f te) σ H v := fun H1 e Q q =>
  h H1 e _ fun H2 e2 => ⟨a, C, d, fs, v, rfl, (e.trans e2) _ _ ha, (e.trans e2) _ _ hd, xc, own, l, q H2 e2⟩
theorem rc_xc {a C D d : Addr} {fs : List (Str × V)} {b : Bool} (ha : H a = some (ExC (.ref C) (some d) a)) (hd : H d = some (.xd fs)) (xc : XcC K C) (hk : PySem.W.kitOne K (.ref C) (.ref D) = some b) : RC (rXc K) [.ref a, .ref D] H (.bl b) := fun H1 e Q q =>
  ⟨a, C, some d, _, _, b, rfl, .own D, e _ _ ha, fun dd z => ⟨fs, by cases z; exact e _ _ hd⟩, xc, hk, q H1 (Ex.refl H1)⟩
end
theorem heard_gives {X : Cx} {q : Str} {g : Addr} {cdg : Value} {B p cR cT cM : Addr} (T : HdK X.K X.mg B cR cT cM) : GivesS X nHd "_law_heard" (defScope sHd) g cdg (defBody sHd) "_law_ask" q (THd p cR cT cM) := by
  intro f c' s H Q tl act hc h
  refine ⟨_, pss_cons (ps_par (i := 1) (j := 2) rfl scHd.nd rfl rfl (by decide) rfl rfl (pa_cons pe_non (pa_cons (pe_lst pa_nil) pa_nil)) (by rfl))
    (pss_cons (ps_try_held (X := (cxOf C8.CX0 X.prog X.w X.K X.mg X.base nHd "_law_heard" (defScope sHd) g cdg X.A X.stack s H C8.E0).nox) (c := .ref B) (i := 3)
      (tb := fun W D σ H => σ[0]? = some (some (.ref f)) ∧ H c' = some (CodeO c' q) ∧ ∃ E : XK, (∀ cls d G', E cls d G' → W cls d σ G') ∧ tl E H fun v H1 => [v].length ≤ sizeLine ∧ ∀ l, H1 l = none → D.rt (.ref l) (upd H1 l (.lst [v])))
      rfl rfl rfl scHd.nd rfl rfl ⟨rfl, by decide, .inl T.gP⟩ (fun W pn xe tk _ => ?_) (fun a oe cls d pn _ _ => pss_one (ps_set (i := 1) scHd.nd rfl (.inl rfl) (pv 3))))
    (pss_cons (ps_if (pt_val (pe_callB call_xc (by rfl) T.inst (by decide +kernel) (pa_cons (pv 1) (pa_cons (pe_glob (v := .ref cR) (by rfl) T.gR (by rfl)) pa_nil))))
      (pss_one (ps_expr (pe_bm PySem.F.plainAttrs_list PySem.F.slot_list_append PySem.F.type_list_append mt_append (pv 2) (pa_cons (pe_tup (pa_cons pe_str (pa_cons (pe_xcF (pv 1)) pa_nil))) pa_nil)))) pss_nil)
    (pss_cons (ps_if (pt_val (pe_callB call_xc (by rfl) T.inst (by decide +kernel) (pa_cons (pv 1) (pa_cons (pe_glob (v := .ref cT) (by rfl) T.gT (by rfl)) pa_nil))))
      (pss_one (ps_expr (pe_bm PySem.F.plainAttrs_list PySem.F.slot_list_append PySem.F.type_list_append mt_append (pv 2) (pa_cons (pe_tup (pa_cons pe_str (pa_cons (pe_xcF (pv 1)) (pa_cons (pe_xcF (pv 1)) pa_nil)))) pa_nil)))) pss_nil)
    (pss_cons (ps_if (pt_val (pe_callB call_xc (by rfl) T.inst (by decide +kernel) (pa_cons (pv 1) (pa_cons (pe_glob (v := .ref cM) (by rfl) T.gM (by rfl)) pa_nil))))
      (pss_one (ps_expr (pe_bm PySem.F.plainAttrs_list PySem.F.slot_list_append PySem.F.type_list_append mt_append (pv 2) (pa_cons (pe_tup (pa_cons (pe_xcF (pv 1)) (pa_cons (pe_xcF (pv 1)) pa_nil))) pa_nil)))) pss_nil)
    (pss_one (ps_ret (pe_ifExp (pt_cmpR op_eq (pe_callB call_len_seq (by rfl) T.len PySem.boot_len (pa_cons (pv 2) pa_nil)) pe_int (nomark _)) (pe_ix ix_list (pv 2) pe_int (fun _ _ => rfl)) (pe_tup (pa_cons pe_str pa_nil))))))))), ?_⟩
  · refine ⟨fun pins s' σ H D I h' => ?_⟩
    have hp := act W pn xe ⟨194, 16, 194, 24⟩ ⟨194, 16, 194, 26⟩ tk
    have hq := pss_one (ps_ret (pos := ⟨194, 8, 194, 27⟩) (pe_lst (pos := ⟨194, 15, 194, 27⟩) (pa_cons hp pa_nil)))
    exact hq.run pins s' σ H D I h'
  · have mR : cR ∈ [cR, cT, cM] := by simp
    have mT : cT ∈ [cR, cT, cM] := by simp
    have mM : cM ∈ [cR, cT, cM] := by simp
    have n1 : cR ≠ cT := fun e => T.ne1 e.symm
    have n2 : cR ≠ cM := fun e => T.ne2 e.symm
    have n3 : cT ≠ cM := fun e => T.ne3 e.symm
    refine q_par (cons_i (c_i (cons_i (lst_i ⟨by show 0 ≤ sizeLine; decide, fun b hb => ⟨_, _, rfl, ?_⟩⟩))))
    obtain ⟨hp0, h⟩ := h
    have bp : b ≠ p := fun z => hp0 (z ▸ hb)
    have eb := Ex.new (o := .lst []) hb
    refine ⟨rfl, eb _ _ hc, fun cls d H' => Keep p (upd H b (.lst [])) H' ∧ HdE p cR cT cM H Q cls d H', fun cls d H1 hE => ?_, h _ eb⟩
    obtain ⟨e1, dd, vs, u0, rfl, hpu, hE, kk⟩ := hE
    have hb1 := e1 _ _ (upd_same : (upd H b (.lst [])) b = some (.lst [])) bp
    have E1 := (Keep.of_ex (p := p) eb).trans e1
    have fin : ∀ {a : Addr} {H9 : Hp} {t : Addr} {D : Ends}, D.rt = Q → Keep p H H9 → H9 p = some u0 → H9 b = some (.lst [.ref t]) → H9 t = some (.tup vs) →
        tRet (tIf (tTest (tOp rEq (tCB (fun xs H Q => ∃ p ys, xs = [V.ref p] ∧ (SqL X.K H p ys ∨ SqT X.K H p ys) ∧ Q (.int ys.length) H) (tCons (tVar 2) tNil)) (tC (.int 1)))) (tOp (rIxL X.K) (tVar 2) (tC (.int 0))) (tTup (tCons (tC (.str "odd")) tNil))) D [some (.ref f), some (.ref a), some (.ref b), none] H9 := fun {a H9 t D} hD e9 hp9 hb9 ht9 => by
      refine s_ret (v := .ref t) (ev_if (b := true) (et_is (et_test (ev_op (ev_lenSq (ev_var rfl) (sq_of hb9)) ev_c (rv_eq rfl))) rfl) (fun _ => ev_op (ev_var rfl) ev_c (rv_ixL (sq_of hb9) rfl)) fun z => absurd z (by decide)) fun H10 e10 => ?_
      rw [hD]
      exact kk H10 t (e9.trans (Keep.of_ex e10)) (e10 _ _ hp9) (e10 _ _ ht9)
    have isi : ∀ {x y a : Addr} {H2 : Hp} {fs : List (Str × V)}, x ∈ [cR, cT, cM] → y ∈ [cR, cT, cM] → H2 a = some (ExC (.ref x) (some dd) a) → H2 dd = some (.xd fs) → EvT (tB (tCB (rXc X.K) (tCons (tVar 1) (tCons (tC (.ref y)) tNil)))) [some (.ref f), some (.ref a), some (.ref b), none] H2 (decide (y = x)) := fun hx hy ha hd => et_B (ev_cb (ea_cons (ev_var rfl) (ea_cons ev_c ea_nil)) (rc_xc ha hd (T.xc _ hx) (T.kit _ hx _ hy)))
    have put : ∀ {a : Addr} {H2 : Hp} {t : TA} {D : Ends}, Ex H1 H2 → EvA t [some (.ref f), some (.ref a), some (.ref b), none] H2 vs → vs.length ≤ 10 → (∀ u H3, Keep p H H3 → H3 b = some (.lst [.ref u]) → H3 u = some (.tup vs) → (∀ c o, c ≠ b → H2 c = some o → H3 c = some o) → D.nx [some (.ref f), some (.ref a), some (.ref b), none] H3) →
        tDrop (tBM X.K "list" rAppend (tVar 2) (tCons (tTup t) tNil)) D [some (.ref f), some (.ref a), some (.ref b), none] H2 := fun {a H2 t D} e2 ht hl kn => by
      refine s_appU (e2 _ _ hb1) (ev_var rfl) (eu_tup ht (by omega)) (by show 0 < _; omega) fun u H3 hu e3 h3 => ?_
      have hb3 := e3 _ _ (e2 _ _ hb1)
      have ub : u ≠ b := fun z => by rw [z, hb3] at h3; cases h3
      refine kn u _ ((E1.trans (Keep.of_ex (e2.trans e3))).mut hb) upd_same (by rw [upd_ne ub]; exact h3) fun c o hc ho => by rw [upd_ne hc]; exact e3 _ _ ho
    have off : ∀ {c : Addr} {o : HO}, H1 c = some o → (∀ xs, o ≠ .lst xs) → c ≠ b := fun h1 h2 z => by
      rw [z, hb1] at h1
      exact h2 _ (Option.some.inj h1).symm
    have start : ∀ {x : Addr} {fs : List (Str × V)}, H1 dd = some (.xd fs) → ∀ a, H1 a = none → ∃ H2, H2 = upd H1 a (ExC (.ref x) (some dd) a) ∧ Ex H1 H2 ∧ H2 a = some (ExC (.ref x) (some dd) a) ∧ H2 dd = some (.xd fs) ∧ a ≠ b := fun hd a ha => by
      refine ⟨_, rfl, Ex.new ha, upd_same, (Ex.new ha) _ _ hd, fun z => ?_⟩
      rw [z, hb1] at ha
      cases ha
    rcases hE with ⟨rfl, v, hd, rfl⟩ | ⟨rfl, v, u, hd, rfl⟩ | ⟨rfl, v, u, hd, rfl⟩
    · refine ⟨T.hit _ mR, fun a ha => ?_⟩
      obtain ⟨H2, eH, e2, ha2, hd2, ab⟩ := start (x := cR) hd a ha
      refine ⟨_, rfl, ?_⟩
      dsimp only [gName, List.set]
      rw [← eH]
      have db := off hd (fun _ z => by cases z)
      refine q_when (b := true) (et_is (isi mR mR ha2 hd2) (decide_eq_true rfl)) (fun _ H3 e3 => ?_) (fun z => absurd z (by decide))
      refine put (e2.trans e3) (ea_cons ev_c (ea_cons (ev_xcF (ev_var rfl) (e3 _ _ ha2) (e3 _ _ hd2) (T.xc _ mR) T.fp rfl) ea_nil)) (by show 2 ≤ 10; decide) fun t H4 E4 hb4 ht4 keep4 => ?_
      have ha4 := keep4 a _ ab (e3 _ _ ha2)
      have hd4 := keep4 dd _ db (e3 _ _ hd2)
      refine q_when (b := false) (et_is (isi mR mT ha4 hd4) (decide_eq_false T.ne1)) (fun z => absurd z (by decide)) (fun _ H5 e5 => ?_)
      refine q_when (b := false) (et_is (isi mR mM (e5 _ _ ha4) (e5 _ _ hd4)) (decide_eq_false T.ne2)) (fun z => absurd z (by decide)) (fun _ H6 e6 => ?_)
      exact fin rfl (E4.trans (Keep.of_ex (e5.trans e6))) ((e5.trans e6) _ _ (keep4 p u0 bp.symm ((e2.trans e3) _ _ hpu))) ((e5.trans e6) _ _ hb4) ((e5.trans e6) _ _ ht4)
    · refine ⟨T.hit _ mT, fun a ha => ?_⟩
      obtain ⟨H2, eH, e2, ha2, hd2, ab⟩ := start (x := cT) hd a ha
      refine ⟨_, rfl, ?_⟩
      dsimp only [gName, List.set]
      rw [← eH]
      have db := off hd (fun _ z => by cases z)
      refine q_when (b := false) (et_is (isi mT mR ha2 hd2) (decide_eq_false n1)) (fun z => absurd z (by decide)) (fun _ H3 e3 => ?_)
      refine q_when (b := true) (et_is (isi mT mT (e3 _ _ ha2) (e3 _ _ hd2)) (decide_eq_true rfl)) (fun _ H4 e4 => ?_) (fun z => absurd z (by decide))
      have e34 := e3.trans e4
      refine put (e2.trans e34) (ea_cons ev_c (ea_cons (ev_xcF (ev_var rfl) (e34 _ _ ha2) (e34 _ _ hd2) (T.xc _ mT) T.fl rfl) (ea_cons (ev_xcF (ev_var rfl) (e34 _ _ ha2) (e34 _ _ hd2) (T.xc _ mT) T.fw rfl) ea_nil))) (by show 3 ≤ 10; decide) fun t H5 E5 hb5 ht5 keep5 => ?_
      have ha5 := keep5 a _ ab (e34 _ _ ha2)
      have hd5 := keep5 dd _ db (e34 _ _ hd2)
      refine q_when (b := false) (et_is (isi mT mM ha5 hd5) (decide_eq_false T.ne3)) (fun z => absurd z (by decide)) (fun _ H6 e6 => ?_)
      exact fin rfl (E5.trans (Keep.of_ex e6)) (e6 _ _ (keep5 p u0 bp.symm ((e2.trans e34) _ _ hpu))) (e6 _ _ hb5) (e6 _ _ ht5)
    · refine ⟨T.hit _ mM, fun a ha => ?_⟩
      obtain ⟨H2, eH, e2, ha2, hd2, ab⟩ := start (x := cM) hd a ha
      refine ⟨_, rfl, ?_⟩
      dsimp only [gName, List.set]
      rw [← eH]
      have db := off hd (fun _ z => by cases z)
      refine q_when (b := false) (et_is (isi mM mR ha2 hd2) (decide_eq_false n2)) (fun z => absurd z (by decide)) (fun _ H3 e3 => ?_)
      refine q_when (b := false) (et_is (isi mM mT (e3 _ _ ha2) (e3 _ _ hd2)) (decide_eq_false n3)) (fun z => absurd z (by decide)) (fun _ H4 e4 => ?_)
      have e34 := e3.trans e4
      refine q_when (b := true) (et_is (isi mM mM (e34 _ _ ha2) (e34 _ _ hd2)) (decide_eq_true rfl)) (fun _ H5 e5 => ?_) (fun z => absurd z (by decide))
      have e35 := e34.trans e5
      refine put (e2.trans e35) (ea_cons (ev_xcF (ev_var rfl) (e35 _ _ ha2) (e35 _ _ hd2) (T.xc _ mM) T.fa rfl) (ea_cons (ev_xcF (ev_var rfl) (e35 _ _ ha2) (e35 _ _ hd2) (T.xc _ mM) T.fm rfl) ea_nil)) (by show 2 ≤ 10; decide) fun t H6 E6 hb6 ht6 keep6 => ?_
      exact fin rfl E6 (keep6 p u0 bp.symm ((e2.trans e35) _ _ hpu)) hb6 ht6
end K08
/-! x == y, x an own object, y a text -/
namespace EqT
open PySem PySem.Spec PyProof.Rows L2 StX OpX
section
variable {X : Cx} {CX : CXT} {n : Nat} {C g : Addr} {sp : Sp} {E : XK}
def rEqZ (X : Cx) (C : Addr) (sp : Sp) (E : XK) : R2 := fun x y H Q => ∃ a z, x = .ref a ∧ y = .str z ∧ InsC X H a C ∧ PySem.W.notFirst X.K C (.type "str") = true ∧ sp [.ref a, .str z] H Q E
theorem op_eqZ {op : CmpOp} (hop : ∀ a b, compareOp op a b = richCompare op a b) (has : Has X.K C g (cmpInfo op).2.1) (F : FnR X.prog X.w X.K X.mg X.base CX n g sp) (room : Room n X.A) (hx : Passes CX X E) : OpR X (compareOp op) (rEqZ X C sp E) := by
  rintro pins s σ H x y v u Q I rx ry ⟨a, z, rfl, rfl, ha, nf, q⟩
  have ev : v = Value.ref a := rx
  subst ev
  obtain ⟨t, rfl⟩ := (show ∃ t, u = Value.str z t from ry)
  obtain ⟨_, _, J, _⟩ := insC_at I ha
  obtain ⟨_, hF⟩ := I.fr
  have kind : PySem.W.Looks (model X.prog X.w) s.heap (typeOf (.str z t)) (.type "str") := PySem.W.Looks.now
  have told := run_own (us := [.ref a, .str z t]) (vs := [.ref a, .str z]) F room hx I (.cons rfl (.cons ⟨t, rfl⟩ .nil)) q
  rw [hop]
  exact PySem.W.cmp_K (op := op) (tb := .type "str") room.units0 hF I.ok.mod.kin J kind nf has.at_ has.fn told
end
end EqT
namespace K08
open PySem L2 Evl Gr ClX OwX OpX StX ClK RdX StS EqT EnT SrtT
abbrev sMR : Stmt := top 34
/-- the operators of rules -/
structure FOps (P : Program) (w : World) (K : PySem.W.Frag) (mg : Str → Option Value) (base : Heap) (C CB fI fE fS fR pR : Addr) (mc : Value) (fdR : FuncData) : Prop where
  hEq : Has K C fE "__eq__"
  eq : FnR P w K mg base CX0 1 fE (spEq K C)
  ne : PySem.W.findIn K (.ref C) "__ne__" = some (some (.builtin "object.__ne__"))
  ob : PySem.W.mroIn K C (.type "object") = some true
  nf : PySem.W.notFirst K C (.ref C) = true
  nfs : PySem.W.notFirst K C (.type "str") = true
  kst : PySem.W.kitOne K (.type "str") (.ref C) = some false
  hStr : StrIn K C fS
  str : FnR P w K mg base CX0 2 fS (spStr K C)
  hRead : CMet K C mc "read" pR fR
  read : FnOk P w K mg base (L2.CX P w) 6 fR fdR ["cls", "text"] (spRead K C CB)
  kRead : KBn K fdR ["cls", "text"] 1 ["text"] (fun us ws => us ++ ws) (fun vs zs => vs ++ zs)
  bRead : Binds K fdR ["cls", "text"] []
theorem ru_insC {X : Cx} {C : Addr} {H : Hp} {o : Addr} {f : Str} {ps : List Pr} (h : RuleAt X.K C H o f ps) : InsC X H o C := .inr h.ins
section
variable {X : Cx} {C CB : Addr} {σ : L2.St} {H : Hp} {ta tb : TE} {f g : Str} {ps qs : List Pr}
theorem ev_ruEq (ha : EvRu X.K C ta σ H f ps) (hb : EvRu X.K C tb σ H g qs) (nf : PySem.W.notFirst X.K C (.ref C) = true) : Ev (tOp (rEqO X C (spEq X.K C) E0) ta tb) σ H (.bl (decide (f = g) && decide (ps = qs))) := fun H1 e Q q =>
  ha H1 e _ fun o H2 e2 r => hb H2 (e.trans e2) _ fun u H3 e3 r3 => ⟨o, u, C, rfl, rfl, ru_insC (r.mono e3), ru_insC r3, nf, o, f, ps, r.mono e3, .inl ⟨u, g, qs, rfl, r3, fun H4 e4 => q H4 ((e2.trans e3).trans e4)⟩⟩
theorem ev_ruNe (ha : EvRu X.K C ta σ H f ps) (hb : EvRu X.K C tb σ H g qs) : Ev (tOp (rNeO X C (spEq X.K C) E0) ta tb) σ H (.bl (!(decide (f = g) && decide (ps = qs)))) := fun H1 e Q q =>
  ha H1 e _ fun o H2 e2 r => hb H2 (e.trans e2) _ fun u H3 e3 r3 => ⟨o, u, rfl, rfl, ru_insC (r.mono e3), ru_insC r3, o, f, ps, r.mono e3, .inl ⟨u, g, qs, rfl, r3, fun H4 e4 => ⟨_, rfl, q H4 ((e2.trans e3).trans e4)⟩⟩⟩
theorem ev_ruZ {z : Str} (ha : EvRu X.K C ta σ H f ps) (hb : Ev tb σ H (.str z)) (nf : PySem.W.notFirst X.K C (.type "str") = true) (ks : PySem.W.kitOne X.K (.type "str") (.ref C) = some false) : Ev (tOp (rEqZ X C (spEq X.K C) E0) ta tb) σ H (.bl false) := fun H1 e Q q =>
  ha H1 e _ fun o H2 e2 r => hb H2 (e.trans e2) _ fun H3 e3 => ⟨o, z, rfl, rfl, ru_insC (r.mono e3), nf, o, f, ps, r.mono e3, .inr ⟨_, "str", rfl, .base (.str z), ks, fun H4 e4 => q H4 ((e2.trans e3).trans e4)⟩⟩
theorem ev_ruStr (ha : EvRu X.K C ta σ H f ps) : Ev (tCB (fun xs H Q => ∃ a, xs = [.ref a] ∧ InsC X H a C ∧ spStr X.K C [.ref a] H (fun v H' => ∃ y, v = .str y ∧ Q v H') E0) (tCons ta tNil)) σ H (.str (tx (rw_ f ps))) := fun H1 e Q q =>
  ha H1 e _ fun o H2 e2 r => ⟨o, rfl, ru_insC r, o, f, ps, rfl, r, fun H3 e3 => ⟨_, rfl, q H3 (e2.trans e3)⟩⟩
end
section
variable {P : Program} {w : World} {K : PySem.W.Frag} {mg : Str → Option Value} {base : Heap} {σ : L2.St} {H : Hp} {ta tb : TE} {C CB : Addr}
theorem eru_made {f : Str} {ps qs : List Pr} {l : Addr} {xs : List V} (h1 : Ev ta σ H (.str f)) (h2 : Ev tb σ H (.ref l)) (hl : SqL K H l xs) (hp : Prs H xs ps) (h3 : ps.length ≤ 3) (g : Good f qs) (pm : ps.Perm qs) : EvRu K C (tCall (spMd K C) [] E0 (tCons ta (tCons tb tNil))) σ H f qs := fun H1 e Q q =>
  h1 H1 e _ fun H2 e2 => h2 H2 (e.trans e2) _ fun H3 e3 => ⟨f, l, xs, ps, qs, rfl, ex_l (e.trans (e2.trans e3)) hl, hp.mono (e.trans (e2.trans e3)), h3, g, pm, fun o H4 e4 r => q o H4 ((e2.trans e3).trans e4) r⟩
theorem eru_readK {f : Str} {ps : List Pr} (ht : Ev ta σ H (.str (tx (rw_ f ps)))) (g : Good f ps) : EvRu K C (fun σ H Q => (tC (.ref C)) σ H fun x H1 => x = .ref C ∧ (tCons ta tNil) σ H1 fun zs H2 => zs.length = (["text"] : List Str).length ∧ spRead K C CB ([.ref C] ++ zs) H2 Q E0) σ H f ps := fun H1 e Q q =>
  ⟨rfl, ht H1 e _ fun H2 e2 => ⟨rfl, .inl ⟨rw_ f ps, none, rfl, by unfold rw_; simp, good_free g, by have := good_tx g; omega, fun z hz => by have := good_short g z hz; omega, by have := (good_size g).2; omega, good_due g, fun i hi => (by cases hi), fun _ => by
    rw [pairs_rw, show gw (rw_ f ps) 0 = f from rfl]
    exact fun o H4 e4 r => q o H4 (e2.trans e4) r⟩⟩⟩
theorem prs_app {H : Hp} {xs ys : List V} {ps qs : List Pr} (h : Prs H xs ps) (h' : Prs H ys qs) : Prs H (xs ++ ys) (ps ++ qs) := by
  unfold Prs at *
  rw [List.map_append, List.map_append, h, h']
theorem prs_drop {H : Hp} {xs : List V} {ps : List Pr} (n : Nat) (h : Prs H xs ps) : Prs H (xs.drop n) (ps.drop n) := by
  unfold Prs at *
  rw [List.map_drop, List.map_drop, h]
theorem prs_rev {H : Hp} {xs : List V} {ps : List Pr} (h : Prs H xs ps) : Prs H xs.reverse ps.reverse := by
  unfold Prs at *
  rw [List.map_reverse, List.map_reverse, h]
/-- gives a list of these pairs -/
def EvPL (te : TE) (σ : L2.St) (H : Hp) (ps : List Pr) : Prop := ∀ H1, Ex H H1 → ∀ Q : VK, (∀ l xs H2, Ex H1 H2 → H2 l = some (.lst xs) → Prs H2 xs ps → Q (.ref l) H2) → te σ H1 Q
theorem ev_pl_var {i : Nat} {l : Addr} {xs : List V} {ps : List Pr} (hi : σ[i]? = some (some (.ref l))) (hl : H l = some (.lst xs)) (hp : Prs H xs ps) : EvPL (tVar i) σ H ps := fun H1 e Q q => ⟨_, hi, q l xs H1 (Ex.refl H1) (e _ _ hl) (hp.mono e)⟩
theorem ev_pl_of {xs : List V} {ps : List Pr} {te : TE} (h : EvL te σ H xs) (hp : Prs H xs ps) : EvPL te σ H ps := fun H1 e Q q => h H1 e _ fun l H2 _ e2 hl => q l xs H2 e2 hl (hp.mono (e.trans e2))
theorem ev_pl_one {te : TE} {p : Pr} (h : EvPr te σ H p) : EvPL (tLst (tCons te tNil)) σ H [p] := fun H1 e Q q => h H1 e _ fun t H2 e2 ht => ⟨by show 1 ≤ sizeLine; decide, fun l hl => q l [.ref t] _ (e2.trans (Ex.new hl)) upd_same (prs_cons ((Ex.new hl) _ _ ht) prs_nil)⟩
theorem ev_pl_cat {ps qs : List Pr} (ha : EvPL ta σ H ps) (hb : EvPL tb σ H qs) (hz : ps.length + qs.length ≤ 1000) : EvPL (tOp rCat ta tb) σ H (ps ++ qs) := fun H1 e Q q =>
  ha H1 e _ fun l xs H2 e2 hl hx => hb H2 (e.trans e2) _ fun r ys H3 e3 hr hy => ⟨l, r, xs, ys, rfl, rfl, e3 _ _ hl, hr, by rw [hx.len, hy.len]; exact sz_of (by omega), fun a ha => q a _ _ ((e2.trans e3).trans (Ex.new ha)) upd_same ((prs_app (hx.mono e3) hy).mono (Ex.new ha))⟩
theorem ev_pl_drop {te : TE} {l : Addr} {xs : List V} {ps : List Pr} (h : Ev te σ H (.ref l)) (hl : H l = some (.lst xs)) (hp : Prs H xs ps) (h1 : 1 ≤ xs.length) : EvPL (tSl (rSlL K) te (tPart (tC (.int 1))) tNoPart) σ H (ps.drop 1) := by
  have c := el_sl (K := K) h (eo_some (ev_c (v := .int 1))) eo_none (sq_of hl)
  have e : cutV xs (some 1) none = xs.drop 1 := by
    unfold cutV
    rw [HT.sIx_none, show (some (1 : Int)) = some ((1 : Nat) : Int) from rfl, HT.sIx_nat, Nat.min_eq_left h1, List.take_of_length_le (by rw [List.length_drop]; exact Nat.le_refl _)]
  rw [e] at c
  exact ev_pl_of c (prs_drop 1 hp)
theorem eru_madeL {f : Str} {ps qs : List Pr} (h1 : Ev ta σ H (.str f)) (h2 : EvPL tb σ H ps) (h3 : ps.length ≤ 3) (g : Good f qs) (pm : ps.Perm qs) : EvRu K C (tCall (spMd K C) [] E0 (tCons ta (tCons tb tNil))) σ H f qs := fun H1 e Q q =>
  h1 H1 e _ fun H2 e2 => h2 H2 (e.trans e2) _ fun l xs H3 e3 hl hx => ⟨f, l, xs, ps, qs, rfl, sq_of hl, hx, h3, g, pm, fun o H4 e4 r => q o H4 ((e2.trans e3).trans e4) r⟩
theorem q_unp2 {n i j : Nat} {t : Addr} {x y : V} {tz : TS} {D : Ends} (hi : σ[n]? = some (some (.ref t))) (ht : SqT K H t [x, y]) (k : tz D ((σ.set i (some x)).set j (some y)) H) : tSeq (tAsg (tVar n) (gTup K 2 (gCons (gName i) (gCons (gName j) gNil)))) tz D σ H :=
  ⟨_, hi, t, _, rfl, ht, rfl, _, _, rfl, _, _, rfl, rfl, k⟩
theorem pl_keep {H' : Hp} {p l t a : Addr} {cells : List Int} {m : Nat} {f : Str} {xs : List V} {ps : List Pr} (hP : PenAt H p l cells m) (kp : Keep p H H') (h2 : H t = some (.tup [.str f, .ref a])) (h3 : H a = some (.lst xs)) (h4 : Prs H xs ps) :
    H' t = some (.tup [.str f, .ref a]) ∧ H' a = some (.lst xs) ∧ Prs H' xs ps := by
  obtain ⟨t', a', xs', e, g2, g3, g4⟩ := (show PlanAt H (.ref t) f ps from ⟨t, a, xs, rfl, h2, h3, h4⟩).keep hP kp
  cases e
  obtain ⟨k, r, hp, _⟩ := hP
  have tp : t ≠ p := fun z => by rw [z, hp] at h2; cases h2
  have g2' := kp _ _ h2 tp
  rw [g2'] at g2
  have ea : a = a' := by
    have := HO.tup.inj (Option.some.inj g2)
    simpa using this
  subst ea
  have ap : a ≠ p := fun z => by
    rw [z, hp] at h3
    have e := HO.lst.inj (Option.some.inj h3)
    subst e
    obtain ⟨t, q, e, _⟩ := h4.at (k := 1) (x := V.int k) rfl
    cases e
  have g3' := kp _ _ h3 ap
  rw [g3'] at g3
  have ex : xs = xs' := HO.lst.inj (Option.some.inj g3)
  subst ex
  exact ⟨g2', g3', g4⟩
theorem good_tail {f : Str} {p : Pr} {ps : List Pr} (g : Good f (p :: ps)) : Good f ps := ⟨g.flag, fun q hq => g.ok q (List.mem_cons_of_mem _ hq), by have := g.many; rw [List.length_cons] at this; omega, (List.pairwise_cons.mp g.rise).2⟩
theorem flip_ok (p : Str) : sgB (flip1 p) 1 1 = true := by
  unfold flip1
  split <;> decide +kernel
theorem flip_ne {p : Str} : flip1 p ≠ p := fun e => by
  unfold flip1 at e
  split at e
  · rename_i h
    rw [h] at e
    exact absurd e (by decide +kernel)
  · rename_i h
    exact h e.symm
theorem good_flip {f : Str} {p : Pr} {ps : List Pr} (g : Good f (p :: ps)) : Good f ((p.1, flip1 p.2) :: ps) := ⟨g.flag, fun q hq => by
  rcases List.mem_cons.mp hq with rfl | hq
  · exact ⟨(g.ok p List.mem_cons_self).1, flip_ok _⟩
  · exact g.ok q (List.mem_cons_of_mem _ hq), g.many, List.pairwise_cons.mpr ⟨(List.pairwise_cons.mp g.rise).1, (List.pairwise_cons.mp g.rise).2⟩⟩
theorem sapp_len (a b : Str) : (a ++ b).length = a.length + b.length := by rw [TL.len_tl, TL.tl_append, List.length_append, ← TL.len_tl, ← TL.len_tl]
theorem good_longer {f : Str} {ps : List Pr} (g : Good f ps) (h7 : f.length ≤ 7) : Good (f ++ "0") ps := by
  have fl := sgB_iff.mp g.flag
  have l1 : ("0" : Str).length = 1 := by decide +kernel
  refine ⟨sgB_iff.mpr ⟨?_, ?_, ?_⟩, g.ok, g.many, g.rise⟩
  · have h := fl.1
    unfold Sg at h ⊢
    rw [TL.tl_append, List.all_append, h, show TL.tl ("0" : Str) = [48] by decide +kernel]
    decide
  · rw [sapp_len, l1]
    omega
  · rw [sapp_len, l1]
    omega
theorem longer_ne (f : Str) : f ≠ f ++ "0" := fun e => by
  have := congrArg (fun z : Str => z.length) e
  have l1 : ("0" : Str).length = 1 := by decide +kernel
  simp only [sapp_len, l1] at this
  omega
abbrev nMR : List Str := ["_law_pen_here", "_law_plan_here", "_law_flag", "_law_pairs", "_law_rule"]
def spMR : Sp := fun vs H Q _ => ∃ (p l : Addr) (cells : List Int) (m : Nat) (v : V) (f : Str) (ps : List Pr), vs = [.ref p, v] ∧ PenAt H p l cells m ∧ m + 2 ≤ 50000 ∧ cells.length ≤ 63 ∧ PlanAt H v f ps ∧ Plan f ps ∧
  ∀ H', PenAt H' p l cells (m + 2) → Keep p H H' → Q (.bl true) H'
theorem scMR : FnScope nMR ["_law_pen_here", "_law_plan_here"] (defScope sMR) := ⟨rfl, rfl, rfl, by decide +kernel, rfl, by decide +kernel, by decide +kernel⟩
theorem ok_MR {f fD fI fE fS fR pR : Addr} {mc : Value} {fd fdD fdR : FuncData} (F : Fun K "_law_made_right" "_law_made_right" sMR f fd) (N : FName K mg C mc) (G : FCls K C) (T : GlbT mg) (S : GlbS mg) (O : FOps P w K mg base C CB fI fE fS fR pR mc fdR)
    (GD : FnOk P w K mg base CX0 1 fD fdD ["_law_pen_here", "_law_many"] spDraw) (kD : PySem.W.keepIn K (.ref fD) = true) (bD : Binds K fdD ["_law_pen_here", "_law_many"] []) (gD : mg "_law_draw" = some (.ref fD))
    (GM : Gfn P w K mg base 6 "_law_made" ["_law_flag", "_law_pairs"] (spMd K C)) (GT : Gfn P w K mg base 1 "_law_rule_text" ["_law_plan_here"] spRt) : FnOk P w K mg base CX0 8 f fd ["_law_pen_here", "_law_plan_here"] spMR := by
  obtain ⟨fM, fdM, GM, kM, bM, gM⟩ := GM
  obtain ⟨fT, fdT, GT, kT, bT, gT⟩ := GT
  refine F.ok scMR (fun vs H Q E h => ?_) (fun cdv A outer s H vs Q E hr h => ?_)
  · obtain ⟨p, l, cells, m, v, f, ps, rfl, _⟩ := h
    rfl
  · obtain ⟨p, l, cells, m, v, f', ps, rfl, hP, hm, h63, hv, pl, k⟩ := h
    have r1 := hr.mono (show 1 ≤ 7 by decide)
    have r2 := hr.mono (show 2 ≤ 7 by decide)
    have r4 := hr.mono (show 4 ≤ 7 by decide)
    have r6 := hr.mono (show 6 ≤ 7 by decide)
    refine ⟨_, pss_cons (ps_asg (pv 1) (pg_tup rfl (pgs_cons (pg_name (i := 2) scMR.nd rfl (.inl rfl)) (pgs_cons (pg_name (i := 3) scMR.nd rfl (.inl rfl)) pgs_nil))))
      (pss_cons (ps_set (i := 4) scMR.nd rfl (.inl rfl) (pe_call GM r6 (by rfl) gM kM bM .nil pass0 (pa_cons (pv 2) (pa_cons (pe_ifExp (pt_cmpR op_eq (pe_call GD r1 (by rfl) gD kD bD .nil pass0 (pa_cons (pv 0) (pa_cons pe_int pa_nil))) pe_int (nomark _)) (pe_revL (pv 3)) (pv 3)) pa_nil))))
      (pss_cons (ps_if (PW.pt (pw_or (pt_cmpR op_ne (pe_fld (pv 4) rfl) (pv 2) (nomark _)) (pw_or (pt_cmpR (op_neD hr.units) (pe_fld (pv 4) rfl) (pe_tupleOf (by rfl) S.tuple (pv 3)) (nomark _))
          (pw_or (pt_cmpR (op_neO (E := E0) O.hEq O.ne O.ob O.eq r2 pass0) (pv 4) (pe_call GM r6 (by rfl) gM kM bM .nil pass0 (pa_cons (pv 2) (pa_cons (pv 3) pa_nil))) (nomark _))
          (pw_or1 (pt_cmpR op_ne (pe_callTy (call_strI (E := E0) O.hStr O.str r4 pass0) (by rfl) T.str (by decide +kernel) (pa_cons (pv 4) pa_nil)) (pe_call GT r1 (by rfl) gT kT bT .nil pass0 (pa_cons (pv 1) pa_nil)) (nomark _))))))) (pss_one (ps_ret pe_bl)) pss_nil)
      (pss_cons (ps_if (PW.pt (pw_or (pt_cmpR (op_neO (E := E0) O.hEq O.ne O.ob O.eq r2 pass0) (pe_cmethK (E := E0) (pe_glob (v := .ref C) (by rfl) N.g rfl) N.rd O.hRead O.read r6 (passN rfl rfl) O.kRead (pk_cons (pe_callTy (call_strI (E := E0) O.hStr O.str r4 pass0) (by rfl) T.str (by decide +kernel) (pa_cons (pv 4) pa_nil)) pk_nil)) (pv 4) (nomark _))
          (pw_or (pt_cmpR (op_eqO (E := E0) (op := .Eq) (fun _ _ => rfl) O.hEq O.eq r1 pass0) (pv 4) (pe_call GM r6 (by rfl) gM kM bM .nil pass0 (pa_cons (pe_op op_add_str (pv 2) pe_str) (pa_cons (pv 3) pa_nil))) (nomark _))
          (pw_or1 (pt_cmpR (op_eqZ (E := E0) (op := .Eq) (fun _ _ => rfl) O.hEq O.eq r1 pass0) (pv 4) (pe_callTy (call_strI (E := E0) O.hStr O.str r4 pass0) (by rfl) T.str (by decide +kernel) (pa_cons (pv 4) pa_nil)) (nomark _)))))) (pss_one (ps_ret pe_bl)) pss_nil)
      (pss_one (ps_ret (pe_or (pe_cmpR (op_eqD hr.units) (pv 3) (pe_lst pa_nil) (nomark _)) (pe_one (pe_and (pe_cmpR (op_neO (E := E0) O.hEq O.ne O.ob O.eq r2 pass0) (pv 4) (pe_call GM r6 (by rfl) gM kM bM .nil pass0 (pa_cons (pv 2) (pa_cons (pe_slice sl_list (pv 3) (po_some pe_int) po_none) pa_nil))) (nomark _))
        (pe_one (pe_cmpR (op_neO (E := E0) O.hEq O.ne O.ob O.eq r2 pass0) (pv 4) (pe_call GM r6 (by rfl) gM kM bM .nil pass0 (pa_cons (pv 2) (pa_cons (pe_op op_cat (pe_lst (pa_cons (pe_tup (pa_cons (pe_ix ix_tup (pe_ix ix_list (pv 3) pe_int (fun _ _ => rfl)) pe_int (fun _ _ => rfl)) (pa_cons (pe_ifExp (pt_cmpR op_eq (pe_ix ix_tup (pe_ix ix_list (pv 3) pe_int (fun _ _ => rfl)) pe_int (fun _ _ => rfl)) pe_str (nomark _)) pe_str pe_str) pa_nil))) pa_nil)) (pe_slice sl_list (pv 3) (po_some pe_int) po_none)) pa_nil))) (nomark _))))))))))), ?_⟩
    obtain ⟨t, a, xs, rfl, ht, ha, hx⟩ := hv
    have g := pl.good
    have f7 := pl.flag
    have m3 := pl.many
    refine q_unp2 rfl (st_of ht) ?_
    -- the rule
    have two : ∀ Q1 : VK, (∀ l' xs' ps' H', H' l' = some (.lst xs') → Prs H' xs' ps' → List.Perm ps' ps → PenAt H' p l cells (m + 1) → Keep p H H' → Q1 (.ref l') H') → tIf (tTest (tOp rEq (tCall spDraw [] E0 (tCons (tVar 0) (tCons (tC (.int 2)) tNil))) (tC (.int 0)))) (tRevL K (tVar 3)) (tVar 3) [some (.ref p), some (.ref t), some (.str f'), some (.ref a), none] H Q1 := fun Q1 q1 => by
      refine (w_draw (i := 0) (many := 2) (σ := [some (.ref p), some (.ref t), some (.str f'), some (.ref a), none]) rfl (fun _ _ => ev_c) (by decide) (by decide) h63) m H (Keep.of_ex (Ex.refl H)) hP (by omega) _ fun v H2 hv hP2 k2 => ?_
      obtain ⟨d, rfl, hd⟩ := hv
      obtain ⟨ht2, ha2, hx2⟩ := pl_keep hP k2 ht ha hx
      refine c_i ((rv_eq (x := V.int (d : Int)) (y := V.int 0) rfl) H2 (Ex.refl H2) _ fun H3 e3 => ⟨_, rfl, ?_⟩)
      generalize decide (V.int (d : Int) = V.int 0) = b
      cases b with
      | true =>
        refine iteT ⟨_, rfl, a, xs, rfl, sq_of (e3 _ _ ha2), fun r hr => ?_⟩
        exact q1 r _ ps.reverse _ upd_same ((prs_rev (hx2.mono e3)).mono (Ex.new hr)) (List.reverse_perm ps) (hP2.mono (e3.trans (Ex.new hr)) (by omega)) (k2.trans (Keep.of_ex (e3.trans (Ex.new hr))))
      | false =>
        refine iteF ?_
        exact ⟨_, rfl, q1 a xs ps H3 (e3 _ _ ha2) (hx2.mono e3) (List.Perm.refl _) (hP2.mono e3 (by omega)) (k2.trans (Keep.of_ex e3))⟩
    refine q_asgR ?_
    refine ⟨_, rfl, ?_⟩
    refine two _ fun l' xs' ps' H3 hl3 hx3 pm3 hP3 k3 => ?_
    refine ⟨f', l', xs', ps', ps, rfl, sq_of hl3, hx3, by rw [pm3.length_eq]; exact m3, g, pm3, fun o H4 e4 r4 => ?_⟩
    obtain ⟨ht3, ha3, hxx3⟩ := pl_keep hP k3 ht ha hx
    have ht4 := e4 _ _ ht3
    have ha4 := e4 _ _ ha3
    have hx4 := hxx3.mono e4
    have hP4 := hP3.mono e4 (Nat.le_refl _)
    have K4 := k3.trans (Keep.of_ex e4)
    have fin : ∀ {H5 : Hp}, Ex H4 H5 → Q (.bl true) H5 := fun e => k _ (hP4.mono e (by omega)) (K4.trans (Keep.of_ex e))
    have rule : ∀ {H5 : Hp}, Ex H4 H5 → EvRu K C (tVar 4) [some (.ref p), some (.ref t), some (.str f'), some (.ref a), some (.ref o)] H5 f' ps := fun e => eru_var rfl (r4.mono e)
    have same : ∀ {H5 : Hp}, Ex H4 H5 → EvRu K C (tCall (spMd K C) [] E0 (tCons (tVar 2) (tCons (tVar 3) tNil))) [some (.ref p), some (.ref t), some (.str f'), some (.ref a), some (.ref o)] H5 f' ps := fun e => eru_madeL (ev_var rfl) (ev_pl_var rfl (e _ _ ha4) (hx4.mono e)) m3 g (List.Perm.refl _)
    refine q_when (b := false) (et_is (et_or (et_test (ev_op (ev_flag G (ev_var rfl) r4) (ev_var rfl) (rv_ne rfl))) fun _ => et_or (et_test (ev_neD (ed_pairs G (ev_var rfl) r4) (ed_T (etu_tupleP (ev_var rfl) (sq_of ha4)) fun H5 e5 => dp_prs (hx4.mono e5)) (prs_shaped g.ok) (prs_shaped g.ok))) fun _ =>
      et_or (et_test (ev_ruNe (rule (Ex.refl H4)) (same (Ex.refl H4)))) fun _ => et_test (ev_op (ev_ruStr (rule (Ex.refl H4))) (ev_call (z := .str (tx (rw_ f' ps))) (ea_cons (ev_var rfl) ea_nil) fun H5 e5 Q5 q5 E5 => ⟨_, f', ps, rfl, ⟨t, a, xs, rfl, e5 _ _ ht4, e5 _ _ ha4, hx4.mono e5⟩, g, q5⟩) (rv_ne rfl))) (by rw [prs_eqv]; simp)) (fun hb => absurd hb (by decide)) (fun _ H5 e5 => ?_)
    have l1 : ("0" : Str).length = 1 := by decide +kernel
    have longer : EvRu K C (tCall (spMd K C) [] E0 (tCons (tOp (fun x y H Q => ∃ i j, x = .str i ∧ y = .str j ∧ i.length + j.length ≤ sizeLine ∧ Q (.str (i ++ j)) H) (tVar 2) (tC (.str "0"))) (tCons (tVar 3) tNil))) [some (.ref p), some (.ref t), some (.str f'), some (.ref a), some (.ref o)] H5 (f' ++ "0") ps := eru_madeL (ev_addS (ev_var rfl) ev_c (by rw [l1]; omega)) (ev_pl_var rfl (e5 _ _ ha4) (hx4.mono e5)) m3 (good_longer g f7) (List.Perm.refl _)
    refine q_when (b := false) (et_is (et_or (et_test (ev_ruNe (eru_readK (CB := CB) (ev_ruStr (rule e5)) g) (rule e5))) fun _ => et_or (et_test (ev_ruEq (rule e5) longer O.nf)) fun _ => et_test (ev_ruZ (rule e5) (ev_ruStr (rule e5)) O.nfs O.kst)) (by rw [decide_eq_false (longer_ne f')]; simp)) (fun hb => absurd hb (by decide)) (fun _ H6 e6 => ?_)
    have E6 := e5.trans e6
    have ha6 := E6 _ _ ha4
    have hx6 := hx4.mono E6
    refine s_ret (v := .bl true) (ev_is (ev_orV (a := decide (ps = [])) (b := true) (ev_is (ev_eqD (ed_of (ev_var rfl) fun H7 e7 => .lst (sq_of (e7 _ _ ha6)) (dp_prs (hx6.mono e7))) (ed_L (ds := []) el_nil fun _ _ => .nil) (low_shaped (low_list (n := 1) fun d hd => by
      obtain ⟨q, hq, rfl⟩ := List.mem_map.mp hd
      exact pd_low (g.ok q hq)) (by decide)) (by decide +kernel)) ?_) fun hne => ?_) (by rw [Bool.or_true])) fun H7 e7 => fin (E6.trans e7)
    · rw [eqv_nil]
      congr 1
      rw [decide_eq_decide, List.map_eq_nil_iff]
    · have hne := of_decide_eq_false hne
      obtain ⟨q0, tl, rfl⟩ := List.exists_cons_of_ne_nil hne
      have len := hx6.len
      have l1' : 1 ≤ xs.length := by rw [len]; simp
      have hx0 : xs[0]? = some xs[0] := List.getElem?_eq_getElem (by omega)
      obtain ⟨t0, q0', et, hq0, ht0⟩ := hx6.at hx0
      obtain rfl : q0 = q0' := by simpa using hq0
      rw [et] at hx0
      have dropE : EvPL (tSl (rSlL K) (tVar 3) (tPart (tC (.int 1))) tNoPart) [some (.ref p), some (.ref t), some (.str f'), some (.ref a), some (.ref o)] H6 tl := ev_pl_drop (ev_var rfl) ha6 hx6 l1'
      have m3' : tl.length ≤ 2 := by simpa using m3
      have first : ∀ {i : Int} {z : Str}, atI [V.str q0.1, V.str q0.2] i = some (.str z) → Ev (tOp (rIxT K) (tOp (rIxL K) (tVar 3) (tC (.int 0))) (tC (.int i))) [some (.ref p), some (.ref t), some (.str f'), some (.ref a), some (.ref o)] H6 (.str z) := fun hi => ev_op (ev_op (ev_var rfl) ev_c (rv_ixL (sq_of ha6) (atI_nat (j := 0) hx0))) ev_c (rv_ixT_ (st_of ht0) hi)
      have flipped : EvPr (tTup (tCons (tOp (rIxT K) (tOp (rIxL K) (tVar 3) (tC (.int 0))) (tC (.int 0))) (tCons (tIf (tTest (tOp rEq (tOp (rIxT K) (tOp (rIxL K) (tVar 3) (tC (.int 0))) (tC (.int 1))) (tC (.str "0")))) (tC (.str "1")) (tC (.str "0"))) tNil))) [some (.ref p), some (.ref t), some (.str f'), some (.ref a), some (.ref o)] H6 (q0.1, flip1 q0.2) := by
        refine ep_tup (first rfl) (ev_if (b := decide (q0.2 = "0")) (et_is (et_test (ev_op (first rfl) ev_c (rv_eq rfl))) dec_str) (fun h => ?_) fun h => ?_)
        · show Ev _ _ _ (V.str (flip1 q0.2))
          unfold flip1
          rw [if_pos (of_decide_eq_true h)]
          exact ev_c
        · show Ev _ _ _ (V.str (flip1 q0.2))
          unfold flip1
          rw [if_neg (of_decide_eq_false h)]
          exact ev_c
      refine ev_is (ev_andV (ev_ruNe (rule E6) (eru_madeL (ev_var rfl) dropE (by omega) (good_tail g) (List.Perm.refl _))) fun _ => ev_ruNe (rule E6) (eru_madeL (ev_var rfl) (ev_pl_cat (ev_pl_one flipped) dropE (by show 1 + _ ≤ _; omega)) (by rw [List.length_append]; show 1 + tl.length ≤ 3; omega) (good_flip g) (List.Perm.refl _))) ?_
      have n1 : ¬ (q0 :: tl = tl) := fun e => by
        have := congrArg List.length e
        simp at this
      have n2 : ¬ (q0 :: tl = [(q0.1, flip1 q0.2)] ++ tl) := fun e => by
        have e1 : q0 = (q0.1, flip1 q0.2) := by simpa using e
        exact flip_ne (congrArg Prod.snd e1).symm
      have n2' : ¬ (q0 :: tl = (q0.1, flip1 q0.2) :: tl) := n2
      simp [n1, n2']
end
end K08
namespace K08
open PySem L2 Evl Gr ClX OwX OpX StX LamX LamY EXC ClK RdX StS EqT EnT SrtT
/-- what stays: all but the pen and the tables -/
def Still (p : Addr) (H H' : Hp) : Prop := ∀ b o, H b = some o → b ≠ p → (∀ ps, o ≠ .tbl ps) → H' b = some o
section
variable {p l a : Addr} {H H' H2 : Hp} {cells : List Int} {m n : Nat} {T : List (Addr × Str)}
theorem still_keep (k : Keep p H H') : Still p H H' := fun b o h hb _ => k b o h hb
theorem still_ext (e : ExtN H H') : Still p H H' := fun b o h _ hn => e b o h hn
theorem still_ex (e : Ex H H') : Still p H H' := fun b o h _ _ => e b o h
theorem Still.trans (h : Still p H H') (h' : Still p H' H2) : Still p H H2 := fun b o hb n1 n2 => h' b o (h b o hb n1 n2) n1 n2
theorem Still.refl : Still p H H := fun _ _ h _ _ => h
theorem still_lst {xs : List V} (k : Still p H H') (h : H a = some (.lst xs)) (n : a ≠ p) : H' a = some (.lst xs) := k _ _ h n fun _ z => by cases z
theorem still_tup {xs : List V} (hP : PenAt H p l cells m) (k : Still p H H') (h : H a = some (.tup xs)) : H' a = some (.tup xs) := by
  obtain ⟨_, _, hp, _⟩ := hP
  exact k _ _ h (fun z => by rw [z, hp] at h; cases h) fun _ z => by cases z
theorem pen_there (hP : PenAt H p l cells m) : H p ≠ none := fun z => by
  obtain ⟨_, _, hp, _⟩ := hP
  rw [hp] at z
  cases z
theorem pen_lst (hP : PenAt H p l cells m) : ∃ xs, H p = some (.lst xs) := by
  obtain ⟨_, _, hp, _⟩ := hP
  exact ⟨_, hp⟩
/-- the pen stays where its list and its cells do -/
theorem pen_still (hP : PenAt H p l cells m) (k : Still p H H') (same : H' p = H p) : PenAt H' p l cells m := by
  obtain ⟨c, r, h1, h2, h3⟩ := hP
  refine ⟨c, r, same.trans h1, k _ _ h2 (fun z => ?_) (fun ps z => by cases z), h3⟩
  rw [z, h1] at h2
  have e := HO.lst.inj (Option.some.inj h2)
  cases cells with
  | nil => cases e
  | cons x xs => cases e
theorem pen_ext (hP : PenAt H p l cells m) (e : ExtN H H') : PenAt H' p l cells m := by
  obtain ⟨xs, hp⟩ := pen_lst hP
  exact pen_still hP (still_ext e) ((e _ _ hp fun ps z => by cases z).trans hp.symm)
theorem tabs_keep (h : Tabs T H) (hP : PenAt H p l cells m) (k : Keep p H H') : Tabs T H' := fun q hq => by
  obtain ⟨_, _, hp, _⟩ := hP
  obtain ⟨ps, h1, h2, h3⟩ := h q hq
  refine ⟨ps, k _ _ h1 (fun z => by rw [z, hp] at h1; cases h1), h2, fun pos cv hc => ?_⟩
  obtain ⟨c, e1, e2⟩ := h3 pos cv hc
  exact ⟨c, e1, k _ _ e2 (fun z => by rw [z, hp] at e2; unfold CodeO at e2; cases e2)⟩
theorem PlanAt.still {v : V} {f : Str} {ps : List Pr} (hP : PenAt H p l cells m) (kp : Still p H H') (h : PlanAt H v f ps) : PlanAt H' v f ps := by
  obtain ⟨t, b, xs, h1, h2, h3, h4⟩ := h
  obtain ⟨c, r, hp, _⟩ := hP
  refine ⟨t, b, xs, h1, kp _ _ h2 (fun z => ?_) (fun ps z => by cases z), kp _ _ h3 (fun z => ?_) (fun ps z => by cases z), h4.to fun t q e => kp _ _ e (fun z => ?_) fun ps z => by cases z⟩
  · rw [z, hp] at h2
    cases h2
  · rw [z, hp] at h3
    have e := HO.lst.inj (Option.some.inj h3)
    subst e
    obtain ⟨t, q, e, _⟩ := h4.at (k := 1) (x := V.int c) rfl
    cases e
  · rw [z, hp] at e
    cases e
end
/-- a def as it stands behind the top, its code object known -/
structure FunC (K : PySem.W.Frag) (x qual : Str) (st : Stmt) (f : Addr) (fd : FuncData) (c : Addr) : Prop where
  ex : ∃ (oc : Value) (od : Option Addr) (kV doc pm : Value) (an : Option Addr) (ct : Value) (osl : Array (Option Value)),
    fd = PySem.W.fnOf x qual (defArgs st) (defBody st) (defScope st) .none kV doc pm an (.ref c) ct ∧ K.lookup f = some ⟨oc, od, .func fd, osl⟩ ∧ PySem.W.codeIn K (.ref c) qual = true
  kp : PySem.W.keepIn K (.ref f) = true
section
variable {P : Program} {w : World} {K : PySem.W.Frag} {mg : Str → Option Value} {base : Heap}
theorem FunC.ok {x qual : Str} {st : Stmt} {f c : Addr} {fd : FuncData} {N ps : List Str} {k : Nat} {sp : Sp} (F : FunC K x qual st f fd c) (S : FnScope N ps (defScope st)) (len : ∀ vs H Q E, sp vs H Q E → vs.length = ps.length)
    (hbody : ∀ (A : Around) (outer : List Env) (s : Shared) (H : Hp) (vs : List V) (Q : VK) (E : XK), Room k (A.deeper (PyProof.Rows.envOfC qual (defScope st) s.heap.objs.size f (.ref c))) → sp vs H Q E →
      ∃ t, PSs (cxOf CX0 P w K mg base N qual (defScope st) f (.ref c) A outer s H E).nox (defBody st) t ∧ t { nx := fun _ H' => Q .non H', rt := Q } (L2.start N vs) H) : FnOk P w K mg base CX0 (k + 1) f fd ps sp := by
  obtain ⟨oc, od, kV, doc, pm, an, ct, osl, rfl, lk, hcd⟩ := F.ex
  refine fn_of lk hcd S len fun A outer s H vs Q E hr hsp => ?_
  obtain ⟨t, h, q⟩ := hbody A outer s H vs Q E hr hsp
  exact ⟨t, h.nox, q⟩
end
theorem pe_heard {X : Cx} {T : List (Addr × Str)} {scope : Scope} {params : Arguments} {body : Expr} {c Pc fH B p0 cR cT cM : Addr} {fdH : FuncData} {t : XK → TE} {p lpos pos : PySem.Pos}
    (hg : Gl X "_law_heard") (gH : X.mg "_law_heard" = some (.ref fH)) (FH : Fun X.K "_law_heard" "_law_heard" sHd fH fdH) (bH : Binds X.K fdH ["_law_ask"] []) (HK : HdK X.K X.mg B cR cT cM)
    (TB : TabB X.base X.mg c Pc) (hcode : X.env.code = .ref c) (hT : (Pc, X.env.qual ++ nm) ∈ T) (hu : ∀ p ∈ T, p.1 = Pc → p.2 = X.env.qual ++ nm) (hr : Room 9 X.A) (L : LamS X.env.scope scope) (hdef : defaultsOf params X.env = ([], []))
    (hbind : ∀ (q : Str) (cl : List (Str × Addr)) (pm cv ctv : Value), bindArgs (PySem.W.kla_fn nm q params body scope cl pm cv ctv) ⟨[], []⟩ = pure [])
    (hbody : ∀ (A : Around) (outer : List Env) (s : Shared) (H : Hp) (E : XK) (f c' : Addr), Room 7 (A.deeper (lamEnv X scope s.heap.objs.size f c')) → PE (lamCx X A outer s H E scope f c') body (t E)) :
    PE X (.Call (.Name "_law_heard" p) [.Lambda params body scope lpos] [] pos) (tLam T (THd p0 cR cT cM) t) := by
  obtain ⟨ocH, odH, kVH, docH, pmH, anH, cdH, ctH, oslH, rfl, lkH, hcH⟩ := FH.ex
  exact pe_lamcallS (T := T) (TT := THd p0 cR cT cM) (k := 7) (N := nHd) (a := "_law_ask") hg gH FH.kp lkH hcH bH scHd rfl (.inl rfl) (heard_gives HK) TB hcode hT hu hr L hdef hbind hbody
section
variable {K : PySem.W.Frag} {C p l cR cT cM : Addr} {T : List (Addr × Str)} {σ : L2.St} {H : Hp} {cells : List Int} {m : Nat} {Q : VK} {i : Nat}
/-- heard: a rule that is read -/
theorem lam_read {ws : List Str} {d : Option Nat} (hi : σ[i]? = some (some (.str (tx ws)))) (W : WB ws 30) (due : Due ws d) (hT : Tabs T H) (hP : PenAt H p l cells m)
    (kE : ∀ j, d = some j → ∀ r H2, Still p H H2 → PenAt H2 p l cells m → Tabs T H2 → H2 r = some (.tup [.str "text", .int 0, .int (j : Int)]) → Q (.ref r) H2)
    (kR : d = none → ∀ r o H2, Still p H H2 → PenAt H2 p l cells m → Tabs T H2 → H2 r = some (.lst [.ref o]) → RuleAt K C H2 o (gw ws 0) (pairsOf ws) → Q (.ref r) H2) :
    tLam T (THd p cR cT cM) (fun E => tCMeth C (spRead K C cT) E (tC (.ref C)) (tCons (tVar i) tNil)) σ H Q := ⟨hT, fun H1 x1 T1 => by
  have hP1 := pen_ext hP x1
  refine ⟨pen_there hP1, fun H2 e2 => ?_⟩
  have wl := W.len
  have ok := W.ok (by decide)
  have hP2 := hP1.mono e2 (Nat.le_refl m)
  refine ⟨rfl, ⟨_, hi, .inl ⟨ws, d, rfl, W.ne, ok.free, by omega, ok.short, by have := ok.few; omega, due, fun j hj => ?_, fun hd => ?_⟩⟩⟩
  · intro dd H' hdd e h
    obtain ⟨xs, hp⟩ := pen_lst hP2
    refine ⟨Keep.of_ex e, dd, _, _, rfl, e _ _ hp, .inr (.inl ⟨rfl, _, _, h, rfl⟩), fun H3 r k3 hp3 h3 => ?_⟩
    have hp1 : H1 p = some (.lst xs) := by
      obtain ⟨ys, q⟩ := pen_lst hP1
      have := e2 _ _ q
      rw [hp] at this
      rw [q, this]
    exact kE j hj r H3 ((still_ext x1).trans (still_keep k3)) (pen_still hP1 (still_keep k3) (hp3.trans hp1.symm)) (tabs_keep T1 hP1 k3) h3
  · intro o H3 e3 r3
    refine ⟨by show 1 ≤ sizeLine; decide, fun lx hl => ?_⟩
    have E3 := (e2.trans e3).trans (Ex.new (o := .lst [.ref o]) hl)
    exact kR hd lx o _ ((still_ext x1).trans (still_ex E3)) (hP1.mono E3 (Nat.le_refl m)) (T1.ext E3) upd_same (r3.mono (Ex.new hl))⟩
end
end K08
namespace K08
open PySem L2 Evl Gr ClX OwX OpX StX LamX LamY EXC ClK RdX StS EqT EnT SrtT
abbrev sTR : Stmt := top 38
theorem due_ex (ws : List Str) : ∃ d, Due ws d := by
  have go : ∀ k : Nat, (∀ i, i < k → standB ws i = true) ∨ ∃ j, j < k ∧ standB ws j = false ∧ ∀ i, i < j → standB ws i = true := by
    intro k
    induction k with
    | zero => exact .inl fun i hi => absurd hi (by omega)
    | succ k ih =>
      rcases ih with ih | ⟨j, h1, h2, h3⟩
      · cases c : standB ws k with
        | false => exact .inr ⟨k, by omega, c, ih⟩
        | true =>
          refine .inl fun i hi => ?_
          rcases Nat.lt_or_ge i k with e | e
          · exact ih i e
          · rw [show i = k by omega]
            exact c
      · exact .inr ⟨j, by omega, h2, h3⟩
  rcases go ws.length with h | ⟨j, h1, h2, h3⟩
  · by_cases o : Odd3 ws.length
    · exact ⟨some ws.length, fun i hi _ => h i hi, Nat.le_refl _, fun z => by omega, fun _ => o⟩
    · exact ⟨none, h, o⟩
  · exact ⟨some j, fun i hi _ => h3 i hi, by omega, fun _ => h2, fun z => by omega⟩
theorem tyx_still {K : PySem.W.Frag} {p : Addr} {H H' : Hp} {x : V} {t : Value} (k : Still p H H') (n : x ≠ .ref p) (h : TyX K H x t) : TyX K H' x t := by
  have up : ∀ {a : Addr} {o : HO}, x = .ref a → H a = some o → (∀ ps, o ≠ .tbl ps) → H' a = some o := fun e h0 nt => k _ _ h0 (fun z => n (by rw [e, z])) nt
  cases h with
  | base b =>
    refine .base ?_
    cases b with
    | non => exact .non
    | bl b => exact .bl b
    | int i => exact .int i
    | str x => exact .str x
    | flt x => exact .flt x
    | lst q => exact .lst (up rfl q fun _ z => by cases z)
    | frz q => exact .frz (up rfl q fun _ z => by cases z)
    | tup q => exact .tup (up rfl q fun _ z => by cases z)
    | dK q => exact .dK (up rfl q fun _ z => by cases z)
    | dT q => exact .dT (up rfl q fun _ z => by cases z)
    | ins q a b c d f => exact .ins (up rfl q fun _ z => by cases z) a b c d f
  | byt b => exact .byt b
  | set q => exact .set (up rfl q fun _ z => by cases z)
  | kList q c => exact .kList q c
  | kTuple q c => exact .kTuple q c
  | kDict q c => exact .kDict q c
  | fTuple q => exact .fTuple (up rfl q fun _ z => by cases z)
  | fDict q => exact .fDict (up rfl q fun _ z => by cases z)
/-! ### picks of which something holds -/
def EvOne (R : Hp → V → Prop) (te : TE) (σ : L2.St) (H : Hp) : Prop := ∀ H1, Ex H H1 → ∀ Q : VK, (∀ x H2, Ex H1 H2 → R H2 x → Q x H2) → te σ H1 Q
def EvAll (R : Hp → V → Prop) (n : Nat) (ta : TA) (σ : L2.St) (H : Hp) : Prop := ∀ H1, Ex H H1 → ∀ Q : List V → Hp → Prop, (∀ xs H2, Ex H1 H2 → xs.length = n → (∀ x ∈ xs, R H2 x) → Q xs H2) → ta σ H1 Q
def UpR (R : Hp → V → Prop) : Prop := ∀ H H' x, Ex H H' → R H x → R H' x
section
variable {R : Hp → V → Prop} {σ : L2.St} {H : Hp} {te : TE} {ta : TA} {n : Nat}
theorem all_nil : EvAll R 0 tNil σ H := fun H1 _ Q q => q [] H1 (Ex.refl H1) rfl fun x h => by cases h
theorem all_cons (up : UpR R) (h : EvOne R te σ H) (hr : EvAll R n ta σ H) : EvAll R (n + 1) (tCons te ta) σ H := fun H1 e Q q =>
  h H1 e _ fun x H2 e2 rx => hr H2 (e.trans e2) _ fun xs H3 e3 len all => q (x :: xs) H3 (e2.trans e3) (by rw [List.length_cons, len]) fun y hy => by
    rcases List.mem_cons.mp hy with rfl | hy
    · exact up _ _ _ e3 rx
    · exact all y hy
theorem one_c {v : V} (h : ∀ H1, R H1 v) : EvOne R (tC v) σ H := fun H1 e Q q => q v H1 (Ex.refl H1) (h H1)
theorem one_lst {xs : List V} (h : EvL te σ H xs) (r : ∀ a H1 H2, Ex H H1 → H1 a = none → H2 a = some (.lst xs) → R H2 (.ref a)) : EvOne R te σ H := fun H1 e Q q => h H1 e _ fun a H2 ha e2 h2 => q _ H2 e2 (r a H1 H2 e ha h2)
theorem one_tup {xs : List V} (h : EvU te σ H xs) (r : ∀ a H1 H2, Ex H H1 → H1 a = none → H2 a = some (.tup xs) → R H2 (.ref a)) : EvOne R te σ H := fun H1 e Q q => h H1 e _ fun a H2 ha e2 h2 => q _ H2 e2 (r a H1 H2 e ha h2)
theorem one_dict (r : ∀ a H1 H2, Ex H H1 → H1 a = none → H2 a = some (.dK []) → R H2 (.ref a)) : EvOne R tDNewK σ H := fun H1 e Q q a ha => q _ _ (Ex.new ha) (r a H1 _ e ha upd_same)
end
/-- no text, and not the pen -/
def NoStr (K : PySem.W.Frag) (p : Addr) (H : Hp) (x : V) : Prop := x ≠ .ref p ∧ ∃ T : String, TyX K H x (.type T) ∧ kitB T "str" = some false
theorem noStr_up {K : PySem.W.Frag} {p : Addr} : UpR (NoStr K p) := fun H H' x e ⟨n, T, h1, h2⟩ => ⟨n, T, tyx_mono e h1, h2⟩
/-- a pick of a display -/
theorem q_pickR {R : Hp → V → Prop} (up : UpR R) {p l : Addr} {cells : List Int} {m n i j : Nat} {σ : L2.St} {H : Hp} {ta : TA} {tz : TS} {D : Ends} (hi : σ[i]? = some (some (.ref p))) (hP : PenAt H p l cells m) (hm : m ≤ 50000) (h63 : cells.length ≤ 63) (h : EvAll R n ta σ H) (n0 : 0 < n) (n1 : n ≤ 1000)
    (k : ∀ x H1 H2, Ex H H1 → R H1 x → PenAt H1 p l cells m → PenAt H2 p l cells (m + 1) → Keep p H1 H2 → tz D (σ.set j (some x)) H2) : tSeq (tAsg (tCall spPick [] E0 (tCons (tVar i) (tCons (tLst ta) tNil))) (gName j)) tz D σ H :=
  ⟨_, hi, h H (Ex.refl H) _ fun xs H1 e1 len all => ⟨by rw [len]; exact sz_of (by omega), fun a ha => by
    have e2 := Ex.new (o := .lst xs) ha
    have hP2 := hP.mono (e1.trans e2) (Nat.le_refl m)
    refine ⟨p, l, a, cells, m, xs, rfl, hP2, hm, h63, upd_same, fun z => ?_, by omega, by omega, fun t x H3 hx hP3 k3 => ?_⟩
    · exact pen_there (hP.mono e1 (Nat.le_refl m)) (z ▸ ha)
    · exact k x _ H3 (e1.trans e2) (up _ _ _ e2 (all x (List.mem_of_getElem? hx))) hP2 hP3 k3⟩⟩
theorem el_split {σ : L2.St} {H : Hp} {ta : TE} {ws : List Str} {n : Nat} (h : Ev ta σ H (.str (tx ws))) (W : WB ws n) (hn : n ≤ 80) :
    EvL (tM1 (fun x xs H Q => ∃ a b, x = .str a ∧ xs = [.str b] ∧ (b.length == 0) = false ∧ a.length + 2 ≤ sizeLine ∧ rNewStrs (Txt.split a b) H Q) ta (tC (.str " "))) σ H (ws.map V.str) := fun H1 e Q q =>
  h H1 e _ fun H2 e2 => ⟨⟨_, rfl⟩, _, " ", rfl, rfl, by decide +kernel, sz_of (n := (tx ws).length + 2) (by have := W.len; omega), by
    rw [split_tx W.ne (W.ok hn).free]
    exact fun p hp => q p _ (fresh_back e2 hp) (e2.trans (Ex.new hp)) upd_same⟩
theorem ev_due {K : PySem.W.Frag} {σ : L2.St} {H : Hp} {ta : TE} {ws : List Str} {n : Nat} {d : Option Nat} (h : Ev ta σ H (.str (tx ws))) (W : WB ws n) (hn : n ≤ 80) (due : Due ws d) :
    Ev (tCall (spDue K) [] E0 (tCons (tM1 (fun x xs H Q => ∃ a b, x = .str a ∧ xs = [.str b] ∧ (b.length == 0) = false ∧ a.length + 2 ≤ sizeLine ∧ rNewStrs (Txt.split a b) H Q) ta (tC (.str " "))) tNil)) σ H (dueV d) := fun H1 e Q q =>
  (el_split h W hn) H1 e _ fun a H2 ha e2 h2 => ⟨a, ws, d, rfl, sq_of h2, W.ok hn, due, fun H3 e3 => q H3 (e2.trans e3)⟩
abbrev txD (i j : Int) : PyData := .tuple [.str "text", .int i, .int j]
theorem tx_sh (i j : Int) : SeqAt.shaped (txD i j) = true := low_shaped (low_tup (n := 0) fun d hd => by
  rcases List.mem_cons.mp hd with rfl | hd
  · exact low_str (by decide +kernel)
  · rcases List.mem_cons.mp hd with rfl | hd
    · exact low_int _
    · rw [List.mem_singleton.mp hd]
      exact low_int _) (by decide)
theorem tx_eqv (i j : Int) : PyData.eqv (txD i j) (txD i j) = true := by simp [txD, PyData.eqv, PyData.eqvAll]
section
variable {K : PySem.W.Frag} {C p l cR cT cM : Addr} {T : List (Addr × Str)} {σ : L2.St} {H : Hp} {cells : List Int} {m : Nat} {Q : VK} {i : Nat}
/-- heard: no text is read -/
theorem lam_readX {x : V} (hi : σ[i]? = some (some x)) (hx : NoStr K p H x) (hT : Tabs T H) (hP : PenAt H p l cells m)
    (kE : ∀ r H2, Still p H H2 → PenAt H2 p l cells m → Tabs T H2 → H2 r = some (.tup [.str "text", .int 0, .int 0]) → Q (.ref r) H2) :
    tLam T (THd p cR cT cM) (fun E => tCMeth C (spRead K C cT) E (tC (.ref C)) (tCons (tVar i) tNil)) σ H Q := ⟨hT, fun H1 x1 T1 => by
  have hP1 := pen_ext hP x1
  obtain ⟨np, ty, h1, h2⟩ := hx
  refine ⟨pen_there hP1, fun H2 e2 => ⟨rfl, ⟨_, hi, .inr ⟨x, ty, rfl, tyx_mono e2 (tyx_still (still_ext x1) np h1), h2, fun dd H' hdd e h => ?_⟩⟩⟩⟩
  obtain ⟨xs, hp⟩ := pen_lst (hP1.mono e2 (Nat.le_refl m))
  refine ⟨Keep.of_ex e, dd, _, _, rfl, e _ _ hp, .inr (.inl ⟨rfl, _, _, h, rfl⟩), fun H3 r k3 hp3 h3 => ?_⟩
  have hp1 : H1 p = some (.lst xs) := by
    obtain ⟨ys, q⟩ := pen_lst hP1
    have := e2 _ _ q
    rw [hp] at this
    rw [q, this]
  exact kE r H3 ((still_ext x1).trans (still_keep k3)) (pen_still hP1 (still_keep k3) (hp3.trans hp1.symm)) (tabs_keep T1 hP1 k3) h3⟩
end
section
variable {P : Program} {w : World} {K : PySem.W.Frag} {mg : Str → Option Value} {base : Heap}
abbrev nTR : List Str := ["_law_pen_here", "_law_plan_here", "_law_turn", "_law_text", "_law_due_here", "_law_heard_here", "_law_odd"]
abbrev qTR : Str := ("_law_texts_right" : Str) ++ ".<locals>." ++ "<lambda>"
def spTR (T : List (Addr × Str)) : Sp := fun vs H Q _ => ∃ (p l : Addr) (cells : List Int) (m : Nat) (v : V) (f : Str) (ps : List Pr), vs = [.ref p, v] ∧ PenAt H p l cells m ∧ m + 120 ≤ 50000 ∧ cells.length ≤ 63 ∧ PlanAt H v f ps ∧ Plan f ps ∧ Tabs T H ∧
  ∀ H', PenAt H' p l cells (m + 120) → Still p H H' → Tabs T H' → Q (.bl true) H'
theorem scTR : FnScope nTR ["_law_pen_here", "_law_plan_here"] (defScope sTR) := ⟨rfl, rfl, rfl, by decide +kernel, rfl, by decide +kernel, by decide +kernel⟩
theorem ok_TR {p0 f fH fI fE fS fR pR B cR cT cM C c Pc : Addr} {mc : Value} {fd fdH fdR : FuncData} {T : List (Addr × Str)} (F : FunC K "_law_texts_right" "_law_texts_right" sTR f fd c) (TB : TabB base mg c Pc) (hT : (Pc, qTR) ∈ T) (hu : ∀ p ∈ T, p.1 = Pc → p.2 = qTR)
    (N : FName K mg C mc) (TT : GlbT mg) (S : GlbS mg) (HK : HdK K mg B cR cT cM) (FH : Fun K "_law_heard" "_law_heard" sHd fH fdH) (bH : Binds K fdH ["_law_ask"] []) (gH : mg "_law_heard" = some (.ref fH)) (O : FOps P w K mg base C cT fI fE fS fR pR mc fdR)
    (GP : Gfn P w K mg base 2 "_law_pick" ["_law_pen_here", "_law_some"] spPick) (GB : Gfn P w K mg base 3 "_law_bent" ["_law_pen_here", "_law_text"] spBent) (GT : Gfn P w K mg base 1 "_law_rule_text" ["_law_plan_here"] spRt) (GD : Gfn P w K mg base 2 "_law_due" ["_law_words"] (spDue K)) :
    FnOk P w K mg base CX0 10 f fd ["_law_pen_here", "_law_plan_here"] (spTR T) := by
  obtain ⟨fP, fdP, GP, kP, bP, gP⟩ := GP
  obtain ⟨fB, fdB, GB, kB, bB, gB⟩ := GB
  obtain ⟨fT, fdT, GT, kT, bT, gT⟩ := GT
  obtain ⟨fD, fdD, GD, kD, bD, gD⟩ := GD
  refine F.ok scTR (fun vs H Q E h => ?_) (fun A outer s H vs Q E hr h => ?_)
  · obtain ⟨p, l, cells, m, v, f, ps, rfl, _⟩ := h
    rfl
  · obtain ⟨p, l, cells, m, v, f', ps, rfl, hP, hm, h63, hv, pl, tabs, k⟩ := h
    have r1 := hr.mono (show 1 ≤ 9 by decide)
    have r2 := hr.mono (show 2 ≤ 9 by decide)
    have r3 := hr.mono (show 3 ≤ 9 by decide)
    have r4 := hr.mono (show 4 ≤ 9 by decide)
    refine ⟨_, pss_cons (ps_for PassesOwn.never rfl (pi_range1 (by rfl) S.range (pa_cons pe_int pa_nil)) (pg_name (i := 2) scTR.nd rfl (.inl rfl))
        (pss_cons (ps_set (i := 3) scTR.nd rfl (.inr rfl) (pe_call GB r3 (by rfl) gB kB bB .nil pass0 (pa_cons (pv 0) (pa_cons (pe_call GT r1 (by rfl) gT kT bT .nil pass0 (pa_cons (pv 1) pa_nil)) pa_nil))))
        (pss_cons (ps_par (i := 4) (j := 5) rfl scTR.nd rfl rfl (by decide) rfl rfl (pa_cons (pe_call GD r2 (by rfl) gD kD bD .nil pass0 (pa_cons (pe_split (pv 3) pe_str) pa_nil)) (pa_cons (pe_heard (X := (cxOf CX0 P w K mg base nTR "_law_texts_right" (defScope sTR) f (.ref c) A outer s H E).nox) (T := T) (p0 := p) (t := fun E2 => tCMeth C (spRead K C cT) E2 (tC (.ref C)) (tCons (tVar 3) tNil)) (by rfl) gH FH bH HK TB rfl hT hu hr (lamS_by (sc := defScope sTR) (by decide +kernel)) rfl (fun _ _ _ _ _ => rfl)
            (fun A2 outer2 s2 H2 E2 f2 c2 hr2 => pe_cmeth (E := E2) (pe_glob (v := .ref C) rfl N.g rfl) N.rd O.hRead (fnR0 O.read O.bRead) (hr2.mono (show 6 ≤ 7 by decide)) (passes_call (takes_of rfl rfl rfl rfl) fun _ _ _ _ z => z) (pa_cons (pv 3) pa_nil))) pa_nil)) (by rfl))
        (pss_one (ps_if (PW.pt (pw_or (PW.pt (pw_and (pt_cmpR op_notN (pv 4) pe_non (nomark _)) (pw_and1 (pt_cmpR (op_neD hr.units) (pv 5) (pe_tup (pa_cons pe_str (pa_cons pe_int (pa_cons (pv 4) pa_nil)))) (nomark _)))))
          (pw_or1 (PW.pt (pw_and (pt_cmpR op_isN (pv 4) pe_non (nomark _)) (pw_and1 (PW.pt (pw_or (pt_not (pt_val (pe_callB call_isi (by rfl) TT.inst (by decide +kernel) (pa_cons (pv 5) (pa_cons (pe_bltn (v := .ty "list") (by rfl) S.list (by decide +kernel) rfl) pa_nil))))) (pw_or1 (pt_cmpR op_ne (pe_callTy (call_strI (E := E0) O.hStr O.str r4 pass0) (by rfl) TT.str (by decide +kernel) (pa_cons (pe_ix ix_list (pv 5) pe_int (fun _ _ => rfl)) pa_nil)) (pv 3) (nomark _))))))))))) (pss_one (ps_ret pe_bl)) pss_nil)))))
      (pss_cons (ps_set (i := 6) scTR.nd rfl (.inr rfl) (pe_call GP r2 (by rfl) gP kP bP .nil pass0 (pa_cons (pv 0) (pa_cons (pe_lst (pa_cons pe_non (pa_cons pe_int (pa_cons (pe_lst (pa_cons pe_str pa_nil)) (pa_cons (pe_tup (pa_cons pe_str (pa_cons pe_str pa_nil))) (pa_cons pe_dnewK (pa_cons pe_bl pa_nil))))))) pa_nil))))
      (pss_one (ps_ret (pe_cmpR (op_eqD hr.units) (pe_heard (X := (cxOf CX0 P w K mg base nTR "_law_texts_right" (defScope sTR) f (.ref c) A outer s H E).nox) (T := T) (p0 := p) (t := fun E2 => tCMeth C (spRead K C cT) E2 (tC (.ref C)) (tCons (tVar 6) tNil)) (by rfl) gH FH bH HK TB rfl hT hu hr (lamS_by (sc := defScope sTR) (by decide +kernel)) rfl (fun _ _ _ _ _ => rfl)
            (fun A2 outer2 s2 H2 E2 f2 c2 hr2 => pe_cmeth (E := E2) (pe_glob (v := .ref C) rfl N.g rfl) N.rd O.hRead (fnR0 O.read O.bRead) (hr2.mono (show 6 ≤ 7 by decide)) (passes_call (takes_of rfl rfl rfl rfl) fun _ _ _ _ z => z) (pa_cons (pv 6) pa_nil))) (pe_tup (pa_cons pe_str (pa_cons pe_int (pa_cons pe_int pa_nil)))) (nomark _))))), ?_⟩
    have g := pl.good
    have wb0 := good_wb g pl.many
    refine q_forR1 (ea_cons ev_c ea_nil) (by decide) (fun i σ' H' => (∃ x2 x3 x4 x5 : Option V, σ' = [some (.ref p), some v, x2, x3, x4, x5, none]) ∧ PenAt H' p l cells (m + 20 * i) ∧ Still p H H' ∧ Tabs T H') (fun H1 e1 => ⟨⟨none, none, none, none, rfl⟩, hP.mono e1 (by omega), still_ex e1, tabs.ext e1⟩) ?_ ?_
    · rintro i σ' H1 hi ⟨⟨x2, x3, x4, x5, rfl⟩, hP1, s1, t1⟩
      have hv1 := hv.still hP s1
      refine q_asgR ⟨_, rfl, (show Ev (tCall spRt [] E0 (tCons (tVar 1) tNil)) _ H1 (.str (tx (rw_ f' ps))) from ev_call (ea_cons (ev_var rfl) ea_nil) fun H3 e3 Q3 q3 E3 => ⟨v, f', ps, rfl, hv1.mono e3, g, q3⟩) H1 (Ex.refl H1) _ fun H2 e2 => ⟨p, l, cells, m + 20 * i, rw_ f' ps, rfl, hP1.mono e2 (Nat.le_refl _), by omega, h63, wb0, fun us H3 wb hP3 k3 => ?_⟩⟩
      have s3 : Still p H H3 := (s1.trans (still_ex e2)).trans (still_keep k3)
      have t3 : Tabs T H3 := tabs_keep (t1.ext e2) (hP1.mono e2 (Nat.le_refl _)) k3
      obtain ⟨d, due⟩ := due_ex us
      have done : ∀ {H5 H6 : Hp} {y4 y5 : Option V}, Still p H3 H5 → PenAt H5 p l cells (m + 20 * i + 20) → Tabs T H5 → Ex H5 H6 → (∃ x2 x3 x4 x5 : Option V, ([some (.ref p), some v, some (.int (i : Int)), some (.str (tx us)), y4, y5, none] : L2.St) = [some (.ref p), some v, x2, x3, x4, x5, none]) ∧ PenAt H6 p l cells (m + 20 * (i + 1)) ∧ Still p H H6 ∧ Tabs T H6 := fun s5 hP5 t5 e6 =>
        ⟨⟨_, _, _, _, rfl⟩, hP5.mono e6 (by omega), (s3.trans s5).trans (still_ex e6), t5.ext e6⟩
      refine q_par (cons_i ((ev_due (ev_var (i := 3) rfl) wb (by decide) due) H3 (Ex.refl H3) _ fun H4 e4 => cons_i (lam_read (i := 3) rfl wb due (t3.ext e4) (hP3.mono e4 (Nat.le_refl _)) (fun j hj r H5 s5 hP5 t5 h5 => ⟨_, _, rfl, ?_⟩) (fun hd r o H5 s5 hP5 t5 h5 r5 => ⟨_, _, rfl, ?_⟩))))
      · subst hj
        refine s_if (b := false) (et_is (et_or (et_and (et_test (ev_op (ev_var rfl) ev_c fun H7 _ Q q => ⟨rfl, q H7 (Ex.refl H7)⟩)) fun _ => et_test (ev_neD (d := txD 0 (j : Int)) (e := txD 0 (j : Int)) (ed_of (ev_var rfl) fun H7 e7 => .tup (st_of (e7 _ _ h5)) (.cons (.str _) (.cons (.int _) (.cons (.int _) .nil)))) (ed_T (etu_disp (ea_cons ev_c (ea_cons ev_c (ea_cons (ev_var rfl) ea_nil))) (by show 3 ≤ 100000; decide)) fun _ _ => .cons (.str _) (.cons (.int _) (.cons (.int _) .nil))) (tx_sh _ _) (tx_sh _ _)))
          fun _ => et_and (b := false) (et_test (ev_op (ev_var rfl) ev_c fun H7 _ Q q => ⟨rfl, q H7 (Ex.refl H7)⟩)) fun h => absurd h (by simp [dueV])) (by rw [tx_eqv]; simp)) (fun hb => absurd hb (by decide)) fun _ H6 e6 => done ((still_ex e4).trans s5) hP5 t5 e6
      · subst hd
        obtain ⟨gd, eq⟩ := due_none wb.ne due
        have ru : EvRu K C (tOp (rIxL K) (tVar 5) (tC (.int 0))) [some (.ref p), some v, some (.int (i : Int)), some (.str (tx us)), some .non, some (.ref r), none] H5 (gw us 0) (pairsOf us) := fun H7 e7 Q q => (ev_op (ev_var (i := 5) rfl) ev_c (rv_ixL (sq_of h5) (i := 0) rfl)) H7 e7 _ fun H8 e8 => q o H8 e8 (r5.mono (e7.trans e8))
        have stx : Ev _ [some (.ref p), some v, some (.int (i : Int)), some (.str (tx us)), some .non, some (.ref r), none] H5 (.str (tx (rw_ (gw us 0) (pairsOf us)))) := ev_ruStr (X := (cxOf CX0 P w K mg base nTR "_law_texts_right" (defScope sTR) f (.ref c) A outer s H E).nox) ru
        rw [← eq] at stx
        refine s_if (b := false) (et_is (et_or (et_and (b := false) (et_test (ev_op (ev_var rfl) ev_c fun H7 _ Q q => ⟨rfl, q H7 (Ex.refl H7)⟩)) fun h => absurd h (by simp [dueV])) fun _ => et_and (et_test (ev_op (ev_var rfl) ev_c fun H7 _ Q q => ⟨rfl, q H7 (Ex.refl H7)⟩)) fun _ =>
          et_or (et_not (et_B (ev_cb (ea_cons (ev_var rfl) (ea_cons ev_c ea_nil)) (rc_isi (.base (.lst h5)) (r := true) (by decide +kernel))))) fun _ => et_test (ev_op stx (ev_var rfl) (rv_ne rfl))) (by simp)) (fun hb => absurd hb (by decide)) fun _ H6 e6 => done ((still_ex e4).trans s5) hP5 t5 e6
    · rintro σ' H1 ⟨⟨x2, x3, x4, x5, rfl⟩, hP1, s1, t1⟩
      have np : ∀ {a : Addr} {H2 : Hp}, Ex H1 H2 → H2 a = none → V.ref a ≠ .ref p := fun e2 ha z => by
        cases z
        exact pen_there (hP1.mono e2 (Nat.le_refl _)) ha
      refine q_pickR (noStr_up (K := K) (p := p)) rfl hP1 (by omega) h63 (all_cons noStr_up (one_c fun _ => ⟨(fun z => by cases z), _, .base .non, by decide +kernel⟩) (all_cons noStr_up (one_c fun _ => ⟨(fun z => by cases z), _, .base (.int 0), by decide +kernel⟩)
        (all_cons noStr_up (one_lst (el_lst (ea_cons ev_c ea_nil) (by show 1 ≤ 100000; decide)) fun a H2 H3 e2 ha h3 => ⟨np e2 ha, _, .base (.lst h3), by decide +kernel⟩) (all_cons noStr_up (one_tup (eu_tup (ea_cons ev_c (ea_cons ev_c ea_nil)) (by show 2 ≤ 100000; decide)) fun a H2 H3 e2 ha h3 => ⟨np e2 ha, _, .base (.tup h3), by decide +kernel⟩)
        (all_cons noStr_up (one_dict fun a H2 H3 e2 ha h3 => ⟨np e2 ha, _, .base (.dK h3), by decide +kernel⟩) (all_cons noStr_up (one_c fun _ => ⟨(fun z => by cases z), _, .base (.bl true), by decide +kernel⟩) all_nil)))))) (by decide) (by decide) fun x H2 H3 e2 hx hP2 hP3 k3 => ?_
      have hx3 : NoStr K p H3 x := ⟨hx.1, hx.2.imp fun ty h => ⟨tyx_still (still_keep k3) hx.1 h.1, h.2⟩⟩
      have t3 := tabs_keep (t1.ext e2) hP2 k3
      have s3 := (s1.trans (still_ex e2)).trans (still_keep k3)
      refine s_retR (op_i (lam_readX (i := 6) rfl hx3 t3 hP3 fun r H4 s4 hP4 t4 h4 => (show EvTu K (tTup (tCons (tC (.str "text")) (tCons (tC (.int 0)) (tCons (tC (.int 0)) tNil)))) _ H4 [.str "text", .int 0, .int 0] from etu_disp (ea_cons ev_c (ea_cons ev_c (ea_cons ev_c ea_nil))) (by show 3 ≤ 100000; decide)) H4 (Ex.refl H4) _ fun q H5 e5 hq =>
        ⟨txD 0 0, txD 0 0, .tup (st_of (e5 _ _ h4)) (.cons (.str _) (.cons (.int _) (.cons (.int _) .nil))), .tup hq (.cons (.str _) (.cons (.int _) (.cons (.int _) .nil))), tx_sh _ _, tx_sh _ _, ?_⟩))
      rw [tx_eqv]
      have five : ((5 : Int).toNat) = 5 := rfl
      rw [five] at hP3
      exact k H5 (hP4.mono e5 (by omega)) ((s3.trans s4).trans (still_ex e5)) (t4.ext e5)
end
end K08
/-! what is wrong with what a rule is made of, heard -/
namespace K08
open PySem L2 Evl Gr ClX OwX OpX StX LamX LamY EXC ClK RdX StS EqT EnT SrtT StM
section
variable {K : PySem.W.Frag} {p l : Addr} {H H' : Hp} {cells : List Int} {m : Nat}
/-- no flag -/
def BadFl (K : PySem.W.Frag) (p : Addr) (lo hi : Int) (H : Hp) (x : V) : Prop := x ≠ .ref p ∧ SgV K H x lo hi false
theorem badFl_up {lo hi : Int} : UpR (BadFl K p lo hi) := fun H H' x e h => ⟨h.1, h.2.mono e⟩
theorem badFl_still {lo hi : Int} {x : V} (k : Still p H H') (h : BadFl K p lo hi H x) : BadFl K p lo hi H' x := ⟨h.1, h.2.imp id fun ⟨T, h1, h2⟩ => ⟨T, tyx_still k h.1 h1, h2⟩⟩
theorem fl_str {z : Str} {lo hi : Int} (hz : z.length ≤ 1000) (b : sgB z lo hi = false) : BadFl K p lo hi H (.str z) := ⟨(fun z => by cases z), by
  have := sgv_str (K := K) (H := H) (lo := lo) (hi := hi) hz
  rwa [b] at this⟩
theorem fl_ty {x : V} {T : String} {lo hi : Int} (n : x ≠ .ref p) (h : TyX K H x (.type T)) (hk : kitB T "str" = some false) : BadFl K p lo hi H x := ⟨n, sgv_not h hk⟩
/-- two things that are no pair -/
def BadEl (u v : V) : Prop := ∀ (K : PySem.W.Frag) (H : Hp), ∃ b1 b2, SgV K H u 1 8 b1 ∧ SgV K H v 1 1 b2 ∧ (b1 && b2) = false
theorem el_strs {a b : Str} (ha : a.length ≤ 1000) (hb : b.length ≤ 1000) (h : (sgB a 1 8 && sgB b 1 1) = false) : BadEl (.str a) (.str b) := fun K H => ⟨_, _, sgv_str ha, sgv_str hb, h⟩
theorem el_int {a : Str} {i : Int} (ha : a.length ≤ 1000) : BadEl (.str a) (.int i) := fun K H => ⟨_, false, sgv_str ha, sgv_not (.base (.int i)) (by decide +kernel), by rw [Bool.and_false]⟩
/-- no pair -/
def BadPr (K : PySem.W.Frag) (p : Addr) (H : Hp) (x : V) : Prop := x ≠ .ref p ∧ ((∃ T : String, TyX K H x (.type T) ∧ kitB T "tuple" = some false) ∨ ∃ a xs, x = .ref a ∧ H a = some (.tup xs) ∧ (xs.length ≠ 2 ∨ ∃ u v, xs = [u, v] ∧ BadEl u v))
theorem badPr_up : UpR (BadPr K p) := fun H H' x e h => ⟨h.1, h.2.imp (fun ⟨T, h1, h2⟩ => ⟨T, tyx_mono e h1, h2⟩) fun ⟨a, xs, h1, h2, h3⟩ => ⟨a, xs, h1, e _ _ h2, h3⟩⟩
theorem badPr_still {x : V} (k : Still p H H') (h : BadPr K p H x) : BadPr K p H' x := ⟨h.1, h.2.imp (fun ⟨T, h1, h2⟩ => ⟨T, tyx_still k h.1 h1, h2⟩) fun ⟨a, xs, h1, h2, h3⟩ => ⟨a, xs, h1, k _ _ h2 (fun z => h.1 (by rw [h1, z])) (fun _ z => by cases z), h3⟩⟩
theorem badPr_v {x : V} (h : BadPr K p H x) : PairV K H x false := by
  obtain ⟨_, ⟨T, h1, h2⟩ | ⟨a, xs, rfl, h2, h3⟩⟩ := h
  · exact .inl ⟨T, h1, h2, rfl⟩
  · rcases h3 with h3 | ⟨u, v, rfl, h3⟩
    · exact .inr (.inl ⟨a, xs, rfl, st_of h2, h3, rfl⟩)
    · obtain ⟨b1, b2, g1, g2, g3⟩ := h3 K H
      exact .inr (.inr ⟨a, u, v, b1, b2, rfl, st_of h2, g1, g2, g3.symm⟩)
theorem pr_tup {a : Addr} {xs : List V} (n : V.ref a ≠ .ref p) (h : H a = some (.tup xs)) (b : xs.length ≠ 2 ∨ ∃ u v, xs = [u, v] ∧ BadEl u v) : BadPr K p H (.ref a) := ⟨n, .inr ⟨a, xs, rfl, h, b⟩⟩
theorem pr_ty {x : V} {T : String} (n : x ≠ .ref p) (h : TyX K H x (.type T)) (hk : kitB T "tuple" = some false) : BadPr K p H x := ⟨n, .inl ⟨T, h, hk⟩⟩
end
section
variable {K : PySem.W.Frag} {C p l cR cT cM : Addr} {T : List (Addr × Str)} {σ : L2.St} {H H1 H2 Hx : Hp} {cells : List Int} {m : Nat} {Q : VK} {i : Nat} {u0 : HO}
theorem out_rule {v : V} (k2 : Keep p H2 Hx) (hp : Hx p = some u0) (kk : ∀ H3 r, Keep p H1 H3 → H3 p = some u0 → H3 r = some (.tup [.str "rule", v]) → Q (.ref r) H3) : BadR cR v Hx (fun cls d H' => Keep p H2 H' ∧ HdE p cR cT cM H1 Q cls d H') := fun dd H' hdd e h =>
  ⟨k2.trans (Keep.of_ex e), dd, _, u0, rfl, e _ _ hp, .inl ⟨rfl, v, h, rfl⟩, kk⟩
theorem out_many (k2 : Keep p H2 Hx) (hp : Hx p = some u0) (kk : ∀ H3 r, Keep p H1 H3 → H3 p = some u0 → H3 r = some (.tup [.str "watches", .int 4]) → Q (.ref r) H3) : ManyW cM Hx (fun cls d H' => Keep p H2 H' ∧ HdE p cR cT cM H1 Q cls d H') := fun dd H' hdd e h =>
  ⟨k2.trans (Keep.of_ex e), dd, _, u0, rfl, e _ _ hp, .inr (.inr ⟨rfl, _, _, h, rfl⟩), kk⟩
/-- heard: a rule that can't be made -/
theorem lam_mk {ta : TA} {Er : Hp → XK → Prop} {vs : List V} (tells : ∀ {H1 H2 Hx : Hp} {u0 : HO} {Q : VK}, Keep p H2 Hx → Hx p = some u0 → (∀ H3 r, Keep p H1 H3 → H3 p = some u0 → H3 r = some (.tup vs) → Q (.ref r) H3) → Er Hx (fun cls d H' => Keep p H2 H' ∧ HdE p cR cT cM H1 Q cls d H'))
    (h : ∀ H2, Still p H H2 → PenAt H2 p l cells m → ∀ Q2 : List V → Hp → Prop, (∀ x xs Hx, Ex H2 Hx → xs.length ≤ 900 → (∀ E ok, Er Hx E → Made K cR cM x xs Hx E ok) → Q2 (x :: xs) Hx) → ta σ H2 Q2) (hT : Tabs T H) (hP : PenAt H p l cells m)
    (kE : ∀ r H3, Still p H H3 → PenAt H3 p l cells m → Tabs T H3 → H3 r = some (.tup vs) → Q (.ref r) H3) : tLam T (THd p cR cT cM) (fun E => tMakeR C (spInitA K C cR cM) E ta) σ H Q := ⟨hT, fun H1 x1 T1 => by
  have hP1 := pen_ext hP x1
  obtain ⟨ys, q⟩ := pen_lst hP1
  refine ⟨pen_there hP1, fun H2 e2 => h H2 ((still_ext x1).trans (still_ex e2)) (hP1.mono e2 (Nat.le_refl m)) _ fun x xs Hx ex hl made o dx ho hd hn => ?_⟩
  exact init_told (C := C) (Q := fun v H2 => [v].length ≤ sizeLine ∧ ∀ l : Addr, H2 l = none → Q (.ref l) (upd H2 l (.lst [v]))) ho hd hn hl (made _ _ (tells (Keep.of_ex ex) (ex _ _ (e2 _ _ q)) fun H3 r k3 hp3 h3 => kE r H3 ((still_ext x1).trans (still_keep k3)) (pen_still hP1 (still_keep k3) (hp3.trans q.symm)) (tabs_keep T1 hP1 k3) h3))⟩
/-! the list of what is heard -/
def Hds (H : Hp) (L : Addr) (vss : List (List V)) : Prop := ∃ rs : List Addr, H L = some (.lst (rs.map V.ref)) ∧ rs.length = vss.length ∧ ∀ (i : Nat) r vs, rs[i]? = some r → vss[i]? = some vs → H r = some (.tup vs)
structure HSt (p l : Addr) (cells : List Int) (T : List (Addr × Str)) (H0 H : Hp) (L : Addr) (m : Nat) (vss : List (List V)) : Prop where
  pen : PenAt H p l cells m
  tabs : Tabs T H
  st : Still p H0 H
  hd : Hds H L vss
  new : ∀ o, H0 L = some o → ∃ ps, o = .tbl ps
  lp : L ≠ p
  some_ : vss ≠ []
theorem tabs_upd {g : Addr} {xs : List V} {o : HO} (h : Tabs T H) (hg : H g = some (.lst xs)) : Tabs T (upd H g o) := fun q hq => by
  obtain ⟨ps, h1, h2, h3⟩ := h q hq
  refine ⟨ps, by rw [upd_ne (fun z => by rw [z, hg] at h1; cases h1)]; exact h1, h2, fun pos cv hc => ?_⟩
  obtain ⟨c, e1, e2⟩ := h3 pos cv hc
  exact ⟨c, e1, by rw [upd_ne (fun z => by rw [z, hg] at e2; unfold CodeO at e2; cases e2)]; exact e2⟩
theorem q_hear {H0 : Hp} {L : Addr} {vss : List (List V)} {vs : List V} {t : XK → TE} {tz : TS} {D : Ends} {j n : Nat} (S : HSt p l cells T H0 H L m vss) (few : vss.length ≤ 100) (hi : σ[j]? = some (some (.ref L)))
    (lam : ∀ Q : VK, (∀ r H2, Still p H H2 → PenAt H2 p l cells n → Tabs T H2 → H2 r = some (.tup vs) → Q (.ref r) H2) → tLam T (THd p cR cT cM) t σ H Q) (k : ∀ H3, HSt p l cells T H0 H3 L n (vss ++ [vs]) → (∀ b o, H b = some o → b ≠ p → b ≠ L → (∀ ps, o ≠ .tbl ps) → H3 b = some o) → tz D σ H3) :
    tSeq (tDrop (tBM K "list" rAppend (tVar j) (tCons (tLam T (THd p cR cT cM) t) tNil))) tz D σ H := by
  obtain ⟨rs, hL, len, all⟩ := S.hd
  refine ⟨_, hi, .inl ⟨rfl, _, sq_of hL⟩, lam _ fun r H2 s2 hP2 t2 h2 => ?_⟩
  have hL2 := still_lst s2 hL S.lp
  have rL : r ≠ L := fun z => by rw [z, hL2] at h2; cases h2
  refine ⟨L, rs.map V.ref, .ref r, rfl, rfl, hL2, by rw [List.length_map]; exact sz_lt (by omega), k _ ⟨?_, tabs_upd t2 hL2, ?_, ⟨rs ++ [r], by rw [upd_same, List.map_append]; rfl, by rw [List.length_append, List.length_append, len]; rfl, fun i r' vs' h3 h4 => ?_⟩, S.new, S.lp, by simp⟩ fun b o hb n1 nL n2 => by rw [upd_ne nL]; exact s2 b o hb n1 n2⟩
  · refine hP2.upd' S.lp fun z => ?_
    obtain ⟨_, _, _, h3, _⟩ := hP2
    rw [z, h3] at hL2
    have e := HO.lst.inj (Option.some.inj hL2)
    cases rs with
    | nil =>
      have := S.some_
      cases vss with
      | nil => exact this rfl
      | cons a b => simp at len
    | cons a b =>
      cases cells with
      | nil => cases e
      | cons x xs => cases e
  · intro b o hb n1 n2
    rw [upd_ne (fun z => by
      obtain ⟨ps, e⟩ := S.new o (z ▸ hb)
      exact n2 ps e)]
    exact (S.st.trans s2) b o hb n1 n2
  · rcases Nat.lt_or_ge i rs.length with z | z
    · rw [List.getElem?_append_left z] at h3
      rw [List.getElem?_append_left (by omega)] at h4
      have h5 := all i r' vs' h3 h4
      have ne : r' ≠ L := fun e => by rw [e, hL] at h5; cases h5
      rw [upd_ne ne]
      exact still_tup S.pen s2 h5
    · rw [List.getElem?_append_right z] at h3
      rw [List.getElem?_append_right (by omega), ← len] at h4
      have e0 : i - rs.length = 0 := by
        have := (List.getElem?_eq_some_iff.mp h3).1
        simp at this
        omega
      rw [e0] at h3 h4
      cases h3
      cases h4
      rw [upd_ne rL]
      exact h2
theorem hst_first {H0 : Hp} {L r : Addr} {vs : List V} (s : Still p H0 H) (hP : PenAt H p l cells m) (t : Tabs T H) (h : H r = some (.tup vs)) (hL : H L = none) : HSt p l cells T H0 (upd H L (.lst [.ref r])) L m [vs] := by
  have e := Ex.new (o := .lst [.ref r]) hL
  have lp : L ≠ p := fun z => pen_there hP (z ▸ hL)
  refine ⟨hP.mono e (Nat.le_refl m), t.ext e, s.trans (still_ex e), ⟨[r], upd_same, rfl, fun i r' vs' h3 h4 => ?_⟩, fun o ho => ?_, lp, by simp⟩
  · cases i with
    | zero =>
      cases h3
      cases h4
      exact e _ _ h
    | succ i => simp at h3
  · cases o with
    | tbl ps => exact ⟨ps, rfl⟩
    | _ =>
      have := s L _ ho lp (fun _ z => by cases z)
      rw [hL] at this
      cases this
theorem pen_of {Hx H3 : Hp} {n : Nat} (hPx : PenAt Hx p l cells n) (hP1 : PenAt H1 p l cells m) (k3 : Keep p H1 H3) (hp : ∀ u, Hx p = some u → H3 p = some u) : PenAt H3 p l cells n := by
  obtain ⟨c, r, h1, _, h3⟩ := hPx
  obtain ⟨_, _, g1, g2, _⟩ := hP1
  refine ⟨c, r, hp _ h1, k3 _ _ g2 fun z => ?_, h3⟩
  rw [z, g1] at g2
  have e := HO.lst.inj (Option.some.inj g2)
  cases cells with
  | nil => cases e
  | cons x xs => cases e
/-- heard: simple rules that can't be made -/
theorem lam_watch {x : V} {z : Str} (hi : σ[i]? = some (some x)) (hx : BadFl K p 1 7 H x) (hT : Tabs T H) (hP : PenAt H p l cells m)
    (kE : ∀ r H3, Still p H H3 → PenAt H3 p l cells m → Tabs T H3 → H3 r = some (.tup [.str "rule", .str "watch"]) → Q (.ref r) H3) : tLam T (THd p cR cT cM) (fun E => tSMeth C (spSim K C cR) E (tC (.ref C)) (tCons (tVar i) (tCons (tC (.str z)) tNil))) σ H Q := ⟨hT, fun H1 x1 T1 => by
  have hP1 := pen_ext hP x1
  obtain ⟨ys, q⟩ := pen_lst hP1
  refine ⟨pen_there hP1, fun H2 e2 => ⟨rfl, _, hi, x, .str z, rfl, .inl ⟨(badFl_still ((still_ext x1).trans (still_ex e2)) hx).2, ?_⟩⟩⟩
  exact out_rule (Keep.of_ex (Ex.refl H2)) (e2 _ _ q) fun H3 r k3 hp3 h3 => kE r H3 ((still_ext x1).trans (still_keep k3)) (pen_still hP1 (still_keep k3) (hp3.trans q.symm)) (tabs_keep T1 hP1 k3) h3⟩
theorem lam_put {ta : TA} {n : Nat} (hi : σ[0]? = some (some (.ref p))) (all : ∀ H2, PenAt H2 p l cells m → EvAll (BadFl K p 1 1) n ta σ H2) (n0 : 0 < n) (n1 : n ≤ 1000) (hm : m ≤ 50000) (h63 : cells.length ≤ 63) (hT : Tabs T H) (hP : PenAt H p l cells m)
    (kE : ∀ r H3, Still p H H3 → PenAt H3 p l cells (m + 1) → Tabs T H3 → H3 r = some (.tup [.str "rule", .str "put"]) → Q (.ref r) H3) :
    tLam T (THd p cR cT cM) (fun E => tSMeth C (spSim K C cR) E (tC (.ref C)) (tCons (tC (.str "01")) (tCons (tCall spPick [] E0 (tCons (tVar 0) (tCons (tLst ta) tNil))) tNil))) σ H Q := ⟨hT, fun H1 x1 T1 => by
  have hP1 := pen_ext hP x1
  refine ⟨pen_there hP1, fun H2 e2 => ⟨rfl, ?_⟩⟩
  have hP2 := hP1.mono e2 (Nat.le_refl m)
  refine ⟨_, hi, all H2 hP2 H2 (Ex.refl H2) _ fun xs H4 e4 len good => ⟨by rw [len]; exact sz_of (by omega), fun a ha => ?_⟩⟩
  have e5 := e4.trans (Ex.new (o := .lst xs) ha)
  refine ⟨p, l, a, cells, m, xs, rfl, hP2.mono e5 (Nat.le_refl m), hm, h63, upd_same, fun z => pen_there (hP2.mono e4 (Nat.le_refl m)) (z ▸ ha), by omega, by omega, fun t x H6 hx hP6 k6 => ?_⟩
  have bx := badFl_still (still_keep k6) (badFl_up _ _ _ (Ex.new (o := .lst xs) ha) (good x (List.mem_of_getElem? hx)))
  obtain ⟨ys, q6⟩ := pen_lst hP6
  refine ⟨.str "01", x, rfl, .inr ⟨"01", rfl, by decide +kernel, .inl ⟨bx.2, ?_⟩⟩⟩
  refine out_rule ((Keep.of_ex e5).trans k6) q6 fun H3 r k3 hp3 h3 => kE r H3 ((still_ext x1).trans (still_keep k3)) (pen_of hP6 hP1 k3 fun u hu => ?_) (tabs_keep T1 hP1 k3) h3
  rw [q6] at hu
  rw [← Option.some.inj hu]
  exact hp3⟩
theorem hds_still {L : Addr} {vss : List (List V)} (hP : PenAt H p l cells m) (k : Still p H H') (lp : L ≠ p) (h : Hds H L vss) : Hds H' L vss := by
  obtain ⟨rs, h1, h2, h3⟩ := h
  exact ⟨rs, still_lst k h1 lp, h2, fun i r vs a b => still_tup hP k (h3 i r vs a b)⟩
theorem hst_ex {H0 : Hp} {L : Addr} {vss : List (List V)} (S : HSt p l cells T H0 H L m vss) (e : Ex H H') : HSt p l cells T H0 H' L m vss :=
  ⟨S.pen.mono e (Nat.le_refl m), S.tabs.ext e, S.st.trans (still_ex e), hds_still S.pen (still_ex e) S.lp S.hd, S.new, S.lp, S.some_⟩
theorem hst_keep {H0 : Hp} {L : Addr} {vss : List (List V)} {n : Nat} (S : HSt p l cells T H0 H L m vss) (k : Keep p H H') (hP : PenAt H' p l cells n) : HSt p l cells T H0 H' L n vss :=
  ⟨hP, tabs_keep S.tabs S.pen k, S.st.trans (still_keep k), hds_still S.pen (still_keep k) S.lp S.hd, S.new, S.lp, S.some_⟩
/-- gives rows: new tuples -/
def EvRows (ta : TA) (σ : L2.St) (H : Hp) (vss : List (List V)) : Prop := ∀ H1, Ex H H1 → ∀ Q : List V → Hp → Prop, (∀ (rs : List Addr) H2, Ex H1 H2 → rs.length = vss.length → (∀ (i : Nat) r vs, rs[i]? = some r → vss[i]? = some vs → H2 r = some (.tup vs)) → Q (rs.map V.ref) H2) → ta σ H1 Q
theorem rows_nil : EvRows tNil σ H [] := fun H1 _ Q q => q [] H1 (Ex.refl H1) rfl fun i r vs h => by simp at h
theorem rows_cons {te : TE} {ta : TA} {vs : List V} {vss : List (List V)} (h : EvU te σ H vs) (hr : EvRows ta σ H vss) : EvRows (tCons te ta) σ H (vs :: vss) := fun H1 e Q q =>
  h H1 e _ fun a H2 _ e2 h2 => hr H2 (e.trans e2) _ fun rs H3 e3 len all => q (a :: rs) H3 (e2.trans e3) (by rw [List.length_cons, List.length_cons, len]) fun i r us h3 h4 => by
    cases i with
    | zero =>
      cases h3
      cases h4
      exact e3 _ _ h2
    | succ i => exact all i r us h3 h4
theorem hds_of {L : Addr} {rs : List Addr} {vss : List (List V)} (hL : H L = none) (len : rs.length = vss.length) (all : ∀ (i : Nat) r vs, rs[i]? = some r → vss[i]? = some vs → H r = some (.tup vs)) : Hds (upd H L (.lst (rs.map V.ref))) L vss :=
  ⟨rs, upd_same, len, fun i r vs a b => (Ex.new hL) _ _ (all i r vs a b)⟩
/-! heard rows as data -/
def vd : V → PyData
  | .str z => .str z
  | .int i => .int i
  | _ => .none
def Scal (vs : List V) : Prop := ∀ v ∈ vs, (∃ z, v = V.str z) ∨ ∃ i, v = V.int i
theorem dp_scal : ∀ {vs : List V}, Scal vs → DpAll K H vs (vs.map vd)
  | [], _ => .nil
  | v :: vs, h => by
    have hr : DpAll K H vs (vs.map vd) := dp_scal fun x hx => h x (List.mem_cons_of_mem _ hx)
    rcases h v List.mem_cons_self with ⟨z, rfl⟩ | ⟨i, rfl⟩
    · exact .cons (.str z) hr
    · exact .cons (.int i) hr
theorem dp_rows : ∀ {rs : List Addr} {vss : List (List V)}, rs.length = vss.length → (∀ (i : Nat) r vs, rs[i]? = some r → vss[i]? = some vs → H r = some (.tup vs)) → (∀ vs ∈ vss, Scal vs) → DpAll K H (rs.map V.ref) (vss.map fun vs => .tuple (vs.map vd))
  | [], [], _, _, _ => .nil
  | [], _ :: _, h, _, _ => by simp at h
  | _ :: _, [], h, _, _ => by simp at h
  | r :: rs, vs :: vss, h, all, sc => .cons (.tup (st_of (all 0 r vs rfl rfl)) (dp_scal (sc vs List.mem_cons_self))) (dp_rows (by simpa using h) (fun i r' vs' a b => all (i + 1) r' vs' a b) fun x hx => sc x (List.mem_cons_of_mem _ hx))
theorem ed_hds {L : Addr} {vss : List (List V)} (hi : σ[i]? = some (some (.ref L))) (h : Hds H L vss) (sc : ∀ vs ∈ vss, Scal vs) : EvD K (tVar i) σ H (.list (vss.map fun vs => .tuple (vs.map vd))) := by
  obtain ⟨rs, h1, h2, h3⟩ := h
  exact ed_of (ev_var hi) fun H5 e => .lst (sq_of (e _ _ h1)) (dp_rows h2 (fun i r vs a b => e _ _ (h3 i r vs a b)) sc)
theorem ed_hdsCat {L : Addr} {vss uss : List (List V)} {ta : TA} (hi : σ[i]? = some (some (.ref L))) (h : Hds H L vss) (ht : EvRows ta σ H uss) (few : vss.length + uss.length ≤ 100) (sc : ∀ vs ∈ vss ++ uss, Scal vs) :
    EvD K (tOp rCat (tVar i) (tLst ta)) σ H (.list ((vss ++ uss).map fun vs => .tuple (vs.map vd))) := fun H5 e Q q => by
  obtain ⟨rs, h1, h2, h3⟩ := h
  refine ⟨_, hi, ht H5 e _ fun us H6 e6 len all => ⟨by rw [List.length_map, len]; exact sz_of (by omega), fun b hb => ?_⟩⟩
  have e7 := Ex.new (o := .lst (us.map V.ref)) hb
  refine ⟨L, b, rs.map V.ref, us.map V.ref, rfl, rfl, (e.trans (e6.trans e7)) _ _ h1, upd_same, by rw [List.length_map, List.length_map, h2, len]; exact sz_of (by omega), fun a ha => ?_⟩
  have e8 := Ex.new (o := .lst (rs.map V.ref ++ us.map V.ref)) ha
  refine q _ _ ((e6.trans e7).trans e8) (.lst (sq_of upd_same) ?_)
  suffices fin : DpAll K (upd (upd H6 b (.lst (us.map V.ref))) a (.lst (rs.map V.ref ++ us.map V.ref))) ((rs ++ us).map V.ref) ((vss ++ uss).map fun vs => .tuple (vs.map vd)) by
    rw [List.map_append (f := V.ref)] at fin
    exact fin
  refine dp_rows (by rw [List.length_append, List.length_append, h2, len]) (fun t r vs a b => ?_) sc
  rcases Nat.lt_or_ge t rs.length with z | z
  · rw [List.getElem?_append_left z] at a
    rw [List.getElem?_append_left (by omega)] at b
    exact (e.trans ((e6.trans e7).trans e8)) _ _ (h3 t r vs a b)
  · rw [List.getElem?_append_right z] at a
    rw [List.getElem?_append_right (by omega), ← h2] at b
    exact (e7.trans e8) _ _ (all _ r vs a b)
theorem hds_past {L D : Addr} {vss : List (List V)} {xs : List V} (hP : PenAt H p l cells m) (hL : H L = some (.lst xs)) (k : ∀ b o, H b = some o → b ≠ p → b ≠ L → (∀ ps, o ≠ .tbl ps) → H' b = some o) (dp : D ≠ p) (dL : D ≠ L) (h : Hds H D vss) : Hds H' D vss := by
  obtain ⟨rs, h1, h2, h3⟩ := h
  obtain ⟨_, _, hp, _⟩ := hP
  refine ⟨rs, k _ _ h1 dp dL (fun _ z => by cases z), h2, fun i r vs a b => ?_⟩
  have h4 := h3 i r vs a b
  exact k _ _ h4 (fun z => by rw [z, hp] at h4; cases h4) (fun z => by rw [z, hL] at h4; cases h4) fun _ z => by cases z
end
end K08
namespace K08
open PySem L2 Evl Gr ClX OwX OpX StX LamX LamY EXC ClK RdX StS EqT EnT SrtT StM
abbrev sRR : Stmt := top 39
abbrev nRR : List Str := ["_law_pen_here", "_law_odd", "_law_bad", "_law_heard_here", "_law_due_here", "_law_watch"]
abbrev qRR : Str := ("_law_refused_right" : Str) ++ ".<locals>." ++ "<lambda>"
theorem scRR : FnScope nRR ["_law_pen_here"] (defScope sRR) := ⟨rfl, rfl, rfl, by decide +kernel, rfl, by decide +kernel, by decide +kernel⟩
section
variable {P : Program} {w : World} {K : PySem.W.Frag} {mg : Str → Option Value} {base : Heap}
def spRR (T : List (Addr × Str)) : Sp := fun vs H Q _ => ∃ (p l : Addr) (cells : List Int) (m : Nat), vs = [.ref p] ∧ PenAt H p l cells m ∧ m + 10 ≤ 50000 ∧ cells.length ≤ 63 ∧ Tabs T H ∧
  ∀ H', PenAt H' p l cells (m + 10) → Still p H H' → Tabs T H' → Q (.bl true) H'
theorem ok_RR {f fH fI fS pS B cR cT cM C c Pc : Addr} {mc : Value} {fd fdH fdS : FuncData} {T : List (Addr × Str)} (F : FunC K "_law_refused_right" "_law_refused_right" sRR f fd c) (TB : TabB base mg c Pc) (hT : (Pc, qRR) ∈ T) (hu : ∀ p ∈ T, p.1 = Pc → p.2 = qRR)
    (N : FName K mg C mc) (HK : HdK K mg B cR cT cM) (FH : Fun K "_law_heard" "_law_heard" sHd fH fdH) (bH : Binds K fdH ["_law_ask"] []) (gH : mg "_law_heard" = some (.ref fH)) (M : Mk K C fI) (FI : FnR P w K mg base (L2.CX P w) 4 fI (spInitA K C cR cM))
    (hSim : SMet K C mc "simple" pS fS) (FS : FnOk P w K mg base (L2.CX P w) 6 fS fdS ["watch", "put"] (spSim K C cR)) (bS : Binds K fdS ["watch", "put"] []) (GP : Gfn P w K mg base 2 "_law_pick" ["_law_pen_here", "_law_some"] spPick) : FnOk P w K mg base CX0 10 f fd ["_law_pen_here"] (spRR T) := by
  obtain ⟨fP, fdP, GP, kP, bP, gP⟩ := GP
  refine F.ok scRR (fun vs H Q E h => ?_) (fun A outer s H vs Q E hr h => ?_)
  · obtain ⟨p, l, cells, m, rfl, _⟩ := h
    rfl
  · obtain ⟨p, l, cells, m, rfl, hP, hm, h63, tabs, k⟩ := h
    have r2 := hr.mono (show 2 ≤ 9 by decide)
    refine ⟨_, (pss_cons (ps_set (i := 1) scRR.nd rfl (.inr rfl) (pe_call GP r2 (by rfl) gP kP bP .nil pass0 (pa_cons (pv 0) (pa_cons (pe_lst (pa_cons pe_non (pa_cons pe_int (pa_cons pe_str (pa_cons pe_str (pa_cons pe_str (pa_cons pe_str (pa_cons (pe_lst (pa_cons pe_str (pa_cons pe_str pa_nil))) (pa_cons pe_int (pa_cons pe_str pa_nil)))))))))) pa_nil))))
      (pss_cons (ps_set (i := 2) scRR.nd rfl (.inr rfl) (pe_call GP r2 (by rfl) gP kP bP .nil pass0 (pa_cons (pv 0) (pa_cons (pe_lst (pa_cons pe_non (pa_cons pe_str (pa_cons (pe_tup (pa_cons pe_str pa_nil)) (pa_cons (pe_tup (pa_cons pe_str (pa_cons pe_int pa_nil))) (pa_cons (pe_tup (pa_cons pe_str (pa_cons pe_str pa_nil))) (pa_cons (pe_tup (pa_cons pe_str (pa_cons pe_str pa_nil))) (pa_cons (pe_lst (pa_cons pe_str (pa_cons pe_str pa_nil))) (pa_cons (pe_tup (pa_cons pe_str (pa_cons pe_str pa_nil))) (pa_cons (pe_tup (pa_cons pe_str (pa_cons pe_str pa_nil))) (pa_cons (pe_tup (pa_cons pe_str (pa_cons pe_str (pa_cons pe_str pa_nil)))) pa_nil))))))))))) pa_nil))))
      (pss_cons (ps_set (i := 3) scRR.nd rfl (.inl rfl) (pe_lst (pa_cons (pe_heard (X := (cxOf CX0 P w K mg base nRR "_law_refused_right" (defScope sRR) f (.ref c) A outer s H E).nox) (T := T) (p0 := p) (t := fun E2 => (tMakeR C (spInitA K C cR cM) E2 (tCons (tVar 1) (tCons (tVar 2) tNil)))) (by rfl) gH FH bH HK TB rfl hT hu hr (lamS_by (sc := defScope sRR) (by decide +kernel)) rfl (fun _ _ _ _ _ => rfl) (fun A2 outer2 s2 H2 E2 f2 c2 hr2 => pe_makeR (E := E2) M FI (hr2.mono (show 5 ≤ 7 by decide)) (by rfl) N.g (passes_call (takes_of rfl rfl rfl rfl) fun _ _ _ _ z => z) (pa_cons (pv 1) (pa_cons (pv 2) pa_nil)))) pa_nil)))
      (pss_cons (ps_expr (pe_bm PySem.F.plainAttrs_list PySem.F.slot_list_append PySem.F.type_list_append mt_append (pv 3) (pa_cons (pe_heard (X := (cxOf CX0 P w K mg base nRR "_law_refused_right" (defScope sRR) f (.ref c) A outer s H E).nox) (T := T) (p0 := p) (t := fun E2 => (tMakeR C (spInitA K C cR cM) E2 (tCons (tC (.str "011")) (tCons (tTup (tCons (tC (.str "01")) (tCons (tC (.str "0")) tNil))) (tCons (tVar 2) (tCons (tVar 2) tNil)))))) (by rfl) gH FH bH HK TB rfl hT hu hr (lamS_by (sc := defScope sRR) (by decide +kernel)) rfl (fun _ _ _ _ _ => rfl) (fun A2 outer2 s2 H2 E2 f2 c2 hr2 => pe_makeR (E := E2) M FI (hr2.mono (show 5 ≤ 7 by decide)) (by rfl) N.g (passes_call (takes_of rfl rfl rfl rfl) fun _ _ _ _ z => z) (pa_cons pe_str (pa_cons (pe_tup (pa_cons pe_str (pa_cons pe_str pa_nil))) (pa_cons (pv 2) (pa_cons (pv 2) pa_nil)))))) pa_nil)))
      (pss_cons (ps_expr (pe_bm PySem.F.plainAttrs_list PySem.F.slot_list_append PySem.F.type_list_append mt_append (pv 3) (pa_cons (pe_heard (X := (cxOf CX0 P w K mg base nRR "_law_refused_right" (defScope sRR) f (.ref c) A outer s H E).nox) (T := T) (p0 := p) (t := fun E2 => (tMakeR C (spInitA K C cR cM) E2 (tCons (tC (.str "011")) (tCons (tTup (tCons (tC (.str "01")) (tCons (tC (.str "0")) tNil))) (tCons (tTup (tCons (tC (.str "01")) (tCons (tC (.str "1")) tNil))) (tCons (tVar 2) tNil)))))) (by rfl) gH FH bH HK TB rfl hT hu hr (lamS_by (sc := defScope sRR) (by decide +kernel)) rfl (fun _ _ _ _ _ => rfl) (fun A2 outer2 s2 H2 E2 f2 c2 hr2 => pe_makeR (E := E2) M FI (hr2.mono (show 5 ≤ 7 by decide)) (by rfl) N.g (passes_call (takes_of rfl rfl rfl rfl) fun _ _ _ _ z => z) (pa_cons pe_str (pa_cons (pe_tup (pa_cons pe_str (pa_cons pe_str pa_nil))) (pa_cons (pe_tup (pa_cons pe_str (pa_cons pe_str pa_nil))) (pa_cons (pv 2) pa_nil)))))) pa_nil)))
      (pss_cons (ps_expr (pe_bm PySem.F.plainAttrs_list PySem.F.slot_list_append PySem.F.type_list_append mt_append (pv 3) (pa_cons (pe_heard (X := (cxOf CX0 P w K mg base nRR "_law_refused_right" (defScope sRR) f (.ref c) A outer s H E).nox) (T := T) (p0 := p) (t := fun E2 => (tMakeR C (spInitA K C cR cM) E2 (tCons (tC (.str "011")) (tCons (tTup (tCons (tC (.str "01")) (tCons (tC (.str "0")) tNil))) (tCons (tTup (tCons (tC (.str "1")) (tCons (tC (.str "0")) tNil))) (tCons (tTup (tCons (tC (.str "01")) (tCons (tC (.str "1")) tNil))) tNil)))))) (by rfl) gH FH bH HK TB rfl hT hu hr (lamS_by (sc := defScope sRR) (by decide +kernel)) rfl (fun _ _ _ _ _ => rfl) (fun A2 outer2 s2 H2 E2 f2 c2 hr2 => pe_makeR (E := E2) M FI (hr2.mono (show 5 ≤ 7 by decide)) (by rfl) N.g (passes_call (takes_of rfl rfl rfl rfl) fun _ _ _ _ z => z) (pa_cons pe_str (pa_cons (pe_tup (pa_cons pe_str (pa_cons pe_str pa_nil))) (pa_cons (pe_tup (pa_cons pe_str (pa_cons pe_str pa_nil))) (pa_cons (pe_tup (pa_cons pe_str (pa_cons pe_str pa_nil))) pa_nil)))))) pa_nil)))
      (pss_cons (ps_expr (pe_bm PySem.F.plainAttrs_list PySem.F.slot_list_append PySem.F.type_list_append mt_append (pv 3) (pa_cons (pe_heard (X := (cxOf CX0 P w K mg base nRR "_law_refused_right" (defScope sRR) f (.ref c) A outer s H E).nox) (T := T) (p0 := p) (t := fun E2 => (tMakeR C (spInitA K C cR cM) E2 (tCons (tC (.str "011")) (tCons (tTup (tCons (tC (.str "0")) (tCons (tC (.str "0")) tNil))) (tCons (tTup (tCons (tC (.str "1")) (tCons (tC (.str "0")) tNil))) (tCons (tTup (tCons (tC (.str "00")) (tCons (tC (.str "0")) tNil))) (tCons (tTup (tCons (tC (.str "01")) (tCons (tC (.str "1")) tNil))) (tCons (tTup (tCons (tC (.str "10")) (tCons (tC (.str "1")) tNil))) tNil)))))))) (by rfl) gH FH bH HK TB rfl hT hu hr (lamS_by (sc := defScope sRR) (by decide +kernel)) rfl (fun _ _ _ _ _ => rfl) (fun A2 outer2 s2 H2 E2 f2 c2 hr2 => pe_makeR (E := E2) M FI (hr2.mono (show 5 ≤ 7 by decide)) (by rfl) N.g (passes_call (takes_of rfl rfl rfl rfl) fun _ _ _ _ z => z) (pa_cons pe_str (pa_cons (pe_tup (pa_cons pe_str (pa_cons pe_str pa_nil))) (pa_cons (pe_tup (pa_cons pe_str (pa_cons pe_str pa_nil))) (pa_cons (pe_tup (pa_cons pe_str (pa_cons pe_str pa_nil))) (pa_cons (pe_tup (pa_cons pe_str (pa_cons pe_str pa_nil))) (pa_cons (pe_tup (pa_cons pe_str (pa_cons pe_str pa_nil))) pa_nil)))))))) pa_nil)))
      (pss_cons (ps_expr (pe_bm PySem.F.plainAttrs_list PySem.F.slot_list_append PySem.F.type_list_append mt_append (pv 3) (pa_cons (pe_heard (X := (cxOf CX0 P w K mg base nRR "_law_refused_right" (defScope sRR) f (.ref c) A outer s H E).nox) (T := T) (p0 := p) (t := fun E2 => (tMakeR C (spInitA K C cR cM) E2 (tCons (tC (.str "011")) (tCons (tTup (tCons (tC (.str "0")) (tCons (tC (.str "0")) tNil))) (tCons (tTup (tCons (tC (.str "1")) (tCons (tC (.str "0")) tNil))) (tCons (tTup (tCons (tC (.str "00")) (tCons (tC (.str "0")) tNil))) (tCons (tTup (tCons (tC (.str "01")) (tCons (tC (.str "1")) tNil))) (tCons (tTup (tCons (tC (.str "0")) (tCons (tC (.str "1")) tNil))) tNil)))))))) (by rfl) gH FH bH HK TB rfl hT hu hr (lamS_by (sc := defScope sRR) (by decide +kernel)) rfl (fun _ _ _ _ _ => rfl) (fun A2 outer2 s2 H2 E2 f2 c2 hr2 => pe_makeR (E := E2) M FI (hr2.mono (show 5 ≤ 7 by decide)) (by rfl) N.g (passes_call (takes_of rfl rfl rfl rfl) fun _ _ _ _ z => z) (pa_cons pe_str (pa_cons (pe_tup (pa_cons pe_str (pa_cons pe_str pa_nil))) (pa_cons (pe_tup (pa_cons pe_str (pa_cons pe_str pa_nil))) (pa_cons (pe_tup (pa_cons pe_str (pa_cons pe_str pa_nil))) (pa_cons (pe_tup (pa_cons pe_str (pa_cons pe_str pa_nil))) (pa_cons (pe_tup (pa_cons pe_str (pa_cons pe_str pa_nil))) pa_nil)))))))) pa_nil)))
      (pss_cons (ps_set (i := 4) scRR.nd rfl (.inl rfl) (pe_lst (pa_cons (pe_tup (pa_cons pe_str (pa_cons pe_str pa_nil))) (pa_cons (pe_tup (pa_cons pe_str (pa_cons pe_int pa_nil))) (pa_cons (pe_tup (pa_cons pe_str (pa_cons pe_int pa_nil))) (pa_cons (pe_tup (pa_cons pe_str (pa_cons pe_str pa_nil))) (pa_cons (pe_tup (pa_cons pe_str (pa_cons pe_int pa_nil))) (pa_cons (pe_tup (pa_cons pe_str (pa_cons pe_str pa_nil))) pa_nil))))))))
      (pss_cons (ps_set (i := 5) scRR.nd rfl (.inr rfl) (pe_call GP r2 (by rfl) gP kP bP .nil pass0 (pa_cons (pv 0) (pa_cons (pe_lst (pa_cons pe_non (pa_cons pe_str (pa_cons pe_str (pa_cons pe_str (pa_cons pe_int (pa_cons (pe_tup (pa_cons pe_str pa_nil)) pa_nil))))))) pa_nil))))
      (pss_cons (ps_expr (pe_bm PySem.F.plainAttrs_list PySem.F.slot_list_append PySem.F.type_list_append mt_append (pv 3) (pa_cons (pe_heard (X := (cxOf CX0 P w K mg base nRR "_law_refused_right" (defScope sRR) f (.ref c) A outer s H E).nox) (T := T) (p0 := p) (t := fun E2 => (tSMeth C (spSim K C cR) E2 (tC (.ref C)) (tCons (tVar 5) (tCons (tC (.str "2")) tNil)))) (by rfl) gH FH bH HK TB rfl hT hu hr (lamS_by (sc := defScope sRR) (by decide +kernel)) rfl (fun _ _ _ _ _ => rfl) (fun A2 outer2 s2 H2 E2 f2 c2 hr2 => pe_smeth (E := E2) (pe_glob (v := .ref C) (by rfl) N.g rfl) N.rd hSim (fnR0 FS bS) (hr2.mono (show 6 ≤ 7 by decide)) (passes_call (takes_of rfl rfl rfl rfl) fun _ _ _ _ z => z) (pa_cons (pv 5) (pa_cons pe_str pa_nil)))) pa_nil)))
      (pss_cons (ps_expr (pe_bm PySem.F.plainAttrs_list PySem.F.slot_list_append PySem.F.type_list_append mt_append (pv 3) (pa_cons (pe_heard (X := (cxOf CX0 P w K mg base nRR "_law_refused_right" (defScope sRR) f (.ref c) A outer s H E).nox) (T := T) (p0 := p) (t := fun E2 => (tSMeth C (spSim K C cR) E2 (tC (.ref C)) (tCons (tC (.str "01")) (tCons (tCall spPick [] E0 (tCons (tVar 0) (tCons (tLst (tCons (tC .non) (tCons (tC (.str "")) (tCons (tC (.str "2")) (tCons (tC (.str "00")) (tCons (tC (.int 0)) (tCons (tC (.bl true)) tNil))))))) tNil))) tNil)))) (by rfl) gH FH bH HK TB rfl hT hu hr (lamS_by (sc := defScope sRR) (by decide +kernel)) rfl (fun _ _ _ _ _ => rfl) (fun A2 outer2 s2 H2 E2 f2 c2 hr2 => pe_smeth (E := E2) (pe_glob (v := .ref C) (by rfl) N.g rfl) N.rd hSim (fnR0 FS bS) (hr2.mono (show 6 ≤ 7 by decide)) (passes_call (takes_of rfl rfl rfl rfl) fun _ _ _ _ z => z) (pa_cons pe_str (pa_cons (pe_call GP (hr2.mono (show 2 ≤ 7 by decide)) (by rfl) gP kP bP .nil pass0 (pa_cons (pv 0) (pa_cons (pe_lst (pa_cons pe_non (pa_cons pe_str (pa_cons pe_str (pa_cons pe_str (pa_cons pe_int (pa_cons pe_bl pa_nil))))))) pa_nil))) pa_nil)))) pa_nil)))
      (pss_one (ps_ret (pe_cmpR (op_eqD hr.units) (pv 3) (pe_op op_cat (pv 4) (pe_lst (pa_cons (pe_tup (pa_cons pe_str (pa_cons pe_str pa_nil))) (pa_cons (pe_tup (pa_cons pe_str (pa_cons pe_str pa_nil))) pa_nil)))) (nomark _)))))))))))))))), ?_⟩
    have np : ∀ {Ha Hb : Hp} {a : Addr} {n : Nat}, PenAt Ha p l cells n → Ex Ha Hb → Hb a = none → V.ref a ≠ .ref p := fun h e ha z => by
      cases z
      exact pen_there (h.mono e (Nat.le_refl _)) ha
    refine q_pickR (badFl_up (K := K) (p := p) (lo := 2) (hi := 8)) rfl hP (by omega) h63 (all_cons badFl_up (one_c fun _ => fl_ty (fun z => by cases z) (.base .non) (by decide +kernel)) (all_cons badFl_up (one_c fun _ => fl_ty (fun z => by cases z) (.base (.int _)) (by decide +kernel)) (all_cons badFl_up (one_c fun _ => fl_str (by decide +kernel) (by decide +kernel)) (all_cons badFl_up (one_c fun _ => fl_str (by decide +kernel) (by decide +kernel)) (all_cons badFl_up (one_c fun _ => fl_str (by decide +kernel) (by decide +kernel)) (all_cons badFl_up (one_c fun _ => fl_str (by decide +kernel) (by decide +kernel)) (all_cons badFl_up (one_lst (el_lst (ea_cons ev_c (ea_cons ev_c ea_nil)) (by show 2 ≤ 100000; decide)) fun a Ha Hb e ha hb => fl_ty (np hP e ha) (.base (.lst hb)) (by decide +kernel)) (all_cons badFl_up (one_c fun _ => fl_ty (fun z => by cases z) (.base (.int _)) (by decide +kernel)) (all_cons badFl_up (one_c fun _ => fl_str (by decide +kernel) (by decide +kernel)) all_nil))))))))) (by decide) (by decide) fun x1 H1 H2 e1 hx1 hP1 hP2 k2 => ?_
    have t2 := tabs_keep (tabs.ext e1) hP1 k2
    refine q_pickR (badPr_up (K := K) (p := p)) rfl hP2 (by omega) h63 (all_cons badPr_up (one_c fun _ => pr_ty (fun z => by cases z) (.base .non) (by decide +kernel)) (all_cons badPr_up (one_c fun _ => pr_ty (fun z => by cases z) (.base (.str _)) (by decide +kernel)) (all_cons badPr_up (one_tup (eu_tup (ea_cons ev_c ea_nil) (by show 1 ≤ 100000; decide)) fun a Ha Hb e ha hb => pr_tup (np hP2 e ha) hb (.inl (by simp))) (all_cons badPr_up (one_tup (eu_tup (ea_cons ev_c (ea_cons ev_c ea_nil)) (by show 2 ≤ 100000; decide)) fun a Ha Hb e ha hb => pr_tup (np hP2 e ha) hb (.inr ⟨_, _, rfl, el_int (by decide +kernel)⟩)) (all_cons badPr_up (one_tup (eu_tup (ea_cons ev_c (ea_cons ev_c ea_nil)) (by show 2 ≤ 100000; decide)) fun a Ha Hb e ha hb => pr_tup (np hP2 e ha) hb (.inr ⟨_, _, rfl, el_strs (by decide +kernel) (by decide +kernel) (by decide +kernel)⟩)) (all_cons badPr_up (one_tup (eu_tup (ea_cons ev_c (ea_cons ev_c ea_nil)) (by show 2 ≤ 100000; decide)) fun a Ha Hb e ha hb => pr_tup (np hP2 e ha) hb (.inr ⟨_, _, rfl, el_strs (by decide +kernel) (by decide +kernel) (by decide +kernel)⟩)) (all_cons badPr_up (one_lst (el_lst (ea_cons ev_c (ea_cons ev_c ea_nil)) (by show 2 ≤ 100000; decide)) fun a Ha Hb e ha hb => pr_ty (np hP2 e ha) (.base (.lst hb)) (by decide +kernel)) (all_cons badPr_up (one_tup (eu_tup (ea_cons ev_c (ea_cons ev_c ea_nil)) (by show 2 ≤ 100000; decide)) fun a Ha Hb e ha hb => pr_tup (np hP2 e ha) hb (.inr ⟨_, _, rfl, el_strs (by decide +kernel) (by decide +kernel) (by decide +kernel)⟩)) (all_cons badPr_up (one_tup (eu_tup (ea_cons ev_c (ea_cons ev_c ea_nil)) (by show 2 ≤ 100000; decide)) fun a Ha Hb e ha hb => pr_tup (np hP2 e ha) hb (.inr ⟨_, _, rfl, el_strs (by decide +kernel) (by decide +kernel) (by decide +kernel)⟩)) (all_cons badPr_up (one_tup (eu_tup (ea_cons ev_c (ea_cons ev_c (ea_cons ev_c ea_nil))) (by show 3 ≤ 100000; decide)) fun a Ha Hb e ha hb => pr_tup (np hP2 e ha) hb (.inl (by simp))) all_nil)))))))))) (by decide) (by decide) fun x2 H3 H4 e3 hx2 hP3 hP4 k4 => ?_
    have bx2 := badPr_still (still_keep k4) hx2
    have bx1 := badFl_still ((still_ex e3).trans (still_keep k4)) (badFl_still (still_keep k2) hx1)
    have t4 := tabs_keep (t2.ext e3) hP3 k4
    have s4 : Still p H H4 := ((still_ex e1).trans (still_keep k2)).trans ((still_ex e3).trans (still_keep k4))
    refine q_asgR (lst_i (cons_i (lam_mk (Er := fun Hx E => BadR cR (.str "flag") Hx E) (vs := [.str "rule", .str "flag"]) (fun k2 hp kk => out_rule k2 hp kk) (fun H5 s5 hP5 Q2 q2 => ⟨_, rfl, _, rfl, q2 x1 [x2] H5 (Ex.refl H5) (by show 1 ≤ 900; decide) fun E ok hE => .inl ⟨(badFl_still s5 bx1).2, hE⟩⟩) t4 hP4 fun r H5 s5 hP5 t5 h5 => ⟨by show 1 ≤ sizeLine; decide, fun L hL => ?_⟩)))
    have S0 := hst_first s5 hP5 t5 h5 hL
    refine q_hear (K := K) S0 (by simp) rfl (fun Q1 kq => lam_mk (Er := fun Hx E => BadR cR (.int ((1 : Nat) : Int)) Hx E) (vs := [.str "rule", .int ((1 : Nat) : Int)]) (fun k2 hp kk => out_rule k2 hp kk) (fun H7 s7 hP7 Q2 q2 => cons_i (c_i (cons_i ((show EvPr _ _ H7 ("01", "0") from ep_tup ev_c ev_c) H7 (Ex.refl H7) _ fun t0 G0 f0 g0 => ⟨_, rfl, ⟨_, rfl, q2 (.str "011") [.ref t0, x2, x2] G0 f0 (by show 3 ≤ 900; decide) fun E ok hE => .inr ⟨"011", rfl, by decide +kernel, .inl ⟨1, x2, rfl, badPr_v (badPr_still ((S0.st.trans s7).trans (still_ex f0)) bx2), (fun j z hj hz => by
        obtain rfl : j = 0 := by omega
        cases hz
        exact pair_v (p := ("01", "0")) g0 ⟨by decide +kernel, by decide +kernel⟩), hE⟩⟩⟩⟩)))) S0.tabs S0.pen kq) fun Gs0 S1 _ => ?_
    refine q_hear (K := K) S1 (by simp) rfl (fun Q1 kq => lam_mk (Er := fun Hx E => BadR cR (.int ((2 : Nat) : Int)) Hx E) (vs := [.str "rule", .int ((2 : Nat) : Int)]) (fun k2 hp kk => out_rule k2 hp kk) (fun H7 s7 hP7 Q2 q2 => cons_i (c_i (cons_i ((show EvPr _ _ H7 ("01", "0") from ep_tup ev_c ev_c) H7 (Ex.refl H7) _ fun t0 G0 f0 g0 => (cons_i ((show EvPr _ _ G0 ("01", "1") from ep_tup ev_c ev_c) G0 (Ex.refl G0) _ fun t1 G1 f1 g1 => ⟨_, rfl, q2 (.str "011") [.ref t0, .ref t1, x2] G1 (f0.trans f1) (by show 3 ≤ 900; decide) fun E ok hE => .inr ⟨"011", rfl, by decide +kernel, .inl ⟨2, x2, rfl, badPr_v (badPr_still ((S1.st.trans s7).trans (still_ex (f0.trans f1))) bx2), (fun j z hj hz => by
        rcases (by omega : j = 0 ∨ j = 1) with rfl | rfl
        · cases hz
          exact pair_v (p := ("01", "0")) (f1 _ _ g0) ⟨by decide +kernel, by decide +kernel⟩
        · cases hz
          exact pair_v (p := ("01", "1")) g1 ⟨by decide +kernel, by decide +kernel⟩), hE⟩⟩⟩)))))) S1.tabs S1.pen kq) fun Gs1 S2 _ => ?_
    refine q_hear (K := K) S2 (by simp) rfl (fun Q1 kq => lam_mk (Er := fun Hx E => BadR cR (.str "watch") Hx E) (vs := [.str "rule", .str "watch"]) (fun k2 hp kk => out_rule k2 hp kk) (fun H7 s7 hP7 Q2 q2 => cons_i (c_i ((show EvPp _ _ H7 [("01", "0"), ("1", "0"), ("01", "1")] from (epp_cons (ep_tup ev_c ev_c) (epp_cons (ep_tup ev_c ev_c) (epp_cons (ep_tup ev_c ev_c) epp_nil)))) H7 (Ex.refl H7) _ fun xs H8 e8 hx => q2 (.str "011") xs H8 e8 (by rw [hx.len]; decide) fun E ok hE => .inr ⟨"011", rfl, by decide +kernel, .inr ⟨_, hx, (show ∀ p ∈ ([("01", "0"), ("1", "0"), ("01", "1")] : List Pr), sgB p.1 1 8 = true ∧ sgB p.2 1 1 = true by decide +kernel), by decide, .inl ⟨by decide +kernel, hE⟩⟩⟩))) S2.tabs S2.pen kq) fun Gs2 S3 _ => ?_
    refine q_hear (K := K) S3 (by simp) rfl (fun Q1 kq => lam_mk (Er := fun Hx E => ManyW cM Hx E) (vs := [.str "watches", .int 4]) (fun k2 hp kk => out_many k2 hp kk) (fun H7 s7 hP7 Q2 q2 => cons_i (c_i ((show EvPp _ _ H7 [("0", "0"), ("1", "0"), ("00", "0"), ("01", "1"), ("10", "1")] from (epp_cons (ep_tup ev_c ev_c) (epp_cons (ep_tup ev_c ev_c) (epp_cons (ep_tup ev_c ev_c) (epp_cons (ep_tup ev_c ev_c) (epp_cons (ep_tup ev_c ev_c) epp_nil)))))) H7 (Ex.refl H7) _ fun xs H8 e8 hx => q2 (.str "011") xs H8 e8 (by rw [hx.len]; decide) fun E ok hE => .inr ⟨"011", rfl, by decide +kernel, .inr ⟨_, hx, (show ∀ p ∈ ([("0", "0"), ("1", "0"), ("00", "0"), ("01", "1"), ("10", "1")] : List Pr), sgB p.1 1 8 = true ∧ sgB p.2 1 1 = true by decide +kernel), by decide, .inr (.inl ⟨by decide +kernel, by decide, hE⟩)⟩⟩))) S3.tabs S3.pen kq) fun Gs3 S4 _ => ?_
    refine q_hear (K := K) S4 (by simp) rfl (fun Q1 kq => lam_mk (Er := fun Hx E => BadR cR (.str "watch") Hx E) (vs := [.str "rule", .str "watch"]) (fun k2 hp kk => out_rule k2 hp kk) (fun H7 s7 hP7 Q2 q2 => cons_i (c_i ((show EvPp _ _ H7 [("0", "0"), ("1", "0"), ("00", "0"), ("01", "1"), ("0", "1")] from (epp_cons (ep_tup ev_c ev_c) (epp_cons (ep_tup ev_c ev_c) (epp_cons (ep_tup ev_c ev_c) (epp_cons (ep_tup ev_c ev_c) (epp_cons (ep_tup ev_c ev_c) epp_nil)))))) H7 (Ex.refl H7) _ fun xs H8 e8 hx => q2 (.str "011") xs H8 e8 (by rw [hx.len]; decide) fun E ok hE => .inr ⟨"011", rfl, by decide +kernel, .inr ⟨_, hx, (show ∀ p ∈ ([("0", "0"), ("1", "0"), ("00", "0"), ("01", "1"), ("0", "1")] : List Pr), sgB p.1 1 8 = true ∧ sgB p.2 1 1 = true by decide +kernel), by decide, .inl ⟨by decide +kernel, hE⟩⟩⟩))) S4.tabs S4.pen kq) fun Gs4 S5 _ => ?_
    refine q_asgR (lst_i ((show EvRows _ _ _ [[.str "rule", .str "flag"], [.str "rule", .int 1], [.str "rule", .int 2], [.str "rule", .str "watch"], [.str "watches", .int 4], [.str "rule", .str "watch"]] from (rows_cons (eu_tup (ea_cons ev_c (ea_cons ev_c ea_nil)) (by show 2 ≤ 100000; decide)) (rows_cons (eu_tup (ea_cons ev_c (ea_cons ev_c ea_nil)) (by show 2 ≤ 100000; decide)) (rows_cons (eu_tup (ea_cons ev_c (ea_cons ev_c ea_nil)) (by show 2 ≤ 100000; decide)) (rows_cons (eu_tup (ea_cons ev_c (ea_cons ev_c ea_nil)) (by show 2 ≤ 100000; decide)) (rows_cons (eu_tup (ea_cons ev_c (ea_cons ev_c ea_nil)) (by show 2 ≤ 100000; decide)) (rows_cons (eu_tup (ea_cons ev_c (ea_cons ev_c ea_nil)) (by show 2 ≤ 100000; decide)) rows_nil))))))) _ (Ex.refl _) _ fun rs Hd ed len all => ⟨by rw [List.length_map, len]; exact sz_of (by decide), fun D hD => ?_⟩))
    have hdD := hds_of hD len all
    have lpD : D ≠ p := fun z => pen_there (S5.pen.mono ed (Nat.le_refl _)) (z ▸ hD)
    have S6 := hst_ex S5 (ed.trans (Ex.new (o := .lst (rs.map V.ref)) hD))
    refine q_pickR (badFl_up (K := K) (p := p) (lo := 1) (hi := 7)) rfl S6.pen (by omega) h63 (all_cons badFl_up (one_c fun _ => fl_ty (fun z => by cases z) (.base .non) (by decide +kernel)) (all_cons badFl_up (one_c fun _ => fl_str (by decide +kernel) (by decide +kernel)) (all_cons badFl_up (one_c fun _ => fl_str (by decide +kernel) (by decide +kernel)) (all_cons badFl_up (one_c fun _ => fl_str (by decide +kernel) (by decide +kernel)) (all_cons badFl_up (one_c fun _ => fl_ty (fun z => by cases z) (.base (.int _)) (by decide +kernel)) (all_cons badFl_up (one_tup (eu_tup (ea_cons ev_c ea_nil) (by show 1 ≤ 100000; decide)) fun a Ha Hb e ha hb => fl_ty (np S6.pen e ha) (.base (.tup hb)) (by decide +kernel)) all_nil)))))) (by decide) (by decide) fun x3 Hw Hx ew hx3 hPw hPx kx => ?_
    have bx3 := badFl_still (still_keep kx) hx3
    have S7 := hst_keep (hst_ex S6 ew) kx hPx
    have hdD7 := hds_still hPw (still_keep kx) lpD (hds_still S6.pen (still_ex ew) lpD hdD)
    have dL : D ≠ L := fun z => by
      obtain ⟨_, q, _⟩ := S5.hd
      have := ed _ _ q
      rw [← z, hD] at this
      cases this
    refine q_hear (K := K) S7 (by simp) rfl (fun Q1 kq => lam_watch (i := 5) rfl bx3 S7.tabs S7.pen kq) fun G7 S8 k8 => ?_
    have hdD8 := hds_past S7.pen S7.hd.choose_spec.1 k8 lpD dL hdD7
    refine q_hear (K := K) S8 (by simp) rfl (fun Q1 kq => lam_put rfl (fun Hy hPx => (all_cons badFl_up (one_c fun _ => fl_ty (fun z => by cases z) (.base .non) (by decide +kernel)) (all_cons badFl_up (one_c fun _ => fl_str (by decide +kernel) (by decide +kernel)) (all_cons badFl_up (one_c fun _ => fl_str (by decide +kernel) (by decide +kernel)) (all_cons badFl_up (one_c fun _ => fl_str (by decide +kernel) (by decide +kernel)) (all_cons badFl_up (one_c fun _ => fl_ty (fun z => by cases z) (.base (.int _)) (by decide +kernel)) (all_cons badFl_up (one_c fun _ => fl_ty (fun z => by cases z) (.base (.bl _)) (by decide +kernel)) all_nil))))))) (by decide) (by decide) (by omega) h63 S8.tabs S8.pen kq) fun G8 S9 k9 => ?_
    have hdD9 := hds_past S8.pen S8.hd.choose_spec.1 k9 lpD dL hdD8
    have sc : ∀ vs ∈ ([[.str "rule", .str "flag"], [.str "rule", .int 1], [.str "rule", .int 2], [.str "rule", .str "watch"], [.str "watches", .int 4], [.str "rule", .str "watch"], [.str "rule", .str "watch"], [.str "rule", .str "put"]] : List (List V)), Scal vs := fun vs hv v hx => by
      simp only [List.mem_cons, List.mem_nil_iff, or_false] at hv
      rcases hv with rfl | rfl | rfl | rfl | rfl | rfl | rfl | rfl <;> simp only [List.mem_cons, List.mem_nil_iff, or_false] at hx <;> rcases hx with rfl | rfl <;> first | exact .inl ⟨_, rfl⟩ | exact .inr ⟨_, rfl⟩
    have sh : SeqAt.shaped (.list (([[.str "rule", .str "flag"], [.str "rule", .int 1], [.str "rule", .int 2], [.str "rule", .str "watch"], [.str "watches", .int 4], [.str "rule", .str "watch"], [.str "rule", .str "watch"], [.str "rule", .str "put"]] : List (List V)).map fun vs => .tuple (vs.map vd))) = true := by decide +kernel
    have same : PyData.eqv (.list (([[.str "rule", .str "flag"], [.str "rule", .int 1], [.str "rule", .int 2], [.str "rule", .str "watch"], [.str "watches", .int 4], [.str "rule", .str "watch"], [.str "rule", .str "watch"], [.str "rule", .str "put"]] : List (List V)).map fun vs => .tuple (vs.map vd))) (.list (([[.str "rule", .str "flag"], [.str "rule", .int 1], [.str "rule", .int 2], [.str "rule", .str "watch"], [.str "watches", .int 4], [.str "rule", .str "watch"], [.str "rule", .str "watch"], [.str "rule", .str "put"]] : List (List V)).map fun vs => .tuple (vs.map vd))) = true := by decide +kernel
    have left : EvD K (tVar 3) [some (.ref p), some x1, some x2, some (.ref L), some (.ref D), some x3] G8 _ := ed_hds rfl S9.hd sc
    have right : EvD K _ [some (.ref p), some x1, some x2, some (.ref L), some (.ref D), some x3] G8 _ := ed_hdsCat (uss := [[.str "rule", .str "watch"], [.str "rule", .str "put"]]) (i := 4) rfl hdD9 (rows_cons (eu_tup (ea_cons ev_c (ea_cons ev_c ea_nil)) (by show 2 ≤ 100000; decide)) (rows_cons (eu_tup (ea_cons ev_c (ea_cons ev_c ea_nil)) (by show 2 ≤ 100000; decide)) rows_nil)) (by decide) sc
    refine s_ret (ev_is (ev_eqD left right sh sh) (congrArg V.bl same)) fun H9 e9 => k H9 (S9.pen.mono e9 (by omega)) ((s4.trans S9.st).trans (still_ex e9)) (S9.tabs.ext e9)
end
end K08
namespace K08
open PySem L2 Evl Gr ClX OwX OpX StX LamX LamY EXC ClK RdX StS EqT EnT SrtT StM
theorem or_no {t u : TT} {σ : L2.St} {H : Hp} {Q : Bool → Hp → Prop} (h : EvT t σ H false) (k : ∀ H1, Ex H H1 → u σ H1 Q) : tOr t u σ H Q := h H (Ex.refl H) _ fun H1 e => iteF (k H1 e)
theorem s_ifE {c : TT} {tu : TS} {D : Ends} {σ : L2.St} {H : Hp} (h : c σ H fun b H1 => if b = true then tu D σ H1 else D.nx σ H1) : tIfS c tu tNext D σ H := h
section
variable {K : PySem.W.Frag} {C p l cR cT cM : Addr} {T : List (Addr × Str)} {σ : L2.St} {H : Hp} {cells : List Int} {m : Nat} {Q : VK} {i : Nat} {E : XK} {ta : TA} {f z : Str} {ps qs : List Pr}
/-- a rule that is made of a flag and pairs as they are passed -/
theorem eru_make (h : EvPp ta σ H ps) (g : Good f qs) (pm : ps.Perm qs) : EvRu K C (tMakeR C (spInitA K C cR cM) E (tCons (tC (.str f)) ta)) σ H f qs := fun H1 e Q q =>
  cons_i (c_i (h H1 e _ fun xs H2 e2 hx o dx ho hd hn => init_told ho hd hn (by
    have := g.many
    have := pm.length_eq
    rw [hx.len]
    omega) (made_ok g hx pm fun qs' g' pm' => by
      obtain rfl := good_one g' g (pm'.trans pm)
      exact fun o H3 e3 r => q o H3 (e2.trans e3) r)))
theorem eru_makeK (g : Good f []) : EvRu K C (tMakeKw C (spInit K C cR cM) E (tCons (tC (.str f)) tNil)) σ H f [] := fun H1 e Q q =>
  cons_i (c_i ⟨_, rfl, fun o dx ho hd hn r hr => by
    obtain ⟨ws, rest, e1, e2, _, told⟩ := init_told (K := K) (C := C) (CR := cR) (CM := cM) (E := E) (Q := Q) (v := .str f) (xs := []) ho hd hn (by decide) (made_ok (CR := cR) (CM := cM) (E := E) g prs_nil (List.Perm.refl []) fun qs' g' pm' => by
      obtain rfl := good_one g' g pm'
      exact fun o H3 e3 r => q o H3 e3 r)
    match ws, e2, e1, told with
    | [a, b], _, e1, told =>
      have e3 : V.ref o = a ∧ V.str f = b ∧ [] = rest := by simpa using e1
      obtain ⟨rfl, rfl, rfl⟩ := e3
      exact told r hr⟩)
theorem eru_sim {w q : Str} (hw : sgB w 1 7 = true) (hq : sgB q 1 1 = true) (ef : w ++ flip1 q = f) (g : Good f [(w, q)]) : EvRu K C (tSMeth C (spSim K C cR) E0 (tC (.ref C)) (tCons (tC (.str w)) (tCons (tC (.str q)) tNil))) σ H f [(w, q)] := fun H1 e Q k => by
  subst ef
  exact ⟨rfl, cons_i (c_i (cons_i (c_i ⟨_, _, rfl, .inr ⟨w, rfl, hw, .inr ⟨q, rfl, hq, g, fun o H2 e2 r => k o H2 e2 r⟩⟩⟩)))⟩
theorem eru_simK {w q : Str} (hw : sgB w 1 7 = true) (hq : sgB q 1 1 = true) (ef : w ++ flip1 q = f) (g : Good f [(w, q)]) : EvRu K C (tSMethK C 2 (spSim K C cR) (fun us zs => zs.reverse) E0 (tC (.ref C)) (tCons (tC (.str q)) (tCons (tC (.str w)) tNil))) σ H f [(w, q)] := fun H1 e Q k => by
  subst ef
  exact ⟨rfl, cons_i (c_i (cons_i (c_i ⟨rfl, _, _, rfl, .inr ⟨w, rfl, hw, .inr ⟨q, rfl, hq, g, fun o H2 e2 r => k o H2 e2 r⟩⟩⟩)))⟩
theorem eru_read {te : TE} (ht : Ev te σ H (.str (tx (rw_ f ps)))) (g : Good f ps) : EvRu K C (tCMeth C (spRead K C cT) E0 (tC (.ref C)) (tCons te tNil)) σ H f ps := fun H1 e Q q =>
  ⟨rfl, ht H1 e _ fun H2 e2 => .inl ⟨rw_ f ps, none, rfl, by unfold rw_; simp, good_free g, by have := good_tx g; omega, fun z hz => by have := good_short g z hz; omega, by have := (good_size g).2; omega, good_due g, fun i hi => (by cases hi), fun _ => by
    rw [pairs_rw, show gw (rw_ f ps) 0 = f from rfl]
    exact fun o H4 e4 r => q o H4 (e2.trans e4) r⟩⟩
/-- heard: a text that is no rule -/
theorem lam_readC {ws : List Str} {j : Nat} {q : Str} (hz : z = tx ws) (W : WB ws 30) (due : Due ws (some j)) (hT : Tabs T H) (hq : (p, q) ∈ T)
    (kE : ∀ r H2, H2 r = some (.tup [.str "text", .int 0, .int (j : Int)]) → Q (.ref r) H2) :
    tLam T (THd p cR cT cM) (fun E => tCMeth C (spRead K C cT) E (tC (.ref C)) (tCons (tC (.str z)) tNil)) σ H Q := ⟨hT, fun H1 x1 T1 => by
  obtain ⟨ps0, hp1, _⟩ := T1 _ hq
  refine ⟨fun z => (by rw [z] at hp1; cases hp1), fun H2 e2 => ?_⟩
  have wl := W.len
  have ok := W.ok (by decide)
  have hp2 := e2 _ _ hp1
  refine ⟨rfl, .inl ⟨ws, some j, by rw [← hz], W.ne, ok.free, by omega, ok.short, by have := ok.few; omega, due, fun j' hj => ?_, fun hd => by cases hd⟩⟩
  obtain rfl := Option.some.inj hj
  intro dd H' hdd e h
  exact ⟨Keep.of_ex e, dd, _, _, rfl, e _ _ hp2, .inr (.inl ⟨rfl, _, _, h, rfl⟩), fun H3 r k3 hp3 h3 => kE r H3 h3⟩⟩
end
theorem good_by {f : Str} {ps : List Pr} (h1 : sgB f 2 8 = true) (h2 : ps.all (fun p => sgB p.1 1 8 && sgB p.2 1 1) = true) (h3 : ps.length ≤ 4) (h4 : ps.Pairwise fun p q => ltB p.1 q.1 = true) : Good f ps := ⟨h1, fun p hp => by
  have := List.all_eq_true.mp h2 p hp
  simpa [PairOk] using this, h3, h4⟩
theorem g_four : Good "011" [("0", "0"), ("00", "0"), ("10", "1"), ("11", "1")] := good_by (by decide +kernel) (by decide +kernel) (by decide) (by decide +kernel)
theorem g_flag : Good "01" [] := good_by (by decide +kernel) (by decide +kernel) (by decide) (by decide +kernel)
theorem g_one : Good "011" [("01", "0")] := good_by (by decide +kernel) (by decide +kernel) (by decide) (by decide +kernel)
theorem g_sev : Good "11111110" [("1111111", "1")] := good_by (by decide +kernel) (by decide +kernel) (by decide) (by decide +kernel)
theorem t_four : tx (rw_ "011" [("0", "0"), ("00", "0"), ("10", "1"), ("11", "1")]) = "011 : 0 0 , 00 0 , 10 1 , 11 1" := by decide +kernel
theorem t_flag : tx (rw_ "01" []) = "01 :" := by decide +kernel
theorem t_one : tx (rw_ "011" [("01", "0")]) = "011 : 01 0" := by decide +kernel
theorem t_sev : tx (rw_ "11111110" [("1111111", "1")]) = "11111110 : 1111111 1" := by decide +kernel
theorem p_four : ([("11", "1"), ("0", "0"), ("10", "1"), ("00", "0")] : List Pr).Perm [("0", "0"), ("00", "0"), ("10", "1"), ("11", "1")] := by decide +kernel
abbrev wsLine : List Str := ["011", ":", "01", "0\n"]
theorem t_line : ("011 : 01 0\n" : Str) = tx wsLine := by decide +kernel
theorem wb_line : WB wsLine 30 := ⟨by simp, by decide +kernel, by decide⟩
theorem due_line : Due wsLine (some 3) := ⟨fun i hi _ => by
  rcases (by omega : i = 0 ∨ i = 1 ∨ i = 2) with rfl | rfl | rfl <;> decide +kernel, by decide, fun _ => by decide +kernel, fun z => by simp at z⟩
end K08
namespace K08
open PySem L2 Evl Gr ClX OwX OpX StX LamX LamY EXC ClK RdX StS EqT EnT SrtT StM
abbrev sLaw : Stmt := top 40
abbrev nLaw : List Str := ["_law_script", "_law_pen_here", "_law_lap", "_law_plan_here", "_law_four", "_law_some", "_law_one"]
abbrev qLaw : Str := ("law" : Str) ++ ".<locals>." ++ "<lambda>"
theorem scLaw : FnScope nLaw ["_law_script"] (defScope sLaw) := ⟨rfl, rfl, rfl, by decide +kernel, rfl, by decide +kernel, by decide +kernel⟩
section
variable {P : Program} {w : World} {K : PySem.W.Frag} {mg : Str → Option Value} {base : Heap}
def spLaw (K : PySem.W.Frag) (T : List (Addr × Str)) : Sp := fun vs H Q _ => ∃ (a : Addr) (ns : List Int), vs = [.ref a] ∧ SqL K H a (ns.map V.int) ∧ ns.length ≤ 63 ∧ Tabs T H ∧ ∀ H', Q (.bl true) H'
def rStrR (K : PySem.W.Frag) (C : Addr) : List V → Hp → VK → Prop := fun xs H Q => ∃ (a : Addr) (f : Str) (ps : List Pr), xs = [.ref a] ∧ RuleAt K C H a f ps ∧ spStr K C [.ref a] H (fun v H' => ∃ y, v = .str y ∧ Q v H') E0
theorem call_strRu {X : Cx} {K : PySem.W.Frag} {C g : Addr} (hK : X.K = K) (c : StrIn X.K C g) (F : FnR X.prog X.w X.K X.mg X.base CX0 2 g (spStr X.K C)) (hr : Room 4 X.A) : CallR X (.type "str") (rStrR K C) := fun pins s σ H xs us Q I r h => by
  subst hK
  obtain ⟨a, f, ps, h1, h2, h3⟩ := h
  exact call_strI (E := E0) c F hr pass0 pins s σ H xs us Q I r ⟨a, h1, ru_insC h2, h3⟩
theorem ok_Law {f fH fI fE fS fR pR fSi pS B cR cT cM C c Pc : Addr} {mc : Value} {fd fdH fdR fdSi : FuncData} {T : List (Addr × Str)} (F : FunC K "law" "law" sLaw f fd c) (TB : TabB base mg c Pc) (hT : (Pc, qLaw) ∈ T) (hu : ∀ p ∈ T, p.1 = Pc → p.2 = qLaw)
    (N : FName K mg C mc) (TT : GlbT mg) (S : GlbS mg) (HK : HdK K mg B cR cT cM) (FH : Fun K "_law_heard" "_law_heard" sHd fH fdH) (bH : Binds K fdH ["_law_ask"] []) (gH : mg "_law_heard" = some (.ref fH)) (O : FOps P w K mg base C cT fI fE fS fR pR mc fdR)
    (M : Mk K C fI) (FI : FnR P w K mg base (L2.CX P w) 4 fI (spInitA K C cR cM)) (FK : Kw1 P w K mg base (L2.CX P w) 4 fI "flag" (spInit K C cR cM))
    (hSim : SMet K C mc "simple" pS fSi) (FS : FnOk P w K mg base (L2.CX P w) 6 fSi fdSi ["watch", "put"] (spSim K C cR)) (bS : Binds K fdSi ["watch", "put"] []) (kS : KBn K fdSi ["watch", "put"] 0 ["put", "watch"] (fun us ws => ws.reverse) (fun vs zs => zs.reverse))
    (GPe : Gfn P w K mg base 1 "_law_pen" ["_law_script"] (spPen K)) (GPl : Gfn P w K mg base 4 "_law_plan" ["_law_pen_here"] spPlan) (GM : Gfn P w K mg base 8 "_law_made_right" ["_law_pen_here", "_law_plan_here"] spMR)
    (GT : Gfn P w K mg base 10 "_law_texts_right" ["_law_pen_here", "_law_plan_here"] (spTR T)) (GR : Gfn P w K mg base 10 "_law_refused_right" ["_law_pen_here"] (spRR T)) :
    FnOk P w K mg base CX0 11 f fd ["_law_script"] (spLaw K T) := by
  obtain ⟨f1, fd1, G1, k1, b1, g1⟩ := GPe
  obtain ⟨f2, fd2, G2, k2, b2, g2⟩ := GPl
  obtain ⟨f3, fd3, G3, k3, b3, g3⟩ := GM
  obtain ⟨f4, fd4, G4, k4, b4, g4⟩ := GT
  obtain ⟨f5, fd5, G5, k5, b5, g5⟩ := GR
  refine F.ok scLaw (fun vs H Q E h => ?_) (fun A outer s H vs Q E hr h => ?_)
  · obtain ⟨a, ns, rfl, _⟩ := h
    rfl
  · obtain ⟨a, ns, rfl, hS, h63, tabs, k⟩ := h
    have r1 := hr.mono (show 1 ≤ 10 by decide)
    have r2 := hr.mono (show 2 ≤ 10 by decide)
    have r4 := hr.mono (show 4 ≤ 10 by decide)
    have r5 := hr.mono (show 5 ≤ 10 by decide)
    have r6 := hr.mono (show 6 ≤ 10 by decide)
    have r8 := hr.mono (show 8 ≤ 10 by decide)
    have r9 := hr.mono (show 9 ≤ 10 by decide)
    refine ⟨_, pss_cons (ps_set (i := 1) scLaw.nd rfl (.inl rfl) (pe_call G1 r1 (by rfl) g1 k1 b1 .nil pass0 (pa_cons (pv 0) pa_nil)))
      (pss_cons (ps_for PassesOwn.never rfl (pi_range1 (by rfl) S.range (pa_cons pe_int pa_nil)) (pg_name (i := 2) scLaw.nd rfl (.inl rfl))
        (pss_cons (ps_set (i := 3) scLaw.nd rfl (.inl rfl) (pe_call G2 r4 (by rfl) g2 k2 b2 .nil pass0 (pa_cons (pv 1) pa_nil)))
        (pss_one (ps_if (PW.pt (pw_or (pt_not (pt_val (pe_call G3 r8 (by rfl) g3 k3 b3 .nil pass0 (pa_cons (pv 1) (pa_cons (pv 3) pa_nil))))) (pw_or (pt_not (pt_val (pe_call G4 hr (by rfl) g4 k4 b4 .nil pass0 (pa_cons (pv 1) (pa_cons (pv 3) pa_nil))))) (pw_or1 (pt_not (pt_val (pe_call G5 hr (by rfl) g5 k5 b5 .nil pass0 (pa_cons (pv 1) pa_nil)))))))) (pss_one (ps_ret pe_bl)) pss_nil))))
      (pss_cons (ps_set (i := 4) scLaw.nd rfl (.inl rfl) (pe_makeR (E := E0) M FI r5 (by rfl) N.g (passN rfl rfl) (pa_cons pe_str (pa_cons (pe_tup (pa_cons pe_str (pa_cons pe_str pa_nil))) (pa_cons (pe_tup (pa_cons pe_str (pa_cons pe_str pa_nil))) (pa_cons (pe_tup (pa_cons pe_str (pa_cons pe_str pa_nil))) (pa_cons (pe_tup (pa_cons pe_str (pa_cons pe_str pa_nil))) pa_nil)))))))
      (pss_cons (ps_if (PW.pt (pw_or (pt_cmpR op_ne (pe_callTy (call_strI (E := E0) O.hStr O.str r4 pass0) (by rfl) TT.str (by decide +kernel) (pa_cons (pv 4) pa_nil)) pe_str (nomark _))
          (pw_or1 (pt_cmpR (op_neO (E := E0) O.hEq O.ne O.ob O.eq r2 pass0) (pe_cmeth (E := E0) (pe_glob (v := .ref C) (by rfl) N.g rfl) N.rd O.hRead (fnR0 O.read O.bRead) r6 (passN rfl rfl) (pa_cons (pe_callTy (call_strI (E := E0) O.hStr O.str r4 pass0) (by rfl) TT.str (by decide +kernel) (pa_cons (pv 4) pa_nil)) pa_nil)) (pv 4) (nomark _))))) (pss_one (ps_ret pe_bl)) pss_nil)
      (pss_cons (ps_if (PW.pt (pw_or (pt_cmpR (op_neO (E := E0) O.hEq O.ne O.ob O.eq r2 pass0) (pe_makeKw (E := E0) M FK r5 (by rfl) N.g (passN rfl rfl) (pk_cons pe_str pk_nil)) (pe_makeR (E := E0) M FI r5 (by rfl) N.g (passN rfl rfl) (pa_cons pe_str pa_nil)) (nomark _))
          (pw_or1 (pt_cmpR (op_neD hr.units) (pe_heard (X := (cxOf CX0 P w K mg base nLaw "law" (defScope sLaw) f (.ref c) A outer s H E).nox) (T := T) (p0 := Pc) (t := fun E2 => tCMeth C (spRead K C cT) E2 (tC (.ref C)) (tCons (tC (.str "011 : 01 0\n")) tNil)) (by rfl) gH FH bH HK TB rfl hT hu r9 (lamS_by (sc := defScope sLaw) (by decide +kernel)) rfl (fun _ _ _ _ _ => rfl)
            (fun A2 outer2 s2 H2 E2 f2 c2 hr2 => pe_cmeth (E := E2) (pe_glob (v := .ref C) rfl N.g rfl) N.rd O.hRead (fnR0 O.read O.bRead) (hr2.mono (show 6 ≤ 7 by decide)) (passes_call (takes_of rfl rfl rfl rfl) fun _ _ _ _ z => z) (pa_cons pe_str pa_nil))) (pe_tup (pa_cons pe_str (pa_cons pe_int (pa_cons pe_int pa_nil)))) (nomark _))))) (pss_one (ps_ret pe_bl)) pss_nil)
      (pss_cons (ps_set (i := 5) scLaw.nd rfl (.inl rfl) (pe_lst (pa_cons (pe_smeth (E := E0) (pe_glob (v := .ref C) (by rfl) N.g rfl) N.rd hSim (fnR0 FS bS) r6 (passN rfl rfl) (pa_cons pe_str (pa_cons pe_str pa_nil))) (pa_cons (pe_smethKx (E := E0) (pe_glob (v := .ref C) (by rfl) N.g rfl) N.rd hSim FS r6 (passN rfl rfl) kS (pk_cons pe_str (pk_cons pe_str pk_nil))) (pa_cons (pe_makeR (E := E0) M FI r5 (by rfl) N.g (passN rfl rfl) (pa_cons pe_str pa_nil)) pa_nil)))))
      (pss_one (ps_ret (pe_cmpR (op_eqD hr.units) (pe_lc (own := [("_law_one", 6)]) (g := gName 6) rfl scLaw.nd (pi_list (pv 5)) (blkOk_by (own := [("_law_one", 6)]) (N := nLaw) (sc := defScope sLaw) (by decide +kernel))
          (fun _ _ _ _ _ => pg_name (i := 6) scLaw.nd rfl (Or.inl rfl)) (fun _ _ _ _ _ => pts_nil) (fun _ _ _ _ _ => pe_callTy (call_strRu (K := K) rfl O.hStr O.str r4) (by rfl) TT.str (by decide +kernel) (pa_cons (pv 6) pa_nil))) (pe_lst (pa_cons pe_str (pa_cons pe_str (pa_cons pe_str pa_nil)))) (nomark _))))))))), ?_⟩
    refine ⟨_, rfl, a, ns, rfl, hS, h63, fun p l H1 hp0 _ e1 hP => ?_⟩
    have T1 := tabs.ext e1
    refine q_forR1 (ea_cons ev_c ea_nil) (by decide) (fun i σ' H' => (∃ x2 x3 : Option V, σ' = [some (.ref a), some (.ref p), x2, x3, none, none, none]) ∧ PenAt H' p l ns (232 * i) ∧ Tabs T H') (fun H2 e2 => ⟨⟨none, none, rfl⟩, hP.mono e2 (Nat.le_refl _), T1.ext e2⟩) ?_ ?_
    · rintro i σ' H2 hi ⟨⟨x2, x3, rfl⟩, hP2, T2⟩
      refine q_asgR ⟨_, rfl, p, l, ns, 232 * i, rfl, hP2, by omega, h63, fun v f' ps H3 pl hv hP3 k3 => ?_⟩
      have T3 := tabs_keep T2 hP2 k3
      refine s_ifE ⟨_, rfl, _, rfl, p, l, ns, _, v, f', ps, rfl, hP3, by omega, h63, hv, pl, fun H4 hP4 k4 => ⟨true, rfl, iteF ?_⟩⟩
      have hv4 := hv.still hP3 (still_keep k4)
      refine ⟨_, rfl, _, rfl, p, l, ns, _, v, f', ps, rfl, hP4, by omega, h63, hv4, pl, tabs_keep T3 hP3 k4, fun H5 hP5 s5 T5 => ⟨true, rfl, iteF ?_⟩⟩
      refine ⟨_, rfl, p, l, ns, _, rfl, hP5, by omega, h63, T5, fun H6 hP6 s6 T6 => ⟨true, rfl, iteF ?_⟩⟩
      exact ⟨⟨_, _, rfl⟩, hP6.le (by omega), T6⟩
    rintro σ' H2 ⟨⟨x2, x3, rfl⟩, hP2, T2⟩
    have mk4 : EvPp _ [some (.ref a), some (.ref p), x2, x3, none, none, none] H2 [("11", "1"), ("0", "0"), ("10", "1"), ("00", "0")] := epp_cons (ep_tup ev_c ev_c) (epp_cons (ep_tup ev_c ev_c) (epp_cons (ep_tup ev_c ev_c) (epp_cons (ep_tup ev_c ev_c) epp_nil)))
    refine q_asgR ((eru_make (C := C) (cR := cR) (cM := cM) (E := E0) mk4 g_four p_four) H2 (Ex.refl H2) _ fun o H3 e3 r3 => ?_)
    have T3 := T2.ext e3
    have four : ∀ {H4 : Hp}, Ex H3 H4 → EvRu K C (tVar 4) [some (.ref a), some (.ref p), x2, x3, some (.ref o), none, none] H4 "011" _ := fun e => eru_var rfl (r3.mono e)
    refine q_when (b := false) (et_is (et_or (et_test (ev_op (ev_ruStr (X := (cxOf CX0 P w K mg base nLaw "law" (defScope sLaw) f (.ref c) A outer s H E).nox) (four (Ex.refl H3))) ev_c (rv_ne rfl))) fun _ => et_test (ev_ruNe (X := (cxOf CX0 P w K mg base nLaw "law" (defScope sLaw) f (.ref c) A outer s H E).nox) (eru_read (cT := cT) (ev_ruStr (X := (cxOf CX0 P w K mg base nLaw "law" (defScope sLaw) f (.ref c) A outer s H E).nox) (four (Ex.refl H3))) g_four) (four (Ex.refl H3)))) (by rw [t_four]; decide)) (fun hb => absurd hb (by decide)) (fun _ H4 e4 => ?_)
    have T4 := T3.ext e4
    have kw : Ev (tOp (rNeO ((cxOf CX0 P w K mg base nLaw "law" (defScope sLaw) f (.ref c) A outer s H E).nox) C (spEq K C) E0) (tMakeKw C (spInit K C cR cM) E0 (tCons (tC (.str "01")) tNil)) (tMakeR C (spInitA K C cR cM) E0 (tCons (tC (.str "01")) tNil))) [some (.ref a), some (.ref p), x2, x3, some (.ref o), none, none] H4 (.bl false) := ev_is (ev_ruNe (eru_makeK g_flag) (eru_make (ta := tNil) epp_nil g_flag (List.Perm.refl _))) (by simp)
    refine s_ifE (D := _) (or_no (et_test kw) fun H5 e5 => op_i (lam_readC (j := 3) t_line wb_line due_line (T4.ext e5) hT fun r H6 h6 => (show EvTu K (tTup (tCons (tC (.str "text")) (tCons (tC (.int 0)) (tCons (tC (.int 3)) tNil)))) _ H6 [.str "text", .int 0, .int 3] from etu_disp (ea_cons ev_c (ea_cons ev_c (ea_cons ev_c ea_nil))) (by show 3 ≤ 100000; decide)) H6 (Ex.refl H6) _ fun q H7 e7 hq =>
        ⟨txD 0 3, txD 0 3, .tup (st_of (e7 _ _ h6)) (.cons (.str _) (.cons (.int _) (.cons (.int _) .nil))), .tup hq (.cons (.str _) (.cons (.int _) (.cons (.int _) .nil))), tx_sh _ _, tx_sh _ _, ?_⟩))
    refine ⟨_, rfl, ?_⟩
    rw [tx_eqv]
    refine iteF ?_
    refine q_asgR (lst_i (cons_i ((eru_sim (K := K) (C := C) (cR := cR) (σ := [some (.ref a), some (.ref p), x2, x3, some (.ref o), none, none]) (H := H7) (f := "011") (w := "01") (q := "0") (by decide +kernel) (by decide +kernel) (by decide +kernel) g_one) H7 (Ex.refl H7) _ fun oa H8 e8 r8 =>
      cons_i ((eru_simK (K := K) (C := C) (cR := cR) (σ := [some (.ref a), some (.ref p), x2, x3, some (.ref o), none, none]) (H := H8) (f := "11111110") (w := "1111111") (q := "1") (by decide +kernel) (by decide +kernel) (by decide +kernel) g_sev) H8 (Ex.refl H8) _ fun ob H9 e9 r9 =>
      cons_i ((eru_make (K := K) (C := C) (cR := cR) (cM := cM) (E := E0) (σ := [some (.ref a), some (.ref p), x2, x3, some (.ref o), none, none]) (H := H9) (ta := tNil) epp_nil g_flag (List.Perm.refl _)) H9 (Ex.refl H9) _ fun oc Ha ea ra =>
        ⟨by show 3 ≤ sizeLine; decide, fun L hL => ?_⟩)))))
    have eL := Ex.new (o := .lst [.ref oa, .ref ob, .ref oc]) hL
    have RA := r8.mono ((e9.trans ea).trans eL)
    have RB := r9.mono (ea.trans eL)
    have RC := ra.mono eL
    have hl : upd Ha L (.lst [.ref oa, .ref ob, .ref oc]) L = some (.lst [.ref oa, .ref ob, .ref oc]) := upd_same
    show tRet _ _ [some (.ref a), some (.ref p), x2, x3, some (.ref o), some (.ref L), none] (upd Ha L (.lst [.ref oa, .ref ob, .ref oc]))
    generalize upd Ha L (.lst [.ref oa, .ref ob, .ref oc]) = Hb at RA RB RC hl ⊢
    have all : ∀ x ∈ ([(oa, "011", [("01", "0")]), (ob, "11111110", [("1111111", "1")]), (oc, "01", [])] : List (Addr × Str × List Pr)), RuleAt K C Hb x.1 x.2.1 x.2.2 := fun x hx => by
      simp only [List.mem_cons, List.mem_nil_iff, or_false] at hx
      rcases hx with rfl | rfl | rfl
      · exact RA
      · exact RB
      · exact RC
    have left := el_mapL (K := K) (σ := [some (.ref a), some (.ref p), x2, x3, some (.ref o), some (.ref L), none]) (H := Hb) (tl := tVar 5) (t := tYes) (te := tCB (rStrR K C) (tCons (tVar 6) tNil)) (α := Addr × Str × List Pr) (fun x => V.ref x.1) (l := [(oa, "011", [("01", "0")]), (ob, "11111110", [("1111111", "1")]), (oc, "01", [])]) (j := 6) (vs := [6]) (a := L) (fun _ => true) (fun x => .str (tx (rw_ x.2.1 x.2.2))) (ev_var rfl) (sq_of hl) (by show 3 ≤ 40000; decide) (fun x => rfl) (fun x hx H1 e => et_none) (fun x hx H1 e _ => fun H2 e2 Q2 q2 =>
      (ev_var (i := 6) rfl) H2 e2 _ fun H3 e3 => ⟨x.1, x.2.1, x.2.2, rfl, (all x hx).mono ((e.trans e2).trans e3), x.1, x.2.1, x.2.2, rfl, (all x hx).mono ((e.trans e2).trans e3), fun H4 e4 => ⟨_, rfl, q2 H4 (e3.trans e4)⟩⟩)
    have left' : EvD K _ [some (.ref a), some (.ref p), x2, x3, some (.ref o), some (.ref L), none] Hb (.list [.str "011 : 01 0", .str "11111110 : 1111111 1", .str "01 :"]) := ed_L left fun H1 _ => by
      show DpAll K H1 [.str (tx (rw_ "011" [("01", "0")])), .str (tx (rw_ "11111110" [("1111111", "1")])), .str (tx (rw_ "01" []))] _
      rw [t_one, t_sev, t_flag]
      exact .cons (.str _) (.cons (.str _) (.cons (.str _) .nil))
    have right : EvD K (tLst (tCons (tC (.str "011 : 01 0")) (tCons (tC (.str "11111110 : 1111111 1")) (tCons (tC (.str "01 :")) tNil)))) [some (.ref a), some (.ref p), x2, x3, some (.ref o), some (.ref L), none] Hb (.list [.str "011 : 01 0", .str "11111110 : 1111111 1", .str "01 :"]) := ed_L (el_lst (ea_cons ev_c (ea_cons ev_c (ea_cons ev_c ea_nil))) (by show 3 ≤ 100000; decide)) fun _ _ => .cons (.str _) (.cons (.str _) (.cons (.str _) .nil))
    have sh : SeqAt.shaped (.list [.str "011 : 01 0", .str "11111110 : 1111111 1", .str "01 :"]) = true := by decide +kernel
    have same : PyData.eqv (.list [.str "011 : 01 0", .str "11111110 : 1111111 1", .str "01 :"]) (.list [.str "011 : 01 0", .str "11111110 : 1111111 1", .str "01 :"]) = true := by decide +kernel
    exact s_ret (ev_is (ev_eqD left' right sh sh) (congrArg V.bl same)) fun H9 e9 => k H9
end
end K08
namespace K08
open PySem L2 Evl Gr ClX OwX OpX StX LamX LamY EXC ClK RdX StS EqT EnT SrtT StM
/-- a def of the text named x, its full name y, where it stands -/
structure FQ (K : PySem.W.Frag) (x y : Str) (st : Stmt) (f : Addr) : Prop where
  l : ∃ (oc : Value) (od : Option Addr) (kV doc pm : Value) (an : Option Addr) (cdv ct : Value) (osl : Array (Option Value)),
    K.lookup f = some ⟨oc, od, .func (PySem.W.fnOf x y (defArgs st) (defBody st) (defScope st) .none kV doc pm an cdv ct), osl⟩ ∧ PySem.W.codeIn K cdv y = true
  k : PySem.W.keepIn K (.ref f) = true
theorem FQ.fn {K : PySem.W.Frag} {x y : Str} {st : Stmt} {f : Addr} (h : FQ K x y st f) : ∃ fd, Fun K x y st f fd := by
  obtain ⟨oc, od, kV, doc, pm, an, cdv, ct, osl, h1, h2⟩ := h.l
  exact ⟨_, fun_mk h1 h2 h.k⟩
/-- .. with its code object at c, the table of which is at P -/
structure FC (K : PySem.W.Frag) (x : Str) (st : Stmt) (f c P : Addr) : Prop where
  l : ∃ (oc : Value) (od : Option Addr) (kV doc pm : Value) (an : Option Addr) (ct : Value) (osl : Array (Option Value)),
    K.lookup f = some ⟨oc, od, .func (PySem.W.fnOf x x (defArgs st) (defBody st) (defScope st) .none kV doc pm an (.ref c) ct), osl⟩ ∧ PySem.W.codeIn K (.ref c) x = true
  k : PySem.W.keepIn K (.ref f) = true
  t : ∃ (e : Value) (dd : Option Addr) (vs : Array Value) (sl : Array (Option Value)), K.lookup c = some ⟨e, dd, .fields vs, sl⟩ ∧ vs[11]? = some (.ref P)
theorem FC.fn {K : PySem.W.Frag} {x : Str} {st : Stmt} {f c P : Addr} (h : FC K x st f c P) : ∃ (kV doc pm : Value) (an : Option Addr) (ct : Value), FunC K x x st f (PySem.W.fnOf x x (defArgs st) (defBody st) (defScope st) .none kV doc pm an (.ref c) ct) c := by
  obtain ⟨oc, od, kV, doc, pm, an, ct, osl, h1, h2⟩ := h.l
  exact ⟨kV, doc, pm, an, ct, ⟨oc, od, kV, doc, pm, an, ct, osl, rfl, h1, h2⟩, h.k⟩
theorem FC.tab {K : PySem.W.Frag} {x : Str} {st : Stmt} {f c P : Addr} (h : FC K x st f c P) (a : PySem.W.nsIn K mainGlobals x = some (some (.ref f))) : PySem.W.tabIn K x = some (c, P) := by
  obtain ⟨oc, od, kV, doc, pm, an, ct, osl, h1, h2⟩ := h.l
  obtain ⟨e, dd, vs, sl, h3, h4⟩ := h.t
  unfold PySem.W.tabIn
  rw [a]
  show (match K.lookup f with
    | some ⟨_, _, .func fd, _⟩ => _
    | _ => none) = _
  rw [h1]
  show (match K.lookup c with
    | some ⟨_, _, .fields vs, _⟩ => _
    | _ => none) = _
  rw [h3]
  show (match (vs[11]? : Option Value) with
    | some (.ref P) => some (c, P)
    | _ => none) = _
  rw [h4]
theorem noTab {K : PySem.W.Frag} {h : Heap} {P : Addr} (X : K.In h) (n : PySem.W.noTabs K = true) (e : h.get? P = some { cls := .none, data := .fields #[] }) : K.lookup P = none := by
  cases z : K.lookup P with
  | none => rfl
  | some o =>
    have e2 := X _ _ z
    rw [e] at e2
    cases e2
    have h2 := List.all_eq_true.mp n (P, _) (PySem.W.mem_of_lookupK z)
    exact absurd (show false = true from h2) Bool.false_ne_true
theorem kit_self {K : PySem.W.Frag} {C : Addr} : PySem.W.kitOne K (.ref C) (.ref C) = some true := by
  unfold PySem.W.kitOne
  rw [if_pos (by simp)]
theorem kit_of_ty {K : PySem.W.Frag} {C : Addr} {t : String} (h : PySem.W.subIn K (.type t) (.ref C) = some false) (c : (PySem.W.clsIn K C).isSome = true) (ty : PySem.W.typeIn K (.ref C) = some (.type "type")) : PySem.W.kitOne K (.type t) (.ref C) = some false := by
  unfold PySem.W.kitOne PySem.W.kitCls
  rw [if_neg (by simp)]
  show (if ((PySem.W.clsIn K C).isSome && PySem.W.typeIn K (.ref C) == some (.type "type")) = true then PySem.W.subIn K (.type t) (.ref C) else none) = some false
  rw [if_pos (by rw [c, ty]; rfl)]
  exact h
theorem uniq_of {T : List (Addr × Str)} : (T.map Prod.fst).Nodup → ∀ {P : Addr} {x : Str}, (P, x) ∈ T → ∀ p ∈ T, p.1 = P → p.2 = x := by
  induction T with
  | nil => exact fun _ P x h => absurd h (by simp)
  | cons t T ih =>
    intro nd P x h p hp e
    rw [List.map_cons, List.nodup_cons] at nd
    rcases List.mem_cons.mp h with h | h <;> rcases List.mem_cons.mp hp with hp | hp
    · rw [hp, ← h]
    · exact absurd (List.mem_map.mpr ⟨p, hp, e.trans (congrArg Prod.fst h)⟩) nd.1
    · exact absurd (List.mem_map.mpr ⟨(P, x), h, (e.symm.trans (congrArg Prod.fst hp) : P = t.1)⟩) nd.1
    · exact ih nd.2 h p hp e
theorem first_of_ty {K : PySem.W.Frag} {C : Addr} {t : String} (h : PySem.W.subIn K (.type t) (.ref C) = some false) : PySem.W.notFirst K C (.type t) = true := by
  unfold PySem.W.notFirst
  rw [h]
  simp
theorem FunC.fn {K : PySem.W.Frag} {x qual : Str} {st : Stmt} {f c : Addr} {fd : FuncData} (F : FunC K x qual st f fd c) : Fun K x qual st f fd := by
  obtain ⟨oc, od, kV, doc, pm, an, ct, osl, rfl, lk, hcd⟩ := F.ex
  exact fun_mk lk hcd F.kp
theorem all3 {P : Addr → Prop} {a b c : Addr} (ha : P a) (hb : P b) (hc : P c) : ∀ x ∈ [a, b, c], P x := fun x hx => by
  rcases List.mem_cons.mp hx with h | hx
  · rw [h]
    exact ha
  · rcases List.mem_cons.mp hx with h | hx
    · rw [h]
      exact hb
    · rw [List.mem_singleton.mp hx]
      exact hc
theorem all_mk {l : PySem.W.OpenLaw} {w : World} {K : PySem.W.Frag} {h : Heap} {mg : Str → Option Value} {fa fSg fSw fWo fIp fCa fRw fPe fDr fPi fPl fGg fRt fHd fMd fMr fLi fDu fBt fTx cTx PTx fRr cRr PRr fLa cLa PLa mIn mEq mSt mSi mRd C pRd pSi B cR fR cT fT cM fM : Addr} {mc : Value} (X : K.In h) (G : h.Ns mainGlobals mg) (hfa : mg "law" = some (.ref fa)) (hTab : ∀ x, x ∈ (["_law_texts_right", "_law_refused_right", "law"] : List Str) → ∀ c P, PySem.W.tabIn K x = some (c, P) → PySem.W.CodeHd h c P ∧ h.get? P = some { cls := .none, data := .fields #[] })
    (aSg : PySem.W.nsIn K mainGlobals "is_signs" = some (some (.ref fSg)))
    (hSg : FQ K "is_signs" "is_signs" (top 3) fSg)
    (aSw : PySem.W.nsIn K mainGlobals "is_signs_within" = some (some (.ref fSw)))
    (hSw : FQ K "is_signs_within" "is_signs_within" (top 4) fSw)
    (aWo : PySem.W.nsIn K mainGlobals "words_of" = some (some (.ref fWo)))
    (hWo : FQ K "words_of" "words_of" (top 18) fWo)
    (aIp : PySem.W.nsIn K mainGlobals "is_pair" = some (some (.ref fIp)))
    (hIp : FQ K "is_pair" "is_pair" (top 21) fIp)
    (aCa : PySem.W.nsIn K mainGlobals "can_stand" = some (some (.ref fCa)))
    (hCa : FQ K "can_stand" "can_stand" (top 22) fCa)
    (aRw : PySem.W.nsIn K mainGlobals "rule_words" = some (some (.ref fRw)))
    (hRw : FQ K "rule_words" "rule_words" (top 23) fRw)
    (aPe : PySem.W.nsIn K mainGlobals "_law_pen" = some (some (.ref fPe)))
    (hPe : FQ K "_law_pen" "_law_pen" (top 26) fPe)
    (aDr : PySem.W.nsIn K mainGlobals "_law_draw" = some (some (.ref fDr)))
    (hDr : FQ K "_law_draw" "_law_draw" (top 27) fDr)
    (aPi : PySem.W.nsIn K mainGlobals "_law_pick" = some (some (.ref fPi)))
    (hPi : FQ K "_law_pick" "_law_pick" (top 28) fPi)
    (aPl : PySem.W.nsIn K mainGlobals "_law_plan" = some (some (.ref fPl)))
    (hPl : FQ K "_law_plan" "_law_plan" (top 29) fPl)
    (aGg : PySem.W.nsIn K mainGlobals "_law_signs" = some (some (.ref fGg)))
    (hGg : FQ K "_law_signs" "_law_signs" (top 30) fGg)
    (aRt : PySem.W.nsIn K mainGlobals "_law_rule_text" = some (some (.ref fRt)))
    (hRt : FQ K "_law_rule_text" "_law_rule_text" (top 31) fRt)
    (aHd : PySem.W.nsIn K mainGlobals "_law_heard" = some (some (.ref fHd)))
    (hHd : FQ K "_law_heard" "_law_heard" (top 32) fHd)
    (aMd : PySem.W.nsIn K mainGlobals "_law_made" = some (some (.ref fMd)))
    (hMd : FQ K "_law_made" "_law_made" (top 33) fMd)
    (aMr : PySem.W.nsIn K mainGlobals "_law_made_right" = some (some (.ref fMr)))
    (hMr : FQ K "_law_made_right" "_law_made_right" (top 34) fMr)
    (aLi : PySem.W.nsIn K mainGlobals "_law_is_signs" = some (some (.ref fLi)))
    (hLi : FQ K "_law_is_signs" "_law_is_signs" (top 35) fLi)
    (aDu : PySem.W.nsIn K mainGlobals "_law_due" = some (some (.ref fDu)))
    (hDu : FQ K "_law_due" "_law_due" (top 36) fDu)
    (aBt : PySem.W.nsIn K mainGlobals "_law_bent" = some (some (.ref fBt)))
    (hBt : FQ K "_law_bent" "_law_bent" (top 37) fBt)
    (aTx : PySem.W.nsIn K mainGlobals "_law_texts_right" = some (some (.ref fTx)))
    (hTx : FC K "_law_texts_right" (top 38) fTx cTx PTx)
    (aRr : PySem.W.nsIn K mainGlobals "_law_refused_right" = some (some (.ref fRr)))
    (hRr : FC K "_law_refused_right" (top 39) fRr cRr PRr)
    (aLa : PySem.W.nsIn K mainGlobals "law" = some (some (.ref fLa)))
    (hLa : FC K "law" (top 40) fLa cLa PLa)
    (nPP : ([PTx, PRr, PLa] : List Addr).Nodup)
    (hNT : PySem.W.noTabs K = true)
    (aC : PySem.W.nsIn K mainGlobals "FrameRule" = some (some (.ref C)))
    (rd : PySem.W.readsIn K C mc = true)
    (ga : PySem.W.specialIn K (.ref C) "__getattribute__" = some (some (.builtin "type.__getattribute__")))
    (cls : Cls K C)
    (nfl : NoAttr K C "flag")
    (npa : NoAttr K C "pairs")
    (makes : PySem.W.makesIn K C = true)
    (kC : PySem.W.keepIn K (.ref C) = true)
    (tRd : CMet K C mc "read" pRd mRd)
    (tSi : SMet K C mc "simple" pSi mSi)
    (aIn : PySem.W.findIn K (.ref C) "__init__" = some (some (.ref mIn)))
    (tIn : PySem.W.isFn K (.ref mIn) = true)
    (hIn : FQ K "__init__" "FrameRule.__init__" (sFr 0) mIn)
    (aEq : PySem.W.findIn K (.ref C) "__eq__" = some (some (.ref mEq)))
    (tEq : PySem.W.isFn K (.ref mEq) = true)
    (hEq : FQ K "__eq__" "FrameRule.__eq__" (sFr 8) mEq)
    (aSt : PySem.W.findIn K (.ref C) "__str__" = some (some (.ref mSt)))
    (tSt : PySem.W.isFn K (.ref mSt) = true)
    (hSt : FQ K "__str__" "FrameRule.__str__" (sFr 9) mSt)
    (hSi : FQ K "simple" "FrameRule.simple" (sFr 1) mSi)
    (hRd : FQ K "read" "FrameRule.read" (sFr 10) mRd)
    (sS : PySem.W.subIn K (.type "str") (.ref C) = some false)
    (tyC : PySem.W.typeIn K (.ref C) = some (.type "type"))
    (ne : PySem.W.findIn K (.ref C) "__ne__" = some (some (.builtin "object.__ne__")))
    (ob : PySem.W.mroIn K C (.type "object") = some true)
    (nf : PySem.W.notFirst K C (.ref C) = true)
    (cc : PySem.W.findIn K (.ref C) "__class__" = some (some (.builtin "object.__class__")))
    (cs : PySem.W.specialIn K (.builtin "object.__class__") "__get__" = some (some (.builtin "getset_descriptor.__get__")))
    (ct : PySem.W.takesIn K (.builtin "object.__class__") = some true)
    (gB : PySem.W.nsIn K mainGlobals "PostError" = some (some (.ref B)))
    (bB : PySem.W.subIn K (.ref B) (.type "BaseException") = some true)
    (dB : PySem.W.hasDictIn K B = true)
    (tyB : PySem.W.typeIn K (.ref B) = some (.type "type"))
    (xR : CF K "BadRule" "BadRule.__init__" (sCls 9) cR fR B)
    (xT : CF K "BadText" "BadText.__init__" (sCls 10) cT fT B)
    (xM : CF K "TooMany" "TooMany.__init__" (sCls 12) cM fM B)
    (xp : PySem.W.findIn K (.ref cR) "part" = some none)
    (xl : PySem.W.findIn K (.ref cT) "line" = some none)
    (xw : PySem.W.findIn K (.ref cT) "word" = some none)
    (xa : PySem.W.findIn K (.ref cM) "what" = some none)
    (xm : PySem.W.findIn K (.ref cM) "most" = some none)
    (n1 : cT ≠ cR)
    (n2 : cM ≠ cR)
    (n3 : cM ≠ cT)
    (nRB : cR ≠ B)
    (nTB : cT ≠ B)
    (nMB : cM ≠ B)
    (zm : ∃ t, PySem.W.nsIn K mainGlobals "MOST_PAIRS" = some (some (.int 4 t)))
    (z_isinstance : PySem.W.nsIn K mainGlobals "isinstance" = some (none))
    (z_int : PySem.W.nsIn K mainGlobals "int" = some (none))
    (z_bool : PySem.W.nsIn K mainGlobals "bool" = some (none))
    (z_str : PySem.W.nsIn K mainGlobals "str" = some (none))
    (z_len : PySem.W.nsIn K mainGlobals "len" = some (none))
    (z_abs : PySem.W.nsIn K mainGlobals "abs" = some (none))
    (z_list : PySem.W.nsIn K mainGlobals "list" = some (none))
    (z_range : PySem.W.nsIn K mainGlobals "range" = some (none))
    (z_tuple : PySem.W.nsIn K mainGlobals "tuple" = some (none))
    (z_divmod : PySem.W.nsIn K mainGlobals "divmod" = some (none))
    (z_enumerate : PySem.W.nsIn K mainGlobals "enumerate" = some (none))
    (z_set : PySem.W.nsIn K mainGlobals "set" = some (none))
    (z_sorted : PySem.W.nsIn K mainGlobals "sorted" = some (none))
    : LawAtS l w K CX0 11 63 "_law_script" mg fa h := by
  have eLa := hfa.symm.trans (PySem.W.mg_of X G aLa)
  cases eLa
  have gSg := PySem.W.mg_of X G aSg
  obtain ⟨dSg, FSg⟩ := hSg.fn
  have bSg : Binds K dSg ["value"] [] := FSg.binds fun _ _ _ _ _ _ us hl => match us, hl with | [_], _ => rfl
  have gSw := PySem.W.mg_of X G aSw
  obtain ⟨dSw, FSw⟩ := hSw.fn
  have bSw : Binds K dSw ["value", "least", "most"] [] := FSw.binds fun _ _ _ _ _ _ us hl => match us, hl with | [_, _, _], _ => rfl
  have gWo := PySem.W.mg_of X G aWo
  obtain ⟨dWo, FWo⟩ := hWo.fn
  have bWo : Binds K dWo ["text"] [] := FWo.binds fun _ _ _ _ _ _ us hl => match us, hl with | [_], _ => rfl
  have gIp := PySem.W.mg_of X G aIp
  obtain ⟨dIp, FIp⟩ := hIp.fn
  have bIp : Binds K dIp ["value"] [] := FIp.binds fun _ _ _ _ _ _ us hl => match us, hl with | [_], _ => rfl
  have gCa := PySem.W.mg_of X G aCa
  obtain ⟨dCa, FCa⟩ := hCa.fn
  have bCa : Binds K dCa ["words", "at"] [] := FCa.binds fun _ _ _ _ _ _ us hl => match us, hl with | [_, _], _ => rfl
  have gRw := PySem.W.mg_of X G aRw
  obtain ⟨dRw, FRw⟩ := hRw.fn
  have bRw : Binds K dRw ["flag", "pairs"] [] := FRw.binds fun _ _ _ _ _ _ us hl => match us, hl with | [_, _], _ => rfl
  have gPe := PySem.W.mg_of X G aPe
  obtain ⟨dPe, FPe⟩ := hPe.fn
  have bPe : Binds K dPe ["_law_script"] [] := FPe.binds fun _ _ _ _ _ _ us hl => match us, hl with | [_], _ => rfl
  have gDr := PySem.W.mg_of X G aDr
  obtain ⟨dDr, FDr⟩ := hDr.fn
  have bDr : Binds K dDr ["_law_pen_here", "_law_many"] [] := FDr.binds fun _ _ _ _ _ _ us hl => match us, hl with | [_, _], _ => rfl
  have gPi := PySem.W.mg_of X G aPi
  obtain ⟨dPi, FPi⟩ := hPi.fn
  have bPi : Binds K dPi ["_law_pen_here", "_law_some"] [] := FPi.binds fun _ _ _ _ _ _ us hl => match us, hl with | [_, _], _ => rfl
  have gPl := PySem.W.mg_of X G aPl
  obtain ⟨dPl, FPl⟩ := hPl.fn
  have bPl : Binds K dPl ["_law_pen_here"] [] := FPl.binds fun _ _ _ _ _ _ us hl => match us, hl with | [_], _ => rfl
  have gGg := PySem.W.mg_of X G aGg
  obtain ⟨dGg, FGg⟩ := hGg.fn
  have bGg : Binds K dGg ["_law_pen_here", "_law_many"] [] := FGg.binds fun _ _ _ _ _ _ us hl => match us, hl with | [_, _], _ => rfl
  have gRt := PySem.W.mg_of X G aRt
  obtain ⟨dRt, FRt⟩ := hRt.fn
  have bRt : Binds K dRt ["_law_plan_here"] [] := FRt.binds fun _ _ _ _ _ _ us hl => match us, hl with | [_], _ => rfl
  have gHd := PySem.W.mg_of X G aHd
  obtain ⟨dHd, FHd⟩ := hHd.fn
  have bHd : Binds K dHd ["_law_ask"] [] := FHd.binds fun _ _ _ _ _ _ us hl => match us, hl with | [_], _ => rfl
  have gMd := PySem.W.mg_of X G aMd
  obtain ⟨dMd, FMd⟩ := hMd.fn
  have bMd : Binds K dMd ["_law_flag", "_law_pairs"] [] := FMd.binds fun _ _ _ _ _ _ us hl => match us, hl with | [_, _], _ => rfl
  have gMr := PySem.W.mg_of X G aMr
  obtain ⟨dMr, FMr⟩ := hMr.fn
  have bMr : Binds K dMr ["_law_pen_here", "_law_plan_here"] [] := FMr.binds fun _ _ _ _ _ _ us hl => match us, hl with | [_, _], _ => rfl
  have gLi := PySem.W.mg_of X G aLi
  obtain ⟨dLi, FLi⟩ := hLi.fn
  have bLi : Binds K dLi ["_law_word", "_law_least", "_law_most"] [] := FLi.binds fun _ _ _ _ _ _ us hl => match us, hl with | [_, _, _], _ => rfl
  have gDu := PySem.W.mg_of X G aDu
  obtain ⟨dDu, FDu⟩ := hDu.fn
  have bDu : Binds K dDu ["_law_words"] [] := FDu.binds fun _ _ _ _ _ _ us hl => match us, hl with | [_], _ => rfl
  have gBt := PySem.W.mg_of X G aBt
  obtain ⟨dBt, FBt⟩ := hBt.fn
  have bBt : Binds K dBt ["_law_pen_here", "_law_text"] [] := FBt.binds fun _ _ _ _ _ _ us hl => match us, hl with | [_, _], _ => rfl
  have gTx := PySem.W.mg_of X G aTx
  obtain ⟨kVTx, docTx, pmTx, anTx, ctTx, FTx⟩ := hTx.fn
  obtain ⟨CTx, ETx⟩ := hTab "_law_texts_right" (by decide) _ _ (hTx.tab aTx)
  have bTx : Binds K _ ["_law_pen_here", "_law_plan_here"] [] := FTx.fn.binds fun _ _ _ _ _ _ us hl => match us, hl with | [_, _], _ => rfl
  have gRr := PySem.W.mg_of X G aRr
  obtain ⟨kVRr, docRr, pmRr, anRr, ctRr, FRr⟩ := hRr.fn
  obtain ⟨CRr, ERr⟩ := hTab "_law_refused_right" (by decide) _ _ (hRr.tab aRr)
  have bRr : Binds K _ ["_law_pen_here"] [] := FRr.fn.binds fun _ _ _ _ _ _ us hl => match us, hl with | [_], _ => rfl
  have gLa := PySem.W.mg_of X G aLa
  obtain ⟨kVLa, docLa, pmLa, anLa, ctLa, FLa⟩ := hLa.fn
  obtain ⟨CLa, ELa⟩ := hTab "law" (by decide) _ _ (hLa.tab aLa)
  obtain ⟨eIn, MIn⟩ := hIn.fn
  obtain ⟨eEq, MEq⟩ := hEq.fn
  have cEq : Binds K eEq ["self", "other"] [] := MEq.binds fun _ _ _ _ _ _ us hl => match us, hl with | [_, _], _ => rfl
  obtain ⟨eSt, MSt⟩ := hSt.fn
  have cSt : Binds K eSt ["self"] [] := MSt.binds fun _ _ _ _ _ _ us hl => match us, hl with | [_], _ => rfl
  obtain ⟨eSi, MSi⟩ := hSi.fn
  have cSi : Binds K eSi ["watch", "put"] [] := MSi.binds fun _ _ _ _ _ _ us hl => match us, hl with | [_, _], _ => rfl
  obtain ⟨eRd, MRd⟩ := hRd.fn
  have cRd : Binds K eRd ["cls", "text"] [] := MRd.binds fun _ _ _ _ _ _ us hl => match us, hl with | [_, _], _ => rfl
  have kRd : KBn K eRd ["cls", "text"] 1 ["text"] (fun us ws => us ++ ws) (fun vs zs => vs ++ zs) := MRd.kb 1 (fun us ws => us ++ ws) (fun r s => r.append s) fun _ _ _ _ _ _ us ws l1 l2 => match us, l1, ws, l2 with | [_], _, [_], _ => rfl
  have kSi : KBn K eSi ["watch", "put"] 0 ["put", "watch"] (fun us ws => ws.reverse) (fun vs zs => zs.reverse) := MSi.kb 0 (fun us ws => ws.reverse) (fun r s => s.reverse) fun _ _ _ _ _ _ us ws l1 l2 => match us, l1, ws, l2 with | [], _, [_, _], _ => rfl
  obtain ⟨dR, FR⟩ := xR.fn
  have bR : Binds K dR ["self", "part"] [] := FR.binds fun _ _ _ _ _ _ us hl => match us, hl with | [_, _], _ => rfl
  obtain ⟨dT, FT⟩ := xT.fn
  have bT : Binds K dT ["self", "line", "word"] [] := FT.binds fun _ _ _ _ _ _ us hl => match us, hl with | [_, _, _], _ => rfl
  obtain ⟨dM, FM⟩ := xM.fn
  have bM : Binds K dM ["self", "what", "most"] [] := FM.binds fun _ _ _ _ _ _ us hl => match us, hl with | [_, _, _], _ => rfl
  have m_isinstance := PySem.W.mg_none_of X G z_isinstance
  have m_int := PySem.W.mg_none_of X G z_int
  have m_bool := PySem.W.mg_none_of X G z_bool
  have m_str := PySem.W.mg_none_of X G z_str
  have m_len := PySem.W.mg_none_of X G z_len
  have m_abs := PySem.W.mg_none_of X G z_abs
  have m_list := PySem.W.mg_none_of X G z_list
  have m_range := PySem.W.mg_none_of X G z_range
  have m_tuple := PySem.W.mg_none_of X G z_tuple
  have m_divmod := PySem.W.mg_none_of X G z_divmod
  have m_enumerate := PySem.W.mg_none_of X G z_enumerate
  have m_set := PySem.W.mg_none_of X G z_set
  have m_sorted := PySem.W.mg_none_of X G z_sorted
  have TT : GlbT mg := ⟨m_isinstance, m_int, m_bool, m_str, m_len⟩
  have TS : GlbS mg := ⟨m_len, m_range, m_tuple, m_list⟩
  have TG : Glb mg := ⟨m_int, m_abs, m_len, m_list⟩
  have TD : GlbD mg := ⟨zm.imp fun _ e => PySem.W.mg_of X G e, m_divmod⟩
  have TI : GlbI mg := ⟨m_enumerate, m_set, m_sorted⟩
  have N : FName K mg C mc := ⟨PySem.W.mg_of X G aC, ⟨rd, ga⟩⟩
  have GC : FCls K C := ⟨cls, nfl, npa⟩
  have isC : (PySem.W.clsIn K C).isSome = true := by
    obtain ⟨cd, hc, _⟩ := PySem.W.any_some cls.hd
    rw [hc]
    rfl
  have GI : FIsi K C := ⟨cc, cs, ct, ob, kit_self⟩
  have M : Mk K C mIn := ⟨makes, aIn, tIn, kC⟩
  have CGK : CG K := ⟨cs, ct⟩
  have HK : HdK K mg B cR cT cM := ⟨PySem.W.mg_of X G gB, PySem.W.mg_of X G xR.b.aC, PySem.W.mg_of X G xT.b.aC, PySem.W.mg_of X G xM.b.aC, m_isinstance, m_len, all3 (xR.b.caught bB dB tyB) (xT.b.caught bB dB tyB) (xM.b.caught bB dB tyB),
    all3 (all3 (xR.b.kit xR.b nRB) (xR.b.kit xT.b nTB) (xR.b.kit xM.b nMB)) (all3 (xT.b.kit xR.b nRB) (xT.b.kit xT.b nTB) (xT.b.kit xM.b nMB)) (all3 (xM.b.kit xR.b nRB) (xM.b.kit xT.b nTB) (xM.b.kit xM.b nMB)), n1, n2, n3, all3 (xR.b.xc CGK) (xT.b.xc CGK) (xM.b.xc CGK), xp, xl, xw, xa, xm⟩
  refine ⟨PySem.W.fnOf "law" "law" (defArgs sLaw) (defBody sLaw) (defScope sLaw) .none kVLa docLa pmLa anLa (.ref cLa) ctLa, [(cTx, PTx), (cRr, PRr), (cLa, PLa)], spLaw K [(PTx, qTR), (PRr, qRR), (PLa, qLaw)], ?_, ?_, ?_, fun s v => .of_eq rfl, ?_, fun base _ _ TB => ?_⟩
  · intro p hp
    simp only [List.mem_cons, List.not_mem_nil, or_false] at hp
    rcases hp with rfl | rfl | rfl
    · exact ETx
    · exact ERr
    · exact ELa
  · intro p hp
    simp only [List.mem_cons, List.not_mem_nil, or_false] at hp
    rcases hp with rfl | rfl | rfl
    · exact noTab X hNT ETx
    · exact noTab X hNT ERr
    · exact noTab X hNT ELa
  · intro p hp
    simp only [List.mem_cons, List.not_mem_nil, or_false] at hp
    rcases hp with rfl | rfl | rfl
    · exact CTx
    · exact CRr
    · exact CLa
  · intro H a ns hl _ hH hS
    refine ⟨a, ns, rfl, hS, hl, fun p hp => ?_, fun _ => rfl⟩
    simp only [List.mem_cons, List.not_mem_nil, or_false] at hp
    rcases hp with rfl | rfl | rfl
    · exact .nil (hH _ (List.mem_cons_self ..))
    · exact .nil (hH _ (List.mem_cons_of_mem _ (List.mem_cons_self ..)))
    · exact .nil (hH _ (List.mem_cons_of_mem _ (List.mem_cons_of_mem _ (List.mem_cons_self ..))))
  have TB1 := TB (cTx, PTx) (by simp)
  have TB2 := TB (cRr, PRr) (by simp)
  have TB3 := TB (cLa, PLa) (by simp)
  have ND : (([(PTx, qTR), (PRr, qRR), (PLa, qLaw)] : List (Addr × Str)).map Prod.fst).Nodup := nPP
  have i1 : (PTx, qTR) ∈ ([(PTx, qTR), (PRr, qRR), (PLa, qLaw)] : List (Addr × Str)) := List.mem_cons_self ..
  have i2 : (PRr, qRR) ∈ ([(PTx, qTR), (PRr, qRR), (PLa, qLaw)] : List (Addr × Str)) := List.mem_cons_of_mem _ (List.mem_cons_self ..)
  have i3 : (PLa, qLaw) ∈ ([(PTx, qTR), (PRr, qRR), (PLa, qLaw)] : List (Addr × Str)) := List.mem_cons_of_mem _ (List.mem_cons_of_mem _ (List.mem_cons_self ..))
  have BR : GOne l.prog w K mg base "BadRule" "part" cR fR dR := ⟨xR.b.ox, xR.a1, xR.t1, ok_I1 xR FR ⟨rfl, rfl, rfl, by decide +kernel, rfl, by decide +kernel, by decide +kernel⟩ rfl rfl rfl (by decide +kernel) (by decide +kernel) xp, bR, PySem.W.mg_of X G xR.b.aC⟩
  have BT : GTwo l.prog w K mg base "BadText" "line" "word" cT fT dT := ⟨xT.b.ox, xT.a1, xT.t1, ok_I2 xT FT ⟨rfl, rfl, rfl, by decide +kernel, rfl, by decide +kernel, by decide +kernel⟩ rfl rfl rfl rfl (by decide +kernel) (by decide +kernel) (by decide +kernel) (by decide +kernel) xl xw, bT, PySem.W.mg_of X G xT.b.aC⟩
  have BM : GTwo l.prog w K mg base "TooMany" "what" "most" cM fM dM := ⟨xM.b.ox, xM.a1, xM.t1, ok_I2 xM FM ⟨rfl, rfl, rfl, by decide +kernel, rfl, by decide +kernel, by decide +kernel⟩ rfl rfl rfl rfl (by decide +kernel) (by decide +kernel) (by decide +kernel) (by decide +kernel) xa xm, bM, PySem.W.mg_of X G xM.b.aC⟩
  have oSg : FnOk l.prog w K mg base CX0 1 fSg dSg ["value"] (spSigns K) := ok_signs FSg TT
  have GSg : Gfn l.prog w K mg base 1 "is_signs" ["value"] (spSigns K) := ⟨_, _, oSg, hSg.k, bSg, gSg⟩
  have oSw : FnOk l.prog w K mg base CX0 2 fSw dSw ["value", "least", "most"] (spSignsW K) := ok_signsW FSw TT FSg bSg gSg
  have GSw : Gfn l.prog w K mg base 2 "is_signs_within" ["value", "least", "most"] (spSignsW K) := ⟨_, _, oSw, hSw.k, bSw, gSw⟩
  have oIp : FnOk l.prog w K mg base CX0 3 fIp dIp ["value"] (spIsP K) := ok_IsP FIp TT TS GSw
  have GIp : Gfn l.prog w K mg base 3 "is_pair" ["value"] (spIsP K) := ⟨_, _, oIp, hIp.k, bIp, gIp⟩
  have oCa : FnOk l.prog w K mg base CX0 3 fCa dCa ["words", "at"] (spCan K) := ok_Can FCa TD GSw
  have GCa : Gfn l.prog w K mg base 3 "can_stand" ["words", "at"] (spCan K) := ⟨_, _, oCa, hCa.k, bCa, gCa⟩
  have oIn : FnR l.prog w K mg base (L2.CX l.prog w) 4 mIn (spInitA K C cR cM) := ok_Init (mc := mc) MIn GC TT TS TD TI BR BM GSw GIp
  have oInK : Kw1 l.prog w K mg base (L2.CX l.prog w) 4 mIn "flag" (spInit K C cR cM) := ok_InitK (mc := mc) MIn GC TT TS TD TI BR BM GSw GIp
  have oRw : FnOk l.prog w K mg base CX0 1 fRw dRw ["flag", "pairs"] (spRw K) := ok_Rw FRw TI
  have GRw : Gfn l.prog w K mg base 1 "rule_words" ["flag", "pairs"] (spRw K) := ⟨_, _, oRw, hRw.k, bRw, gRw⟩
  have oEq : FnOk l.prog w K mg base CX0 1 mEq eEq ["self", "other"] (spEq K C) := ok_Eq MEq N GC GI m_isinstance
  have oSt : FnOk l.prog w K mg base CX0 2 mSt eSt ["self"] (spStr K C) := ok_Str MSt GC GRw
  have oSi : FnOk l.prog w K mg base (L2.CX l.prog w) 6 mSi eSi ["watch", "put"] (spSim K C cR) := ok_Sim MSi N M oIn BR GSw
  have oWo : FnOk l.prog w K mg base (L2.CX l.prog w) 3 fWo dWo ["text"] (spWo K cT) := ok_Wo FWo TT BT
  have oRd : FnOk l.prog w K mg base (L2.CX l.prog w) 6 mRd eRd ["cls", "text"] (spRead K C cT) := ok_Read (mc := mc) MRd TT TS M oIn BT oWo hWo.k bWo gWo GCa
  have oLi : FnOk l.prog w K mg base CX0 1 fLi dLi ["_law_word", "_law_least", "_law_most"] (spLis) := ok_Lis FLi TT
  have GLi : Gfn l.prog w K mg base 1 "_law_is_signs" ["_law_word", "_law_least", "_law_most"] (spLis) := ⟨_, _, oLi, hLi.k, bLi, gLi⟩
  have oRt : FnOk l.prog w K mg base CX0 1 fRt dRt ["_law_plan_here"] (spRt) := ok_Rt FRt
  have GRt : Gfn l.prog w K mg base 1 "_law_rule_text" ["_law_plan_here"] (spRt) := ⟨_, _, oRt, hRt.k, bRt, gRt⟩
  have oMd : FnOk l.prog w K mg base CX0 6 fMd dMd ["_law_flag", "_law_pairs"] (spMd K C) := ok_Md FMd N TT M oIn
  have GMd : Gfn l.prog w K mg base 6 "_law_made" ["_law_flag", "_law_pairs"] (spMd K C) := ⟨_, _, oMd, hMd.k, bMd, gMd⟩
  have oDu : FnOk l.prog w K mg base CX0 2 fDu dDu ["_law_words"] (spDue K) := ok_Due FDu TT GLi
  have GDu : Gfn l.prog w K mg base 2 "_law_due" ["_law_words"] (spDue K) := ⟨_, _, oDu, hDu.k, bDu, gDu⟩
  have oPe : FnOk l.prog w K mg base CX0 1 fPe dPe ["_law_script"] (spPen K) := ok_pen FPe TG
  have GPe : Gfn l.prog w K mg base 1 "_law_pen" ["_law_script"] (spPen K) := ⟨_, _, oPe, hPe.k, bPe, gPe⟩
  have oDr : FnOk l.prog w K mg base CX0 1 fDr dDr ["_law_pen_here", "_law_many"] (spDraw) := ok_draw FDr TG
  have GDr : Gfn l.prog w K mg base 1 "_law_draw" ["_law_pen_here", "_law_many"] (spDraw) := ⟨_, _, oDr, hDr.k, bDr, gDr⟩
  have oPi : FnOk l.prog w K mg base CX0 2 fPi dPi ["_law_pen_here", "_law_some"] (spPick) := ok_pick FPi TG FDr bDr gDr
  have GPi : Gfn l.prog w K mg base 2 "_law_pick" ["_law_pen_here", "_law_some"] (spPick) := ⟨_, _, oPi, hPi.k, bPi, gPi⟩
  have oPz : FnOk l.prog w K mg base CX0 2 fPi dPi ["_law_pen_here", "_law_some"] (spPickS) := ok_pickS FPi TG FDr bDr gDr
  have GPz : Gfn l.prog w K mg base 2 "_law_pick" ["_law_pen_here", "_law_some"] (spPickS) := ⟨_, _, oPz, hPi.k, bPi, gPi⟩
  have oGg : FnOk l.prog w K mg base CX0 3 fGg dGg ["_law_pen_here", "_law_many"] (spSg) := ok_Sg FGg TS GPz
  have GGg : Gfn l.prog w K mg base 3 "_law_signs" ["_law_pen_here", "_law_many"] (spSg) := ⟨_, _, oGg, hGg.k, bGg, gGg⟩
  have oPl : FnOk l.prog w K mg base CX0 4 fPl dPl ["_law_pen_here"] (spPlan) := ok_Plan FPl TT TS TI oDr hDr.k bDr gDr GPi GPz GGg
  have GPl : Gfn l.prog w K mg base 4 "_law_plan" ["_law_pen_here"] (spPlan) := ⟨_, _, oPl, hPl.k, bPl, gPl⟩
  have oBt : FnOk l.prog w K mg base CX0 3 fBt dBt ["_law_pen_here", "_law_text"] (spBent) := ok_Bent FBt TT TS oDr hDr.k bDr gDr GPi
  have GBt : Gfn l.prog w K mg base 3 "_law_bent" ["_law_pen_here", "_law_text"] (spBent) := ⟨_, _, oBt, hBt.k, bBt, gBt⟩
  have OO : FOps l.prog w K mg base C cT mIn mEq mSt mRd pRd mc eRd := ⟨⟨aEq, tEq⟩, fnR0 oEq cEq, ne, ob, nf, first_of_ty sS, kit_of_ty sS isC tyC, ⟨aSt, tSt⟩, fnR0 oSt cSt, tRd, oRd, kRd, cRd⟩
  have oMr : FnOk l.prog w K mg base CX0 8 fMr dMr ["_law_pen_here", "_law_plan_here"] (spMR) := ok_MR FMr N GC TT TS OO oDr hDr.k bDr gDr GMd GRt
  have GMr : Gfn l.prog w K mg base 8 "_law_made_right" ["_law_pen_here", "_law_plan_here"] (spMR) := ⟨_, _, oMr, hMr.k, bMr, gMr⟩
  have oTx := ok_TR (p0 := B) (P := l.prog) (w := w) (T := [(PTx, qTR), (PRr, qRR), (PLa, qLaw)]) FTx TB1 i1 (uniq_of ND i1) N TT TS HK FHd bHd gHd OO GPi GBt GRt GDu
  have oRr := ok_RR (P := l.prog) (w := w) (T := [(PTx, qTR), (PRr, qRR), (PLa, qLaw)]) FRr TB2 i2 (uniq_of ND i2) N HK FHd bHd gHd M oIn tSi oSi cSi GPi
  exact ok_Law (T := [(PTx, qTR), (PRr, qRR), (PLa, qLaw)]) FLa TB3 i3 (uniq_of ND i3) N TT TS HK FHd bHd gHd OO M oIn oInK tSi oSi cSi kSi GPe GPl GMr ⟨_, _, oTx, hTx.k, bTx, gTx⟩ ⟨_, _, oRr, hRr.k, bRr, gRr⟩
end K08
namespace LamX
open PySem PySem.Spec PyProof.Rows L2
/-- the walk where two defs of the text make code objects: what stands at their tables is told -/
theorem walk_two {l : PySem.W.OpenLaw} {n k : Nat} {q : Program} {loose : List Str} {XP : (Str → Option Value) → Heap → Prop} {YP : World → Heap → Prop} {d : DefRec} {K : Params → PySem.W.Frag} {CX : World → CXT} {x : Str} {xs : List Str}
    (hn : l.most = some n) (hn2 : n ≤ sizeLine) (hdf : d.params.defaults = []) (hr : Room k callerA) (hrec : ∀ y ∈ xs, ((recsOf q).any fun e => e.name == y) = true) (hY : ∀ (w : World) (h : Heap), YP w h → (K w.params).In h)
    (F : ∀ (w : World) (mg : Str → Option Value) (fa : Addr) (h : Heap), YP w h → (K w.params).In h → h.Ns mainGlobals mg → mg d.name = some (.ref fa) → (∀ y, y ∈ xs → ∀ c P, PySem.W.tabIn (K w.params) y = some (c, P) → PySem.W.CodeHd h c P ∧ h.get? P = some { cls := .none, data := .fields #[] }) → LawAtS l w (K w.params) (CX w) k n x mg fa h)
    (hCX : ∀ (w : World) (H : Hp) (s : Shared) (e : Value) (s' : Shared), CX w [] H s (fun _ _ _ => False) e s' → False) :
    PySem.W.WalkO q loose XP YP l.row.toRowW d [] (fun f vs => PySem.call f vs) := by
  refine Att.attach_callB hn hdf fun w s₀ s₁ mg mb fa o pm cd doc a vs ns G Y ho hd hcd hmg hobj hints hlen hbits hg => ?_
  have KX := hY w _ Y
  obtain ⟨fd, cs, sp, hT, nT, C, hb, hsp, hF⟩ := F w mg fa _ Y KX G.T.g hmg fun y hy c P ht => by
    cases z : (recsOf q).find? (fun e => e.name == y) with
    | none =>
      obtain ⟨dL, hm, hn1⟩ := List.any_eq_true.mp (hrec y hy)
      exact absurd hn1 (List.find?_eq_none.mp z dL hm)
    | some dL => exact PySem.W.tab_of G.T KX z ht
  exact law_callTs KX G.T.g G.T.b G.T.builtins G.T.nolimit hg hT nT C G.T.bmain hobj hints (Nat.le_trans hlen hn2) hr hF hb (fun H hH hS => hsp H a ns hlen hbits hH hS) fun H e s' => hCX w H s₁ e s'
end LamX
open PySem PySem.W PyProof.Rows
set_option maxRecDepth 100000 in
set_option maxHeartbeats 0 in
theorem PySem.Challenge.cw_layerpost_k08_frame_rules_made_and_read_holds : PySem.Challenge.rw_layerpost_k08_frame_rules_made_and_read.Holds := by
  w_on; o_law; k_head; (case hw => w_witness2)
  k_fill
  refine LamX.walk_two (l := PySem.Challenge.rw_layerpost_k08_frame_rules_made_and_read) (n := 63) (k := 11) (x := "_law_script") (xs := ["_law_texts_right", "_law_refused_right", "law"]) (CX := fun _ => L2.CX0) rfl (by decide) rfl ⟨rfl, by decide, by decide⟩ ?R (fun w h Y => PySem.W.km_in_of Y) ?F (fun _ _ _ _ _ z => z)
  case R =>
    intro y hy
    simp only [List.mem_cons, List.not_mem_nil, or_false] at hy
    rcases hy with rfl | rfl | rfl <;> decide +kernel
  case F =>
    intro w mg fa h _ KX G hmg hTab
    refine' K08.all_mk KX G hmg hTab ?qaSg ?qhSg ?qaSw ?qhSw ?qaWo ?qhWo ?qaIp ?qhIp ?qaCa ?qhCa ?qaRw ?qhRw ?qaPe ?qhPe ?qaDr ?qhDr ?qaPi ?qhPi ?qaPl ?qhPl ?qaGg ?qhGg ?qaRt ?qhRt ?qaHd ?qhHd ?qaMd ?qhMd ?qaMr ?qhMr ?qaLi ?qhLi ?qaDu ?qhDu ?qaBt ?qhBt ?qaTx ?qhTx ?qaRr ?qhRr ?qaLa ?qhLa ?qnPP ?qhNT ?qaC ?qrd ?qga ?qcls ?qnfl ?qnpa ?qmakes ?qkC ?qtRd ?qtSi ?qaIn ?qtIn ?qhIn ?qaEq ?qtEq ?qhEq ?qaSt ?qtSt ?qhSt ?qhSi ?qhRd ?qsS ?qtyC ?qne ?qob ?qnf ?qcc ?qcs ?qct ?qgB ?qbB ?qdB ?qtyB ?qxR ?qxT ?qxM ?qxp ?qxl ?qxw ?qxa ?qxm ?qn1 ?qn2 ?qn3 ?qnRB ?qnTB ?qnMB ?qzm ?qz_isinstance ?qz_int ?qz_bool ?qz_str ?qz_len ?qz_abs ?qz_list ?qz_range ?qz_tuple ?qz_divmod ?qz_enumerate ?qz_set ?qz_sorted
    (case qaSg => k_is)
    (case qhSg => exact ⟨⟨_, _, _, _, _, _, _, _, _, by k_is, by k_is⟩, by k_is⟩)
    (case qaSw => k_is)
    (case qhSw => exact ⟨⟨_, _, _, _, _, _, _, _, _, by k_is, by k_is⟩, by k_is⟩)
    (case qaWo => k_is)
    (case qhWo => exact ⟨⟨_, _, _, _, _, _, _, _, _, by k_is, by k_is⟩, by k_is⟩)
    (case qaIp => k_is)
    (case qhIp => exact ⟨⟨_, _, _, _, _, _, _, _, _, by k_is, by k_is⟩, by k_is⟩)
    (case qaCa => k_is)
    (case qhCa => exact ⟨⟨_, _, _, _, _, _, _, _, _, by k_is, by k_is⟩, by k_is⟩)
    (case qaRw => k_is)
    (case qhRw => exact ⟨⟨_, _, _, _, _, _, _, _, _, by k_is, by k_is⟩, by k_is⟩)
    (case qaPe => k_is)
    (case qhPe => exact ⟨⟨_, _, _, _, _, _, _, _, _, by k_is, by k_is⟩, by k_is⟩)
    (case qaDr => k_is)
    (case qhDr => exact ⟨⟨_, _, _, _, _, _, _, _, _, by k_is, by k_is⟩, by k_is⟩)
    (case qaPi => k_is)
    (case qhPi => exact ⟨⟨_, _, _, _, _, _, _, _, _, by k_is, by k_is⟩, by k_is⟩)
    (case qaPl => k_is)
    (case qhPl => exact ⟨⟨_, _, _, _, _, _, _, _, _, by k_is, by k_is⟩, by k_is⟩)
    (case qaGg => k_is)
    (case qhGg => exact ⟨⟨_, _, _, _, _, _, _, _, _, by k_is, by k_is⟩, by k_is⟩)
    (case qaRt => k_is)
    (case qhRt => exact ⟨⟨_, _, _, _, _, _, _, _, _, by k_is, by k_is⟩, by k_is⟩)
    (case qaHd => k_is)
    (case qhHd => exact ⟨⟨_, _, _, _, _, _, _, _, _, by k_is, by k_is⟩, by k_is⟩)
    (case qaMd => k_is)
    (case qhMd => exact ⟨⟨_, _, _, _, _, _, _, _, _, by k_is, by k_is⟩, by k_is⟩)
    (case qaMr => k_is)
    (case qhMr => exact ⟨⟨_, _, _, _, _, _, _, _, _, by k_is, by k_is⟩, by k_is⟩)
    (case qaLi => k_is)
    (case qhLi => exact ⟨⟨_, _, _, _, _, _, _, _, _, by k_is, by k_is⟩, by k_is⟩)
    (case qaDu => k_is)
    (case qhDu => exact ⟨⟨_, _, _, _, _, _, _, _, _, by k_is, by k_is⟩, by k_is⟩)
    (case qaBt => k_is)
    (case qhBt => exact ⟨⟨_, _, _, _, _, _, _, _, _, by k_is, by k_is⟩, by k_is⟩)
    (case qaTx => k_is)
    (case qhTx => exact ⟨⟨_, _, _, _, _, _, _, _, by k_is, by k_is⟩, by k_is, ⟨_, _, _, _, by k_is, rfl⟩⟩)
    (case qaRr => k_is)
    (case qhRr => exact ⟨⟨_, _, _, _, _, _, _, _, by k_is, by k_is⟩, by k_is, ⟨_, _, _, _, by k_is, rfl⟩⟩)
    (case qaLa => k_is)
    (case qhLa => exact ⟨⟨_, _, _, _, _, _, _, _, by k_is, by k_is⟩, by k_is, ⟨_, _, _, _, by k_is, rfl⟩⟩)
    (case qnPP => decide +kernel)
    (case qhNT => kernel_rfl)
    (case qaC => k_is)
    (case qrd => exact (show PySem.W.readsIn _ _ (.type "type") = true by k_is))
    (case qga => k_is)
    (case qcls => exact ⟨by k_is, by k_is, by k_is, by k_is⟩)
    (case qnfl => exact (by unfold L2.NoAttr; k_is))
    (case qnpa => exact (by unfold L2.NoAttr; k_is))
    (case qmakes => k_is)
    (case qkC => k_is)
    (case qtRd => exact ⟨by k_is, ⟨_, by k_is⟩, by k_is⟩)
    (case qtSi => exact ⟨by k_is, ⟨_, by k_is⟩, by k_is⟩)
    (case qaIn => k_is)
    (case qtIn => k_is)
    (case qhIn => exact ⟨⟨_, _, _, _, _, _, _, _, _, by k_is, by k_is⟩, by k_is⟩)
    (case qaEq => k_is)
    (case qtEq => k_is)
    (case qhEq => exact ⟨⟨_, _, _, _, _, _, _, _, _, by k_is, by k_is⟩, by k_is⟩)
    (case qaSt => k_is)
    (case qtSt => k_is)
    (case qhSt => exact ⟨⟨_, _, _, _, _, _, _, _, _, by k_is, by k_is⟩, by k_is⟩)
    (case qhSi => exact ⟨⟨_, _, _, _, _, _, _, _, _, by k_is, by k_is⟩, by k_is⟩)
    (case qhRd => exact ⟨⟨_, _, _, _, _, _, _, _, _, by k_is, by k_is⟩, by k_is⟩)
    (case qsS => k_is)
    (case qtyC => k_is)
    (case qne => k_is)
    (case qob => k_is)
    (case qnf => k_is)
    (case qcc => k_is)
    (case qcs => k_is)
    (case qct => k_is)
    (case qgB => k_is)
    (case qbB => k_is)
    (case qdB => k_is)
    (case qtyB => k_is)
    (case qxR => exact ⟨⟨by k_is, ⟨_, _, _, _, _, _, _, _, _, _, _, _, _, _, by k_is⟩, by k_is, by k_is, by k_is, by k_is, by k_is, by k_is⟩, by k_is, ⟨_, _, _, _, _, _, _, _, _, by k_is, by k_is⟩, by k_is, by k_is⟩)
    (case qxT => exact ⟨⟨by k_is, ⟨_, _, _, _, _, _, _, _, _, _, _, _, _, _, by k_is⟩, by k_is, by k_is, by k_is, by k_is, by k_is, by k_is⟩, by k_is, ⟨_, _, _, _, _, _, _, _, _, by k_is, by k_is⟩, by k_is, by k_is⟩)
    (case qxM => exact ⟨⟨by k_is, ⟨_, _, _, _, _, _, _, _, _, _, _, _, _, _, by k_is⟩, by k_is, by k_is, by k_is, by k_is, by k_is, by k_is⟩, by k_is, ⟨_, _, _, _, _, _, _, _, _, by k_is, by k_is⟩, by k_is, by k_is⟩)
    (case qxp => k_is)
    (case qxl => k_is)
    (case qxw => k_is)
    (case qxa => k_is)
    (case qxm => k_is)
    (case qn1 => decide +kernel)
    (case qn2 => decide +kernel)
    (case qn3 => decide +kernel)
    (case qnRB => decide +kernel)
    (case qnTB => decide +kernel)
    (case qnMB => decide +kernel)
    (case qzm => exact ⟨_, by k_is⟩)
    (case qz_isinstance => k_is)
    (case qz_int => k_is)
    (case qz_bool => k_is)
    (case qz_str => k_is)
    (case qz_len => k_is)
    (case qz_abs => k_is)
    (case qz_list => k_is)
    (case qz_range => k_is)
    (case qz_tuple => k_is)
    (case qz_divmod => k_is)
    (case qz_enumerate => k_is)
    (case qz_set => k_is)
    (case qz_sorted => k_is)
