import PyProof.Rows.All
import Wide.All
import OpenK.AllK
import Wide.FinOn
import HandS.ForMost
import HandS.Codes
import PyProof.ReprRoads
import HandS.Star
import HandS.SlotsOwn
import HandS.OwnEq
import KE.KOpsOwn
import HandS.ClsMeth
import HandS.Defaults
import HandS.RaiseMore
import KE.KCallOwn
import HandS.Evl
import HandS.Wide
import HandS.IsInst
import HandS.StrMore
import HandS.TupAny
import HandS.Conv
import HandS.Walk
import HandS.Gcd
import KE.KMathGC
import PyProof.AssignAttr
import HandS.Style
import HandS.MakeKwOnly
import HandS.MakeKw
import PySem.Challenge.RW_layerpost_k01_growths_made_and_asked
set_option Elab.async false
set_option linter.all false
set_option maxRecDepth 100000
set_option maxHeartbeats 8000000
namespace L2
open PySem PySem.Spec PyProof.Rows
/-! ### defs that are called where no repr runs (the law, and what it calls): FnG -/
def Qt (A : Around) : Prop := A.guards = some []
theorem Qt.deeper {A : Around} (h : Qt A) (env : Env) : Qt (A.deeper env) := h
structure FnG (P : Program) (w : World) (K : PySem.W.Frag) (mg : Str → Option Value) (base : Heap) (k : Nat) (f : Addr) (fd : FuncData) (ps : List Str) (sp : Sp) : Prop where
  len : ∀ vs H Q E, sp vs H Q E → vs.length = ps.length
  run : ∀ (A : Around) (outer : List Env) (s : Shared) (H : Hp) (args : Args) (us : List Value) (vs : List V) (Q : VK) (E : XK), Qt A → Room k A → Env0 P w K mg base A outer s H → BindsTo s fd args (ps.zip us) → Vals vs us → sp vs H Q E →
    codeAny (model P w) A (.call (.ref f) args) (CR CX0 outer P w H s Q E) s
/-- a def whose body is walked where no repr runs -/
theorem fnG_of {P : Program} {w : World} {K : PySem.W.Frag} {mg : Str → Option Value} {base : Heap} {k : Nat} {f : Addr} {fd : FuncData} {x qual : Str} {st : Stmt} {N ps : List Str} {sp : Sp} (F : Fun K x qual st f fd) (S : FnScope N ps (defScope st))
    (len : ∀ vs H Q E, sp vs H Q E → vs.length = ps.length)
    (hbody : ∀ (cdv : Value) (A : Around) (outer : List Env) (s : Shared) (H : Hp) (vs : List V) (Q : VK) (E : XK), Qt A → Room k (A.deeper (envOfC qual (defScope st) s.heap.objs.size f cdv)) → sp vs H Q E →
      ∃ t, PSs (cxOf CX0 P w K mg base N qual (defScope st) f cdv A outer s H E).nox (defBody st) t ∧ t { nx := fun _ H' => Q .non H', rt := Q } (start N vs) H) : FnG P w K mg base (k + 1) f fd ps sp := by
  obtain ⟨oc, od, kV, doc, pm, an, cdv, ct, osl, rfl, lk, hcd⟩ := F.ex
  refine ⟨len, fun A outer s H args us vs Q E gd room e0 bound rel hsp => ?_⟩
  obtain ⟨t, ht, hq⟩ := hbody cdv A outer s H vs Q E gd (room.deeper _) hsp
  have many := len _ _ _ _ hsp
  have inK : K.In s.heap := e0.mod.kin.keeps fun b o e => (e0.bs b o e).1
  have free : s.heap.NoLimit := e0.mod.nolimit.keeps fun b o e => (e0.bs b o e).1
  refine codeAny_call_function room.depth (inK _ _ lk) rfl S.co S.gen rfl (PySem.W.codeRec_of inK hcd) (bound _ _ _ _ ?_)
  have kinds : ∀ y ∈ ps.zip us, (defScope st).names.lookup y.1 = some .local ∨ ((defScope st).names.lookup y.1 = some .cell ∧ ((cellsFrom (s.heap.objs.size + 1) (defScope st).names []).lookup y.1).isSome = true) := by
    rintro ⟨n, v⟩ hy
    exact (S.par n (List.of_mem_zip hy).1).imp id fun q => ⟨q, PySem.W.cellsFrom_some _ _ _ (.inl q)⟩
  refine wpAny_newFunctionEnv_cells S.kind kinds fun env he s1 x => ?_
  cases he
  refine ⟨free.keeps x.toInCall.keep, codeAny_func ?_⟩
  refine wpAny_mono (ht.nox.run [] s1 (start N vs) H _ (inv_start S room.hd e0 many rel x) hq) (fun fl s' hs => ?_) fun e s' hs => hs
  cases fl with
  | ret u =>
    obtain ⟨v, σ', H', J, rv, q⟩ := hs
    exact ⟨v, H', J.os, J.bare, J.base, J.hok, rv, q⟩
  | next =>
    obtain ⟨σ', H', J, q⟩ := hs
    exact ⟨V.non, H', J.os, J.bare, J.base, J.hok, rfl, q⟩
  | brk => exact (hs.choose_spec.choose_spec.2).elim
  | cont => exact (hs.choose_spec.choose_spec.2).elim
section
variable {X : Cx} {k : Nat} {f : Addr} {fd : FuncData} {ps : List Str} {sp : Sp} {x : Str} {p pos : Pos} {e : Expr} {es : List Expr} {t : TA}
theorem pe_callG (F : FnG X.prog X.w X.K X.mg X.base k f fd ps sp) (gd : Qt X.A) (hr : Room k X.A) (hg : Gl X x) (hm : X.mg x = some (.ref f)) (hk : PySem.W.keepIn X.K (.ref f) = true) (hb : Binds X.K fd ps [])
    (ha : PA X (e :: es) t) (hdb : (x == ("__debug__" : Str)) = false := by decide) (he : starEach (e :: es) X.env = (false, eval e X.env) :: starEach es X.env := by rfl) (hpl : (backTo pos (starEach es X.env)).any (·.1) = false := by rfl) :
    PE X (.Call (.Name x p) (e :: es) [] pos) (tCall sp [] E0 t) := by
  refine ⟨fun pins s σ H Q I h => ?_⟩
  refine wpAny_Call_Name_kw (ld_glob I hg hm ?_ hdb)
  refine PySem.W.callWith_K (h₀ := X.base) I.ok.mod.kin hk (thn (ha.run pos pins s σ H _ I h) fun us s1 ⟨vs, H1, I1, r, q⟩ => ⟨I1.kIn, ?_⟩) he hpl
  have q0 : sp vs H1 Q E0 := by simpa using q
  have many : us.length = ps.length := r.length.symm.trans (F.len _ _ _ _ q0)
  have bd : BindsTo s1 fd ⟨us, []⟩ (ps.zip us) := by simpa using hb s1 us I1.kIn (by simpa using many)
  show wpAny _ _ (call (.ref f) us) _ _ _
  refine wpAny_call (codeAny_mono (F.run X.A X.stack s1 H1 ⟨us, []⟩ us vs Q E0 gd hr I1.env0 bd r q0) fun res s' hq => ?_)
  cases res with
  | error er => exact (show False from hq).elim
  | ok fl =>
    cases fl with
    | next => exact False.elim hq
    | brk => exact False.elim hq
    | cont => exact False.elim hq
    | ret u => exact I1.after hq
end

/-! ### repr of data -/
mutual
inductive Ds (K : PySem.W.Frag) (H : Hp) : V → PyData → Prop
  | non : Ds K H .non .none
  | bl (b : Bool) : Ds K H (.bl b) (.bool b)
  | int (i : Int) : Ds K H (.int i) (.int i)
  | str (x : Str) : Ds K H (.str x) (.str x)
  | lst {a : Addr} {xs : List V} {ds : List PyData} : SqL K H a xs → a ≠ sysModules → DsAll K H xs ds → Ds K H (.ref a) (.list ds)
  | tup {a : Addr} {xs : List V} {ds : List PyData} : SqT K H a xs → DsAll K H xs ds → Ds K H (.ref a) (.tuple ds)
  | one {a : Addr} {x : Str} {i : Int} : H a = some (.dK [(.inr x, .int i)]) → Ds K H (.ref a) (.dict [(.str x, .int i)])
inductive DsAll (K : PySem.W.Frag) (H : Hp) : List V → List PyData → Prop
  | nil : DsAll K H [] []
  | cons {v : V} {vs : List V} {d : PyData} {ds : List PyData} : Ds K H v d → DsAll K H vs ds → DsAll K H (v :: vs) (d :: ds)
end
section
variable {X : Cx} {pins : List (Addr × Obj)} {σ : St} {H : Hp} {s : Shared}
theorem pairs_one {P : Program} {w : World} {x : Str} {i : Int} {es : List DictEntry} {vs : List (Key × Value)} (hp : Pairs (mixKind P w) es vs) (kv : KV [((Sum.inr x : Key), V.int i)] vs) (h : Heap) :
    ReadsAll h (es.map (·.key)) [.str x] [] ∧ ReadsAll h (es.map (·.val)) [.int i] [] := by
  cases kv with
  | cons k1 k2 =>
    cases k2
    rename_i q
    obtain ⟨k, u⟩ := q
    obtain ⟨e1, e2⟩ := k1
    simp only at e1 e2
    subst e1
    obtain ⟨t, rfl⟩ := e2
    cases hp with
    | cons i1 i2 i3 =>
      rename_i e es'
      cases i3
      rcases keyIs_shape (show keyIs (Sum.inr x) e.key = true from i1) with ⟨j, t', e3, e4⟩ | ⟨y, t', e3, e4⟩
      · cases e3
      · cases e3
        rw [List.map_cons, List.map_nil, e4, List.map_cons, List.map_nil, i2]
        exact ⟨ReadsAll.cons (as := []) (bs := []) (Reads.str x t') ReadsAll.nil, ReadsAll.cons (as := []) (bs := []) (Reads.int i t) ReadsAll.nil⟩
mutual
theorem Ds.reads (I : Inv X pins σ H s) : ∀ (d : PyData) (v : V) (u : Value), Ds X.K H v d → RelV v u → ∃ as, Reads s.heap u d as ∧ sysModules ∉ as
  | .none, _, _, h, r => by
    cases h
    cases r
    exact ⟨_, Reads.none, by simp⟩
  | .bool b, _, _, h, r => by
    cases h
    cases r
    exact ⟨_, Reads.bool b, by simp⟩
  | .int i, _, _, h, r => by
    cases h
    obtain ⟨t, rfl⟩ := r
    exact ⟨_, Reads.int i t, by simp⟩
  | .str x, _, _, h, r => by
    cases h
    obtain ⟨t, rfl⟩ := r
    exact ⟨_, Reads.str x t, by simp⟩
  | .list ds, _, _, h, r => by
    cases h with
    | lst hs hne ha =>
      cases r
      obtain ⟨its, rv, ⟨o, n, ho, hc, _, hd⟩, _⟩ := I.list hs
      obtain ⟨as, hr, hq⟩ := Ds.readsAll I ds _ its ha rv
      exact ⟨_, Reads.list ho hc hd hr, by simp only [List.mem_cons, not_or]; exact ⟨Ne.symm hne, hq⟩⟩
  | .tuple ds, _, _, h, r => by
    cases h with
    | tup hs ha =>
      cases r
      obtain ⟨its, rv, ⟨o, ho, hc, n, hd⟩, _⟩ := I.tuple hs
      obtain ⟨as, hr, hq⟩ := Ds.readsAll I ds _ its ha rv
      exact ⟨_, Reads.tuple ho hc hd hr, hq⟩
  | .dict _, _, _, h, r => by
    cases h with
    | @one a x i h =>
      cases r
      obtain ⟨_, ns, vs, kv, o, es, ep, ho, hx, hd, _, hp, _⟩ := (show ObjOk X.prog X.w H s.heap a (.dK [(.inr x, .int i)]) from I.hok a _ h)
      obtain ⟨r1, r2⟩ := pairs_one hp kv s.heap
      exact ⟨_, Reads.dict ho hx.1 hd r1 r2, by
        simp only [List.append_nil, List.mem_cons, List.not_mem_nil, or_false]
        exact fun z => absurd (beq_iff_eq.mpr z.symm) (by rw [ns]; decide)⟩
theorem Ds.readsAll (I : Inv X pins σ H s) : ∀ (ds : List PyData) (vs : List V) (us : List Value), DsAll X.K H vs ds → Vals vs us → ∃ as, ReadsAll s.heap us ds as ∧ sysModules ∉ as
  | [], _, _, h, r => by
    cases h
    cases r
    exact ⟨_, ReadsAll.nil, by simp⟩
  | d :: ds, _, _, h, r => by
    cases h with
    | cons h1 h2 =>
      cases r with
      | cons r1 r2 =>
        obtain ⟨as, q1, n1⟩ := Ds.reads I d _ _ h1 r1
        obtain ⟨bs, q2, n2⟩ := Ds.readsAll I ds _ _ h2 r2
        exact ⟨_, ReadsAll.cons q1 q2, by rw [List.mem_append]; exact fun z => z.elim n1 n2⟩
end
end
/-- repr(x), x such data -/
def rRepr (K : PySem.W.Frag) : List V → Hp → VK → Prop := fun xs H Q => ∃ (x : V) (d : PyData), xs = [x] ∧ Ds K H x d ∧ d.showable = true ∧ d.depth ≤ 60 ∧ d.shown.length ≤ sizeLine ∧ Q (.str d.shown) H
theorem call_reprD {X : Cx} (gd : Qt X.A) (hu : X.A.units + 64 < cLine) : CallR X (.builtin "repr") (rRepr X.K) := by
  intro pins s σ H xs us Q I r h
  obtain ⟨x, d, rfl, hd, sh, dp, sz, q⟩ := h
  obtain ⟨u, rfl, ru⟩ := vals1 r
  obtain ⟨as, rd, ns⟩ := Ds.reads I d x u hd ru
  cases rd with
  | none => exact PySem.P.repr_of_none ⟨.str _, H, I.tok _, ⟨_, rfl⟩, q⟩
  | bool b => exact PySem.P.repr_of_bool ⟨.str _, H, I.tok _, ⟨_, rfl⟩, q⟩
  | int i t => exact PySem.P.repr_of_int (of_decide_eq_true sh) ⟨.str _, H, I.tok _, ⟨_, rfl⟩, q⟩
  | str z t => exact PySem.P.repr_of_str ⟨.str _, H, I.tok _, ⟨_, rfl⟩, q⟩ sz
  | list h1 h2 h3 h4 => exact repr_of_reads' (Reads.list h1 h2 h3 h4) sh (fun _ => ns) gd (by omega) (fun _ _ z => z) (fun h' u tk k => ⟨.str _, H, I.kept k, ⟨_, rfl⟩, q⟩) sz
  | tuple h1 h2 h3 h4 => exact repr_of_reads' (Reads.tuple h1 h2 h3 h4) sh (fun _ => ns) gd (by omega) (fun _ _ z => z) (fun h' u tk k => ⟨.str _, H, I.kept k, ⟨_, rfl⟩, q⟩) sz
  | dict h1 h2 h3 h4 h5 => exact repr_of_reads' (Reads.dict h1 h2 h3 h4 h5) sh (fun _ => ns) gd (by omega) (fun _ _ z => z) (fun h' u tk k => ⟨.str _, H, I.kept k, ⟨_, rfl⟩, q⟩) sz
/-- a list display, whose place is known not to be the table of modules -/
def tLstS (t : TA) : TE := fun σ H Q => t σ H fun xs H1 => xs.length ≤ sizeLine ∧ ∀ l, H1 l = none → l ≠ sysModules → Q (.ref l) (upd H1 l (.lst xs))
theorem pe_lstS {X : Cx} {es : List Expr} {t : TA} {pos : Pos} (h : PA X es t) : PE X (.List es pos) (tLstS t) := by
  refine ⟨fun pins s σ H Q I hq => ?_⟩
  refine wpAny_List_spliced (thn (h.run pos pins s σ H _ I hq) fun us s1 ⟨xs, H1, I1, r, z, q⟩ => ⟨by rw [← r.length]; exact z, ?_⟩)
  have far : s1.heap.objs.size ≠ sysModules := by
    have z1 : (3 : Nat) < X.base.objs.size := I1.mod.glob.lt
    have z2 := I1.ok.bsz
    have z3 := I1.sz
    show s1.heap.objs.size ≠ 1
    omega
  exact ⟨.ref s1.heap.objs.size, _, I1.laid (t' := s1.toks) (o := .lst xs) (fun b u e => Heap.get?_push_of_some _ e) (Nat.le_refl _) ⟨z, us, 0, r, Heap.get?_push_size _ rfl⟩, rfl, q _ (I1.hok.fresh (Nat.le_refl _)) far⟩
end L2
namespace L2
open PySem PySem.Spec PyProof.Rows
/-! ### the law's end, for a law that is walked where no repr runs -/
/-- the law's end from a heap in which nothing but the script may be tracked -/
theorem lawG_core {P : Program} {w : World} {K : PySem.W.Frag} {mg mb : Str → Option Value} {k : Nat} {fa a : Addr} {fd : FuncData} {x : Str} {sp : Sp} {s : Shared} {vs : List Value} {ns : List Int} {H : Hp}
    (KX : K.In s.heap) (hns : s.heap.Ns mainGlobals mg) (hb : s.heap.Ns builtinsNs mb) (hbb : ∀ x : Str, x ≠ "__name__" → mb x = bootBuiltins x) (hlim : s.heap.NoLimit) (hg : s.gens = #[])
    (ha : s.heap.get? a = some { cls := .type "list", data := .seq vs.toArray }) (hr : Room k callerA)
    (F : ∀ base : Heap, K.In base → base.Ns mainGlobals mg → FnG P w K mg base k fa fd [x] sp) (hbind : ∀ (s : Shared) (u : Value), BindsTo s fd ⟨[u], []⟩ [(x, u)])
    (hO : Only H) (hok : HOk P w H s.heap) (hA : ∀ b, H b ≠ none → b = a) (hK : H a ≠ none → K.lookup a = none)
    (hsp : sp [.ref a] H (fun v _ => v = .bl true) E0) :
    codeAny (model P w) callerA (.call (.ref fa) ⟨[.ref a], []⟩) (fun r s' => r = .ok (.ret (.bool true)) ∧ OldK s.heap s'.heap ∧ s'.os = s.os ∧ AllBare s'.gens) s := by
  have apart : ∀ {b : Addr} {o : Obj}, s.heap.get? b = some o → (b = a → False) → (hidT s.heap H).get? b = some o := fun {b o} e n => hidT_get e (Classical.byContradiction fun z => n (hA b z))
  have space : ∀ {b : Addr} {m : Str → Option Value}, s.heap.Ns b m → (hidT s.heap H).Ns b m := fun {b m} ⟨o, es, ep, e, d, r⟩ => ⟨o, es, ep, apart e fun z => by
    subst z
    rw [ha] at e
    cases e
    exact Data.noConfusion (show Data.seq vs.toArray _ = Data.dict es ep from d), d, r⟩
  have inb : K.In (hidT s.heap H) := fun b o e => hidT_get (KX b o e) (Classical.byContradiction fun z => by
    obtain rfl := hA b z
    rw [hK z] at e
    cases e)
  have world : Mod K mg (hidT s.heap H) := ⟨inb, space hns, ⟨mb, space hb, hbb⟩, hlim.elim fun mc z => ⟨mc, space z.1, z.2⟩⟩
  have start0 : Env0 P w K mg (hidT s.heap H) callerA [] s H := ⟨rfl, world, fun _ _ z => of_hidT z, Nat.le_of_eq (hidT_size _ _), trivial, fun b hb => absurd hb List.not_mem_nil, hok, .of_eq hg⟩
  refine codeAny_mono ((F _ inb (space hns)).run callerA [] s H ⟨[.ref a], []⟩ [.ref a] [.ref a] _ E0 rfl hr start0 (hbind s (.ref a)) (.cons rfl .nil) hsp) fun r s' h => ?_
  cases r with
  | error e => exact (show False from h).elim
  | ok fl =>
    cases fl with
    | next => exact False.elim h
    | brk => exact False.elim h
    | cont => exact False.elim h
    | ret u =>
      obtain ⟨v, H', os, bare, un, hok', r', q⟩ := h
      obtain rfl : v = .bl true := q
      obtain rfl : u = Value.bool true := r'
      refine ⟨rfl, OldK.of_keep fun b o e => ?_, os, bare⟩
      rcases hO b with z | ⟨ob, xs, z⟩
      · exact un.keep b o e z List.not_mem_nil List.not_mem_nil
      · have e1 := (hok b _ z).1
        have e2 := (hok' b _ (un.frzs b ob _ z)).1
        rw [e] at e1
        cases e1
        exact e2
theorem lawG_call {P : Program} {w : World} {K : PySem.W.Frag} {mg mb : Str → Option Value} {k : Nat} {fa a : Addr} {fd : FuncData} {x : Str} {sp : Sp} {s : Shared} {vs : List Value} {ns : List Int}
    (KX : K.In s.heap) (hns : s.heap.Ns mainGlobals mg) (hb : s.heap.Ns builtinsNs mb) (hbb : ∀ x : Str, x ≠ "__name__" → mb x = bootBuiltins x) (hlim : s.heap.NoLimit) (hg : s.gens = #[])
    (ha : s.heap.get? a = some { cls := .type "list", data := .seq vs.toArray }) (hi : IntsAre vs ns) (hl : ns.length ≤ sizeLine) (hr : Room k callerA)
    (F : ∀ base : Heap, K.In base → base.Ns mainGlobals mg → FnG P w K mg base k fa fd [x] sp) (hbind : ∀ (s : Shared) (u : Value), BindsTo s fd ⟨[u], []⟩ [(x, u)])
    (hsp : ∀ H : Hp, Only H → SqL K H a (ns.map V.int) → sp [.ref a] H (fun v _ => v = .bl true) E0) :
    codeAny (model P w) callerA (.call (.ref fa) ⟨[.ref a], []⟩) (fun r s' => r = .ok (.ret (.bool true)) ∧ OldK s.heap s'.heap ∧ s'.os = s.os ∧ AllBare s'.gens) s := by
  have rv := vals_ints hi
  cases hk : K.lookup a with
  | some o =>
    have e := KX a o hk
    rw [ha] at e
    cases e
    have hS : SqL K (fun _ => none) a (ns.map V.int) := .inr ⟨_, vs.toArray, _, hk, rfl, rfl, rfl, by rw [List.size_toArray, hi.length]; exact hl, by simpa using rv⟩
    exact lawG_core (ns := ns) KX hns hb hbb hlim hg ha hr F hbind (fun _ => .inl rfl) (fun b u z => by cases (show (none : Option HO) = some u from z)) (fun b z => absurd rfl z) (fun z => absurd rfl z) (hsp _ (fun _ => .inl rfl) hS)
  | none =>
    let ob : Obj := { cls := .type "list", data := .seq vs.toArray }
    let H : Hp := upd (fun _ => none) a (.frz ob (.lst (ns.map V.int)))
    have hO : Only H := fun b => by
      by_cases z : b = a
      · exact .inr ⟨_, _, by rw [z]; exact upd_same⟩
      · exact .inl (upd_ne z)
    have only : ∀ b, H b ≠ none → b = a := fun b z => Classical.byContradiction fun n => z (upd_ne n)
    refine lawG_core (ns := ns) (H := H) KX hns hb hbb hlim hg ha hr F hbind hO (fun b u z => ?_) only (fun _ => hk) (hsp H hO (.inl (.inr ⟨ob, upd_same⟩)))
    obtain rfl := only b (by rw [z]; simp)
    cases upd_same.symm.trans z
    exact ⟨ha, by rw [List.length_map]; exact hl, vs, _, rv, ha⟩
theorem walkG_of {l : PySem.W.OpenLaw} {n k : Nat} {q : Program} {loose : List Str} {XP : (Str → Option Value) → Heap → Prop} {YP : World → Heap → Prop} {d : DefRec} {K : Params → PySem.W.Frag} {sp : World → Sp} {x : Str}
    (hn : l.most = some n) (hn2 : n ≤ sizeLine) (hdf : d.params.defaults = []) (hr : Room k callerA)
    (hY : ∀ (w : World) (h : Heap), YP w h → (K w.params).In h)
    (F : ∀ (w : World) (mg : Str → Option Value) (fa : Addr) (h : Heap), (K w.params).In h → h.Ns mainGlobals mg → mg d.name = some (.ref fa) →
      ∃ fd : FuncData, (∀ (s : Shared) (u : Value), BindsTo s fd ⟨[u], []⟩ [(x, u)]) ∧ ∀ base : Heap, (K w.params).In base → base.Ns mainGlobals mg → FnG l.prog w (K w.params) mg base k fa fd [x] (sp w))
    (hsp : ∀ (w : World) (H : Hp) (a : Addr) (ns : List Int), ns.length ≤ n → Only H → SqL (K w.params) H a (ns.map V.int) → sp w [.ref a] H (fun v _ => v = .bl true) E0) :
    PySem.W.WalkO q loose XP YP l.row.toRowW d [] (fun f vs => PySem.call f vs) := by
  refine Att.attach_call hn hdf fun w s₀ s₁ mg mb fa o pm cd doc a vs ns G Y ho hd hcd hmg hobj hints hlen hg => ?_
  obtain ⟨fd, hb, hF⟩ := F w mg fa _ (hY w _ Y) G.T.g hmg
  exact lawG_call (hY w _ Y) G.T.g G.T.b G.T.builtins G.T.nolimit hg hobj hints (Nat.le_trans hlen hn2) hr hF hb fun H hO hS => hsp w H a ns hlen hO hS
end L2
/-! operators of own classes, for instances with a dict or with slots -/
namespace OpX
open PySem PySem.Spec PyProof.Rows L2 StX
section
variable {prog : Program} {w : World} {A : Around} {E : Value → Shared → Prop} {s : Shared} {K : PySem.W.Frag} {x y C f L : Addr} {h₀ : Heap} {m : Str → Option Value} {ox oy : Obj} {od od' : Option Obj}
/-- some answer came -/
def Told (Q : Value → Shared → Prop) (r : Option Value) (s' : Shared) : Prop := ∃ v, r = some v ∧ Q v s'
/-- what an operator's first try told is the operator's word -/
theorem told_pure {M : Model} {B : Around} {F : Value → Shared → Prop} {Q : Value → Shared → Prop} {t : Sem (Option Value)} {k : Option Value → Sem Value} {s' : Shared} (h : wpAny M B t (Told Q) F s') (hk : ∀ v, k (some v) = pure v) : wpAny M B (t >>= k) Q F s' :=
  wpAny_bind (wpAny_mono h (fun r s'' ⟨v, e, q⟩ => by rw [e, hk]; exact wpAny_pure q) fun _ _ z => z)
open Builtin in
/-- object's own != asks the class's == and turns its bool about -/
theorem turned {Q : Value → Shared → Prop} {b : Value} (hu : A.in1.units < cLine) (X : K.In s.heap) (I : PySem.W.InstAt s.heap x ox C od) (hm : PySem.W.mroIn K C (.type "object") = some true)
    (hs : PySem.W.findIn K (.ref C) "__eq__" = some (some (.ref f))) (hf : PySem.W.isFn K (.ref f) = true)
    (h : wpAny (model prog w) A.in1 (call (.ref f) [.ref x, b]) (fun r s' => ∃ c, r = .bool c ∧ Q (.bool (!c)) s') E s) : wpAny (model prog w) A (call (.builtin "object.__ne__") [.ref x, b]) Q E s := by
  refine wpAny_call (codeAny_call_builtin PySem.F.slot_object_ne.plain PySem.F.entry_object_ne (PySem.W.check_slot (i := "object.__ne__") (owner := "object") (n := "__ne__") (by decide +kernel) (by decide +kernel) (I.type.andThen (PySem.W.looks_mroIn X hm)) (PySem.F.args_object_ne_2 _ _) ?_))
  show wpAny _ _ (Builtin.«object.__ne__» _) _ _ _
  unfold Builtin.«object.__ne__»
  exact wpAny_bind (m := slotArgs "__ne__" 1 _) (wpAny_pure (wpAny_bind (m := cRoomFor _ _) (wpAny_cRoomFor hu (wpAny_bind (m := callSpecialIfBound? (.ref x) (Str.ofString "__eq__") _)
    (PySem.W.ifBound_K X I hs hf (wpAny_mono h (fun r s' ⟨c, e, q⟩ => by
      subst e
      exact wpAny_bind (m := truthy (.bool c)) (wpAny_truthy_bool (wpAny_pure q))) fun _ _ z => z))))))
/-- x != y, both of one class that has an own == and object's != -/
theorem ne_same {Q : Value → Shared → Prop} (hu : A.units < cLine) (hu1 : A.in1.units < cLine) (X : K.In s.heap) (I : PySem.W.InstAt s.heap x ox C od) (J : PySem.W.InstAt s.heap y oy C od')
    (hne : PySem.W.findIn K (.ref C) "__ne__" = some (some (.builtin "object.__ne__"))) (hm : PySem.W.mroIn K C (.type "object") = some true) (hs : PySem.W.findIn K (.ref C) "__eq__" = some (some (.ref f))) (hf : PySem.W.isFn K (.ref f) = true)
    (h : wpAny (model prog w) A.in1 (call (.ref f) [.ref x, .ref y]) (fun r s' => ∃ c, r = .bool c ∧ Q (.bool (!c)) s') E s) : wpAny (model prog w) A (richCompare .NotEq (.ref x) (.ref y)) Q E s := by
  have word := turned (Q := fun v s' => Q v s' ∧ ∃ c, v = .bool c) hu1 X I hm hs hf (wpAny_mono h (fun r s' ⟨c, e, q⟩ => ⟨c, e, q, _, rfl⟩) fun _ _ z => z)
  have bnd : PySem.W.Looks (model prog w) s.heap (bindSpecial (.builtin "object.__ne__") (.ref x)) (.builtin "object.__ne__", [.ref x]) := PySem.W.Looks.of_pure (PySem.F.slot_object_ne.bind _)
  have asked : wpAny (model prog w) A (call (.builtin "object.__ne__") ([.ref x] ++ [.ref y]) >>= fun v => pure (some v)) (Told fun v s' => Q v s' ∧ ∃ c, v = .bool c) E s := wpAny_bind (wpAny_mono word (fun v s' q => wpAny_pure ⟨v, rfl, q⟩) fun _ _ z => z)
  have tried : wpAny (model prog w) A (tryCompare (.ref x) (cmpInfo .NotEq).2.1 (.ref y)) (Told Q) E s := by
    unfold tryCompare callSpecialIfBound? bindSpecialIfBound?
    refine wpAny_bind (wpAny_holding (wpAny_bind (wpAny_bind (wpAny_bind (I.type.here ((PySem.W.looks_findIn X hne).here (wpAny_bind (wpAny_askSetting (wpAny_ite ?_)))))))))
    split
    · refine wpAny_bind (bnd.here (wpAny_pure ?_))
      exact wpAny_mono asked (fun r s' ⟨v, e, q, c, ec⟩ => by
        subst e ec
        exact wpAny_pure ⟨_, rfl, q⟩) fun _ _ z => z
    · refine wpAny_tryCatch (wpAny_bind (bnd.here (wpAny_pure ?_)))
      exact wpAny_mono asked (fun r s' ⟨v, e, q, c, ec⟩ => by
        subst e ec
        exact wpAny_pure ⟨_, rfl, q⟩) fun _ _ z => z
  have same : (Value.ref C != Value.ref C) = false := by simp
  unfold richCompare
  rw [oneThing_ref]
  refine wpAny_holding (wpAny_bind (wpAny_cRoomFor hu (wpAny_bind (I.type.here (wpAny_bind (J.type.here ?_))))))
  rw [same, if_neg Bool.false_ne_true]
  exact wpAny_bind (wpAny_pure (told_pure tried fun _ => rfl))
end
section
variable {X : Cx} {CX : CXT} {n : Nat} {C g : Addr} {sp : Sp} {E : XK}
/-- x op y: both of the class at C -/
def rS (X : Cx) (C : Addr) (sp : Sp) (E : XK) : R2 := fun x y H Q => ∃ a b, x = .ref a ∧ y = .ref b ∧ InsC X H a C ∧ InsC X H b C ∧ sp [.ref a, .ref b] H Q E
/-- x op i: x of the class at C, i an int -/
def rI (X : Cx) (C : Addr) (sp : Sp) (E : XK) : R2 := fun x y H Q => ∃ a i, x = .ref a ∧ y = .int i ∧ InsC X H a C ∧ sp [.ref a, .int i] H Q E
/-- i op x: the reflected one -/
def rR (X : Cx) (C : Addr) (sp : Sp) (E : XK) : R2 := fun x y H Q => ∃ a i, x = .int i ∧ y = .ref a ∧ InsC X H a C ∧ sp [.ref a, .int i] H Q E
/-- the def of an operator -/
structure Has (K : PySem.W.Frag) (C g : Addr) (name : Str) : Prop where
  at_ : PySem.W.findIn K (.ref C) name = some (some (.ref g))
  fn : PySem.W.isFn K (.ref g) = true
theorem run_own {pins : List (Addr × Obj)} {σ : L2.St} {H : Hp} {s : Shared} {Q : VK} {us : List Value} {vs : List V} (F : FnR X.prog X.w X.K X.mg X.base CX n g sp) (hr : Room n X.A) (hx : Passes CX X E) (I : Inv X pins σ H s) (r : Vals vs us)
    (q : sp vs H Q E) : wpAny (model X.prog X.w) X.A (call (.ref g) us) (PySem.W.CmpBack (EP X pins σ Q)) X.xe s := by
  refine wpAny_mono (wpAny_call (run_fnR F hr hx I r q)) (fun w s' z => ?_) fun _ _ x => x
  obtain ⟨z', H', I', rz, qz⟩ := z
  exact SlX.cmpback rz ⟨z', H', I', rz, qz⟩
theorem op_binS {op : Operator} (hc : PySem.W.selfFirst X.K C = true) (h : Has X.K C g (PySem.dunder op.info.2)) (F : FnR X.prog X.w X.K X.mg X.base CX n g sp) (hr : Room n X.A) (hx : Passes CX X E) :
    OpR X (binaryOp op) (rS X C sp E) := by
  intro pins s σ H x y v u Q I rx ry hq
  obtain ⟨a, b, rfl, rfl, ha, hb, q⟩ := hq
  cases (show v = Value.ref a from rx)
  cases (show u = Value.ref b from ry)
  obtain ⟨ox, od, J, _⟩ := insC_at I ha
  obtain ⟨ox', od', J', _⟩ := insC_at I hb
  obtain ⟨m, hF⟩ := I.fr
  exact PySem.W.binop_K hF I.ok.mod.kin J J'.type hc h.at_ h.fn (run_own (us := [.ref a, .ref b]) (vs := [.ref a, .ref b]) F hr hx I (.cons rfl (.cons rfl .nil)) q)
theorem op_binI {op : Operator} {fo ro rc : Option Value} (hc : PySem.W.selfFirst X.K C = true) (h : Has X.K C g (PySem.dunder op.info.2)) (hrf : PySem.W.findIn X.K (.ref C) (dunderR op.info.2) = some rc) (hp : rc = none ∨ ∃ g : Addr, rc = some (.ref g))
    (h1 : PySem.W.findIn X.K (.type "int") (PySem.dunder op.info.2) = some fo) (h2 : PySem.W.findIn X.K (.type "int") (dunderR op.info.2) = some ro) (hsub : PySem.W.subIn X.K (.type "int") (.ref C) = some false)
    (F : FnR X.prog X.w X.K X.mg X.base CX n g sp) (hr : Room n X.A) (hx : Passes CX X E) : OpR X (binaryOp op) (rI X C sp E) := by
  intro pins s σ H x y v u Q I rx ry hq
  obtain ⟨a, i, rfl, rfl, ha, q⟩ := hq
  cases (show v = Value.ref a from rx)
  obtain ⟨t, e⟩ := (show ∃ t, u = Value.int i t from ry)
  subst e
  obtain ⟨ox, od, J, _⟩ := insC_at I ha
  obtain ⟨m, hF⟩ := I.fr
  exact PySem.W.ksp_binT (T := "int") hF I.ok.mod.kin J rfl hc h.at_ h.fn hrf hp h1 h2 hsub (run_own (us := [.ref a, .int i t]) (vs := [.ref a, .int i]) F hr hx I (.cons rfl (.cons ⟨t, rfl⟩ .nil)) q)
/-- x == y: x of the class at C; y an instance of a class that is not below C -/
def rEqO (X : Cx) (C : Addr) (sp : Sp) (E : XK) : R2 := fun x y H Q => ∃ a b C', x = .ref a ∧ y = .ref b ∧ InsC X H a C ∧ InsC X H b C' ∧ PySem.W.notFirst X.K C (.ref C') = true ∧ sp [.ref a, .ref b] H Q E
theorem op_eqO {op : CmpOp} (hop : ∀ a b, compareOp op a b = richCompare op a b) (h : Has X.K C g (cmpInfo op).2.1) (F : FnR X.prog X.w X.K X.mg X.base CX n g sp)
    (hr : Room n X.A) (hx : Passes CX X E) : OpR X (compareOp op) (rEqO X C sp E) := by
  intro pins s σ H x y v u Q I rx ry hq
  obtain ⟨a, b, C', rfl, rfl, ha, hb, hn, q⟩ := hq
  cases (show v = Value.ref a from rx)
  cases (show u = Value.ref b from ry)
  obtain ⟨ox, od, J, _⟩ := insC_at I ha
  obtain ⟨ox', od', J', _⟩ := insC_at I hb
  obtain ⟨m, hF⟩ := I.fr
  rw [hop]
  exact PySem.W.cmp_K (op := op) (tb := .ref C') hr.units0 hF I.ok.mod.kin J J'.type hn h.at_ h.fn (run_own (us := [.ref a, .ref b]) (vs := [.ref a, .ref b]) F hr hx I (.cons rfl (.cons rfl .nil)) q)
/-- x != y, both of the class at C, which has an own == -/
def rNeO (X : Cx) (C : Addr) (sp : Sp) (E : XK) : R2 := fun x y H Q => ∃ a b, x = .ref a ∧ y = .ref b ∧ InsC X H a C ∧ InsC X H b C ∧ sp [.ref a, .ref b] H (fun v H' => ∃ c, v = .bl c ∧ Q (.bl (!c)) H') E
theorem op_neO (h : Has X.K C g "__eq__") (hne : PySem.W.findIn X.K (.ref C) "__ne__" = some (some (.builtin "object.__ne__"))) (hm : PySem.W.mroIn X.K C (.type "object") = some true) (F : FnR X.prog X.w X.K X.mg X.base CX n g sp)
    (hr : Room (n + 1) X.A) (hx : Passes CX X E) : OpR X (compareOp .NotEq) (rNeO X C sp E) := fun pins s σ H x y v u Q I rx ry ⟨a, b, ex, ey, ha, hb, q⟩ => by
  subst ex ey
  cases (show v = Value.ref a from rx)
  cases (show u = Value.ref b from ry)
  obtain ⟨ox, od, J, _⟩ := insC_at I ha
  obtain ⟨ox', od', J', _⟩ := insC_at I hb
  refine ne_same hr.units0 hr.in1.units0 I.kIn J J' hne hm h.at_ h.fn (wpAny_mono (wpAny_call (SlX.run_at (us := [.ref a, .ref b]) (ws := [.ref a, .ref b]) F hr.in1 I.env0.in1 hx I (.cons rfl (.cons rfl .nil)) q)) (fun r s' back => ?_) fun _ _ z => z)
  obtain ⟨_, H', I', rr, c, ec, qc⟩ := back
  subst ec
  cases (show r = Value.bool c from rr)
  exact ⟨c, rfl, .bl (!c), H', I', rfl, qc⟩
end
end OpX
/-! a static method called off its class -/
namespace StM
open PySem PySem.Spec PyProof.Rows L2 ClX
/-- C.m is a staticmethod: its record at p, its def at g -/
structure SMet (K : PySem.W.Frag) (C : Addr) (mc : Value) (m : Str) (p g : Addr) : Prop where
  at_ : PySem.W.findCls K (.ref C) mc m = some (.get (.builtin "staticmethod.__get__") (.ref p) .none (.ref C))
  rc : ∃ rest, PySem.W.recIn K p "staticmethod" = some (.ref g :: rest)
  kp : PySem.W.keepIn K (.ref g) = true
/-- e.m(..), e the class at C -/
def tSMeth (C : Addr) (sp : Sp) (E : XK) (ta : TE) (t : TA) : TE := fun σ H Q => ta σ H fun x H1 => x = .ref C ∧ t σ H1 fun vs H2 => sp vs H2 Q E
section
variable {X : Cx} {CX : CXT} {k : Nat} {C p g : Addr} {mc : Value} {sp : Sp} {E : XK} {o e : Expr} {es : List Expr} {m : Str} {pos apos : Pos} {ta : TE} {t : TA} {pl : Sem Bool}
theorem pe_smeth (he : PE X o ta) (r : CRead X.K C mc) (c : SMet X.K C mc m p g) (F : FnR X.prog X.w X.K X.mg X.base CX k g sp) (hr : Room k X.A) (hx : Passes CX X E) (ha : PA X (e :: es) t)
    (hst : starEach (e :: es) X.env = (false, eval e X.env) :: starEach es X.env := by rfl) (hpl : (backTo pos (starEach es X.env)).any (·.1) = false := by rfl)
    (ht : eval (.Call (.Attribute o m apos) (e :: es) [] pos) X.env = (do
      let ov ← eval o X.env
      standAt apos.atName
      let (f, first) ← holding [ov] (getMethod ov m pl)
      callWith pos f first (backTo pos (starEach (e :: es) X.env)) (backToKw pos (keywordEach [] X.env))) := by rfl) :
    PE X (.Call (.Attribute o m apos) (e :: es) [] pos) (tSMeth C sp E ta t) := by
  refine ⟨fun pins s σ H Q I h => ?_⟩
  refine PySem.W.methodCall_KW (pl := pl) (thn (he.run pins s σ H _ I h) fun u s1 ⟨x, H1, I1, rx, ex, q⟩ => ?_) ht
  subst ex
  obtain rfl : u = Value.ref C := rx
  obtain ⟨rest, hp⟩ := c.rc
  refine PySem.W.method_cls I1.kIn r.ga (PySem.W.cls_bind I1.kIn r.rd c.at_ ?_)
  refine wpAny_call (PySem.W.sm_get (s := { s1 with toks := s1.toks + 1 }) I1.kIn hp (PySem.W.handed_on rfl ?_))
  have I2 : Inv X pins σ H1 { s1 with toks := s1.toks + 1 } := I1.tok _
  refine PySem.W.callWith_K (h₀ := X.base) I2.ok.mod.kin c.kp (thn (ha.run pos pins _ σ H1 _ I2 q) fun us s3 ⟨vs, H2, I3, rv, q2⟩ => ⟨I3.kIn, ?_⟩) hst hpl
  exact wpAny_call (run_fnR (us := us) (vs := vs) F hr hx I3 rv q2)
end
end StM
/-! str of an own instance; str of an int or a text; C.m() of a static method; o.m(k = v) -/
namespace OwX
open PySem PySem.Spec PyProof.Rows L2 ClX StX
/-- a class's own __str__ -/
structure StrIn (K : PySem.W.Frag) (C g : Addr) : Prop where
  there : PySem.W.findIn K (.ref C) "__str__" = some (some (.ref g))
  isDef : PySem.W.isFn K (.ref g) = true
section
variable {X : Cx} {CX : CXT} {n : Nat} {C g : Addr} {sp : Sp} {E : XK}
theorem call_strI (c : StrIn X.K C g) (F : FnR X.prog X.w X.K X.mg X.base CX n g sp) (hr : Room (n + 2) X.A) (hx : Passes CX X E) :
    CallR X (.type "str") (fun xs H Q => ∃ a, xs = [.ref a] ∧ InsC X H a C ∧ sp [.ref a] H (fun v H' => ∃ y, v = .str y ∧ Q v H') E) := by
  intro pins s σ H xs us Q I r h
  obtain ⟨a, rfl, ha, q⟩ := h
  obtain ⟨u, rfl, ru⟩ := vals1 r
  cases (show u = Value.ref a from ru)
  obtain ⟨ox, od, J, _⟩ := insC_at I ha
  refine PySem.W.kso_call hr.in1.in1.units0 I.kIn J c.there c.isDef ?_
  refine wpAny_mono (wpAny_call (SlX.run_at (us := [.ref a]) (ws := [.ref a]) F hr.in1.in1 I.env0.in1.in1 hx I (.cons rfl .nil) q)) (fun v s' back => ?_) fun _ _ z => z
  obtain ⟨v', H', I', rv, y, ey, qy⟩ := back
  subst ey
  obtain ⟨t, et⟩ := (show ∃ t, v = Value.str y t from rv)
  subst et
  exact ⟨.str y, H', I', ⟨t, rfl⟩, qy⟩
/-- of an int that is not too long, and of a text -/
theorem call_strV : CallR X (.type "str") (fun xs H Q => (∃ i, xs = [.int i] ∧ i.natAbs.log2 < 1920 ∧ Q (.str (toString i)) H) ∨ ∃ a, xs = [.str a] ∧ Q (.str a) H) := fun pins s σ H xs us Q I r h =>
  h.elim (fun hi => call_str_int pins s σ H xs us Q I r hi) fun ha => SkE.call_str_str pins s σ H xs us Q I r ha
end
section
variable {X : Cx} {k : Nat} {C p f : Addr} {mc : Value} {fd : FuncData} {ps ks : List Str} {sp : Sp} {o : Expr} {m : Str} {pos apos : Pos} {ta : TE} {tk : TA} {pl : Sem Bool} {kws : List Keyword} {g : List Value → List Value → List Value} {gV : List V → List V → List V}
/-- o.m(k = v, ..), keywords alone -/
theorem pe_methKw (he : PE X o ta) (c : Cls X.K C) (hm : Meth X.K C m f) (F : FnOk X.prog X.w X.K X.mg X.base CX0 k f fd ps sp) (hr : Room k X.A) (hb : KBn X.K fd ps 1 ks g gV) (hkw : PK X kws tk)
    (some_ : (backToKw pos (keywordEach kws X.env)).all (·.1.isSome) = true := by rfl) (names : (backToKw pos (keywordEach kws X.env)).filterMap (·.1) = ks := by rfl)
    (none_ : ((backTo pos (starEach [] X.env)).any (·.1) || (backToKw pos (keywordEach kws X.env)).any (·.1.isNone)) = false := by rfl)
    (form : eval (.Call (.Attribute o m apos) [] kws pos) X.env = (do let ov ← eval o X.env; standAt apos.atName; let (f, first) ← holding [ov] (getMethod ov m pl); callWith pos f first (backTo pos (starEach [] X.env)) (backToKw pos (keywordEach kws X.env))) := by rfl) :
    PE X (.Call (.Attribute o m apos) [] kws pos) (fun σ H Q => ta σ H fun x H1 => ∃ a dx fs, x = .ref a ∧ H1 a = some (.ins C dx fs) ∧ fs.lookup m = none ∧ tk σ H1 fun zs H2 => zs.length = ks.length ∧ sp (gV [.ref a] zs) H2 Q E0) := by
  refine ⟨fun pins s σ H Q I h => PySem.W.methodCall_KW (pl := pl) (thn (he.run pins s σ H _ I h) fun u s1 ⟨x, H1, J, rx, a, dx, fs, ex, ea, l, q⟩ => ?_) form⟩
  subst ex
  cases (show u = Value.ref a from rx)
  refine getmeth_ok J ea c hm l (PySem.W.callWith_KW0 (first := [.ref a]) (h₀ := X.base) J.ok.mod.kin hm.kp some_ ?_ none_)
  refine thn (hkw.run pos pins s1 σ H1 _ J q) fun ws s2 ⟨zs, H2, J2, rz, l2, q2⟩ => ⟨J2.kIn, ?_⟩
  rw [names]
  exact run_fnN (us := [.ref a]) (vs := [.ref a]) F hr hb pass0 J2 (.cons rfl .nil) rz rfl l2 q2
end
end OwX
/-! x == y, y a tuple; C.m(k = v, ..) of a static method -/
namespace EqT
open PySem PySem.Spec PyProof.Rows L2 StX OpX
section
variable {X : Cx} {CX : CXT} {n : Nat} {C g : Addr} {sp : Sp} {E : XK}
/-- x == y: x of the class at C; y a tuple -/
def rEqT (X : Cx) (C : Addr) (sp : Sp) (E : XK) : R2 := fun x y H Q => ∃ a b ys, x = .ref a ∧ y = .ref b ∧ InsC X H a C ∧ SqT X.K H b ys ∧ PySem.W.notFirst X.K C (.type "tuple") = true ∧ sp [.ref a, .ref b] H Q E
theorem op_eqT {op : CmpOp} (hop : ∀ a b, compareOp op a b = richCompare op a b) (h : Has X.K C g (cmpInfo op).2.1) (F : FnR X.prog X.w X.K X.mg X.base CX n g sp)
    (hr : Room n X.A) (hx : Passes CX X E) : OpR X (compareOp op) (rEqT X C sp E) := by
  intro pins s σ H x y v u Q I rx ry hq
  obtain ⟨a, b, ys, rfl, rfl, ha, hb, hn, q⟩ := hq
  cases (show v = Value.ref a from rx)
  cases (show u = Value.ref b from ry)
  obtain ⟨ox, od, J, _⟩ := insC_at I ha
  obtain ⟨its, rv, ⟨o, ho, hc, nn, hd⟩, _⟩ := I.tuple hb
  have ty : PySem.W.Looks (model X.prog X.w) s.heap (typeOf (.ref b)) (.type "tuple") := fun A Q E s k q => wpAny_typeOf_ref (k _ _ ho) (by rw [hc]; exact q)
  obtain ⟨m, hF⟩ := I.fr
  rw [hop]
  exact PySem.W.cmp_K (op := op) (tb := .type "tuple") hr.units0 hF I.ok.mod.kin J ty hn h.at_ h.fn (run_own (us := [.ref a, .ref b]) (vs := [.ref a, .ref b]) F hr hx I (.cons rfl (.cons rfl .nil)) q)
end
end EqT
namespace StM
open PySem PySem.Spec PyProof.Rows L2 ClX
/-- e.m(k = v, ..), e the class at C -/
def tSMethK (C : Addr) (n : Nat) (sp : Sp) (gV : List V → List V → List V) (E : XK) (ta : TE) (tk : TA) : TE := fun σ H Q => ta σ H fun x H1 => x = .ref C ∧ tk σ H1 fun zs H2 => zs.length = n ∧ sp (gV [] zs) H2 Q E
section
variable {X : Cx} {k : Nat} {C p f : Addr} {mc : Value} {fd : FuncData} {ps ks : List Str} {sp : Sp} {o : Expr} {m : Str} {pos apos : Pos} {ta : TE} {tk : TA} {pl : Sem Bool} {kws : List Keyword} {g : List Value → List Value → List Value} {gV : List V → List V → List V}
theorem pe_smethK (he : PE X o ta) (r : CRead X.K C mc) (c : SMet X.K C mc m p f) (F : FnOk X.prog X.w X.K X.mg X.base CX0 k f fd ps sp) (hr : Room k X.A) (hb : KBn X.K fd ps 0 ks g gV) (hkw : PK X kws tk)
    (some_ : (backToKw pos (keywordEach kws X.env)).all (·.1.isSome) = true := by rfl) (names : (backToKw pos (keywordEach kws X.env)).filterMap (·.1) = ks := by rfl)
    (none_ : ((backTo pos (starEach [] X.env)).any (·.1) || (backToKw pos (keywordEach kws X.env)).any (·.1.isNone)) = false := by rfl)
    (form : eval (.Call (.Attribute o m apos) [] kws pos) X.env = (do let ov ← eval o X.env; standAt apos.atName; let (f, first) ← holding [ov] (getMethod ov m pl); callWith pos f first (backTo pos (starEach [] X.env)) (backToKw pos (keywordEach kws X.env))) := by rfl) :
    PE X (.Call (.Attribute o m apos) [] kws pos) (tSMethK C ks.length sp gV E0 ta tk) := by
  refine ⟨fun pins s σ H Q I h => PySem.W.methodCall_KW (pl := pl) (thn (he.run pins s σ H _ I h) fun u s1 ⟨x, H1, J, rx, ex, q⟩ => ?_) form⟩
  subst ex
  cases (show u = Value.ref C from rx)
  obtain ⟨rest, hp⟩ := c.rc
  refine PySem.W.method_cls J.kIn r.ga (PySem.W.cls_bind J.kIn r.rd c.at_ (wpAny_call (PySem.W.sm_get (s := { s1 with toks := s1.toks + 1 }) J.kIn hp (PySem.W.handed_on rfl ?_))))
  have J2 : Inv X pins σ H1 { s1 with toks := s1.toks + 1 } := J.tok _
  refine PySem.W.callWith_KW0 (first := []) (h₀ := X.base) J2.ok.mod.kin c.kp some_ ?_ none_
  refine thn (hkw.run pos pins _ σ H1 _ J2 q) fun ws s2 ⟨zs, H2, I2, rz, l2, q2⟩ => ⟨I2.kIn, ?_⟩
  rw [names]
  exact run_fnN (us := []) (vs := []) F hr hb pass0 I2 .nil rz rfl l2 q2
end
end StM
namespace K01
open PySem L2 Evl
def top (i : Nat) : Stmt := PySem.Challenge.pw_layerpost_k01_growths_made_and_asked.main.body.getD i (.Pass ⟨0, 0, 0, 0⟩)
abbrev sPen : Stmt := top 36
abbrev sDraw : Stmt := top 37
abbrev sPick : Stmt := top 38
/-! ### the pen: a list of the cells, the place, the rest -/
def PenAt (H : Hp) (p l : Addr) (cells : List Int) (m : Nat) : Prop :=
  ∃ (k : Nat) (r : Int), H p = some (.lst [.ref l, .int (k : Int), .int r]) ∧ H l = some (.lst (cells.map V.int)) ∧ k ≤ m
/-- all but p is as it was -/
def Keep (p : Addr) (H H' : Hp) : Prop := ∀ b o, H b = some o → b ≠ p → H' b = some o
theorem Keep.of_ex {p : Addr} {H H' : Hp} (e : Ex H H') : Keep p H H' := fun b o h _ => e b o h
theorem Keep.trans {p : Addr} {H H1 H2 : Hp} (a : Keep p H H1) (b : Keep p H1 H2) : Keep p H H2 := fun c o h n => b c o (a c o h n) n
theorem Keep.upd {p : Addr} {H : Hp} {o : HO} : Keep p H (upd H p o) := fun b u h n => by rw [upd_ne n]; exact h
theorem PenAt.mono {H H' : Hp} {p l : Addr} {cells : List Int} {m n : Nat} (h : PenAt H p l cells m) (e : Ex H H') (hm : m ≤ n) : PenAt H' p l cells n := by
  obtain ⟨k, r, h1, h2, h3⟩ := h
  exact ⟨k, r, e _ _ h1, e _ _ h2, by omega⟩
theorem PenAt.ne {H : Hp} {p l : Addr} {cells : List Int} {m : Nat} (h : PenAt H p l cells m) : l ≠ p := by
  obtain ⟨k, r, h1, h2, _⟩ := h
  refine ne_of h2 h1 ?_
  intro z
  have z2 := HO.lst.inj z
  cases cells with
  | nil => exact absurd z2 (by simp)
  | cons c cs => exact absurd (List.cons.inj z2).1 (by intro q; cases q)
structure Glb (mg : Str → Option Value) : Prop where
  int : mg "int" = none
  abs : mg "abs" = none
  len : mg "len" = none
  list : mg "list" = none
def spDraw : Sp := fun vs H Q _ => ∃ (p l : Addr) (cells : List Int) (m : Nat) (many : Int), vs = [.ref p, .int many] ∧ PenAt H p l cells m ∧ m ≤ 50000 ∧ cells.length ≤ 63 ∧ 0 < many ∧ many ≤ 1000000000 ∧
  ∀ d H', 0 ≤ d → d < many → PenAt H' p l cells (m + 1) → Keep p H H' → Q (.int d) H'
theorem scDraw : FnScope ["_law_pen_here", "_law_many", "_law_digit", "_law_turn", "_law_cell", "_law_great", "_law_mixed"] ["_law_pen_here", "_law_many"] (defScope sDraw) := ⟨rfl, rfl, rfl, by decide +kernel, rfl, by decide +kernel, by decide +kernel⟩
theorem rc_int {i : Int} {H : Hp} : RC (fun xs H Q => (∃ i, xs = [V.int i] ∧ Q (.int i) H) ∨ ∃ k, xs = [V.bl k] ∧ Q (.int (if k then 1 else 0)) H) [.int i] H (.int i) := fun H1 _ _ q => .inl ⟨i, rfl, q H1 (Ex.refl H1)⟩
theorem rc_intB {b : Bool} {H : Hp} : RC (fun xs H Q => (∃ i, xs = [V.int i] ∧ Q (.int i) H) ∨ ∃ k, xs = [V.bl k] ∧ Q (.int (if k then 1 else 0)) H) [.bl b] H (.int (if b then 1 else 0)) := fun H1 _ _ q => .inr ⟨b, rfl, q H1 (Ex.refl H1)⟩
theorem rc_abs {i : Int} {H : Hp} : RC (fun xs H Q => ∃ i, xs = [V.int i] ∧ Q (.int (if i < 0 then -i else i)) H) [.int i] H (.int (if i < 0 then -i else i)) := fun H1 _ _ q => ⟨i, rfl, q H1 (Ex.refl H1)⟩
theorem rc_len {K : PySem.W.Frag} {p : Addr} {xs : List V} {H : Hp} (h : SqL K H p xs) : RC (fun xs H Q => ∃ p ys, xs = [V.ref p] ∧ (SqL K H p ys ∨ SqT K H p ys) ∧ Q (.int ys.length) H) [.ref p] H (.int (xs.length : Int)) := fun H1 e _ q => ⟨p, xs, rfl, .inl (ex_l e h), q H1 (Ex.refl H1)⟩
theorem dpAll_ints {K : PySem.W.Frag} {H : Hp} : ∀ (ns : List Int), DpAll K H (ns.map V.int) (ns.map PyData.int)
  | [] => .nil
  | n :: ns => .cons (.int n) (dpAll_ints ns)
section
variable {P : Program} {w : World} {K : PySem.W.Frag} {mg : Str → Option Value} {base : Heap}
theorem shaped_nil : SeqAt.shaped (.list []) = true := by decide +kernel
theorem canLay_ints : ∀ (ns : List Int), PyData.canLayAll0 (ns.map PyData.int) = true
  | [] => by simp [PyData.canLayAll0]
  | n :: ns => by simp [PyData.canLayAll0, PyData.canLay0, canLay_ints ns]
theorem depth_ints : ∀ (ns : List Int), PyData.depthAll (ns.map PyData.int) = 0
  | [] => rfl
  | n :: ns => by simp [PyData.depthAll, PyData.depth, depth_ints ns]
theorem shaped_ints (ns : List Int) : SeqAt.shaped (.list (ns.map PyData.int)) = true := by
  unfold SeqAt.shaped
  simp [PyData.canLay0, canLay_ints, PyData.depth, depth_ints]
/-- xs != [], xs a list of ints -/
theorem ev_neNil {σ : L2.St} {H : Hp} {ta : TE} {l : Addr} {cells : List Int} (ha : Ev ta σ H (.ref l)) (h : SqL K H l (cells.map V.int)) :
    ∃ b : Bool, Ev (tOp (rNeD K) ta (tLst tNil)) σ H (.bl b) ∧ (b = true → cells ≠ []) := by
  refine ⟨!(PyData.eqv (.list (cells.map PyData.int)) (.list [])), ev_opL (xs := []) ha (el_lst ea_nil (by decide)) (fun p H1 h1 e => ?_), ?_⟩
  · exact fun H2 e2 Q q => ⟨_, _, .lst (ex_l (e.trans e2) h) (dpAll_ints cells), .lst (sq_of (e2 _ _ h1)) .nil, shaped_ints cells, shaped_nil, q H2 (Ex.refl H2)⟩
  · intro hb hc
    subst hc
    exact absurd hb (by decide +kernel)
end
end K01
namespace L2
open PySem PySem.Spec PyProof.Rows
section
variable {X : Cx} {k : Nat} {f : Addr} {fd : FuncData} {ps ks : List Str} {sp : Sp} {x : Str} {p pos : Pos} {kws : List Keyword} {tk : TA} {g : List Value → List Value → List Value} {gV : List V → List V → List V}
/-- f(k = v, ..), keywords alone -/
theorem pe_callK0 (F : FnOk X.prog X.w X.K X.mg X.base CX0 k f fd ps sp) (hr : Room k X.A) (hg : Gl X x) (hm : X.mg x = some (.ref f)) (hk : PySem.W.keepIn X.K (.ref f) = true) (hb : KBn X.K fd ps 0 ks g gV) (hkw : PK X kws tk)
    (hall : (backToKw pos (keywordEach kws X.env)).all (·.1.isSome) = true := by rfl) (hks : (backToKw pos (keywordEach kws X.env)).filterMap (·.1) = ks := by rfl) (hdb : (x == ("__debug__" : Str)) = false := by decide)
    (hpl : ((backTo pos (starEach [] X.env)).any (·.1) || (backToKw pos (keywordEach kws X.env)).any (·.1.isNone)) = false := by rfl) :
    PE X (.Call (.Name x p) [] kws pos) (tCallN 0 ks.length sp gV E0 tNil tk) := by
  refine ⟨fun pins s σ H Q I h => ?_⟩
  refine wpAny_Call_Name_kw (ld_glob I hg hm ?_ hdb)
  refine PySem.W.callWith_KW0 (h₀ := X.base) I.ok.mod.kin hk hall ?_ hpl
  refine thn (hkw.run pos pins s σ H _ I h) fun ws s2 ⟨zs, H2, I2, rz, l1, l2, q2⟩ => ⟨I2.kIn, ?_⟩
  rw [hks]
  exact run_fnN (us := []) (vs := []) F hr hb pass0 I2 .nil rz rfl l2 q2
/-- how a def without defaults binds keywords alone -/
theorem Fun.kb {K : PySem.W.Frag} {x qual : Str} {st : Stmt} {f : Addr} {fd : FuncData} {ps ks : List Str} (F : Fun K x qual st f fd) (n : Nat) (g : {α : Type} → List α → List α → List α)
    (hrel : ∀ {vs zs : List V} {us ws : List Value}, Vals vs us → Vals zs ws → Vals (g vs zs) (g us ws))
    (h : ∀ (kV doc pm : Value) (an : Option Addr) (cdv ct : Value) (us ws : List Value), us.length = n → ws.length = ks.length → bindArgs (PySem.W.fnOf x qual (defArgs st) (defBody st) (defScope st) .none kV doc pm an cdv ct) ⟨us, ks.zip ws⟩ = pure (ps.zip (g us ws))) :
    KBn K fd ps n ks (fun us ws => g us ws) (fun vs zs => g vs zs) := by
  obtain ⟨oc, od, kV, doc, pm, an, cdv, ct, osl, rfl, lk, hcd⟩ := F.ex
  exact ⟨fun s us ws _ l1 l2 => .of_eq (h kV doc pm an cdv ct us ws l1 l2), fun r1 r2 => hrel r1 r2⟩
end
end L2
namespace K01
open PySem L2 Evl
abbrev sIsInt : Stmt := top 3
abbrev sWithin : Stmt := top 4
abbrev sFrom0 : Stmt := top 5
structure GlbT (mg : Str → Option Value) : Prop where
  inst : mg "isinstance" = none
  int : mg "int" = none
  bool : mg "bool" = none
  str : mg "str" = none
  len : mg "len" = none
theorem tyx_mono {K : PySem.W.Frag} {H H' : Hp} {x : V} {t : Value} (e : Ex H H') (h : TyX K H x t) : TyX K H' x t := by
  cases h with
  | base b =>
    refine .base ?_
    cases b with
    | non => exact .non
    | bl b => exact .bl b
    | int i => exact .int i
    | str x => exact .str x
    | flt x => exact .flt x
    | lst q => exact .lst (e _ _ q)
    | frz q => exact .frz (e _ _ q)
    | tup q => exact .tup (e _ _ q)
    | dK q => exact .dK (e _ _ q)
    | dT q => exact .dT (e _ _ q)
    | ins q a b c d f => exact .ins (e _ _ q) a b c d f
  | byt b => exact .byt b
  | set q => exact .set (e _ _ q)
  | kList q c => exact .kList q c
  | kTuple q c => exact .kTuple q c
  | kDict q c => exact .kDict q c
  | fTuple q => exact .fTuple (e _ _ q)
  | fDict q => exact .fDict (e _ _ q)
theorem rc_isi {K : PySem.W.Frag} {H : Hp} {x : V} {a b : String} {r : Bool} (h : TyX K H x (.type a)) (hk : kitB a b = some r) : RC (rIsi K) [x, .ty b] H (.bl r) := fun H1 e _ q => ⟨x, .ty b, .type a, .type b, r, rfl, .ty b, tyx_mono e h, kit_ty hk, q H1 (Ex.refl H1)⟩
section
variable {P : Program} {w : World} {K : PySem.W.Frag} {mg : Str → Option Value} {base : Heap}
/-! ### is_integer -/
def spIsInt (K : PySem.W.Frag) : Sp := fun vs H Q _ => ∃ (x : V) (T : String) (a b : Bool), vs = [x] ∧ TyX K H x (.type T) ∧ kitB T "int" = some a ∧ kitB T "bool" = some b ∧ RetV (.bl (a && !b)) H Q
theorem scIsInt : FnScope ["value"] ["value"] (defScope sIsInt) := ⟨rfl, rfl, rfl, by decide +kernel, rfl, by decide +kernel, by decide +kernel⟩
theorem ok_isInt {f : Addr} {fd : FuncData} (F : Fun K "is_integer" "is_integer" sIsInt f fd) (T : GlbT mg) : FnOk P w K mg base CX0 1 f fd ["value"] (spIsInt K) := by
  refine F.ok scIsInt (fun vs H Q E h => ?_) (fun cdv A outer s H vs Q E hr h => ?_)
  · obtain ⟨x, t, a, b, rfl, _⟩ := h
    rfl
  · obtain ⟨x, t, a, b, rfl, ht, ha, hb, k⟩ := h
    refine ⟨_, pss_one (ps_ret (pe_and (pe_callB call_isi (by rfl) T.inst (by decide +kernel) (pa_cons (pv 0) (pa_cons (pe_bltn (v := .ty "int") (by rfl) T.int (by decide +kernel) rfl) pa_nil)))
      (pe_one (pe_not (pe_callB call_isi (by rfl) T.inst (by decide +kernel) (pa_cons (pv 0) (pa_cons (pe_bltn (v := .ty "bool") (by rfl) T.bool (by decide +kernel) rfl) pa_nil))))))), ?_⟩
    exact s_ret (ev_andV (ev_cb (ea_cons (ev_var rfl) (ea_cons ev_c ea_nil)) (rc_isi ht ha)) fun _ => ev_notV (ev_cb (ea_cons (ev_var rfl) (ea_cons ev_c ea_nil)) (rc_isi ht hb))) k
/-! ### is_within -/
def spWithin (K : PySem.W.Frag) : Sp := fun vs H Q _ => (∃ i lo hi : Int, vs = [.int i, .int lo, .int hi] ∧ RetV (.bl (decide (lo ≤ i) && decide (i ≤ hi))) H Q) ∨
  ∃ (x y z : V) (T : String) (a b : Bool), vs = [x, y, z] ∧ TyX K H x (.type T) ∧ kitB T "int" = some a ∧ kitB T "bool" = some b ∧ (a && !b) = false ∧ RetV (.bl false) H Q
theorem scWithin : FnScope ["value", "least", "most"] ["value", "least", "most"] (defScope sWithin) := ⟨rfl, rfl, rfl, by decide +kernel, rfl, by decide +kernel, by decide +kernel⟩
theorem spv_isInt {H : Hp} {x : V} {t : String} {a b : Bool} (ht : TyX K H x (.type t)) (ha : kitB t "int" = some a) (hb : kitB t "bool" = some b) : SpV (spIsInt K) [x] H (.bl (a && !b)) := fun H1 e Q q E => ⟨x, t, a, b, rfl, tyx_mono e ht, ha, hb, q⟩
theorem kit_int_int : kitB "int" "int" = some true := by decide +kernel
theorem kit_int_bool : kitB "int" "bool" = some false := by decide +kernel
theorem ev_chain {σ : L2.St} {H : Hp} {ta tb tc : TE} {i j l : Int} {f g : Int → Int → Bool} (ha : Ev ta σ H (.int i)) (hb : Ev tb σ H (.int j)) (hc : Ev tc σ H (.int l)) :
    Ev (tChain (rI0 fun i j => .bl (f i j)) (rI0 fun i j => .bl (g i j)) ta tb tc) σ H (.bl (f i j && g j l)) := fun H1 e Q q =>
  ha H1 e _ fun H2 e2 => hb H2 (e.trans e2) _ fun H3 e3 => ⟨i, j, rfl, rfl, f i j, rfl, by
    cases h : f i j with
    | true =>
      simp only [h, Bool.true_and] at q
      exact hc H3 ((e.trans e2).trans e3) _ fun H4 e4 => ⟨j, l, rfl, rfl, q H4 ((e2.trans e3).trans e4)⟩
    | false =>
      simp only [h, Bool.false_and] at q
      exact q H3 (e2.trans e3)⟩
theorem ok_within {f fI : Addr} {fd fdI : FuncData} (F : Fun K "is_within" "is_within" sWithin f fd) (T : GlbT mg) (FI : Fun K "is_integer" "is_integer" sIsInt fI fdI) (bI : Binds K fdI ["value"] []) (gI : mg "is_integer" = some (.ref fI)) :
    FnOk P w K mg base CX0 2 f fd ["value", "least", "most"] (spWithin K) := by
  have GI : FnOk P w K mg base CX0 1 fI fdI ["value"] (spIsInt K) := ok_isInt FI T
  refine F.ok scWithin (fun vs H Q E h => ?_) (fun cdv A outer s H vs Q E hr h => ?_)
  · rcases h with ⟨i, lo, hi, rfl, _⟩ | ⟨x, y, z, t, a, b, rfl, _⟩ <;> rfl
  · have body : ∀ {x y z : V}, vs = [x, y, z] → ∀ {r : Bool}, Ev (tAndV (tCall (spIsInt K) [] E0 (tCons (tVar 0) tNil)) (tChain (rI0 fun i j => .bl (decide (i ≤ j))) (rI0 fun i j => .bl (decide (i ≤ j))) (tVar 1) (tVar 0) (tVar 2))) [some x, some y, some z] H (.bl r) → RetV (.bl r) H Q →
        ∃ t, PSs (cxOf CX0 P w K mg base ["value", "least", "most"] "is_within" (defScope sWithin) f cdv A outer s H E).nox (defBody sWithin) t ∧ t { nx := fun _ H' => Q .non H', rt := Q } (start ["value", "least", "most"] vs) H := by
      rintro x y z rfl r ev k
      exact ⟨_, pss_one (ps_ret (pe_and (pe_call GI hr (by rfl) gI FI.kp bI .nil pass0 (pa_cons (pv 0) pa_nil)) (pe_one (pe_chain op_le op_le (pv 1) (pv 0) (pv 2))))), s_ret ev k⟩
    rcases h with ⟨i, lo, hi, rfl, k⟩ | ⟨x, y, z, t, a, b, rfl, ht, ha, hb, hn, k⟩
    · refine body rfl (ev_andV (a := true) (ev_call (z := .bl true) (ea_cons (ev_var rfl) ea_nil) (spv_isInt (.base (.int i)) kit_int_int kit_int_bool)) fun _ => ev_chain (ev_var rfl) (ev_var rfl) (ev_var rfl)) k
    · refine body rfl (r := false) (ev_andV (a := false) (b := false) (ev_call (ea_cons (ev_var rfl) ea_nil) (by have q := spv_isInt ht ha hb; rw [hn] at q; exact q)) fun z => absurd z (by decide)) k
/-! ### is_from_zero -/
def spFrom0 (K : PySem.W.Frag) : Sp := fun vs H Q _ => (∃ i : Int, vs = [.int i] ∧ RetV (.bl (decide (0 ≤ i))) H Q) ∨
  ∃ (x : V) (T : String) (a b : Bool), vs = [x] ∧ TyX K H x (.type T) ∧ kitB T "int" = some a ∧ kitB T "bool" = some b ∧ (a && !b) = false ∧ RetV (.bl false) H Q
theorem scFrom0 : FnScope ["value"] ["value"] (defScope sFrom0) := ⟨rfl, rfl, rfl, by decide +kernel, rfl, by decide +kernel, by decide +kernel⟩
theorem ok_from0 {f fI : Addr} {fd fdI : FuncData} (F : Fun K "is_from_zero" "is_from_zero" sFrom0 f fd) (T : GlbT mg) (FI : Fun K "is_integer" "is_integer" sIsInt fI fdI) (bI : Binds K fdI ["value"] []) (gI : mg "is_integer" = some (.ref fI)) :
    FnOk P w K mg base CX0 2 f fd ["value"] (spFrom0 K) := by
  have GI : FnOk P w K mg base CX0 1 fI fdI ["value"] (spIsInt K) := ok_isInt FI T
  refine F.ok scFrom0 (fun vs H Q E h => ?_) (fun cdv A outer s H vs Q E hr h => ?_)
  · rcases h with ⟨i, rfl, _⟩ | ⟨x, t, a, b, rfl, _⟩ <;> rfl
  · rcases h with ⟨i, rfl, k⟩ | ⟨x, t, a, b, rfl, ht, ha, hb, hn, k⟩
    all_goals refine ⟨_, pss_one (ps_ret (pe_and (pe_call GI hr (by rfl) gI FI.kp bI .nil pass0 (pa_cons (pv 0) pa_nil)) (pe_one (pe_cmpR op_ge (pv 0) pe_int (nomark _))))), ?_⟩
    · refine s_ret (ev_is (ev_andV (a := true) (ev_call (z := .bl true) (ea_cons (ev_var rfl) ea_nil) (spv_isInt (.base (.int i)) kit_int_int kit_int_bool)) fun _ => ev_op (ev_var rfl) ev_c rv_I0) (by rfl)) k
    · refine s_ret (ev_andV (a := false) (b := false) (ev_call (ea_cons (ev_var rfl) ea_nil) (by have q := spv_isInt ht ha hb; rw [hn] at q; exact q)) fun z => absurd z (by decide)) k
end
end K01
/-! sequences that come round: periods, borders of a row, the least period, the normal form of a growth -/
namespace Gr
/-! ### periods of a sequence -/
def Pd {α : Type} (d : Nat → α) (q : Nat) : Prop := ∀ k, d (k + q) = d k
section
variable {α : Type} {d : Nat → α} {p q n : Nat}
theorem Pd.zero : Pd d 0 := fun _ => rfl
theorem Pd.mul (h : Pd d q) : ∀ j k, d (k + j * q) = d k
  | 0, k => by rw [Nat.zero_mul, Nat.add_zero]
  | j + 1, k => by rw [Nat.succ_mul, ← Nat.add_assoc, h, Pd.mul h j]
theorem Pd.mod (h : Pd d q) (k : Nat) : d (k % q) = d k := by
  have e := Nat.mod_add_div k q
  rw [Nat.mul_comm] at e
  have := Pd.mul h (k / q) (k % q)
  rw [e] at this
  exact this.symm
theorem Pd.sub (hp : Pd d p) (hq : Pd d q) (h : p ≤ q) : Pd d (q - p) := fun k => by
  have e : k + (q - p) + p = k + q := by omega
  rw [← hp (k + (q - p)), e, hq]
theorem Pd.rem (hp : Pd d p) (hq : Pd d q) : Pd d (q % p) := fun k => by
  have e : k + q % p + q / p * p = k + q := by
    have := Nat.mod_add_div q p
    rw [Nat.mul_comm] at this
    omega
  rw [← Pd.mul hp (q / p) (k + q % p), e, hq]
theorem Pd.gcd : ∀ (p q : Nat), Pd d p → Pd d q → Pd d (Nat.gcd p q) := by
  intro p
  induction p using Nat.strongRecOn with
  | ind p ih =>
    intro q hp hq
    rcases Nat.eq_zero_or_pos p with h | h
    · rw [h, Nat.gcd_zero_left]
      exact hq
    · rw [Nat.gcd_rec]
      exact ih (q % p) (Nat.mod_lt _ h) p (hp.rem hq) hp
/-- the least one -/
structure Least (d : Nat → α) (p : Nat) : Prop where
  pos : 0 < p
  pd : Pd d p
  le : ∀ q, 0 < q → Pd d q → p ≤ q
end
/-! ### rows -/
def at' (g : List Int) (i : Nat) : Int := g.getD i 0
/-- the row, again and again -/
def dif (g : List Int) (k : Nat) : Int := at' g (k % g.length)
/-- within the row what stands p further on is the same -/
def Per (g : List Int) (p : Nat) : Prop := ∀ i, i + p < g.length → at' g (i + p) = at' g i
section
variable {g : List Int} {p q : Nat}
theorem dif_pd : Pd (dif g) g.length := fun k => by unfold dif; rw [Nat.add_mod_right]
theorem dif_lt {k : Nat} (h : k < g.length) : dif g k = at' g k := by unfold dif; rw [Nat.mod_eq_of_lt h]
theorem Pd.per (h : Pd (dif g) p) : Per g p := fun i hi => by
  have := h i
  rwa [dif_lt hi, dif_lt (by omega)] at this
theorem Per.mul (h : Per g p) : ∀ j i, i + j * p < g.length → at' g (i + j * p) = at' g i
  | 0, i, _ => by rw [Nat.zero_mul, Nat.add_zero]
  | j + 1, i, hi => by
    rw [Nat.succ_mul, ← Nat.add_assoc] at hi ⊢
    rw [h _ hi, Per.mul h j i (by omega)]
theorem Per.pd (h : Per g p) (hp : 0 < p) (hd : p ∣ g.length) (hn : 0 < g.length) : Pd (dif g) p := fun k => by
  obtain ⟨c, hc⟩ := hd
  have hr : k % g.length < g.length := Nat.mod_lt _ hn
  unfold dif
  rw [Nat.add_mod]
  generalize k % g.length = r at hr
  have hpn : p ≤ g.length := by
    rcases c with _ | c
    · rw [Nat.mul_zero] at hc; omega
    · rw [hc]; exact Nat.le_mul_of_pos_right p (Nat.succ_pos c)
  rcases Nat.lt_or_ge p g.length with h1 | h1
  · rw [Nat.mod_eq_of_lt h1]
    rcases Nat.lt_or_ge (r + p) g.length with h2 | h2
    · rw [Nat.mod_eq_of_lt h2]
      exact h r h2
    · rw [Nat.mod_eq_sub_mod h2, Nat.mod_eq_of_lt (by omega)]
      rcases c with _ | c
      · rw [Nat.mul_zero] at hc; omega
      have e : r + p - g.length + c * p = r := by
        have : p * (c + 1) = c * p + p := by rw [Nat.mul_comm, Nat.succ_mul]
        omega
      have z := h.mul c (r + p - g.length) (by rw [e]; exact hr)
      rw [e] at z
      exact z.symm
  · have e : p = g.length := Nat.le_antisymm hpn h1
    rw [e, Nat.mod_self, Nat.add_zero, Nat.mod_eq_of_lt hr]
end
/-! ### borders: the longest one of each beginning -/
/-- w signs at the end of the first m are the first w -/
def Bd (g : List Int) (m w : Nat) : Prop := w < m ∧ ∀ i, i < w → at' g (m - w + i) = at' g i
structure Lb (g : List Int) (m w : Nat) : Prop where
  bd : Bd g m w
  top : ∀ v, Bd g m v → v ≤ w
section
variable {g : List Int} {m w v : Nat}
theorem bd_zero (h : 0 < m) : Bd g m 0 := ⟨h, fun i hi => absurd hi (Nat.not_lt_zero i)⟩
theorem lb_one : Lb g 1 0 := ⟨bd_zero Nat.one_pos, fun v h => by have := h.1; omega⟩
theorem bd_succ : Bd g (m + 1) (v + 1) ↔ Bd g m v ∧ at' g m = at' g v := by
  constructor
  · rintro ⟨h, a⟩
    have hv : v < m := by omega
    refine ⟨⟨hv, fun i hi => ?_⟩, ?_⟩
    · have := a i (by omega)
      rwa [show m + 1 - (v + 1) + i = m - v + i by omega] at this
    · have := a v (by omega)
      rwa [show m + 1 - (v + 1) + v = m by omega] at this
  · rintro ⟨⟨h, a⟩, e⟩
    refine ⟨by omega, fun i hi => ?_⟩
    rw [show m + 1 - (v + 1) + i = m - v + i by omega]
    rcases Nat.lt_or_ge i v with h1 | h1
    · exact a i h1
    · have : i = v := by omega
      subst this
      rw [show m - i + i = m by omega]
      exact e
/-- a border of a border, and the other way round -/
theorem bd_trans (h : Bd g m w) (h2 : Bd g w v) : Bd g m v := by
  refine ⟨Nat.lt_trans h2.1 h.1, fun i hi => ?_⟩
  have := h.2 (w - v + i) (by have := h2.1; omega)
  rw [show m - w + (w - v + i) = m - v + i by have := h.1; have := h2.1; omega] at this
  rw [this]
  exact h2.2 i hi
theorem bd_down (h : Bd g m w) (h2 : Bd g m v) (hv : v < w) : Bd g w v := by
  refine ⟨hv, fun i hi => ?_⟩
  have a := h.2 (w - v + i) (by omega)
  rw [show m - w + (w - v + i) = m - v + i by have := h.1; omega] at a
  rw [← a]
  exact h2.2 i hi
/-- what the search for the next border keeps: a border, and none that goes on is longer -/
def Srch (g : List Int) (m w : Nat) : Prop := Bd g m w ∧ ∀ v, Bd g m v → at' g m = at' g v → v ≤ w
theorem srch_start (h : Lb g m w) : Srch g m w := ⟨h.bd, fun v b _ => h.top v b⟩
theorem srch_step (h : Srch g m w) (hw : 0 < w) (hne : at' g m ≠ at' g w) {w' : Nat} (b : Lb g w w') : Srch g m w' ∧ w' < w :=
  ⟨⟨bd_trans h.1 b.bd, fun v hv e => by
    have h1 := h.2 v hv e
    have h2 : v ≠ w := fun z => hne (z ▸ e)
    exact b.top v (bd_down h.1 hv (by omega))⟩, b.bd.1⟩
theorem srch_yes (h : Srch g m w) (e : at' g m = at' g w) : Lb g (m + 1) (w + 1) := by
  refine ⟨bd_succ.mpr ⟨h.1, e⟩, fun v hv => ?_⟩
  rcases v with _ | v
  · exact Nat.zero_le _
  · obtain ⟨a, b⟩ := bd_succ.mp hv
    exact Nat.succ_le_succ (h.2 v a b)
theorem srch_no (h : Srch g m 0) (e : at' g m ≠ at' g 0) : Lb g (m + 1) 0 := by
  refine ⟨bd_zero (Nat.succ_pos m), fun v hv => ?_⟩
  rcases v with _ | v
  · exact Nat.le_refl _
  · obtain ⟨a, b⟩ := bd_succ.mp hv
    have : v = 0 := Nat.le_zero.mp (h.2 v a b)
    subst this
    exact absurd b e
end
/-! ### the least period of a row, by its longest border -/
section
variable {g : List Int} {b : Nat}
theorem Per.bd {p : Nat} (h : Per g p) (hp : 0 < p) (hn : p ≤ g.length) : Bd g g.length (g.length - p) := by
  refine ⟨by omega, fun i hi => ?_⟩
  have := h i (by omega)
  rw [show g.length - (g.length - p) + i = i + p by omega]
  exact this
theorem Bd.per (h : Bd g g.length b) : Per g (g.length - b) := fun i hi => by
  have := h.2 i (by have := h.1; omega)
  rwa [Nat.add_comm] at this
theorem least_of (hn : 0 < g.length) (h : Lb g g.length b) : Least (dif g) (if g.length % (g.length - b) = 0 then g.length - b else g.length) := by
  have hb := h.bd.1
  have hq : 0 < g.length - b := by omega
  have per := h.bd.per
  have top : ∀ p, 0 < p → p ≤ g.length → Per g p → g.length - b ≤ p := fun p hp hpn pp => by
    have := h.top _ (pp.bd hp hpn)
    omega
  -- each period of the endless row has a divisor of the length below it that is one too
  have down : ∀ q, 0 < q → Pd (dif g) q → ∃ c, 0 < c ∧ c ∣ g.length ∧ c ≤ q ∧ c ≤ g.length ∧ Pd (dif g) c := fun q hq0 hqd =>
    ⟨Nat.gcd q g.length, Nat.gcd_pos_of_pos_left _ hq0, Nat.gcd_dvd_right _ _, Nat.gcd_le_left _ hq0, Nat.gcd_le_right _ hn, Pd.gcd q g.length hqd dif_pd⟩
  by_cases e : g.length % (g.length - b) = 0
  · rw [if_pos e]
    refine ⟨hq, per.pd hq (Nat.dvd_of_mod_eq_zero e) hn, fun q hq0 hqd => ?_⟩
    obtain ⟨c, c0, _, cq, cn, cd⟩ := down q hq0 hqd
    exact Nat.le_trans (top c c0 cn cd.per) cq
  · rw [if_neg e]
    refine ⟨hn, dif_pd, fun q hq0 hqd => ?_⟩
    obtain ⟨c, c0, cv, cq, cn, cd⟩ := down q hq0 hqd
    rcases Nat.lt_or_ge c g.length with h1 | h1
    · exfalso
      have h2 : g.length - b ≤ c := top c c0 cn cd.per
      obtain ⟨z, hz⟩ := cv
      have h3 : c + c ≤ g.length := by
        rcases z with _ | _ | z
        · rw [Nat.mul_zero] at hz; omega
        · rw [Nat.mul_one] at hz; omega
        · rw [hz, show z + 1 + 1 = z + 2 from rfl, Nat.mul_add, Nat.mul_two]; omega
      have pd : Pd (dif g) (g.length - b) := fun k => by
        have r : k % c < c := Nat.mod_lt _ c0
        have a : dif g (k % c) = dif g k := cd.mod k
        have a2 : dif g (k + (g.length - b)) = dif g (k % c + (g.length - b)) := by
          have e1 := Nat.mod_add_div k c
          rw [Nat.mul_comm] at e1
          have := cd.mul (k / c) (k % c + (g.length - b))
          rw [show k % c + (g.length - b) + k / c * c = k + (g.length - b) by omega] at this
          exact this
        rw [a2, ← a, dif_lt (by omega), dif_lt (by omega)]
        exact per _ (by omega)
      have q2 := Pd.gcd (g.length - b) g.length pd dif_pd
      have g0 : 0 < Nat.gcd (g.length - b) g.length := Nat.gcd_pos_of_pos_left _ hq
      have l1 := top _ g0 (Nat.gcd_le_right _ hn) q2.per
      have l2 := Nat.gcd_le_left (g.length) hq
      have e2 : Nat.gcd (g.length - b) g.length = g.length - b := Nat.le_antisymm l2 l1
      exact e (Nat.mod_eq_zero_of_dvd (e2 ▸ Nat.gcd_dvd_right (g.length - b) g.length))
    · exact Nat.le_trans h1 cq
end
end Gr
namespace Gr
/-! ### sums of beginnings -/
def acc (d : Nat → Int) : Nat → Int
  | 0 => 0
  | n + 1 => acc d n + d n
theorem acc_add (d : Nat → Int) (m : Nat) : ∀ n, acc d (m + n) = acc d m + acc (fun k => d (m + k)) n
  | 0 => by rw [Nat.add_zero]; exact (Int.add_zero _).symm
  | n + 1 => by
    rw [← Nat.add_assoc]
    show acc d (m + n) + d (m + n) = acc d m + (acc _ n + d (m + n))
    rw [acc_add d m n, Int.add_assoc]
theorem acc_congr {d e : Nat → Int} : ∀ n, (∀ k, k < n → d k = e k) → acc d n = acc e n
  | 0, _ => rfl
  | n + 1, h => by
    show acc d n + d n = acc e n + e n
    rw [acc_congr n fun k hk => h k (by omega), h n (Nat.lt_succ_self n)]
theorem acc_mul {d : Nat → Int} {p : Nat} (h : Pd d p) : ∀ j r, acc d (j * p + r) = j * acc d p + acc d r
  | 0, r => by rw [Nat.zero_mul, Nat.zero_add]; show acc d r = ((0 : Nat) : Int) * _ + _; rw [Int.natCast_zero, Int.zero_mul, Int.zero_add]
  | j + 1, r => by
    rw [Nat.succ_mul, show j * p + p + r = p + (j * p + r) by omega, acc_add]
    rw [acc_congr (e := d) (j * p + r) fun k _ => by rw [Nat.add_comm p k]; exact h k]
    rw [acc_mul h j r]
    rw [show ((j + 1 : Nat) : Int) = (j : Int) + 1 from rfl, Int.add_mul, Int.one_mul]
    omega
/-! ### growths -/
/-- the last one of a row -/
def lst (t : List Int) : Int := at' t (t.length - 1)
/-- the value at a number, by told values and gains -/
def val (t g : List Int) (n : Nat) : Int := if n < t.length then at' t n else lst t + acc (dif g) (n - t.length + 1)
section
variable {t t' g g' : List Int} {n : Nat}
theorem val_lt (h : n < t.length) : val t g n = at' t n := if_pos h
/-- from the last told value on -/
theorem val_ge (h0 : 0 < t.length) (k : Nat) : val t g (t.length - 1 + k) = lst t + acc (dif g) k := by
  unfold val
  rcases Nat.eq_zero_or_pos k with h | h
  · subst h
    rw [if_pos (by omega)]
    show at' t (t.length - 1 + 0) = lst t + 0
    rw [Int.add_zero]
    rfl
  · rw [if_neg (by omega), show t.length - 1 + k - t.length + 1 = k by omega]
theorem val_step (h0 : 0 < t.length) (k : Nat) : val t g (t.length - 1 + k + 1) - val t g (t.length - 1 + k) = dif g k := by
  rw [Nat.add_assoc, val_ge h0, val_ge h0]
  show lst t + (acc (dif g) k + dif g k) - (lst t + acc (dif g) k) = dif g k
  omega
/-- the rounds taken at once -/
theorem val_far (h0 : 0 < t.length) (hn : t.length ≤ n) : val t g n = lst t + ((n - t.length + 1) / g.length : Nat) * acc (dif g) g.length + acc (dif g) ((n - t.length + 1) % g.length) := by
  unfold val
  rw [if_neg (by omega)]
  have e := Nat.mod_add_div (n - t.length + 1) g.length
  rw [Nat.mul_comm, Nat.add_comm] at e
  rw [← e, acc_mul dif_pd, e, Int.add_assoc]
/-- the normal form -/
structure NF (t g : List Int) : Prop where
  told : 0 < t.length
  gains : 0 < g.length
  least : Least (dif g) g.length
  few : t.length = 1 ∨ at' t (t.length - 1) - at' t (t.length - 2) ≠ lst g
/-- by how much the values rise -/
def rise (t g : List Int) (n : Nat) : Int := val t g (n + 1) - val t g n
theorem rise_ge (h0 : 0 < t.length) (h : t.length - 1 ≤ n) : rise t g n = dif g (n - (t.length - 1)) := by
  have := val_step (g := g) h0 (n - (t.length - 1))
  rwa [show t.length - 1 + (n - (t.length - 1)) = n by omega] at this
/-- the number of gains is the least number by which the rises come round at last -/
theorem least_end (h : NF t g) {q : Nat} (hq : 0 < q) {m : Nat} (hm : ∀ n, m ≤ n → rise t g (n + q) = rise t g n) : g.length ≤ q := by
  refine h.least.le q hq fun k => ?_
  have a := hm (t.length - 1 + (k + m * g.length)) (by have : m ≤ m * g.length := Nat.le_mul_of_pos_right m h.gains; omega)
  rw [rise_ge h.told (by omega), rise_ge h.told (by omega)] at a
  rw [show t.length - 1 + (k + m * g.length) + q - (t.length - 1) = k + q + m * g.length by omega, show t.length - 1 + (k + m * g.length) - (t.length - 1) = k + m * g.length by omega] at a
  rwa [dif_pd.mul, dif_pd.mul] at a
theorem end_pd (h : NF t g) (n : Nat) (hn : t.length - 1 ≤ n) : rise t g (n + g.length) = rise t g n := by
  rw [rise_ge h.told (by omega), rise_ge h.told hn, show n + g.length - (t.length - 1) = n - (t.length - 1) + g.length by omega]
  exact dif_pd _
theorem at_eq_of {a b : List Int} (hl : a.length = b.length) (h : ∀ i, i < a.length → at' a i = at' b i) : a = b := by
  refine List.ext_getElem? fun i => ?_
  rcases Nat.lt_or_ge i a.length with h1 | h1
  · have := h i h1
    unfold at' at this
    rw [List.getD_eq_getElem?_getD, List.getD_eq_getElem?_getD] at this
    rw [List.getElem?_eq_getElem h1, List.getElem?_eq_getElem (hl ▸ h1)] at this ⊢
    exact congrArg some this
  · rw [List.getElem?_eq_none h1, List.getElem?_eq_none (hl ▸ h1)]
theorem told_le (h : NF t g) (h' : NF t' g') (e : ∀ n, val t g n = val t' g' n) (eg : g.length = g'.length) : t'.length ≤ t.length := by
  rcases Nat.lt_or_ge t.length t'.length with hl | hl
  · exfalso
    have re : ∀ n, rise t g n = rise t' g' n := fun n => by unfold rise; rw [e, e]
    rcases h'.few with z | z
    · have := h.told; omega
    · apply z
      have t0 := h.told
      have a : rise t' g' (t'.length - 2) = at' t' (t'.length - 1) - at' t' (t'.length - 2) := by
        unfold rise
        rw [show t'.length - 2 + 1 = t'.length - 1 by omega, val_lt (by omega), val_lt (by omega)]
      have b : rise t' g' (t'.length - 2 + g.length) = lst g' := by
        have g0 := h.gains
        rw [rise_ge h'.told (by omega), show t'.length - 2 + g.length - (t'.length - 1) = g'.length - 1 by omega, dif_lt (by omega)]
        rfl
      rw [← a, ← b, ← re, ← re]
      exact (end_pd h _ (by omega)).symm
  · exact hl
/-- one normal form -/
theorem nf_one (h : NF t g) (h' : NF t' g') (e : ∀ n, val t g n = val t' g' n) : t = t' ∧ g = g' := by
  have re : ∀ n, rise t g n = rise t' g' n := fun n => by unfold rise; rw [e, e]
  have l1 : g.length ≤ g'.length := least_end h h'.gains (m := t'.length - 1) fun n hn => by rw [re, re]; exact end_pd h' n hn
  have l2 : g'.length ≤ g.length := least_end h' h.gains (m := t.length - 1) fun n hn => by rw [← re, ← re]; exact end_pd h n hn
  have eg : g.length = g'.length := Nat.le_antisymm l1 l2
  have et : t.length = t'.length := Nat.le_antisymm (told_le h' h (fun n => (e n).symm) eg.symm) (told_le h h' e eg)
  refine ⟨at_eq_of et fun i hi => ?_, at_eq_of eg fun i hi => ?_⟩
  · have := e i
    rwa [val_lt hi, val_lt (et ▸ hi)] at this
  · have a := rise_ge (g := g) h.told (n := t.length - 1 + i) (by omega)
    have b := rise_ge (g := g') h'.told (n := t.length - 1 + i) (by omega)
    rw [re, b, show t.length - 1 + i - (t.length - 1) = i by omega, show t.length - 1 + i - (t'.length - 1) = i by omega, dif_lt hi, dif_lt (eg ▸ hi)] at a
    exact a.symm
end
/-! ### told values that the gains give anyway -/
section
variable {t g : List Int} {s : Nat}
/-- the gain that would be i steps ahead of the first one -/
def back (g : List Int) (s : Nat) : Int := at' g (g.length - 1 - s % g.length)
/-- the last s told values are those that the gains give -/
def Spr (t g : List Int) (s : Nat) : Prop := s < t.length ∧ ∀ i, i < s → at' t (t.length - 1 - i) - at' t (t.length - 1 - i - 1) = back g i
theorem spr_zero (h : 0 < t.length) : Spr t g 0 := ⟨h, fun i hi => absurd hi (Nat.not_lt_zero i)⟩
theorem spr_step (h : Spr t g s) (hs : s < t.length - 1) (e : at' t (t.length - 1 - s) - at' t (t.length - 1 - s - 1) = back g s) : Spr t g (s + 1) :=
  ⟨by omega, fun i hi => by
    rcases Nat.lt_or_ge i s with z | z
    · exact h.2 i z
    · rw [show i = s by omega]
      exact e⟩
/-- told values and gains without the last s told values -/
def cutT (t : List Int) (s : Nat) : List Int := t.take (t.length - s)
def cutG (g : List Int) (s : Nat) : List Int := g.drop (g.length - s % g.length) ++ g.take (g.length - s % g.length)
theorem cutT_len (hs : s < t.length) : (cutT t s).length = t.length - s := by
  unfold cutT
  rw [List.length_take]
  omega
theorem cutG_len : (cutG g s).length = g.length := by
  unfold cutG
  rw [List.length_append, List.length_drop, List.length_take]
  omega
theorem at_take {l : List Int} {n i : Nat} (h : i < n) : at' (l.take n) i = at' l i := by
  unfold at'
  rw [List.getD_eq_getElem?_getD, List.getD_eq_getElem?_getD, List.getElem?_take_of_lt h]
theorem at_drop {l : List Int} {n i : Nat} : at' (l.drop n) i = at' l (n + i) := by
  unfold at'
  rw [List.getD_eq_getElem?_getD, List.getD_eq_getElem?_getD, List.getElem?_drop]
theorem at_app {a b : List Int} {i : Nat} : at' (a ++ b) i = if i < a.length then at' a i else at' b (i - a.length) := by
  unfold at'
  rw [List.getD_eq_getElem?_getD, List.getD_eq_getElem?_getD, List.getD_eq_getElem?_getD]
  by_cases h : i < a.length
  · rw [if_pos h, List.getElem?_append_left h]
  · rw [if_neg h, List.getElem?_append_right (by omega)]
/-- the gains turned: each one s places later -/
theorem dif_cut (hg : 0 < g.length) (k : Nat) : dif (cutG g s) (k + s) = dif g k := by
  have hr : s % g.length < g.length := Nat.mod_lt _ hg
  have hk : k % g.length < g.length := Nat.mod_lt _ hg
  unfold dif
  rw [cutG_len, Nat.add_mod]
  unfold cutG
  generalize s % g.length = r at hr ⊢
  generalize k % g.length = q at hk ⊢
  rw [at_app, List.length_drop, show g.length - (g.length - r) = r by omega]
  rcases Nat.lt_or_ge (q + r) g.length with h | h
  · rw [Nat.mod_eq_of_lt h, if_neg (by omega), at_take (by omega), show q + r - r = q by omega]
  · rw [Nat.mod_eq_sub_mod h, Nat.mod_eq_of_lt (by omega), if_pos (by omega), at_drop, show g.length - r + (q + r - g.length) = q by omega]
theorem dif_cut' (hg : 0 < g.length) {k : Nat} (h : s ≤ k) : dif (cutG g s) k = dif g (k - s) := by
  have := dif_cut (s := s) hg (k - s)
  rwa [show k - s + s = k by omega] at this
/-- the gain i places ahead of the first one, told of the turned ones -/
theorem back_cut (hg : 0 < g.length) {i : Nat} (hi : i < s) : dif (cutG g s) (s - 1 - i) = back g i := by
  have p := (dif_pd (g := cutG g s)).mul (i + 1) (s - 1 - i)
  rw [cutG_len] at p
  rw [← p, dif_cut' hg (by have : i + 1 ≤ (i + 1) * g.length := Nat.le_mul_of_pos_right _ hg; omega)]
  unfold dif back
  congr 1
  have hr : i % g.length < g.length := Nat.mod_lt _ hg
  have e := Nat.mod_add_div i g.length
  generalize i % g.length = r at hr e ⊢
  generalize i / g.length = c at e
  have e3 : (i + 1) * g.length = i * g.length + g.length := by rw [Nat.add_mul, Nat.one_mul]
  have e5 : c * g.length = g.length * c := Nat.mul_comm _ _
  have i0 : i ≤ i * g.length := Nat.le_mul_of_pos_right _ hg
  have cl : c ≤ i := by
    have := Nat.le_mul_of_pos_left c hg
    omega
  -- the number of whole rounds left
  have e4 : s - 1 - i + (i + 1) * g.length - s = g.length - 1 - r + (i - c) * g.length := by
    have : (i - c) * g.length = i * g.length - c * g.length := Nat.sub_mul _ _ _
    have le2 : c * g.length ≤ i * g.length := Nat.mul_le_mul_right _ cl
    omega
  rw [e4, Nat.add_mul_mod_self_right, Nat.mod_eq_of_lt (by omega)]
theorem back_zero (hg : 0 < g.length) : back g 0 = lst g := by
  unfold back lst
  rw [Nat.zero_mod, Nat.sub_zero]
/-- what stands s places ahead of the last told value, by the gains -/
theorem spr_told (h : Spr t g s) : ∀ i, i ≤ s → at' t (t.length - 1 - s + i) = lst (cutT t s) + acc (fun k => back g (s - 1 - k)) i
  | 0, _ => by
    have := h.1
    show _ = lst (cutT t s) + 0
    unfold lst
    rw [cutT_len h.1, Int.add_zero]
    unfold cutT
    rw [at_take (by omega), Nat.add_zero, show t.length - s - 1 = t.length - 1 - s by omega]
  | i + 1, hi => by
    have h1 := h.1
    have a := spr_told h i (by omega)
    have b := h.2 (s - 1 - i) (by omega)
    rw [show t.length - 1 - (s - 1 - i) = t.length - 1 - s + (i + 1) by omega, show t.length - 1 - s + (i + 1) - 1 = t.length - 1 - s + i by omega, a] at b
    show _ = lst (cutT t s) + (acc _ i + back g (s - 1 - i))
    omega
/-- the same values -/
theorem val_cut (hg : 0 < g.length) (h : Spr t g s) (n : Nat) : val (cutT t s) (cutG g s) n = val t g n := by
  have h1 := h.1
  have len := cutT_len (t := t) h1
  rcases Nat.lt_or_ge n (t.length - s) with a | a
  · rw [val_lt (by omega), val_lt (by omega)]
    unfold cutT
    rw [at_take a]
  · obtain ⟨k, rfl⟩ : ∃ k, n = t.length - s - 1 + k := ⟨n - (t.length - s - 1), by omega⟩
    have v := val_ge (g := cutG g s) (t := cutT t s) (by omega) k
    rw [len] at v
    rw [v]
    have b : ∀ i, i < s → dif (cutG g s) i = back g (s - 1 - i) := fun i hi => by
      have := back_cut (g := g) (s := s) hg (i := s - 1 - i) (by omega)
      rwa [show s - 1 - (s - 1 - i) = i by omega] at this
    rcases Nat.lt_or_ge k (s + 1) with c | c
    · rw [val_lt (by omega), show t.length - s - 1 + k = t.length - 1 - s + k by omega, spr_told h k (by omega), acc_congr k fun i hi => b i (by omega)]
    · obtain ⟨j, rfl⟩ : ∃ j, k = s + j := ⟨k - s, by omega⟩
      rw [acc_add, acc_congr s b, acc_congr (e := dif g) j fun i _ => by rw [Nat.add_comm s i]; exact dif_cut hg i]
      have l := spr_told h s (Nat.le_refl s)
      rw [show t.length - 1 - s + s = t.length - 1 by omega] at l
      rw [show t.length - s - 1 + (s + j) = t.length - 1 + j by omega, val_ge (by omega)]
      unfold lst at l ⊢
      rw [l]
      omega
theorem least_cut (hg : 0 < g.length) (h : Least (dif g) g.length) : Least (dif (cutG g s)) (cutG g s).length := by
  refine ⟨by rw [cutG_len]; exact hg, dif_pd, fun q hq hp => ?_⟩
  rw [cutG_len]
  refine h.le q hq fun k => ?_
  have := hp (k + s)
  rw [show k + s + q = k + q + s by omega, dif_cut hg, dif_cut hg] at this
  exact this
/-- the search of told values has come to its end: the normal form -/
theorem nf_cut (hg : 0 < g.length) (l : Least (dif g) g.length) (h : Spr t g s) (e : s = t.length - 1 ∨ at' t (t.length - 1 - s) - at' t (t.length - 1 - s - 1) ≠ back g s) : NF (cutT t s) (cutG g s) := by
  have h1 := h.1
  have len := cutT_len (t := t) h1
  refine ⟨by omega, by rw [cutG_len]; exact hg, least_cut hg l, ?_⟩
  rcases e with e | e
  · left
    omega
  · by_cases z : t.length - s = 1
    · left
      omega
    · right
      rw [len]
      unfold cutT
      rw [at_take (by omega), at_take (by omega), show t.length - s - 1 = t.length - 1 - s by omega, show t.length - s - 2 = t.length - 1 - s - 1 by omega]
      have q : lst (cutG g s) = back g s := by
        have a := back_cut (g := g) (s := s + 1) hg (i := s) (Nat.lt_succ_self s)
        have r : dif (cutG g (s + 1)) (s + 1 - 1 - s) = dif (cutG g s) (g.length - 1) := by
          rw [show s + 1 - 1 - s = 0 by omega]
          have p := (dif_pd (g := cutG g (s + 1))).mul (s + 1) 0
          rw [cutG_len] at p
          have m : s + 1 ≤ (s + 1) * g.length := Nat.le_mul_of_pos_right _ hg
          rw [← p, dif_cut' hg (by omega)]
          have p2 := (dif_pd (g := cutG g s)).mul s (g.length - 1)
          rw [cutG_len] at p2
          have m2 : s ≤ s * g.length := Nat.le_mul_of_pos_right _ hg
          have e3 : (s + 1) * g.length = s * g.length + g.length := by rw [Nat.add_mul, Nat.one_mul]
          rw [← p2, dif_cut' hg (by omega)]
          congr 1
          omega
        rw [r, dif_lt (by rw [cutG_len]; omega)] at a
        unfold lst
        rw [cutG_len]
        exact a
      rw [q]
      exact e
end
end Gr
namespace Gr
/-! ### told values and gains of a sequence that rises in rounds at last -/
section
variable {f : Nat → Int} {b l : Nat}
def pT (f : Nat → Int) (b : Nat) : List Int := (List.range b).map f
def pG (f : Nat → Int) (b l : Nat) : List Int := (List.range l).map fun k => f (b + k) - f (b + k - 1)
theorem pT_len : (pT f b).length = b := by unfold pT; rw [List.length_map, List.length_range]
theorem pG_len : (pG f b l).length = l := by unfold pG; rw [List.length_map, List.length_range]
theorem at_map_range {h : Nat → Int} {n i : Nat} (hi : i < n) : at' ((List.range n).map h) i = h i := by
  unfold at'
  rw [List.getD_eq_getElem?_getD, List.getElem?_map, List.getElem?_range hi]
  rfl
theorem val_parted (hb : 0 < b) (hl : 0 < l) (h : ∀ n, b - 1 ≤ n → f (n + l + 1) - f (n + l) = f (n + 1) - f n) (n : Nat) : val (pT f b) (pG f b l) n = f n := by
  have lt := pT_len (f := f) (b := b)
  have lg := pG_len (f := f) (b := b) (l := l)
  rcases Nat.lt_or_ge n b with a | a
  · rw [val_lt (by omega)]
    exact at_map_range a
  · obtain ⟨k, rfl⟩ : ∃ k, n = b - 1 + k := ⟨n - (b - 1), by omega⟩
    have v := val_ge (t := pT f b) (g := pG f b l) (by omega) k
    rw [lt] at v
    rw [v]
    have d : ∀ i, dif (pG f b l) i = f (b - 1 + i + 1) - f (b - 1 + i) := fun i => by
      unfold dif
      rw [lg]
      have hi : i % l < l := Nat.mod_lt _ hl
      have e : at' (pG f b l) (i % l) = f (b + i % l) - f (b + i % l - 1) := at_map_range hi
      rw [e, show b + i % l = b - 1 + i % l + 1 by omega, Nat.add_sub_cancel]
      have p : Pd (fun i => f (b - 1 + i + 1) - f (b - 1 + i)) l := fun i => by
        have := h (b - 1 + i) (by omega)
        rw [show b - 1 + i + l = b - 1 + (i + l) by omega] at this
        exact this
      exact p.mod i
    have la : lst (pT f b) = f (b - 1) := by
      unfold lst
      rw [lt]
      exact at_map_range (by omega)
    rw [la]
    clear v
    induction k with
    | zero => show f (b - 1) + 0 = f (b - 1 + 0); rw [Int.add_zero, Nat.add_zero]
    | succ k ih =>
      show f (b - 1) + (acc _ k + dif (pG f b l) k) = f (b - 1 + (k + 1))
      have ih' : f (b - 1) + acc (dif (pG f b l)) k = f (b - 1 + k) := by
        rcases Nat.lt_or_ge (b - 1 + k) b with c | c
        · have : k = 0 := by omega
          subst this
          show f (b - 1) + 0 = f (b - 1 + 0)
          rw [Int.add_zero, Nat.add_zero]
        · exact ih c
      rw [d k, ← Int.add_assoc, ih', ← Nat.add_assoc]
      omega
end
/-! ### sums -/
section
variable {t g t' g' : List Int}
/-- rises of a growth come round behind its told values, by each number of which its gains are a divisor -/
theorem rise_pd (h0 : 0 < t.length) {l n : Nat} (hd : g.length ∣ l) (hn : t.length - 1 ≤ n) : val t g (n + l + 1) - val t g (n + l) = val t g (n + 1) - val t g n := by
  have a := rise_ge (g := g) h0 (n := n + l) (by omega)
  have b := rise_ge (g := g) h0 hn
  unfold rise at a b
  rw [a, b, show n + l - (t.length - 1) = n - (t.length - 1) + l by omega]
  obtain ⟨c, rfl⟩ := hd
  rw [Nat.mul_comm]
  exact dif_pd.mul c _
theorem val_sum (h0 : 0 < t.length) (h0' : 0 < t'.length) {b l : Nat} (hb : t.length ≤ b) (hb' : t'.length ≤ b) (hl : 0 < l) (hd : g.length ∣ l) (hd' : g'.length ∣ l) (n : Nat) :
    val (pT (fun n => val t g n + val t' g' n) b) (pG (fun n => val t g n + val t' g' n) b l) n = val t g n + val t' g' n := by
  refine val_parted (by omega) hl (fun n hn => ?_) n
  have a := rise_pd (g := g) h0 (l := l) (n := n) hd (by omega)
  have c := rise_pd (g := g') h0' (l := l) (n := n) hd' (by omega)
  omega
/-! ### each value so many times -/
def sc (k : Int) (l : List Int) : List Int := l.map fun x => k * x
theorem sc_len {k : Int} {l : List Int} : (sc k l).length = l.length := List.length_map _
theorem sc_at {k : Int} {l : List Int} {i : Nat} : at' (sc k l) i = k * at' l i := by
  unfold at' sc
  rw [List.getD_eq_getElem?_getD, List.getD_eq_getElem?_getD, List.getElem?_map]
  cases l[i]? with
  | none => show (0 : Int) = k * 0; rw [Int.mul_zero]
  | some x => rfl
theorem acc_sc {k : Int} {d : Nat → Int} : ∀ n, acc (fun i => k * d i) n = k * acc d n
  | 0 => (Int.mul_zero k).symm
  | n + 1 => by
    show acc _ n + k * d n = k * (acc d n + d n)
    rw [acc_sc n, Int.mul_add]
theorem val_sc {k : Int} {n : Nat} : val (sc k t) (sc k g) n = k * val t g n := by
  have d : dif (sc k g) = fun i => k * dif g i := funext fun i => by unfold dif; rw [sc_len, sc_at]
  unfold val
  rw [sc_len]
  by_cases h : n < t.length
  · rw [if_pos h, if_pos h, sc_at]
  · rw [if_neg h, if_neg h, d, acc_sc, Int.mul_add]
    unfold lst
    rw [sc_len, sc_at]
/-! ### begun later -/
/-- the gains turned the other way -/
def rot (g : List Int) (r : Nat) : List Int := g.drop r ++ g.take r
theorem rot_len {r : Nat} (h : r ≤ g.length) : (rot g r).length = g.length := by
  unfold rot
  rw [List.length_append, List.length_drop, List.length_take]
  omega
theorem dif_rot {r : Nat} (h : r < g.length) (k : Nat) : dif (rot g r) k = dif g (k + r) := by
  unfold dif
  rw [rot_len (Nat.le_of_lt h), Nat.add_mod, Nat.mod_eq_of_lt h]
  have hk : k % g.length < g.length := Nat.mod_lt _ (by omega)
  generalize k % g.length = q at hk ⊢
  unfold rot
  rw [at_app, List.length_drop]
  rcases Nat.lt_or_ge (q + r) g.length with c | c
  · rw [Nat.mod_eq_of_lt c, if_pos (by omega), at_drop, Nat.add_comm]
  · rw [Nat.mod_eq_sub_mod c, Nat.mod_eq_of_lt (by omega), if_neg (by omega), at_take (by omega)]
    congr 1
    omega
/-- still within the told values -/
theorem val_shift1 {m : Nat} (hm : m < t.length) (n : Nat) : val (t.drop m) g n = val t g (n + m) := by
  have l : (t.drop m).length = t.length - m := List.length_drop
  rcases Nat.lt_or_ge n (t.length - m) with a | a
  · rw [val_lt (by omega), val_lt (by omega), at_drop, Nat.add_comm]
  · obtain ⟨k, rfl⟩ : ∃ k, n = t.length - m - 1 + k := ⟨n - (t.length - m - 1), by omega⟩
    have v := val_ge (t := t.drop m) (g := g) (by omega) k
    rw [l] at v
    rw [v, show t.length - m - 1 + k + m = t.length - 1 + k by omega, val_ge (by omega)]
    unfold lst
    rw [l, at_drop, show m + (t.length - m - 1) = t.length - 1 by omega]
/-- behind them -/
theorem val_shift2 {m : Nat} (h0 : 0 < t.length) (hg : 0 < g.length) (hm : t.length ≤ m) (n : Nat) : val [val t g m] (rot g ((m - t.length + 1) % g.length)) n = val t g (n + m) := by
  have hr : (m - t.length + 1) % g.length < g.length := Nat.mod_lt _ hg
  have v := val_ge (t := [val t g m]) (g := rot g ((m - t.length + 1) % g.length)) Nat.one_pos n
  rw [show [val t g m].length - 1 + n = n from Nat.zero_add n] at v
  rw [v, show n + m = t.length - 1 + (m - t.length + 1 + n) by omega, val_ge h0, acc_add]
  have e : lst [val t g m] = lst t + acc (dif g) (m - t.length + 1) := by
    show val t g m = _
    have := val_ge (g := g) h0 (m - t.length + 1)
    rwa [show t.length - 1 + (m - t.length + 1) = m by omega] at this
  rw [e, Int.add_assoc]
  congr 2
  refine acc_congr n fun k _ => ?_
  rw [dif_rot hr]
  have p := (dif_pd (g := g)).mul ((m - t.length + 1) / g.length) (k + (m - t.length + 1) % g.length)
  have q := Nat.mod_add_div (m - t.length + 1) g.length
  rw [Nat.mul_comm] at q
  rw [← p]
  congr 1
  omega
end
end Gr
namespace K01
open PySem L2 Evl Gr
abbrev sLP : Stmt := top 14
/-- a list or a tuple -/
def Sq (K : PySem.W.Frag) (H : Hp) (a : Addr) (xs : List V) : Prop := SqL K H a xs ∨ SqT K H a xs
theorem Sq.mono {K : PySem.W.Frag} {H H' : Hp} {a : Addr} {xs : List V} (e : Ex H H') (h : Sq K H a xs) : Sq K H' a xs := h.elim (fun h => .inl (ex_l e h)) fun h => .inr (ex_t e h)
def vI (g : List Int) : List V := g.map V.int
theorem vI_len {g : List Int} : (vI g).length = g.length := List.length_map _
theorem vI_get {g : List Int} {i : Nat} (h : i < g.length) : (vI g)[i]? = some (V.int (at' g i)) := by
  unfold vI at'
  rw [List.getElem?_map, List.getD_eq_getElem?_getD, List.getElem?_eq_getElem h]
  rfl
theorem rv_ix {K : PySem.W.Frag} {H : Hp} {p : Addr} {xs : List V} {i : Int} {v : V} (h : Sq K H p xs) (ha : atI xs i = some v) : RV (rIx K) (.ref p) (.int i) H v := fun H1 e Q q => by
  rcases h with h | h
  · exact .inl ⟨p, xs, i, v, rfl, rfl, ex_l e h, ha, q H1 (Ex.refl H1)⟩
  · exact .inr (.inl ⟨p, xs, i, v, rfl, rfl, ex_t e h, ha, q H1 (Ex.refl H1)⟩)
theorem rc_lenQ {K : PySem.W.Frag} {p : Addr} {xs : List V} {H : Hp} (h : Sq K H p xs) : RC (fun xs H Q => ∃ p ys, xs = [V.ref p] ∧ (SqL K H p ys ∨ SqT K H p ys) ∧ Q (.int ys.length) H) [.ref p] H (.int (xs.length : Int)) := fun H1 e _ q => ⟨p, xs, rfl, h.mono e, q H1 (Ex.refl H1)⟩
theorem st_asI {K : PySem.W.Frag} {H : Hp} {a : Addr} {g : List Int} (h : H a = some (.lst (vI g))) : Sq K H a (vI g) := .inl (sq_of h)
theorem atI_vI {g : List Int} {i : Nat} (h : i < g.length) : atI (vI g) (i : Int) = some (V.int (at' g i)) := atI_nat (vI_get h)
theorem atI_vlast {g : List Int} (h : 0 < g.length) : atI (vI g) (-1) = some (V.int (at' g (g.length - 1))) := by
  have e : ixN (vI g).length (-1) = some (g.length - 1) := by
    unfold ixN
    rw [vI_len, if_neg (by decide), if_pos (by omega)]
    congr 1
    omega
  unfold atI
  rw [e]
  exact vI_get (by omega)
theorem vI_app {g : List Int} {x : Int} : vI g ++ [V.int x] = vI (g ++ [x]) := by unfold vI; rw [List.map_append]; rfl
theorem vint_inj {x y : Int} : decide (V.int x = V.int y) = decide (x = y) := by
  by_cases h : x = y
  · rw [decide_eq_true h, decide_eq_true (congrArg V.int h)]
  · rw [decide_eq_false h, decide_eq_false fun z => h (V.int.inj z)]
/-- the longest borders of the beginnings -/
def Bs (g bs : List Int) : Prop := ∀ j, j < bs.length → ∃ w : Nat, at' bs j = (w : Int) ∧ Lb g (j + 1) w
theorem Bs.add {g bs : List Int} {w : Nat} (h : Bs g bs) (l : Lb g (bs.length + 1) w) : Bs g (bs ++ [(w : Int)]) := fun j hj => by
  rw [List.length_append] at hj
  have hj' : j < bs.length + 1 := hj
  rcases Nat.lt_or_ge j bs.length with z | z
  · rw [at_app, if_pos z]
    exact h j z
  · have e : j = bs.length := by omega
    subst e
    rw [at_app, if_neg (Nat.lt_irrefl _), Nat.sub_self]
    exact ⟨w, rfl, l⟩
structure GlbS (mg : Str → Option Value) : Prop where
  len : mg "len" = none
  range : mg "range" = none
  tuple : mg "tuple" = none
  list : mg "list" = none
section
variable {P : Program} {w : World} {K : PySem.W.Frag} {mg : Str → Option Value} {base : Heap}
/-! ### least_period -/
def spLP (K : PySem.W.Frag) : Sp := fun vs H Q _ => ∃ (a : Addr) (g : List Int), vs = [.ref a] ∧ Sq K H a (vI g) ∧ 0 < g.length ∧ g.length ≤ 4000 ∧
  ∀ p : Nat, Least (dif g) p → p ≤ g.length → p ∣ g.length → RetV (.int (p : Int)) H Q
theorem scLP : FnScope ["gains", "borders", "at", "width", "period"] ["gains"] (defScope sLP) := ⟨rfl, rfl, rfl, by decide +kernel, rfl, by decide +kernel, by decide +kernel⟩
theorem ok_LP {f : Addr} {fd : FuncData} (F : Fun K "least_period" "least_period" sLP f fd) (T : GlbS mg) : FnOk P w K mg base CX0 1 f fd ["gains"] (spLP K) := by
  refine F.ok scLP (fun vs H Q E h => ?_) (fun cdv A outer s H vs Q E hr h => ?_)
  · obtain ⟨a, g, rfl, _⟩ := h
    rfl
  · obtain ⟨a, g, rfl, hS, g0, g1, k⟩ := h
    refine ⟨_, pss_cons (ps_set (i := 1) scLP.nd rfl (.inl rfl) (pe_lst (pa_cons pe_int pa_nil)))
      (pss_cons (ps_for PassesOwn.never rfl (pi_range2 (by rfl) T.range (pa_cons pe_int (pa_cons (pe_callB call_len_seq (by rfl) T.len PySem.boot_len (pa_cons (pv 0) pa_nil)) pa_nil))) (pg_name (i := 2) scLP.nd rfl (.inl rfl))
        (pss_cons (ps_set (i := 3) scLP.nd rfl (.inl rfl) (pe_ix ix_list (pv 1) (pe_op op_sub (pv 2) pe_int) (fun _ _ => rfl)))
        (pss_cut (ps_while PassesOwn.never (PW.pt (pw_and (pt_cmpR op_gt (pv 3) pe_int (nomark _)) (pw_and1 (pt_cmpR op_ne (pe_ix ix_seq (pv 0) (pv 2) (fun _ _ => rfl)) (pe_ix ix_seq (pv 0) (pv 3) (fun _ _ => rfl)) (nomark _)))))
          (pss_one (ps_set (i := 3) scLP.nd rfl (.inl rfl) (pe_ix ix_list (pv 1) (pe_op op_sub (pv 3) pe_int) (fun _ _ => rfl)))))
        (pss_cut (ps_if (pt_cmpR op_eq (pe_ix ix_seq (pv 0) (pv 2) (fun _ _ => rfl)) (pe_ix ix_seq (pv 0) (pv 3) (fun _ _ => rfl)) (nomark _)) (pss_one (ps_aug (i := 3) scLP.nd rfl (.inl rfl) pe_int ip_add)) pss_nil)
        (pss_one (ps_expr (pe_bm PySem.F.plainAttrs_list PySem.F.slot_list_append PySem.F.type_list_append mt_append (pv 1) (pa_cons (pv 3) pa_nil))))))))
      (pss_cons (ps_set (i := 4) scLP.nd rfl (.inl rfl) (pe_op op_sub (pe_callB call_len_seq (by rfl) T.len PySem.boot_len (pa_cons (pv 0) pa_nil)) (pe_ix ix_list (pv 1) (pe_un un_neg pe_int) (fun _ _ => rfl))))
      (pss_cons (ps_if (pt_cmpR op_eq (pe_op op_mod (pe_callB call_len_seq (by rfl) T.len PySem.boot_len (pa_cons (pv 0) pa_nil)) (pv 4)) pe_int (nomark _)) (pss_one (ps_ret (pv 4))) pss_nil)
      (pss_one (ps_ret (pe_callB call_len_seq (by rfl) T.len PySem.boot_len (pa_cons (pv 0) pa_nil))))))), ?_⟩
    have hB : ∀ {H' : Hp}, Ex H H' → Sq K H' a (vI g) := fun e => hS.mono e
    refine q_asgL (xs := vI [0]) (el_lst (ea_cons ev_c ea_nil) (Nat.le_of_ble_eq_true rfl)) fun b H1 hb e1 h1 => ?_
    -- the loop over the places
    refine q_forR2 (lo := 1) (n := (g.length : Int)) (ea_cons ev_c (ea_cons (ev_is (ev_cb (ea_cons (ev_var rfl) ea_nil) (rc_lenQ (hB e1))) (by rw [vI_len])) ea_nil)) (by omega)
      (fun i σ' H' => ∃ (bs : List Int) (x2 x3 : Option V), σ' = [some (.ref a), some (.ref b), x2, x3, none] ∧ H' b = some (.lst (vI bs)) ∧ Ex H H' ∧ bs.length = i + 1 ∧ Bs g bs)
      (fun H2 e2 => ⟨[0], _, _, rfl, e2 _ _ h1, e1.trans e2, rfl, fun j hj => by
        have hj' : j < 1 := hj
        have z : j = 0 := by omega
        subst z
        exact ⟨0, rfl, lb_one⟩⟩) ?_ ?_
    · rintro i σ' H2 hi ⟨bs, x2, x3, rfl, hb2, e2, hl, hbs⟩
      obtain ⟨w0, hw0, lb0⟩ := hbs i (by omega)
      have hi1 : i + 1 < g.length := by omega
      have ei : (1 : Int) + (i : Int) = ((i + 1 : Nat) : Int) := by omega
      show tSeq _ _ _ _ _
      refine q_asg (v := .int (w0 : Int)) (ev_op (y := .int (i : Int)) (ev_var rfl) (ev_is (ev_op (ev_var rfl) ev_c rv_I0) (by congr 1; omega)) (rv_ixL (sq_of hb2) (by rw [atI_vI (by omega), hw0]))) fun H3 e3 => ?_
      have hb3 := e3 _ _ hb2
      have E3 := e2.trans e3
      have gat : ∀ {σ'' : L2.St} {H' : Hp} {t : TE} {m : Nat}, Ex H H' → m < g.length → σ''[0]? = some (some (.ref a)) → Ev t σ'' H' (.int (m : Int)) → Ev (tOp (rIx K) (tVar 0) t) σ'' H' (.int (at' g m)) := fun e hm h0 ht => ev_op (ev_var h0) ht (rv_ix (hB e) (atI_vI hm))
      -- the search
      refine q_cut (M := fun σ' H' => ∃ w : Nat, σ' = [some (.ref a), some (.ref b), some (.int ((i + 1 : Nat) : Int)), some (.int (w : Int)), none] ∧ H' b = some (.lst (vI bs)) ∧ Ex H H' ∧ Srch g (i + 1) w ∧ (w = 0 ∨ at' g (i + 1) = at' g w)) ?_ ?_
      · refine s_while (fun m σ' H' => σ' = [some (.ref a), some (.ref b), some (.int ((i + 1 : Nat) : Int)), some (.int (m : Int)), none] ∧ H' b = some (.lst (vI bs)) ∧ Ex H H' ∧ Srch g (i + 1) m) w0 ⟨by rw [← ei]; rfl, hb3, E3, srch_start lb0⟩ ?_
        rintro m σ' H4 ⟨rfl, hb4, E4, sr⟩
        have hm := sr.1.1
        refine ⟨_, et_and (et_test (ev_op (ev_var rfl) ev_c rv_I0)) (fun _ => et_test (ev_op (gat E4 hi1 rfl (ev_var rfl)) (gat E4 (by omega) rfl (ev_var rfl)) (rv_ne rfl))), fun ht H5 e5 => ?_, fun ht H5 e5 => ?_⟩
        · obtain ⟨t1, t2⟩ := Bool.and_eq_true_iff.mp ht
          have m0 : 0 < m := by have := of_decide_eq_true t1; omega
          have ne : at' g (i + 1) ≠ at' g m := fun z => by rw [vint_inj, decide_eq_true z] at t2; exact absurd t2 (by decide)
          obtain ⟨w1, hw1, lb1⟩ := hbs (m - 1) (by omega)
          rw [show m - 1 + 1 = m by omega] at lb1
          have st := srch_step sr m0 ne lb1
          refine ⟨fun σ' H' => σ' = [some (.ref a), some (.ref b), some (.int ((i + 1 : Nat) : Int)), some (.int (w1 : Int)), none] ∧ H' b = some (.lst (vI bs)) ∧ Ex H H', fun σ2 H6 h6 => ⟨w1, st.2, h6.1, h6.2.1, h6.2.2, st.1⟩, ?_⟩
          exact s_asg (v := .int (w1 : Int)) (ev_op (y := .int ((m - 1 : Nat) : Int)) (ev_var rfl) (ev_is (ev_op (ev_var rfl) ev_c rv_I0) (by congr 1; omega)) (rv_ixL (sq_of (e5 _ _ hb4)) (by rw [atI_vI (by omega), hw1]))) fun H6 e6 => ⟨rfl, e6 _ _ (e5 _ _ hb4), (E4.trans e5).trans e6⟩
        · refine ⟨m, rfl, e5 _ _ hb4, E4.trans e5, sr, ?_⟩
          rcases Nat.eq_zero_or_pos m with z | z
          · exact .inl z
          · right
            rw [decide_eq_true (by omega : ((m : Int) > 0)), Bool.true_and, vint_inj] at ht
            by_cases q : at' g (i + 1) = at' g m
            · exact q
            · rw [decide_eq_false q] at ht
              exact absurd ht (by decide)
      rintro σ' H4 ⟨w, rfl, hb4, E4, sr, fin⟩
      have hw := sr.1.1
      -- one more, if the signs are the same
      refine q_cut (M := fun σ' H' => ∃ v : Nat, σ' = [some (.ref a), some (.ref b), some (.int ((i + 1 : Nat) : Int)), some (.int (v : Int)), none] ∧ H' b = some (.lst (vI bs)) ∧ Ex H H' ∧ Lb g (i + 2) v) ?_ ?_
      · refine s_when (et_test (ev_op (gat E4 hi1 rfl (ev_var rfl)) (gat E4 (by omega) rfl (ev_var rfl)) (rv_eq rfl))) (fun ht H5 e5 => ?_) (fun ht H5 e5 => ?_)
        · rw [vint_inj] at ht
          refine s_aug (f := fun x y => x + y) (a := (w : Int)) (b := 1) rfl ev_c fun H6 e6 => ⟨w + 1, rfl, e6 _ _ (e5 _ _ hb4), (E4.trans e5).trans e6, srch_yes sr (of_decide_eq_true ht)⟩
        · rw [vint_inj] at ht
          have ne := of_decide_eq_false ht
          have w0 : w = 0 := fin.elim id fun z => absurd z ne
          subst w0
          exact ⟨0, rfl, e5 _ _ hb4, E4.trans e5, srch_no sr ne⟩
      rintro σ' H5 ⟨v, rfl, hb5, E5, lb⟩
      refine s_app hb5 (ev_var rfl) (ev_var rfl) (by rw [vI_len]; omega) fun H6 e6 => ?_
      have hbn : H b = none := hb
      refine ⟨bs ++ [(v : Int)], _, _, rfl, ?_, (E5.trans e6).mut hbn, by rw [List.length_append, hl]; rfl, hbs.add (by rw [hl]; exact lb)⟩
      rw [upd_same, vI_app]
    · rintro σ' H2 ⟨bs, x2, x3, rfl, hb2, E2, hl, hbs⟩
      have hl' : bs.length = g.length := by rw [hl]; omega
      obtain ⟨w, hw, lb⟩ := hbs (g.length - 1) (by omega)
      rw [show g.length - 1 + 1 = g.length by omega] at lb
      have hwl := lb.bd.1
      have key := least_of g0 lb
      have ln : ∀ {σ'' : L2.St} {H' : Hp}, Ex H H' → σ''[0]? = some (some (.ref a)) → Ev (tCB (fun xs H Q => ∃ p ys, xs = [V.ref p] ∧ (SqL K H p ys ∨ SqT K H p ys) ∧ Q (.int ys.length) H) (tCons (tVar 0) tNil)) σ'' H' (.int (g.length : Int)) := fun e h0 => ev_is (ev_cb (ea_cons (ev_var h0) ea_nil) (rc_lenQ (hB e))) (by rw [vI_len])
      refine q_asg (v := .int ((g.length - w : Nat) : Int)) (ev_is (ev_op (ln E2 rfl) (ev_op (ev_var rfl) (ev_un ev_c ru_neg) (rv_ixL (sq_of hb2) (by rw [atI_vlast (by omega), hl', hw]))) rv_I0) (by congr 1; omega)) fun H3 e3 => ?_
      have E3 := E2.trans e3
      refine q_when (et_test (ev_op (ev_op (ln E3 rfl) (ev_var rfl) (rv_I (by omega))) ev_c (rv_eq rfl))) (fun ht H4 e4 => ?_) (fun ht H4 e4 => ?_)
      · rw [vint_inj] at ht
        have z := of_decide_eq_true ht
        have z' : g.length % (g.length - w) = 0 := by omega
        rw [if_pos z'] at key
        exact s_ret (ev_var rfl) fun H5 e5 => k _ key (by omega) (Nat.dvd_of_mod_eq_zero z') H5 ((E3.trans e4).trans e5)
      · rw [vint_inj] at ht
        have z := of_decide_eq_false ht
        have z' : ¬ g.length % (g.length - w) = 0 := by omega
        rw [if_neg z'] at key
        exact s_ret (ln (E3.trans e4) rfl) fun H5 e5 => k _ key (Nat.le_refl _) (Nat.dvd_refl _) H5 ((E3.trans e4).trans e5)
end
end K01
namespace K01
open PySem L2 Evl Gr
abbrev sST : Stmt := top 15
theorem atI_neg {g : List Int} {r : Nat} (h : r < g.length) : atI (vI g) (-1 - (r : Int)) = some (V.int (at' g (g.length - 1 - r))) := by
  have e : ixN (vI g).length (-1 - (r : Int)) = some (g.length - 1 - r) := by
    unfold ixN
    rw [vI_len, if_neg (by omega), if_pos (by omega)]
    congr 1
    omega
  unfold atI
  rw [e]
  exact vI_get (by omega)
section
variable {P : Program} {w : World} {K : PySem.W.Frag} {mg : Str → Option Value} {base : Heap}
/-! ### spare_told -/
def spST (K : PySem.W.Frag) : Sp := fun vs H Q _ => ∃ (a b : Addr) (t g : List Int), vs = [.ref a, .ref b] ∧ Sq K H a (vI t) ∧ Sq K H b (vI g) ∧ 0 < t.length ∧ t.length ≤ 4000 ∧ 0 < g.length ∧ g.length ≤ 4000 ∧
  ∀ s : Nat, Spr t g s → (s = t.length - 1 ∨ at' t (t.length - 1 - s) - at' t (t.length - 1 - s - 1) ≠ back g s) → RetV (.int (s : Int)) H Q
theorem scST : FnScope ["told", "gains", "spare", "last"] ["told", "gains"] (defScope sST) := ⟨rfl, rfl, rfl, by decide +kernel, rfl, by decide +kernel, by decide +kernel⟩
theorem ok_ST {f : Addr} {fd : FuncData} (F : Fun K "spare_told" "spare_told" sST f fd) (T : GlbS mg) : FnOk P w K mg base CX0 1 f fd ["told", "gains"] (spST K) := by
  refine F.ok scST (fun vs H Q E h => ?_) (fun cdv A outer s H vs Q E hr h => ?_)
  · obtain ⟨a, b, t, g, rfl, _⟩ := h
    rfl
  · obtain ⟨a, b, t, g, rfl, hT, hG, t0, t1, g0, g1, k⟩ := h
    refine ⟨_, pss_cons (ps_set (i := 2) scST.nd rfl (.inl rfl) pe_int)
      (pss_cons (ps_set (i := 3) scST.nd rfl (.inl rfl) (pe_op op_sub (pe_callB call_len_seq (by rfl) T.len PySem.boot_len (pa_cons (pv 0) pa_nil)) pe_int))
      (pss_cons (ps_while PassesOwn.never (PW.pt (pw_and (pt_cmpR op_lt (pv 2) (pv 3) (nomark _)) (pw_and1 (pt_cmpR op_eq
          (pe_op op_sub (pe_ix ix_seq (pv 0) (pe_op op_sub (pv 3) (pv 2)) (fun _ _ => rfl)) (pe_ix ix_seq (pv 0) (pe_op op_sub (pe_op op_sub (pv 3) (pv 2)) pe_int) (fun _ _ => rfl)))
          (pe_ix ix_seq (pv 1) (pe_op op_sub (pe_un un_neg pe_int) (pe_op op_mod (pv 2) (pe_callB call_len_seq (by rfl) T.len PySem.boot_len (pa_cons (pv 1) pa_nil)))) (fun _ _ => rfl)) (nomark _)))))
        (pss_one (ps_aug (i := 2) scST.nd rfl (.inl rfl) pe_int ip_add)))
      (pss_one (ps_ret (pv 2))))), ?_⟩
    refine q_asg ev_c fun H1 e1 => ?_
    refine q_asg (v := .int ((t.length - 1 : Nat) : Int)) (ev_is (ev_op (ev_cb (ea_cons (ev_var rfl) ea_nil) (rc_lenQ (hT.mono e1))) ev_c rv_I0) (by rw [vI_len]; congr 1; omega)) fun H2 e2 => ?_
    refine q_while (fun m σ' H' => ∃ s : Nat, m = t.length - s ∧ σ' = [some (.ref a), some (.ref b), some (.int (s : Int)), some (.int ((t.length - 1 : Nat) : Int))] ∧ Ex H H' ∧ Spr t g s) t.length ⟨0, rfl, rfl, e1.trans e2, spr_zero t0⟩ ?_
    rintro m σ' H3 ⟨s, rfl, rfl, E3, sp⟩
    have hs := sp.1
    have hr : s % g.length < g.length := Nat.mod_lt _ g0
    have lnG : Ev (tCB (fun xs H Q => ∃ p ys, xs = [V.ref p] ∧ (SqL K H p ys ∨ SqT K H p ys) ∧ Q (.int ys.length) H) (tCons (tVar 1) tNil)) [some (.ref a), some (.ref b), some (.int (s : Int)), some (.int ((t.length - 1 : Nat) : Int))] H3 (.int (g.length : Int)) :=
      ev_is (ev_cb (ea_cons (ev_var rfl) ea_nil) (rc_lenQ (hG.mono E3))) (by rw [vI_len])
    refine ⟨_, et_and (et_test (ev_op (ev_var rfl) (ev_var rfl) rv_I0)) (fun hlt => et_test (ev_op
      (ev_op (ev_op (y := .int ((t.length - 1 - s : Nat) : Int)) (ev_var rfl) (ev_is (ev_op (ev_var rfl) (ev_var rfl) rv_I0) (by congr 1; omega)) (rv_ix (hT.mono E3) (atI_vI (by omega))))
        (ev_op (y := .int ((t.length - 1 - s - 1 : Nat) : Int)) (ev_var rfl) (ev_is (ev_op (ev_op (ev_var rfl) (ev_var rfl) rv_I0) ev_c rv_I0) (by have := of_decide_eq_true hlt; congr 1; omega)) (rv_ix (hT.mono E3) (atI_vI (by omega)))) rv_I0)
      (ev_op (y := .int (-1 - ((s % g.length : Nat) : Int))) (ev_var rfl) (ev_is (ev_op (ev_un ev_c ru_neg) (ev_op (ev_var rfl) lnG (rv_I (by omega))) rv_I0) (by congr 1)) (rv_ix (hG.mono E3) (atI_neg hr))) (rv_eq rfl))), fun ht H4 e4 => ?_, fun ht H4 e4 => ?_⟩
    · obtain ⟨h1, h2⟩ := Bool.and_eq_true_iff.mp ht
      rw [vint_inj] at h2
      have h1' := of_decide_eq_true h1
      have h2' := of_decide_eq_true h2
      refine ⟨fun σ' H' => σ' = [some (.ref a), some (.ref b), some (.int ((s + 1 : Nat) : Int)), some (.int ((t.length - 1 : Nat) : Int))] ∧ Ex H H', fun σ2 H5 h5 => ⟨t.length - (s + 1), by omega, s + 1, rfl, h5.1, h5.2, spr_step sp (by omega) h2'⟩, ?_⟩
      exact s_aug (f := fun x y => x + y) (a := (s : Int)) (b := 1) rfl ev_c fun H5 e5 => ⟨rfl, (E3.trans e4).trans e5⟩
    · refine s_ret (ev_var rfl) fun H5 e5 => k s sp ?_ H5 ((E3.trans e4).trans e5)
      rcases Nat.lt_or_ge s (t.length - 1) with z | z
      · right
        rw [decide_eq_true (by omega : ((s : Int) < ((t.length - 1 : Nat) : Int))), Bool.true_and, vint_inj] at ht
        exact of_decide_eq_false ht
      · left
        omega
end
end K01
namespace Gr
theorem dif_take {g : List Int} {p : Nat} (h : Pd (dif g) p) (hp : 0 < p) (hn : p ≤ g.length) : dif (g.take p) = dif g := funext fun k => by
  have e : (g.take p).length = p := by rw [List.length_take]; omega
  have hk : k % p < p := Nat.mod_lt _ hp
  show at' (g.take p) (k % (g.take p).length) = dif g k
  rw [e, at_take hk, ← dif_lt (g := g) (k := k % p) (by omega)]
  exact h.mod k
theorem ex_least {α : Type} {d : Nat → α} : ∀ p, 0 < p → Pd d p → ∃ q, Least d q := by
  intro p
  induction p using Nat.strongRecOn with
  | ind p ih =>
    intro hp h
    by_cases e : ∃ q, q < p ∧ 0 < q ∧ Pd d q
    · obtain ⟨q, h1, h2, h3⟩ := e
      exact ih q h1 h2 h3
    · refine ⟨p, hp, h, fun q h2 h3 => ?_⟩
      rcases Nat.lt_or_ge q p with h1 | h1
      · exact absurd ⟨q, h1, h2, h3⟩ e
      · exact h1
theorem Least.one {α : Type} {d : Nat → α} {p q : Nat} (h : Least d p) (h' : Least d q) : p = q := Nat.le_antisymm (h.le q h'.pos h'.pd) (h'.le p h.pos h.pd)
theorem Least.dvd {g : List Int} {p : Nat} (h : Least (dif g) p) (hn : 0 < g.length) : p ∣ g.length ∧ p ≤ g.length := by
  have a := Pd.gcd p g.length h.pd dif_pd
  have b := h.le _ (Nat.gcd_pos_of_pos_left _ h.pos) a
  have c : Nat.gcd p g.length = p := Nat.le_antisymm (Nat.gcd_le_left _ h.pos) b
  exact ⟨c ▸ Nat.gcd_dvd_right p g.length, h.le _ hn dif_pd⟩
theorem val_congr {t g g' : List Int} (h : dif g = dif g') (n : Nat) : val t g n = val t g' n := by unfold val; rw [h]
end Gr
namespace K01
open PySem L2 Evl Gr
/-! ### tuples that may be new ones or not -/
def EvTu (K : PySem.W.Frag) (te : TE) (σ : L2.St) (H : Hp) (xs : List V) : Prop := ∀ H1, Ex H H1 → ∀ Q : VK, (∀ p H2, Ex H1 H2 → SqT K H2 p xs → Q (.ref p) H2) → te σ H1 Q
section
variable {K : PySem.W.Frag} {σ : L2.St} {H : Hp} {te ta tb : TE} {tl th : TO} {a : Addr} {xs ys : List V} {lo hi : Option Int}
theorem cutV_all {n : Nat} (h1 : HT.sIx xs.length 0 lo = 0) (h2 : HT.sIx xs.length xs.length hi = xs.length) : cutV xs lo hi = xs := by
  unfold cutV
  rw [h1, h2, List.drop_zero, Nat.sub_zero, List.take_length]
theorem etu_cut (h : Ev te σ H (.ref a)) (h1 : EvO tl σ H lo) (h2 : EvO th σ H hi) (hs : SqT K H a xs) : EvTu K (tSl (rSlA K) te tl th) σ H (cutV xs lo hi) := fun H1 e Q q =>
  h H1 e _ fun H2 e2 => h1 H2 (e.trans e2) _ fun H3 e3 => h2 H3 ((e.trans e2).trans e3) _ fun H4 e4 =>
    ⟨a, xs, rfl, ex_t (((e.trans e2).trans e3).trans e4) hs, fun z => q a H4 ((e2.trans e3).trans e4) (by rw [cutV_all (n := 0) z.1 z.2]; exact ex_t (((e.trans e2).trans e3).trans e4) hs),
      fun _ p hp => q p _ (((e2.trans e3).trans e4).trans (Ex.new hp)) (st_of upd_same)⟩
theorem etu_cat (h1 : EvTu K ta σ H xs) (h2 : EvTu K tb σ H ys) (hz : xs.length + ys.length ≤ 100000) : EvTu K (tOp (rCatA K) ta tb) σ H (xs ++ ys) := fun H1 e Q q =>
  h1 H1 e _ fun p H2 e2 hp => h2 H2 (e.trans e2) _ fun r H3 e3 hr =>
    ⟨p, r, xs, ys, rfl, rfl, ex_t e3 hp, hr, sz_of hz, fun z => q r H3 (e2.trans e3) (by rw [z]; exact hr), fun _ z => q p H3 (e2.trans e3) (by rw [z, List.append_nil]; exact ex_t e3 hp),
      fun _ _ b hb => q b _ ((e2.trans e3).trans (Ex.new hb)) (st_of upd_same)⟩
/-- a cut of a list or a tuple -/
def rSlQ (K : PySem.W.Frag) : V → Option Int → Option Int → Hp → VK → Prop := fun x lo hi H Q => rSlL K x lo hi H Q ∨ rSlA K x lo hi H Q
theorem sl_seq {X : Cx} : SlR X (rSlQ X.K) := sl_list.or sl_tupA
/-- tuple(s[lo:hi]) -/
theorem etu_of (h : Ev te σ H (.ref a)) (h1 : EvO tl σ H lo) (h2 : EvO th σ H hi) (hs : Sq K H a xs) : EvTu K (tThen (tSl (rSlQ K) te tl th) (kTup K)) σ H (cutV xs lo hi) := fun H1 e Q q =>
  h H1 e _ fun H2 e2 => h1 H2 (e.trans e2) _ fun H3 e3 => h2 H3 ((e.trans e2).trans e3) _ fun H4 e4 => by
    have E := ((e.trans e2).trans e3).trans e4
    have E1 := (e2.trans e3).trans e4
    rcases hs.mono E with z | z
    · exact .inl ⟨a, xs, rfl, z, fun p hp => .inl ⟨p, _, rfl, sq_of upd_same, fun r hr => q r _ ((E1.trans (Ex.new hp)).trans (Ex.new hr)) (st_of upd_same)⟩⟩
    · exact .inr ⟨a, xs, rfl, z, fun c => .inr ⟨a, _, rfl, z, q a H4 E1 (by rw [cutV_all (n := 0) c.1 c.2]; exact z)⟩, fun _ p hp => .inr ⟨p, _, rfl, st_of upd_same, q p _ (E1.trans (Ex.new hp)) (st_of upd_same)⟩⟩
theorem q_asgT {i : Nat} {tz : TS} {D : Ends} (h : EvTu K te σ H xs) (k : ∀ p H1, Ex H H1 → SqT K H1 p xs → tz D (σ.set i (some (.ref p))) H1) : tSeq (tAsg te (gName i)) tz D σ H := h H (Ex.refl H) _ fun p H1 e s => k p H1 e s
end
theorem cut_take {g : List Int} {n : Nat} (h : n ≤ g.length) : cutV (vI g) none (some (n : Int)) = vI (g.take n) := by
  unfold cutV vI
  rw [show HT.sIx (g.map V.int).length 0 none = 0 from rfl, HT.sIx_nat, List.drop_zero, Nat.sub_zero, List.length_map, Nat.min_eq_left h, List.map_take]
theorem cut_drop {g : List Int} {n : Nat} (h : n ≤ g.length) : cutV (vI g) (some (n : Int)) none = vI (g.drop n) := by
  unfold cutV vI
  rw [HT.sIx_none, HT.sIx_nat, List.length_map, Nat.min_eq_left h, List.take_of_length_le (by rw [List.length_drop, List.length_map]; exact Nat.le_refl _), List.map_drop]
abbrev sNF : Stmt := top 16
section
variable {P : Program} {w : World} {K : PySem.W.Frag} {mg : Str → Option Value} {base : Heap}
/-! ### normal_form -/
/-- a pair of the told values and gains of a normal form -/
def RetNF (K : PySem.W.Frag) (t g : List Int) (H : Hp) (Q : VK) : Prop := ∀ r p q t' g' H', Ex H H' → SqT K H' r [.ref p, .ref q] → SqT K H' p (vI t') → SqT K H' q (vI g') → NF t' g' → (∀ n, val t' g' n = val t g n) →
  t'.length ≤ t.length → g'.length ≤ g.length → Q (.ref r) H'
def spNF (K : PySem.W.Frag) : Sp := fun vs H Q _ => ∃ (a b : Addr) (t g : List Int), vs = [.ref a, .ref b] ∧ Sq K H a (vI t) ∧ Sq K H b (vI g) ∧ 0 < t.length ∧ t.length ≤ 4000 ∧ 0 < g.length ∧ g.length ≤ 4000 ∧ RetNF K t g H Q
theorem scNF : FnScope ["told", "gains", "few", "spare", "cut"] ["told", "gains"] (defScope sNF) := ⟨rfl, rfl, rfl, by decide +kernel, rfl, by decide +kernel, by decide +kernel⟩
theorem ok_NF {f fL fS : Addr} {fd fdL fdS : FuncData} (F : Fun K "normal_form" "normal_form" sNF f fd) (T : GlbS mg)
    (FL : Fun K "least_period" "least_period" sLP fL fdL) (bL : Binds K fdL ["gains"] []) (gL : mg "least_period" = some (.ref fL))
    (FS : Fun K "spare_told" "spare_told" sST fS fdS) (bS : Binds K fdS ["told", "gains"] []) (gS : mg "spare_told" = some (.ref fS)) : FnOk P w K mg base CX0 2 f fd ["told", "gains"] (spNF K) := by
  have GL : FnOk P w K mg base CX0 1 fL fdL ["gains"] (spLP K) := ok_LP FL T
  have GS : FnOk P w K mg base CX0 1 fS fdS ["told", "gains"] (spST K) := ok_ST FS T
  refine F.ok scNF (fun vs H Q E h => ?_) (fun cdv A outer s H vs Q E hr h => ?_)
  · obtain ⟨a, b, t, g, rfl, _⟩ := h
    rfl
  · obtain ⟨a, b, t, g, rfl, hT, hG, t0, t1, g0, g1, k⟩ := h
    refine ⟨_, pss_cons (ps_set (i := 2) scNF.nd rfl (.inl rfl) (pe_tupleOf (by rfl) T.tuple (pe_slice sl_seq (pv 1) po_none (po_some (pe_call GL hr (by rfl) gL FL.kp bL .nil pass0 (pa_cons (pv 1) pa_nil))))))
      (pss_cons (ps_set (i := 3) scNF.nd rfl (.inl rfl) (pe_call GS hr (by rfl) gS FS.kp bS .nil pass0 (pa_cons (pv 0) (pa_cons (pv 2) pa_nil))))
      (pss_cons (ps_set (i := 4) scNF.nd rfl (.inl rfl) (pe_op op_sub (pe_callB call_len_seq (by rfl) T.len PySem.boot_len (pa_cons (pv 2) pa_nil)) (pe_op op_mod (pv 3) (pe_callB call_len_seq (by rfl) T.len PySem.boot_len (pa_cons (pv 2) pa_nil)))))
      (pss_one (ps_ret (pe_tup (pa_cons (pe_tupleOf (by rfl) T.tuple (pe_slice sl_seq (pv 0) po_none (po_some (pe_op op_sub (pe_callB call_len_seq (by rfl) T.len PySem.boot_len (pa_cons (pv 0) pa_nil)) (pv 3)))))
        (pa_cons (pe_op op_catA (pe_slice sl_tupA (pv 2) (po_some (pv 4)) po_none) (pe_slice sl_tupA (pv 2) po_none (po_some (pv 4)))) pa_nil))))))), ?_⟩
    obtain ⟨p, lp⟩ := ex_least g.length g0 (dif_pd (g := g))
    obtain ⟨pd, pn⟩ := lp.dvd g0
    have fl : (g.take p).length = p := by rw [List.length_take]; omega
    have l00 : 0 < p := lp.pos
    have fd' : dif (g.take p) = dif g := dif_take lp.pd lp.pos pn
    refine q_asgT (xs := vI (g.take p)) (by
      have z := etu_of (K := K) (σ := [some (.ref a), some (.ref b), none, none, none]) (H := H) (te := tVar 1) (tl := tNoPart) (th := tPart (tCall (spLP K) [] E0 (tCons (tVar 1) tNil))) (a := b) (xs := vI g) (lo := none) (hi := some (p : Int))
        (ev_var rfl) eo_none (eo_some (ev_call (ea_cons (ev_var rfl) ea_nil) (fun H1 e Q q E => ⟨b, g, rfl, hG.mono e, g0, g1, fun p' l' _ _ => by rw [l'.one lp]; exact q⟩))) hG
      rw [cut_take pn] at z
      exact z) fun c H1 e1 hF => ?_
    refine ⟨_, rfl, _, rfl, a, c, t, g.take p, rfl, hT.mono e1, .inr hF, t0, t1, by omega, by omega, fun s sp fin H2 e2 => ?_⟩
    have l0 : 0 < p := lp.pos
    have hr2 : s % p < p := Nat.mod_lt _ l0
    have hF2 := ex_t e2 hF
    have ln : ∀ {σ'' : L2.St} {H' : Hp}, SqT K H' c (vI (g.take p)) → σ''[2]? = some (some (.ref c)) → Ev (tCB (fun xs H Q => ∃ p ys, xs = [V.ref p] ∧ (SqL K H p ys ∨ SqT K H p ys) ∧ Q (.int ys.length) H) (tCons (tVar 2) tNil)) σ'' H' (.int (p : Int)) := fun e h0 => ev_is (ev_cb (ea_cons (ev_var h0) ea_nil) (rc_lenQ (.inr e))) (by rw [vI_len, fl])
    show tSeq _ _ _ _ _
    refine q_asg (v := .int ((p - s % p : Nat) : Int)) (ev_is (ev_op (ln hF2 rfl) (ev_op (ev_var rfl) (ln hF2 rfl) (rv_I (by omega))) rv_I0) (by congr 1; omega)) fun H3 e3 => ?_
    have E3 := (e1.trans e2).trans e3
    have hF3 := ex_t e3 hF2
    have hs := sp.1
    have c1 : EvTu K (tThen (tSl (rSlQ K) (tVar 0) tNoPart (tPart (tOp (rI0 fun i j => .int (i - j)) (tCB (fun xs H Q => ∃ p ys, xs = [V.ref p] ∧ (SqL K H p ys ∨ SqT K H p ys) ∧ Q (.int ys.length) H) (tCons (tVar 0) tNil)) (tVar 3)))) (kTup K))
        [some (.ref a), some (.ref b), some (.ref c), some (.int (s : Int)), some (.int ((p - s % p : Nat) : Int))] H3 (vI (cutT t s)) := by
      have z := etu_of (K := K) (σ := [some (.ref a), some (.ref b), some (.ref c), some (.int (s : Int)), some (.int ((p - s % p : Nat) : Int))]) (H := H3) (te := tVar 0) (tl := tNoPart)
        (th := tPart (tOp (rI0 fun i j => .int (i - j)) (tCB (fun xs H Q => ∃ p ys, xs = [V.ref p] ∧ (SqL K H p ys ∨ SqT K H p ys) ∧ Q (.int ys.length) H) (tCons (tVar 0) tNil)) (tVar 3))) (a := a) (xs := vI t) (lo := none) (hi := some ((t.length - s : Nat) : Int))
        (ev_var rfl) eo_none (eo_some (ev_is (ev_op (ev_cb (ea_cons (ev_var rfl) ea_nil) (rc_lenQ (hT.mono E3))) (ev_var rfl) rv_I0) (by rw [vI_len]; congr 1; omega))) (hT.mono E3)
      rw [cut_take (by omega)] at z
      exact z
    refine c1 H3 (Ex.refl H3) _ fun u H4 e4 hu => ?_
    have hF4 := ex_t e4 hF3
    have c2 := etu_cat (K := K) (σ := [some (.ref a), some (.ref b), some (.ref c), some (.int (s : Int)), some (.int ((p - s % p : Nat) : Int))]) (H := H4)
      (etu_cut (te := tVar 2) (tl := tPart (tVar 4)) (th := tNoPart) (lo := some ((p - s % p : Nat) : Int)) (hi := none) (ev_var rfl) (eo_some (ev_var rfl)) eo_none hF4)
      (etu_cut (te := tVar 2) (tl := tNoPart) (th := tPart (tVar 4)) (lo := none) (hi := some ((p - s % p : Nat) : Int)) (ev_var rfl) eo_none (eo_some (ev_var rfl)) hF4)
      (by
        have z1 := cutV_length (vI (g.take p)) (some ((p - s % p : Nat) : Int)) none
        have z2 := cutV_length (vI (g.take p)) none (some ((p - s % p : Nat) : Int))
        rw [vI_len, fl] at z1 z2
        omega)
    rw [cut_take (by omega), cut_drop (by omega)] at c2
    refine c2 H4 (Ex.refl H4) _ fun v H5 e5 hv => ?_
    refine ⟨by show 2 ≤ sizeLine; decide, fun r hr => ?_⟩
    have e6 := Ex.new (H := H5) (o := .tup [.ref u, .ref v]) hr
    have gl : 0 < (g.take p).length := by omega
    have ll : Least (dif (g.take p)) (g.take p).length := by rw [fd', fl]; exact lp
    refine k r u v (cutT t s) (cutG (g.take p) s) _ (((E3.trans e4).trans e5).trans e6) (st_of upd_same) (ex_t e6 (ex_t e5 hu)) ?_ (nf_cut gl ll sp fin) (fun n => (val_cut gl sp n).trans (val_congr fd' n)) (by rw [cutT_len hs]; omega) (by rw [cutG_len]; omega)
    have e7 : cutG (g.take p) s = (g.take p).drop (p - s % p) ++ (g.take p).take (p - s % p) := by unfold cutG; rw [fl]
    rw [e7]
    unfold vI at hv ⊢
    rw [List.map_append]
    exact ex_t e6 hv
end
end K01
namespace Gr
/-- the sums of the first gains, from none of them to all -/
def ris (g : List Int) : List Int := (List.range (g.length + 1)).map (acc (dif g))
theorem ris_len {g : List Int} : (ris g).length = g.length + 1 := by unfold ris; rw [List.length_map, List.length_range]
theorem ris_at {g : List Int} {i : Nat} (h : i ≤ g.length) : at' (ris g) i = acc (dif g) i := at_map_range (by omega)
def pre (d : Nat → Int) (n : Nat) : List Int := (List.range (n + 1)).map (acc d)
theorem pre_len {d : Nat → Int} {n : Nat} : (pre d n).length = n + 1 := by unfold pre; rw [List.length_map, List.length_range]
theorem pre_succ {d : Nat → Int} {n : Nat} : pre d (n + 1) = pre d n ++ [acc d n + d n] := by
  unfold pre
  rw [List.range_succ, List.map_append]
  rfl
theorem pre_last {d : Nat → Int} {n : Nat} : at' (pre d n) ((pre d n).length - 1) = acc d n := by
  rw [pre_len]
  exact at_map_range (by omega)
/-- gains whose sum is not great -/
def Small (g : List Int) : Prop := ∀ i, i < g.length → 0 ≤ at' g i ∧ at' g i ≤ 1000000000000000000000000000000
theorem acc_small {g : List Int} (h : Small g) (hg : 0 < g.length) : ∀ n, 0 ≤ acc (dif g) n ∧ acc (dif g) n ≤ 1000000000000000000000000000000 * (n : Int)
  | 0 => ⟨Int.le_refl _, by show (0 : Int) ≤ _; omega⟩
  | n + 1 => by
    have a := acc_small h hg n
    have b := h (n % g.length) (Nat.mod_lt _ hg)
    show 0 ≤ acc (dif g) n + dif g n ∧ acc (dif g) n + dif g n ≤ _
    have e : dif g n = at' g (n % g.length) := rfl
    omega
/-- gains whose sum is low -/
def Low (g : List Int) : Prop := ∀ i, i < g.length → 0 ≤ at' g i ∧ at' g i ≤ 4000000000000000
theorem acc_low {g : List Int} (h : Low g) (hg : 0 < g.length) : ∀ n, 0 ≤ acc (dif g) n ∧ acc (dif g) n ≤ 4000000000000000 * (n : Int)
  | 0 => ⟨Int.le_refl _, by show (0 : Int) ≤ _; omega⟩
  | n + 1 => by
    have a := acc_low h hg n
    have b := h (n % g.length) (Nat.mod_lt _ hg)
    show 0 ≤ acc (dif g) n + dif g n ∧ acc (dif g) n + dif g n ≤ _
    have e : dif g n = at' g (n % g.length) := rfl
    omega
theorem Low.small {g : List Int} (h : Low g) : Small g := fun i hi => ⟨(h i hi).1, by have := (h i hi).2; omega⟩
end Gr
namespace K01
open PySem L2 Evl Gr
abbrev sRis : Stmt := top 17
abbrev sVal : Stmt := top 18
/-! ### growths as they stand in the heap -/
structure GCls (K : PySem.W.Frag) (C : Addr) : Prop where
  cls : Cls K C
  told : NoAttr K C "told"
  gains : NoAttr K C "gains"
  rises : NoAttr K C "rises"
def GrAt (K : PySem.W.Frag) (C : Addr) (H : Hp) (o : Addr) (t g : List Int) : Prop := ∃ dx p q r, H o = some (.ins C dx [("told", .ref p), ("gains", .ref q), ("rises", .ref r)]) ∧ SqT K H p (vI t) ∧ SqT K H q (vI g) ∧ SqT K H r (vI (ris g)) ∧
  NF t g ∧ t.length ≤ 2000 ∧ g.length ≤ 2000 ∧ Small g
theorem GrAt.mono {K : PySem.W.Frag} {C : Addr} {H H' : Hp} {o : Addr} {t g : List Int} (e : Ex H H') (h : GrAt K C H o t g) : GrAt K C H' o t g := by
  obtain ⟨dx, p, q, r, h1, h2, h3, h4, h5⟩ := h
  exact ⟨dx, p, q, r, e _ _ h1, ex_t e h2, ex_t e h3, ex_t e h4, h5⟩
theorem ev_fld {K : PySem.W.Frag} {σ : L2.St} {H : Hp} {ta : TE} {o C dx : Addr} {fs : List (Str × V)} {v : V} {f : Str} (ha : Ev ta σ H (.ref o)) (ho : H o = some (.ins C dx fs)) (c : Cls K C) (n : NoAttr K C f) (hf : fs.lookup f = some v) :
    Ev (tFld K ta f) σ H v := fun H1 e Q q => ha H1 e _ fun H2 e2 => ⟨o, C, dx, fs, v, rfl, e2 _ _ (e _ _ ho), c, n, hf, q H2 e2⟩
section
variable {P : Program} {w : World} {K : PySem.W.Frag} {mg : Str → Option Value} {base : Heap}
/-! ### rises_of -/
def spRis (K : PySem.W.Frag) : Sp := fun vs H Q _ => ∃ (a : Addr) (g : List Int), vs = [.ref a] ∧ SqT K H a (vI g) ∧ g.length ≤ 4000 ∧ ∀ p H', Ex H H' → SqT K H' p (vI (ris g)) → Q (.ref p) H'
theorem scRis : FnScope ["gains", "rises", "gain"] ["gains"] (defScope sRis) := ⟨rfl, rfl, rfl, by decide +kernel, rfl, by decide +kernel, by decide +kernel⟩
theorem ok_Ris {f : Addr} {fd : FuncData} (F : Fun K "rises_of" "rises_of" sRis f fd) (T : GlbS mg) : FnOk P w K mg base CX0 1 f fd ["gains"] (spRis K) := by
  refine F.ok scRis (fun vs H Q E h => ?_) (fun cdv A outer s H vs Q E hr h => ?_)
  · obtain ⟨a, g, rfl, _⟩ := h
    rfl
  · obtain ⟨a, g, rfl, hG, g1, k⟩ := h
    refine ⟨_, pss_cons (ps_set (i := 1) scRis.nd rfl (.inl rfl) (pe_lst (pa_cons pe_int pa_nil)))
      (pss_cons (ps_for PassesOwn.never rfl (pi_tup (pv 0)) (pg_name (i := 2) scRis.nd rfl (.inl rfl))
        (pss_one (ps_expr (pe_bm PySem.F.plainAttrs_list PySem.F.slot_list_append PySem.F.type_list_append mt_append (pv 1) (pa_cons (pe_op op_add (pe_ix ix_list (pv 1) (pe_un un_neg pe_int) (fun _ _ => rfl)) (pv 2)) pa_nil)))))
      (pss_one (ps_ret (pe_tupleOf (by rfl) T.tuple (pv 1))))), ?_⟩
    refine q_asgL (xs := vI [0]) (el_lst (ea_cons ev_c ea_nil) (Nat.le_of_ble_eq_true rfl)) fun b H1 hb e1 h1 => ?_
    refine q_forT (xs := vI g) (ev_var rfl) (ex_t e1 hG) (fun i σ' H' => (∃ x, σ' = [some (.ref a), some (.ref b), x]) ∧ H' b = some (.lst (vI (pre (dif g) i))) ∧ Ex H H') (fun H2 e2 => ⟨⟨_, rfl⟩, e2 _ _ h1, e1.trans e2⟩) (fun i σ' H' _ z => ex_t z.2.2 hG) ?_ ?_
    · rintro i x σ' H2 hx ⟨⟨x2, rfl⟩, h2, e2⟩
      have hi : i < g.length := by
        have := (List.getElem?_eq_some_iff.mp hx).1
        rwa [vI_len] at this
      rw [vI_get hi] at hx
      obtain rfl := Option.some.inj hx
      show tDrop _ _ _ _
      refine s_app h2 (ev_var rfl) (v := .int (acc (dif g) i + dif g i)) (ev_op (ev_op (ev_var rfl) (ev_un ev_c ru_neg) (rv_ixL (sq_of h2) (by rw [atI_vlast (by rw [pre_len]; omega), pre_last]))) (ev_is (ev_var rfl) (by rw [dif_lt hi])) rv_I0) (by rw [vI_len, pre_len]; omega) fun H3 e3 => ?_
      exact ⟨⟨_, rfl⟩, by rw [upd_same, vI_app, pre_succ], (e2.trans e3).mut hb⟩
    · rintro σ' H2 ⟨⟨x2, rfl⟩, h2, e2⟩
      rw [vI_len] at h2
      refine ⟨_, rfl, .inl ⟨b, _, rfl, sq_of h2, fun q hq => k q _ (e2.trans (Ex.new hq)) (st_of upd_same)⟩⟩
/-! ### value_at -/
theorem wide_lt40 {i : Int} (h : 0 ≤ i ∧ i ≤ 20000000000000000000000000000000000000000) : i.natAbs < 2 ^ 140 := by
  have e : (2 : Nat) ^ 140 = 1393796574908163946345982392040522594123776 := by decide
  rw [e]
  omega
/-- i, j = divmod(a, b) -/
theorem q_divmod {σ : L2.St} {H : Hp} {ta : TA} {a b : Int} {i j : Nat} {tz : TS} {D : Ends} (h : EvA ta σ H [.int a, .int b]) (hc : CDiv a b) (k : ∀ H1, Ex H H1 → tz D ((σ.set i (some (.int (a / b)))).set j (some (.int (a % b)))) H1) :
    tSeq (tAsg (tCB (fun xs H Q => ∃ i j, xs = [V.int i, V.int j] ∧ CDiv i j ∧ ∀ p, H p = none → Q (.ref p) (upd H p (.tup [.int (i / j), .int (i % j)]))) ta) (gTup K 2 (gCons (gName i) (gCons (gName j) gNil)))) tz D σ H :=
  h H (Ex.refl H) _ fun H2 e2 => ⟨a, b, rfl, hc, fun p hp => ⟨p, _, rfl, st_of upd_same, rfl, _, _, rfl, _, _, rfl, rfl, k _ (e2.trans (Ex.new hp))⟩⟩
structure GlbV (mg : Str → Option Value) : Prop where
  divmod : mg "divmod" = none
  max : mg "max" = none
  zip : mg "zip" = none
theorem spv_val_far {t g : List Int} {n : Nat} (h0 : 0 < t.length) (hn : t.length ≤ n) : val t g n = at' t (t.length - 1) + ((n - t.length + 1) / g.length : Nat) * acc (dif g) g.length + acc (dif g) ((n - t.length + 1) % g.length) := val_far h0 hn
def spVal (K : PySem.W.Frag) (C : Addr) : Sp := fun vs H Q _ => ∃ (o : Addr) (n : Nat) (t g : List Int), vs = [.ref o, .int (n : Int)] ∧ GrAt K C H o t g ∧ (n : Int) ≤ 10 ^ 40 ∧ RetV (.int (val t g n)) H Q
theorem scVal : FnScope ["one", "n", "rounds", "rest"] ["one", "n"] (defScope sVal) := ⟨rfl, rfl, rfl, by decide +kernel, rfl, by decide +kernel, by decide +kernel⟩
theorem ok_Val {C f : Addr} {fd : FuncData} (F : Fun K "value_at" "value_at" sVal f fd) (T : GlbS mg) (DV : GlbV mg) (G : GCls K C) : FnOk P w K mg base CX0 1 f fd ["one", "n"] (spVal K C) := by
  refine F.ok scVal (fun vs H Q E h => ?_) (fun cdv A outer s H vs Q E hr h => ?_)
  · obtain ⟨o, n, t, g, rfl, _⟩ := h
    rfl
  · obtain ⟨o, n, t, g, rfl, hO, hn40, k⟩ := h
    refine ⟨_, pss_cons (ps_if (pt_cmpR op_lt (pv 1) (pe_callB call_len_seq (by rfl) T.len PySem.boot_len (pa_cons (pe_fld (pv 0) rfl) pa_nil)) (nomark _)) (pss_one (ps_ret (pe_ix ix_seq (pe_fld (pv 0) rfl) (pv 1) (fun _ _ => rfl)))) pss_nil)
      (pss_cons (ps_asg (pe_callB call_divmod (by rfl) DV.divmod (by decide +kernel) (pa_cons (pe_op op_add (pe_op op_sub (pv 1) (pe_callB call_len_seq (by rfl) T.len PySem.boot_len (pa_cons (pe_fld (pv 0) rfl) pa_nil))) pe_int) (pa_cons (pe_callB call_len_seq (by rfl) T.len PySem.boot_len (pa_cons (pe_fld (pv 0) rfl) pa_nil)) pa_nil)))
        (pg_tup rfl (pgs_cons (pg_name (i := 2) scVal.nd rfl (.inl rfl)) (pgs_cons (pg_name (i := 3) scVal.nd rfl (.inl rfl)) pgs_nil))))
      (pss_one (ps_ret (pe_op op_add (pe_op op_add (pe_ix ix_seq (pe_fld (pv 0) rfl) (pe_un un_neg pe_int) (fun _ _ => rfl)) (pe_op op_mulW (pv 2) (pe_ix ix_seq (pe_fld (pv 0) rfl) (pe_un un_neg pe_int) (fun _ _ => rfl)))) (pe_ix ix_seq (pe_fld (pv 0) rfl) (pv 3) (fun _ _ => rfl)))))), ?_⟩
    obtain ⟨dx, p, q, r, h1, h2, h3, h4, nf, t2, g2, sm⟩ := hO
    have t0 := nf.told
    have g0 := nf.gains
    have fT : ∀ {σ'' : L2.St} {H' : Hp}, Ex H H' → σ''[0]? = some (some (.ref o)) → Ev (tFld K (tVar 0) "told") σ'' H' (.ref p) := fun e h0 => ev_fld (ev_var h0) (e _ _ h1) G.cls G.told rfl
    have fG : ∀ {σ'' : L2.St} {H' : Hp}, Ex H H' → σ''[0]? = some (some (.ref o)) → Ev (tFld K (tVar 0) "gains") σ'' H' (.ref q) := fun e h0 => ev_fld (ev_var h0) (e _ _ h1) G.cls G.gains rfl
    have fR : ∀ {σ'' : L2.St} {H' : Hp}, Ex H H' → σ''[0]? = some (some (.ref o)) → Ev (tFld K (tVar 0) "rises") σ'' H' (.ref r) := fun e h0 => ev_fld (ev_var h0) (e _ _ h1) G.cls G.rises rfl
    have lT : ∀ {σ'' : L2.St} {H' : Hp}, Ex H H' → σ''[0]? = some (some (.ref o)) → Ev (tCB (fun xs H Q => ∃ p ys, xs = [V.ref p] ∧ (SqL K H p ys ∨ SqT K H p ys) ∧ Q (.int ys.length) H) (tCons (tFld K (tVar 0) "told") tNil)) σ'' H' (.int (t.length : Int)) :=
      fun e h0 => ev_is (ev_cb (ea_cons (fT e h0) ea_nil) (rc_lenQ (.inr (ex_t e h2)))) (by rw [vI_len])
    have lG : ∀ {σ'' : L2.St} {H' : Hp}, Ex H H' → σ''[0]? = some (some (.ref o)) → Ev (tCB (fun xs H Q => ∃ p ys, xs = [V.ref p] ∧ (SqL K H p ys ∨ SqT K H p ys) ∧ Q (.int ys.length) H) (tCons (tFld K (tVar 0) "gains") tNil)) σ'' H' (.int (g.length : Int)) :=
      fun e h0 => ev_is (ev_cb (ea_cons (fG e h0) ea_nil) (rc_lenQ (.inr (ex_t e h3)))) (by rw [vI_len])
    refine q_when (et_test (ev_op (ev_var rfl) (lT (Ex.refl H) rfl) rv_I0)) (fun ht H1 e1 => ?_) (fun ht H1 e1 => ?_)
    · have hn : n < t.length := by have := of_decide_eq_true ht; omega
      refine s_ret (v := .int (val t g n)) (ev_op (fT e1 rfl) (ev_var rfl) (rv_ix (.inr (ex_t e1 h2)) (by rw [atI_vI hn, val_lt hn]))) fun H2 e2 => k H2 (e1.trans e2)
    · have hn : t.length ≤ n := by have := of_decide_eq_false ht; omega
      obtain ⟨m, hm⟩ : ∃ m, m = n - t.length + 1 := ⟨_, rfl⟩
      have hr2 : m % g.length < g.length := Nat.mod_lt _ g0
      have ea : EvA (tCons (tOp (rI0 fun i j => .int (i + j)) (tOp (rI0 fun i j => .int (i - j)) (tVar 1) (tCB (fun xs H Q => ∃ p ys, xs = [V.ref p] ∧ (SqL K H p ys ∨ SqT K H p ys) ∧ Q (.int ys.length) H) (tCons (tFld K (tVar 0) "told") tNil))) (tC (.int 1)))
          (tCons (tCB (fun xs H Q => ∃ p ys, xs = [V.ref p] ∧ (SqL K H p ys ∨ SqT K H p ys) ∧ Q (.int ys.length) H) (tCons (tFld K (tVar 0) "gains") tNil)) tNil)) [some (.ref o), some (.int (n : Int)), none, none] H1 [.int (m : Int), .int (g.length : Int)] :=
        ea_cons (ev_is (ev_op (ev_op (ev_var rfl) (lT e1 rfl) rv_I0) ev_c rv_I0) (by congr 1; omega)) (ea_cons (lG e1 rfl) ea_nil)
      refine q_divmod ea ⟨by omega, by omega⟩ fun H3 e2 => ?_
      have e3 := e1.trans e2
      show tRet _ _ _ _
      have S := acc_small sm g0 g.length
      refine s_ret (v := .int (val t g n)) (ev_is (ev_op (ev_op (ev_op (fT e3 rfl) (ev_un ev_c ru_neg) (rv_ix (.inr (ex_t e3 h2)) (atI_vlast t0)))
        (ev_op (y := .int (acc (dif g) g.length)) (ev_var rfl) (ev_op (fR e3 rfl) (ev_un ev_c ru_neg) (rv_ix (.inr (ex_t e3 h4)) (by rw [atI_vlast (by rw [ris_len]; omega), ris_len, Nat.add_sub_cancel, ris_at (Nat.le_refl _)]))) (rv_I (wide_mul (a := 140) (b := 140) (wide_lt40 (by have := Int.ediv_le_self (g.length : Int) (a := (m : Int)) (by omega); have := Int.ediv_nonneg (a := (m : Int)) (b := (g.length : Int)) (by omega) (by omega); omega)) (wide_lt40 (by omega)) (by decide) (by decide) (by decide)))) rv_I0)
        (ev_op (y := .int ((m % g.length : Nat) : Int)) (z := .int (acc (dif g) (m % g.length))) (fR e3 rfl) (ev_var rfl) (rv_ix (.inr (ex_t e3 h4)) (by rw [atI_vI (by rw [ris_len]; omega), ris_at (by omega)]))) rv_I0) ?_) fun H4 e4 => k H4 (e3.trans e4)
      rw [spv_val_far t0 hn, ← hm]
      rfl
end
end K01
namespace Gr
theorem pT_at {f : Nat → Int} {n i : Nat} (h : i < n) : at' (pT f n) i = f i := at_map_range h
theorem pT_succ {f : Nat → Int} {n : Nat} : pT f (n + 1) = pT f n ++ [f n] := by
  unfold pT
  rw [List.range_succ, List.map_append]
  rfl
theorem pT_take {t g : List Int} {n : Nat} (h : n ≤ t.length) : t.take n = pT (val t g) n := by
  refine at_eq_of (by rw [pT_len, List.length_take]; omega) fun i hi => ?_
  rw [List.length_take] at hi
  rw [at_take (by omega), pT_at (by omega), val_lt (by omega)]
theorem val_next {t g : List Int} {n : Nat} (h0 : 0 < t.length) (h : t.length ≤ n) : val t g n = val t g (n - 1) + dif g (n - t.length) := by
  have := val_step (g := g) h0 (n - t.length)
  rw [show t.length - 1 + (n - t.length) + 1 = n by omega, show t.length - 1 + (n - t.length) = n - 1 by omega] at this
  omega
end Gr
namespace K01
open PySem L2 Evl Gr
abbrev sFirst : Stmt := top 19
section
variable {K : PySem.W.Frag} {σ : L2.St} {H : Hp} {te : TE} {xs : List V}
/-- list(t), t a tuple that may be a new one -/
theorem el_ofT (h : EvTu K te σ H xs) : EvL (tCB (rListS K) (tCons te tNil)) σ H xs := fun H1 e Q q =>
  h H1 e _ fun p H2 e2 hp => ⟨p, xs, rfl, .inr hp, fun l hl => q l _ (fresh_back e2 hl) (e2.trans (Ex.new hl)) upd_same⟩
end
section
variable {P : Program} {w : World} {K : PySem.W.Frag} {mg : Str → Option Value} {base : Heap}
/-! ### first_values -/
def spFirst (K : PySem.W.Frag) (C : Addr) : Sp := fun vs H Q _ => ∃ (o : Addr) (m : Nat) (t g : List Int), vs = [.ref o, .int (m : Int)] ∧ GrAt K C H o t g ∧ m ≤ 10000 ∧ ∀ p H', H p = none → Ex H H' → H' p = some (.lst (vI (pT (val t g) m))) → Q (.ref p) H'
theorem scFirst : FnScope ["one", "many", "values", "at"] ["one", "many"] (defScope sFirst) := ⟨rfl, rfl, rfl, by decide +kernel, rfl, by decide +kernel, by decide +kernel⟩
theorem ok_First {C f : Addr} {fd : FuncData} (F : Fun K "first_values" "first_values" sFirst f fd) (T : GlbS mg) (G : GCls K C) : FnOk P w K mg base CX0 1 f fd ["one", "many"] (spFirst K C) := by
  refine F.ok scFirst (fun vs H Q E h => ?_) (fun cdv A outer s H vs Q E hr h => ?_)
  · obtain ⟨o, n, t, g, rfl, _⟩ := h
    rfl
  · obtain ⟨o, m, t, g, rfl, hO, hm, k⟩ := h
    refine ⟨_, pss_cons (ps_set (i := 2) scFirst.nd rfl (.inl rfl) (pe_callTy call_list_of (by rfl) T.list (by decide +kernel) (pa_cons (pe_slice sl_tupA (pe_fld (pv 0) rfl) po_none (po_some (pv 1))) pa_nil)))
      (pss_cons (ps_set (i := 3) scFirst.nd rfl (.inl rfl) pe_int)
      (pss_cons (ps_while PassesOwn.never (pt_cmpR op_lt (pe_callB call_len_seq (by rfl) T.len PySem.boot_len (pa_cons (pv 2) pa_nil)) (pv 1) (nomark _))
        (pss_cons (ps_expr (pe_bm PySem.F.plainAttrs_list PySem.F.slot_list_append PySem.F.type_list_append mt_append (pv 2) (pa_cons (pe_op op_add (pe_ix ix_list (pv 2) (pe_un un_neg pe_int) (fun _ _ => rfl)) (pe_ix ix_seq (pe_fld (pv 0) rfl) (pv 3) (fun _ _ => rfl))) pa_nil)))
        (pss_cons (ps_aug (i := 3) scFirst.nd rfl (.inl rfl) pe_int ip_add)
        (pss_one (ps_if (pt_cmpR op_eq (pv 3) (pe_callB call_len_seq (by rfl) T.len PySem.boot_len (pa_cons (pe_fld (pv 0) rfl) pa_nil)) (nomark _)) (pss_one (ps_set (i := 3) scFirst.nd rfl (.inl rfl) pe_int)) pss_nil)))))
      (pss_one (ps_ret (pv 2))))), ?_⟩
    obtain ⟨dx, p, q, r, h1, h2, h3, h4, nf, t2, g2, sm⟩ := hO
    have t0 := nf.told
    have g0 := nf.gains
    have fT : ∀ {σ'' : L2.St} {H' : Hp}, Ex H H' → σ''[0]? = some (some (.ref o)) → Ev (tFld K (tVar 0) "told") σ'' H' (.ref p) := fun e h0 => ev_fld (ev_var h0) (e _ _ h1) G.cls G.told rfl
    have fG : ∀ {σ'' : L2.St} {H' : Hp}, Ex H H' → σ''[0]? = some (some (.ref o)) → Ev (tFld K (tVar 0) "gains") σ'' H' (.ref q) := fun e h0 => ev_fld (ev_var h0) (e _ _ h1) G.cls G.gains rfl
    have lG : ∀ {σ'' : L2.St} {H' : Hp}, Ex H H' → σ''[0]? = some (some (.ref o)) → Ev (tCB (fun xs H Q => ∃ p ys, xs = [V.ref p] ∧ (SqL K H p ys ∨ SqT K H p ys) ∧ Q (.int ys.length) H) (tCons (tFld K (tVar 0) "gains") tNil)) σ'' H' (.int (g.length : Int)) :=
      fun e h0 => ev_is (ev_cb (ea_cons (fG e h0) ea_nil) (rc_lenQ (.inr (ex_t e h3)))) (by rw [vI_len])
    obtain ⟨n0, hn0⟩ : ∃ n0, n0 = min m t.length := ⟨_, rfl⟩
    have c1 : EvL (tCB (rListS K) (tCons (tSl (rSlA K) (tFld K (tVar 0) "told") tNoPart (tPart (tVar 1))) tNil)) [some (.ref o), some (.int (m : Int)), none, none] H (vI (pT (val t g) n0)) := by
      have z := etu_cut (K := K) (σ := [some (.ref o), some (.int (m : Int)), none, none]) (H := H) (te := tFld K (tVar 0) "told") (tl := tNoPart) (th := tPart (tVar 1)) (lo := none) (hi := some (m : Int)) (fT (Ex.refl H) rfl) eo_none (eo_some (ev_var rfl)) h2
      have e : cutV (vI t) none (some (m : Int)) = vI (pT (val t g) n0) := by
        rcases Nat.lt_or_ge t.length m with c | c
        · have e1 : cutV (vI t) none (some (m : Int)) = vI t := cutV_all (n := 0) rfl (by rw [HT.sIx_nat, vI_len]; omega)
          rw [e1, show n0 = t.length by omega, ← pT_take (g := g) (Nat.le_refl _), List.take_length]
        · rw [cut_take c, show n0 = m by omega, pT_take (g := g) c]
      rw [e] at z
      exact el_ofT z
    refine q_asgL c1 fun b H1 hb e1 hb1 => ?_
    refine q_asg ev_c fun H2 e2 => ?_
    refine q_while (fun u σ' H' => ∃ n : Nat, u = m - n ∧ n ≤ m ∧ (n < m → t.length ≤ n) ∧ 0 < n + 1 ∧ σ' = [some (.ref o), some (.int (m : Int)), some (.ref b), some (.int (((n - t.length) % g.length : Nat) : Int))] ∧ H' b = some (.lst (vI (pT (val t g) n))) ∧ Ex H H') (m - n0)
      ⟨n0, rfl, by omega, fun _ => by omega, by omega, by rw [show n0 - t.length = 0 by omega, Nat.zero_mod]; rfl, e2 _ _ hb1, e1.trans e2⟩ ?_
    rintro u σ' H3 ⟨n, rfl, nm, nt, _, rfl, hb3, E3⟩
    refine ⟨_, et_test (ev_op (ev_is (ev_cb (ea_cons (ev_var rfl) ea_nil) (rc_len (sq_of hb3))) (by rw [vI_len, pT_len])) (ev_var rfl) rv_I0), fun ht H4 e4 => ?_, fun ht H4 e4 => ?_⟩
    · have hlt : n < m := by have := of_decide_eq_true ht; omega
      have hT := nt hlt
      have hr2 : (n - t.length) % g.length < g.length := Nat.mod_lt _ g0
      have hb4 := e4 _ _ hb3
      have E4 := E3.trans e4
      refine ⟨fun σ' H' => σ' = [some (.ref o), some (.int (m : Int)), some (.ref b), some (.int (((n + 1 - t.length) % g.length : Nat) : Int))] ∧ H' b = some (.lst (vI (pT (val t g) (n + 1)))) ∧ Ex H H',
        fun σ2 H5 h5 => ⟨m - (n + 1), by omega, n + 1, rfl, by omega, fun _ => by omega, by omega, h5.1, h5.2.1, h5.2.2⟩, ?_⟩
      refine q_app hb4 (ev_var rfl) (v := .int (val t g n)) (ev_is (ev_op (ev_op (ev_var rfl) (ev_un ev_c ru_neg) (rv_ixL (sq_of hb4) (by rw [atI_vlast (by rw [pT_len]; omega), pT_len, pT_at (by omega)])))
        (ev_op (fG E4 rfl) (ev_var rfl) (rv_ix (.inr (ex_t E4 h3)) (atI_vI hr2))) rv_I0) (by rw [val_next t0 hT]; rfl)) (by rw [vI_len, pT_len]; omega) fun H5 e5 => ?_
      have E5 : Ex H (upd H5 b (.lst (vI (pT (val t g) n) ++ [.int (val t g n)]))) := (E4.trans e5).mut hb
      have hb5 : (upd H5 b (.lst (vI (pT (val t g) n) ++ [.int (val t g n)]))) b = some (.lst (vI (pT (val t g) (n + 1)))) := by rw [upd_same, vI_app, pT_succ]
      generalize upd H5 b (.lst (vI (pT (val t g) n) ++ [.int (val t g n)])) = H6 at E5 hb5 ⊢
      refine q_aug (f := fun x y => x + y) (a := (((n - t.length) % g.length : Nat) : Int)) (b := 1) rfl ev_c fun H7 e7 => ?_
      have E7 := E5.trans e7
      have hb7 := e7 _ _ hb5
      have e8 : n + 1 - t.length = n - t.length + 1 := by omega
      refine s_when (et_test (ev_op (ev_var rfl) (lG E7 rfl) (rv_eq rfl))) (fun hq H8 e8' => ?_) (fun hq H8 e8' => ?_)
      · rw [vint_inj] at hq
        have hq' := of_decide_eq_true hq
        refine s_asg ev_c fun H9 e9 => ⟨?_, e9 _ _ (e8' _ _ hb7), (E7.trans e8').trans e9⟩
        have z : (n + 1 - t.length) % g.length = 0 := by
          rw [e8, Nat.add_mod]
          rcases Nat.eq_or_lt_of_le g0 with c | c
          · rw [← c, Nat.mod_one]
          · rw [Nat.mod_eq_of_lt c, show (n - t.length) % g.length + 1 = g.length by omega, Nat.mod_self]
        rw [z]
        rfl
      · rw [vint_inj] at hq
        have hq' := of_decide_eq_false hq
        refine ⟨?_, e8' _ _ hb7, E7.trans e8'⟩
        have z : (n + 1 - t.length) % g.length = (n - t.length) % g.length + 1 := by
          rw [e8, Nat.add_mod]
          rcases Nat.eq_or_lt_of_le g0 with c | c
          · rw [← c, Nat.mod_one] at hq' ⊢
            omega
          · rw [Nat.mod_eq_of_lt c, Nat.mod_eq_of_lt (by omega)]
        rw [z]
        rfl
    · have hge : n = m := by have := of_decide_eq_false ht; omega
      subst hge
      exact s_ret (ev_var rfl) fun H5 e5 => k b H5 hb ((E3.trans e4).trans e5) (e5 _ _ (e4 _ _ hb3))
end
end K01
namespace K01
open PySem L2 Evl Gr
abbrev sPart : Stmt := top 20
abbrev sBegin : Stmt := top 22
section
variable {σ : L2.St} {H : Hp} {te : TE} {t : TT}
/-- [e for j in range(a, b) if t] -/
theorem el_lcR2 {ta : TA} {j : Nat} {vs : List Nat} {lo n : Int} (f : Nat → Bool) (v : Nat → V) (h : EvA ta σ H [.int lo, .int n]) (hn : 0 ≤ lo ∧ lo ≤ n ∧ n ≤ 40000) (hw : ∀ x, wipe ((wipe σ vs).set j (some x)) vs = wipe σ vs)
    (ht : ∀ (i : Nat) H1, Ex H H1 → lo + (i : Int) < n → EvT t ((wipe σ vs).set j (some (.int (lo + (i : Int))))) H1 (f i)) (he : ∀ (i : Nat) H1, Ex H H1 → lo + (i : Int) < n → f i = true → Ev te ((wipe σ vs).set j (some (.int (lo + (i : Int))))) H1 (v i)) :
    EvL (tLc (iRng2 ta) (gName j) t te vs) σ H (given (n - lo).toNat f v) := fun H0 e Q q => h H0 e _ fun H1 e1 => ⟨lo, n, rfl, ⟨by omega, by omega, by omega, by omega⟩, fun Dl hD =>
  lc_range (lo := lo) (n := (n - lo).toNat) (Cw H1 f v Dl) ⟨hD, Ex.new hD, upd_same⟩ (fun i H' hi p =>
    ⟨hw _, cw_turn p (by omega) (ht i H1 (e.trans e1) (by omega)) (fun hf => he i H1 (e.trans e1) (by omega) hf)⟩) (fun H' p => q Dl H' (fresh_back e1 p.1) (e1.trans p.2.1) p.2.2)⟩
theorem given_all {n : Nat} {v : Nat → V} : given n (fun _ => true) v = (List.range n).map v := by
  unfold given
  rw [List.filter_eq_self.mpr fun _ _ => rfl]
theorem et_none : EvT (fun σ H Q => Q true H) σ H true := fun H1 _ _ q => q H1 (Ex.refl H1)
end
section
variable {P : Program} {w : World} {K : PySem.W.Frag} {mg : Str → Option Value} {base : Heap}
/-! ### begin_of_both -/
def spBegin (K : PySem.W.Frag) (C : Addr) : Sp := fun vs H Q _ => ∃ (o u : Addr) (t g t' g' : List Int), vs = [.ref o, .ref u] ∧ GrAt K C H o t g ∧ GrAt K C H u t' g' ∧ RetV (.int ((max t.length t'.length : Nat) : Int)) H Q
theorem scBegin : FnScope ["one", "other"] ["one", "other"] (defScope sBegin) := ⟨rfl, rfl, rfl, by decide +kernel, rfl, by decide +kernel, by decide +kernel⟩
theorem ev_lenF {σ : L2.St} {H : Hp} {ta : TE} {o C dx p : Addr} {fs : List (Str × V)} {f : Str} {g : List Int} (ha : Ev ta σ H (.ref o)) (ho : H o = some (.ins C dx fs)) (c : Cls K C) (n : NoAttr K C f) (hf : fs.lookup f = some (.ref p)) (hp : SqT K H p (vI g)) :
    Ev (tCB (fun xs H Q => ∃ p ys, xs = [V.ref p] ∧ (SqL K H p ys ∨ SqT K H p ys) ∧ Q (.int ys.length) H) (tCons (tFld K ta f) tNil)) σ H (.int (g.length : Int)) :=
  ev_is (ev_cb (ea_cons (ev_fld ha ho c n hf) ea_nil) (rc_lenQ (.inr hp))) (by rw [vI_len])
theorem ok_Begin {C f : Addr} {fd : FuncData} (F : Fun K "begin_of_both" "begin_of_both" sBegin f fd) (T : GlbS mg) (DV : GlbV mg) (G : GCls K C) : FnOk P w K mg base CX0 1 f fd ["one", "other"] (spBegin K C) := by
  refine F.ok scBegin (fun vs H Q E h => ?_) (fun cdv A outer s H vs Q E hr h => ?_)
  · obtain ⟨o, u, t, g, t', g', rfl, _⟩ := h
    rfl
  · obtain ⟨o, u, t, g, t', g', rfl, hO, hU, k⟩ := h
    refine ⟨_, pss_one (ps_ret (pe_callB (call_max2 rfl) (by rfl) DV.max (by decide +kernel) (pa_cons (pe_callB call_len_seq (by rfl) T.len PySem.boot_len (pa_cons (pe_fld (pv 0) rfl) pa_nil)) (pa_cons (pe_callB call_len_seq (by rfl) T.len PySem.boot_len (pa_cons (pe_fld (pv 1) rfl) pa_nil)) pa_nil)))), ?_⟩
    obtain ⟨dx, p, q, r, h1, h2, h3, h4, nf, t2, g2, sm⟩ := hO
    obtain ⟨dx', p', q', r', h1', h2', h3', h4', nf', t2', g2', sm'⟩ := hU
    refine s_ret (ev_is (ev_max2 (ev_lenF (ev_var rfl) h1 G.cls G.told rfl h2) (ev_lenF (ev_var rfl) h1' G.cls G.told rfl h2')) ?_) k
    by_cases c : (t'.length : Int) > (t.length : Int)
    · rw [if_pos c]; congr 1; omega
    · rw [if_neg c]; congr 1; omega
/-! ### parted -/
def spPart (K : PySem.W.Frag) : Sp := fun vs H Q _ => ∃ (a : Addr) (b l : Nat) (f : Nat → Int), vs = [.ref a, .int (b : Int)] ∧ SqL K H a (vI (pT f (b + l))) ∧ 0 < b ∧ b + l ≤ 20000 ∧
  ∀ r p q H', Ex H H' → SqT K H' r [.ref p, .ref q] → SqL K H' p (vI (pT f b)) → SqL K H' q (vI (pG f b l)) → Q (.ref r) H'
theorem scPart : FnScope ["values", "many", "gains", "at"] ["values", "many"] (defScope sPart) := ⟨rfl, rfl, rfl, by decide +kernel, rfl, by decide +kernel, by decide +kernel⟩
theorem ok_Part {f : Addr} {fd : FuncData} (F : Fun K "parted" "parted" sPart f fd) (T : GlbS mg) : FnOk P w K mg base CX0 1 f fd ["values", "many"] (spPart K) := by
  refine F.ok scPart (fun vs H Q E h => ?_) (fun cdv A outer s H vs Q E hr h => ?_)
  · obtain ⟨a, b, l, f, rfl, _⟩ := h
    rfl
  · obtain ⟨a, b, l, f, rfl, hA, b0, bl, k⟩ := h
    refine ⟨_, pss_cons (ps_setLc (i := 2) (own := [("at", 3)]) (g := gName 3) rfl scPart.nd rfl (by rfl) (by rfl) (pi_range2 (by rfl) T.range (pa_cons (pv 1) (pa_cons (pe_callB call_len_seq (by rfl) T.len PySem.boot_len (pa_cons (pv 0) pa_nil)) pa_nil))) (blkOk_by (own := [("at", 3)]) (N := ["values", "many", "gains", "at"]) (sc := defScope sPart) (by decide +kernel))
        (fun _ _ _ _ _ => pg_name (i := 3) scPart.nd rfl (Or.inl rfl)) (fun _ _ _ _ _ => pts_nil) (fun _ _ _ _ _ => pe_op op_sub (pe_ix (show IxR _ (rIxL K) from ix_list) (pv 0) (pv 3) (fun _ _ => rfl)) (pe_ix (show IxR _ (rIxL K) from ix_list) (pv 0) (pe_op op_sub (pv 3) pe_int) (fun _ _ => rfl))))
      (pss_one (ps_ret (pe_tup (pa_cons (pe_slice sl_list (pv 0) po_none (po_some (pv 1))) (pa_cons (pv 2) pa_nil))))), ?_⟩
    have c1 : EvL (tLc (iRng2 (tCons (tVar 1) (tCons (tCB (fun xs H Q => ∃ p ys, xs = [V.ref p] ∧ (SqL K H p ys ∨ SqT K H p ys) ∧ Q (.int ys.length) H) (tCons (tVar 0) tNil)) tNil))) (gName 3) tYes
        (tOp (rI0 fun i j => .int (i - j)) (tOp (rIxL K) (tVar 0) (tVar 3)) (tOp (rIxL K) (tVar 0) (tOp (rI0 fun i j => .int (i - j)) (tVar 3) (tC (.int 1))))) [3]) [some (.ref a), some (.int (b : Int)), none, none] H (vI (pG f b l)) := by
      have z := el_lcR2 (σ := [some (.ref a), some (.int (b : Int)), none, none]) (H := H) (t := tYes) (te := tOp (rI0 fun i j => .int (i - j)) (tOp (rIxL K) (tVar 0) (tVar 3)) (tOp (rIxL K) (tVar 0) (tOp (rI0 fun i j => .int (i - j)) (tVar 3) (tC (.int 1))))) (j := 3) (vs := [3]) (lo := (b : Int)) (n := ((b + l : Nat) : Int))
        (fun _ => true) (fun i => V.int (f (b + i) - f (b + i - 1))) (ta := tCons (tVar 1) (tCons (tCB (fun xs H Q => ∃ p ys, xs = [V.ref p] ∧ (SqL K H p ys ∨ SqT K H p ys) ∧ Q (.int ys.length) H) (tCons (tVar 0) tNil)) tNil))
        (ea_cons (ev_var rfl) (ea_cons (ev_is (ev_cb (ea_cons (ev_var rfl) ea_nil) (rc_lenQ (.inl hA))) (by rw [vI_len, pT_len])) ea_nil)) (by omega) (fun _ => rfl) (fun i H1 e1 hi => et_none) (fun i H1 e1 hi _ => ?_)
      · rw [given_all, show (((b + l : Nat) : Int) - (b : Int)).toNat = l by omega] at z
        have e : vI (pG f b l) = (List.range l).map fun i => V.int (f (b + i) - f (b + i - 1)) := by unfold vI pG; rw [List.map_map]; rfl
        rw [e]
        exact z
      · have hA1 := ex_l e1 hA
        exact ev_op (ev_op (y := .int ((b + i : Nat) : Int)) (ev_var rfl) (ev_is (ev_var rfl) (by congr 1)) (rv_ixL hA1 (by rw [atI_vI (by rw [pT_len]; omega), pT_at (by omega)])))
          (ev_op (y := .int ((b + i - 1 : Nat) : Int)) (ev_var rfl) (ev_is (ev_op (ev_var rfl) ev_c rv_I0) (by congr 1; omega)) (rv_ixL hA1 (by rw [atI_vI (by rw [pT_len]; omega), pT_at (by omega)]))) rv_I0
    refine q_asgL c1 fun q H1 hq e1 h1 => ?_
    have c2 := el_sl (K := K) (σ := [some (.ref a), some (.int (b : Int)), some (.ref q), none]) (H := H1) (te := tVar 0) (tl := tNoPart) (th := tPart (tVar 1)) (lo := none) (hi := some (b : Int)) (ev_var rfl) eo_none (eo_some (ev_var rfl)) (ex_l e1 hA)
    rw [cut_take (by rw [pT_len]; omega)] at c2
    refine c2 H1 (Ex.refl H1) _ fun p H2 hp e2 h2 => ?_
    refine ⟨_, rfl, by show 2 ≤ sizeLine; decide, fun r hr => ?_⟩
    have e3 := Ex.new (H := H2) (o := .tup [.ref p, .ref q]) hr
    refine k r p q _ ((e1.trans e2).trans e3) (st_of upd_same) ?_ (sq_of (e3 _ _ (e2 _ _ h1)))
    have e4 : (pT f (b + l)).take b = pT f b := at_eq_of (by rw [List.length_take, pT_len, pT_len]; omega) fun i hi => by
      rw [List.length_take, pT_len] at hi
      rw [at_take (by omega), pT_at (by omega), pT_at (by omega)]
    rw [e4] at h2
    exact sq_of (e3 _ _ h2)
end
end K01
namespace L2
open PySem PySem.Spec PyProof.Rows
section
variable {X : Cx}
def rLcm : List V → Hp → VK → Prop := fun vs H Q => ∃ a b : Nat, vs = [.int (a : Int), .int (b : Int)] ∧ a < 2 ^ 64 ∧ b < 2 ^ 64 ∧ Q (.int ((Nat.lcm a b : Nat) : Int)) H
theorem cr_lcm : CallR X (.builtin "math.lcm") rLcm := by
  intro pins s σ H vs us Q I r h
  obtain ⟨a, b, rfl, ha, hb, q⟩ := h
  obtain ⟨t, u, rfl⟩ := Vals.int2 r
  exact PySem.W.mc_lcm (by simpa using ha) (by simpa using hb) fun _ => ⟨.int _, H, I.tok _, ⟨_, rfl⟩, by simpa using q⟩
/-- a statement that is not come to -/
def tNo : TS := fun _ _ _ => False
theorem ps_no {st : Stmt} : PS X st tNo := ⟨fun _ _ _ _ _ _ h => h.elim⟩
end
end L2
namespace K01
open PySem L2 Evl Gr
abbrev sCommon : Stmt := top 21
abbrev sSum : Stmt := top 23
section
variable {K : PySem.W.Frag} {σ : L2.St} {H : Hp} {te : TE}
/-- [e for i, j in zip(x, y)] -/
theorem el_lcZ {ta : TA} {i j : Nat} {vs : List Nat} {xs ys : List V} (v : Nat → V) (h : ∀ H1, Ex H H1 → ∀ Q : List V → Hp → Prop, (∀ a b H2, Ex H1 H2 → SqL K H2 a xs → SqL K H2 b ys → Q [.ref a, .ref b] H2) → ta σ H1 Q)
    (hl : xs.length = ys.length) (hz : xs.length ≤ 40000) (hw : ∀ x y, wipe (((wipe σ vs).set i (some x)).set j (some y)) vs = wipe σ vs)
    (he : ∀ (k : Nat) x y H1, Ex H H1 → xs[k]? = some x → ys[k]? = some y → Ev te (((wipe σ vs).set i (some x)).set j (some y)) H1 (v k)) :
    EvL (tLc (iZip K ta) (gTup K 2 (gCons (gName i) (gCons (gName j) gNil))) tYes te vs) σ H ((List.range xs.length).map v) := fun H0 e Q q => h H0 e _ fun a b H1 e1 ha hb =>
  ⟨a, b, xs, ys, rfl, ha, hb, fun Dl hD => lc_it (n := xs.length) (walk_zip (xs := xs) (ys := ys) (by omega)) (Cw H1 (fun _ => true) v Dl) ⟨hD, Ex.new hD, upd_same⟩ (fun _ H' _ p => ⟨ex_l p.2.1 ha, ex_l p.2.1 hb⟩)
    (fun k x H' H'' hk p y => by
      obtain ⟨T, x1, y1, rfl, hT, rfl, hx, hy⟩ := y
      have e2 := Ex.new (H := H') (o := .tup [x1, y1]) hT
      have p' : Cw H1 (fun _ => true) v Dl k (upd H' T (.tup [x1, y1])) := ⟨p.1, p.2.1.trans e2, e2 _ _ p.2.2⟩
      exact ⟨T, _, rfl, st_of upd_same, rfl, _, _, rfl, _, _, rfl, rfl, hw _ _, cw_turn p' (by omega) et_none (fun _ => he k x1 y1 H1 (e.trans e1) hx hy)⟩)
    (fun H' p => q Dl H' (fresh_back e1 p.1) (e1.trans p.2.1) (by rw [← given_all]; exact p.2.2))⟩
end
section
variable {P : Program} {w : World} {K : PySem.W.Frag} {mg : Str → Option Value} {base : Heap}
/-! ### common_length -/
structure GlbL (mg : Str → Option Value) : Prop where
  lcm : mg "lcm" = some (.builtin "math.lcm")
  most : ∃ t, mg "MOST_PARTS" = some (.int 2000 t)
def spCommon (K : PySem.W.Frag) (C : Addr) : Sp := fun vs H Q _ => ∃ (o u : Addr) (t g t' g' : List Int), vs = [.ref o, .ref u] ∧ GrAt K C H o t g ∧ GrAt K C H u t' g' ∧ Nat.lcm g.length g'.length ≤ 2000 ∧ RetV (.int ((Nat.lcm g.length g'.length : Nat) : Int)) H Q
theorem scCommon : FnScope ["one", "other", "length"] ["one", "other"] (defScope sCommon) := ⟨rfl, rfl, rfl, by decide +kernel, rfl, by decide +kernel, by decide +kernel⟩
theorem ok_Common {C f : Addr} {fd : FuncData} (F : Fun K "common_length" "common_length" sCommon f fd) (T : GlbS mg) (L : GlbL mg) (G : GCls K C) : FnOk P w K mg base CX0 1 f fd ["one", "other"] (spCommon K C) := by
  obtain ⟨mt, gm⟩ := L.most
  refine F.ok scCommon (fun vs H Q E h => ?_) (fun cdv A outer s H vs Q E hr h => ?_)
  · obtain ⟨o, u, t, g, t', g', rfl, _⟩ := h
    rfl
  · obtain ⟨o, u, t, g, t', g', rfl, hO, hU, hl, k⟩ := h
    refine ⟨_, pss_cons (ps_set (i := 2) scCommon.nd rfl (.inl rfl) (pe_callBfun cr_lcm (by rfl) L.lcm (pa_cons (pe_callB call_len_seq (by rfl) T.len PySem.boot_len (pa_cons (pe_fld (pv 0) rfl) pa_nil)) (pa_cons (pe_callB call_len_seq (by rfl) T.len PySem.boot_len (pa_cons (pe_fld (pv 1) rfl) pa_nil)) pa_nil))))
      (pss_cons (ps_if (pt_cmpR op_gt (pv 2) (pe_glob (v := .int 2000) rfl gm ⟨_, rfl⟩) (nomark _)) (pss_one ps_no) pss_nil)
      (pss_one (ps_ret (pv 2)))), ?_⟩
    obtain ⟨dx, p, q, r, h1, h2, h3, h4, nf, t2, g2, sm⟩ := hO
    obtain ⟨dx', p', q', r', h1', h2', h3', h4', nf', t2', g2', sm'⟩ := hU
    refine q_asg (ev_cb (ea_cons (ev_lenF (ev_var rfl) h1 G.cls G.gains rfl h3) (ea_cons (ev_lenF (ev_var rfl) h1' G.cls G.gains rfl h3') ea_nil)) (fun H1 e Q q => ⟨_, _, rfl, by omega, by omega, q H1 (Ex.refl H1)⟩)) fun H1 e1 => ?_
    refine q_when (et_test (ev_op (ev_var rfl) ev_c rv_I0)) (fun ht H2 e2 => ?_) (fun ht H2 e2 => ?_)
    · have := of_decide_eq_true ht
      omega
    · exact s_ret (ev_var rfl) fun H3 e3 => k H3 ((e1.trans e2).trans e3)
/-! ### summed_parts -/
def spSum (K : PySem.W.Frag) (C : Addr) : Sp := fun vs H Q _ => ∃ (o u : Addr) (t g t' g' : List Int), vs = [.ref o, .ref u] ∧ GrAt K C H o t g ∧ GrAt K C H u t' g' ∧ Nat.lcm g.length g'.length ≤ 2000 ∧
  ∀ r p q b l H', Ex H H' → SqT K H' r [.ref p, .ref q] → SqL K H' p (vI (pT (fun n => val t g n + val t' g' n) b)) → SqL K H' q (vI (pG (fun n => val t g n + val t' g' n) b l)) → 0 < b → b ≤ 2000 → 0 < l → l ≤ 2000 →
    (∀ n, val (pT (fun n => val t g n + val t' g' n) b) (pG (fun n => val t g n + val t' g' n) b l) n = val t g n + val t' g' n) → Q (.ref r) H'
theorem scSum : FnScope ["one", "other", "begin", "many", "values", "left", "right"] ["one", "other"] (defScope sSum) := ⟨rfl, rfl, rfl, by decide +kernel, rfl, by decide +kernel, by decide +kernel⟩
theorem ok_Sum {C f fB fC fF fP : Addr} {fd fdB fdC fdF fdP : FuncData} (F : Fun K "summed_parts" "summed_parts" sSum f fd) (T : GlbS mg) (DV : GlbV mg) (L : GlbL mg) (G : GCls K C)
    (FB : Fun K "begin_of_both" "begin_of_both" sBegin fB fdB) (bB : Binds K fdB ["one", "other"] []) (gB : mg "begin_of_both" = some (.ref fB))
    (FC : Fun K "common_length" "common_length" sCommon fC fdC) (bC : Binds K fdC ["one", "other"] []) (gC : mg "common_length" = some (.ref fC))
    (FF : Fun K "first_values" "first_values" sFirst fF fdF) (bF : Binds K fdF ["one", "many"] []) (gF : mg "first_values" = some (.ref fF))
    (FP : Fun K "parted" "parted" sPart fP fdP) (bP : Binds K fdP ["values", "many"] []) (gP : mg "parted" = some (.ref fP)) : FnOk P w K mg base CX0 2 f fd ["one", "other"] (spSum K C) := by
  have GB : FnOk P w K mg base CX0 1 fB fdB ["one", "other"] (spBegin K C) := ok_Begin FB T DV G
  have GC : FnOk P w K mg base CX0 1 fC fdC ["one", "other"] (spCommon K C) := ok_Common FC T L G
  have GF : FnOk P w K mg base CX0 1 fF fdF ["one", "many"] (spFirst K C) := ok_First FF T G
  have GP : FnOk P w K mg base CX0 1 fP fdP ["values", "many"] (spPart K) := ok_Part FP T
  refine F.ok scSum (fun vs H Q E h => ?_) (fun cdv A outer s H vs Q E hr h => ?_)
  · obtain ⟨o, u, t, g, t', g', rfl, _⟩ := h
    rfl
  · obtain ⟨o, u, t, g, t', g', rfl, hO, hU, hl, k⟩ := h
    refine ⟨_, pss_cons (ps_set (i := 2) scSum.nd rfl (.inl rfl) (pe_call GB hr (by rfl) gB FB.kp bB .nil pass0 (pa_cons (pv 0) (pa_cons (pv 1) pa_nil))))
      (pss_cons (ps_set (i := 3) scSum.nd rfl (.inl rfl) (pe_op op_add (pv 2) (pe_call GC hr (by rfl) gC FC.kp bC .nil pass0 (pa_cons (pv 0) (pa_cons (pv 1) pa_nil)))))
      (pss_cons (ps_setLc (i := 4) (own := [("left", 5), ("right", 6)]) (g := gTup K 2 (gCons (gName 5) (gCons (gName 6) gNil))) rfl scSum.nd rfl (by rfl) (by rfl)
          (pi_zip (by rfl) DV.zip (pa_cons (pe_call GF hr (by rfl) gF FF.kp bF .nil pass0 (pa_cons (pv 0) (pa_cons (pv 3) pa_nil))) (pa_cons (pe_call GF hr (by rfl) gF FF.kp bF .nil pass0 (pa_cons (pv 1) (pa_cons (pv 3) pa_nil))) pa_nil)))
          (blkOk_by (own := [("left", 5), ("right", 6)]) (N := ["one", "other", "begin", "many", "values", "left", "right"]) (sc := defScope sSum) (by decide +kernel))
          (fun _ _ _ _ _ => pg_tup rfl (pgs_cons (pg_name (i := 5) scSum.nd rfl (Or.inl rfl)) (pgs_cons (pg_name (i := 6) scSum.nd rfl (Or.inl rfl)) pgs_nil))) (fun _ _ _ _ _ => pts_nil) (fun _ _ _ _ _ => pe_op op_add (pv 5) (pv 6)))
      (pss_one (ps_ret (pe_call GP hr (by rfl) gP FP.kp bP .nil pass0 (pa_cons (pv 4) (pa_cons (pv 2) pa_nil))))))), ?_⟩
    have hO0 := hO
    have hU0 := hU
    obtain ⟨dx, p, q, r, h1, h2, h3, h4, nf, t2, g2, sm⟩ := hO
    obtain ⟨dx', p', q', r', h1', h2', h3', h4', nf', t2', g2', sm'⟩ := hU
    have t0 := nf.told
    have t0' := nf'.told
    have l0 : 0 < Nat.lcm g.length g'.length := Nat.lcm_pos nf.gains nf'.gains
    obtain ⟨b, hb⟩ : ∃ b, b = max t.length t'.length := ⟨_, rfl⟩
    obtain ⟨l, hl'⟩ : ∃ l, l = Nat.lcm g.length g'.length := ⟨_, rfl⟩
    rw [← hl'] at hl l0
    refine q_asg (v := .int (b : Int)) (ev_call (ea_cons (ev_var rfl) (ea_cons (ev_var rfl) ea_nil)) (fun H1 e Q q E => ⟨o, u, t, g, t', g', rfl, hO0.mono e, hU0.mono e, by rw [← hb]; exact q⟩)) fun H1 e1 => ?_
    refine q_asg (v := .int ((b + l : Nat) : Int)) (ev_is (ev_op (y := .int (l : Int)) (ev_var rfl) (ev_call (ea_cons (ev_var rfl) (ea_cons (ev_var rfl) ea_nil)) (fun H2 e Q q E => ⟨o, u, t, g, t', g', rfl, hO0.mono (e1.trans e), hU0.mono (e1.trans e), by rw [← hl']; exact hl, by rw [← hl']; exact q⟩)) rv_I0) (by congr 1)) fun H2 e2 => ?_
    have E2 := e1.trans e2
    have c1 := el_lcZ (K := K) (σ := [some (.ref o), some (.ref u), some (.int (b : Int)), some (.int ((b + l : Nat) : Int)), none, none, none]) (H := H2) (te := tOp (rI0 fun i j => .int (i + j)) (tVar 5) (tVar 6)) (i := 5) (j := 6) (vs := [5, 6])
      (ta := tCons (tCall (spFirst K C) [] E0 (tCons (tVar 0) (tCons (tVar 3) tNil))) (tCons (tCall (spFirst K C) [] E0 (tCons (tVar 1) (tCons (tVar 3) tNil))) tNil))
      (xs := vI (pT (val t g) (b + l))) (ys := vI (pT (val t' g') (b + l))) (fun n => V.int (val t g n + val t' g' n))
      (fun H3 e3 Q3 q3 => ⟨_, rfl, _, rfl, o, b + l, t, g, rfl, hO0.mono (E2.trans e3), by omega, fun x H4 _ e4 hx => ⟨_, rfl, _, rfl, u, b + l, t', g', rfl, hU0.mono ((E2.trans e3).trans e4), by omega, fun y H5 _ e5 hy => q3 x y H5 (e4.trans e5) (sq_of (e5 _ _ hx)) (sq_of hy)⟩⟩)
      (by rw [vI_len, vI_len, pT_len, pT_len]) (by rw [vI_len, pT_len]; omega) (fun _ _ => rfl)
      (fun n x y H3 _ hx hy => by
        have hn : n < b + l := by
          have := (List.getElem?_eq_some_iff.mp hx).1
          rwa [vI_len, pT_len] at this
        rw [vI_get (by rw [pT_len]; exact hn), pT_at hn] at hx hy
        obtain rfl := Option.some.inj hx
        obtain rfl := Option.some.inj hy
        exact ev_op (ev_var rfl) (ev_var rfl) rv_I0)
    have e4 : (List.range (vI (pT (val t g) (b + l))).length).map (fun n => V.int (val t g n + val t' g' n)) = vI (pT (fun n => val t g n + val t' g' n) (b + l)) := by
      rw [vI_len, pT_len]
      unfold vI pT
      rw [List.map_map]
      rfl
    rw [e4] at c1
    refine q_asgL c1 fun x H3 hx e3 h3x => ?_
    refine ⟨_, rfl, _, rfl, x, b, l, fun n => val t g n + val t' g' n, rfl, sq_of h3x, by omega, by omega, fun r2 p2 q2 H4 e5 hr2 hp2 hq2 => ?_⟩
    exact k r2 p2 q2 b l H4 ((E2.trans e3).trans e5) hr2 hp2 hq2 (by omega) (by omega) l0 hl (val_sum t0 t0' (by omega) (by omega) l0 (by rw [hl']; exact Nat.dvd_lcm_left _ _) (by rw [hl']; exact Nat.dvd_lcm_right _ _))
end
end K01
/-! a field as one of several targets -/
namespace L2
open PySem PySem.Spec PyProof.Rows
/-- o.f = .., among targets -/
def gFld (K : PySem.W.Frag) (to : TE) (f : Str) : TG := fun v σ H Q => to σ H fun x H1 => ∃ a C dx fs, x = .ref a ∧ H1 a = some (.ins C dx fs) ∧ Cls K C ∧ NoAttr K C f ∧ fs.length < 1000 ∧ Q σ (upd H1 a (.ins C dx (putF f v fs)))
theorem pg_fld {X : Cx} {o : Expr} {f : Str} {pos : Pos} {to : TE} (ho : PE X o to) : PG X (.Attribute o f pos) (gFld X.K to f) := by
  refine ⟨fun pins s σ H v u Q I r h => ?_⟩
  rw [assign_Attribute]
  refine wpAny_bind (wpAny_holding (thn (ho.run pins s σ H _ I h) fun ov s1 ⟨x, H1, I1, rx, a, C, dx, fs, ex, ea, c, n, l, q⟩ => ?_))
  subst ex
  obtain rfl : ov = Value.ref a := rx
  refine wpAny_bind (wpAny_standAt (wpAny_bind (wpAny_holding (setattr_ok I1 ea c n l r fun s2 I2 => ?_))))
  exact wpAny_release ⟨σ, _, I2, q⟩
end L2
namespace L2
open PySem PySem.Spec PyProof.Rows
theorem PI.or {X : Cx} {tg e : Expr} {w1 w2 : TI} (h1 : PI X tg e w1) (h2 : PI X tg e w2) : PI X tg e (fun σ H R => w1 σ H R ∨ w2 σ H R) := ⟨fun pins s σ H R I h => h.elim (h1.run pins s σ H R I) (h2.run pins s σ H R I)⟩
end L2
namespace K01
open PySem L2 Evl Gr
abbrev sParts : Stmt := top 32
/-- over a list or a tuple -/
def iQ (K : PySem.W.Frag) (tl : TE) : TI := fun σ H R => iList K tl σ H R ∨ iTup K tl σ H R
theorem pi_seq {X : Cx} {tg e : Expr} {tl : TE} (h : PE X e tl) : PI X tg e (iQ X.K tl) := (pi_list h).or (pi_tup h)
section
variable {K : PySem.W.Frag} {σ : L2.St} {H : Hp} {te : TE}
theorem el_lcQ {a : Addr} {xs : List V} {tl : TE} {j : Nat} {vs : List Nat} (v : Nat → V) (h : Ev tl σ H (.ref a)) (hx : Sq K H a xs) (hz : xs.length ≤ 40000) (hw : ∀ x, wipe ((wipe σ vs).set j (some x)) vs = wipe σ vs)
    (he : ∀ (i : Nat) (x : V) H1, Ex H H1 → xs[i]? = some x → Ev te ((wipe σ vs).set j (some x)) H1 (v i)) : EvL (tLc (iQ K tl) (gName j) tYes te vs) σ H ((List.range xs.length).map v) := fun H0 e Q q => by
  rcases hx with hx | hx
  · exact .inl (h H0 e _ fun H1 e1 => ⟨a, rfl, ⟨xs, ex_l (e.trans e1) hx⟩, fun Dl hD => lc_it (n := xs.length) (walk_list (xs := xs)) (Cw H1 (fun _ => true) v Dl) ⟨hD, Ex.new hD, upd_same⟩ (fun _ H' _ p => ex_l ((e.trans e1).trans p.2.1) hx)
      (fun k x H' H'' hk p y => by
        obtain ⟨rfl, hx'⟩ := y
        exact ⟨hw _, cw_turn p (by omega) et_none (fun _ => he k x H1 (e.trans e1) hx')⟩)
      (fun H' p => q Dl H' (fresh_back e1 p.1) (e1.trans p.2.1) (by rw [← given_all]; exact p.2.2))⟩)
  · exact .inr (h H0 e _ fun H1 e1 => ⟨a, rfl, ⟨xs, ex_t (e.trans e1) hx⟩, fun Dl hD => lc_it (n := xs.length) (walk_tup (xs := xs)) (Cw H1 (fun _ => true) v Dl) ⟨hD, Ex.new hD, upd_same⟩ (fun _ H' _ p => ex_t ((e.trans e1).trans p.2.1) hx)
      (fun k x H' H'' hk p y => by
        obtain ⟨rfl, hx'⟩ := y
        exact ⟨hw _, cw_turn p (by omega) et_none (fun _ => he k x H1 (e.trans e1) hx')⟩)
      (fun H' p => q Dl H' (fresh_back e1 p.1) (e1.trans p.2.1) (by rw [← given_all]; exact p.2.2))⟩)
/-- a list or a tuple is one of both -/
theorem sq_ty {a : Addr} {xs : List V} (h : Sq K H a xs) : ∃ T : String, TyX K H (.ref a) (.type T) ∧ (T = "list" ∨ T = "tuple") := by
  rcases h with (h | h) | (h | h)
  · rcases h with h | ⟨o, h⟩
    · exact ⟨"list", .base (.lst h), .inl rfl⟩
    · exact ⟨"list", .base (.frz h), .inl rfl⟩
  · obtain ⟨o, its, n, lk, hc, _⟩ := h
    exact ⟨"list", .kList lk hc, .inl rfl⟩
  · rcases h with h | ⟨o, h⟩
    · exact ⟨"tuple", .base (.tup h), .inr rfl⟩
    · exact ⟨"tuple", .fTuple h, .inr rfl⟩
  · obtain ⟨o, its, n, lk, hc, _⟩ := h
    exact ⟨"tuple", .kTuple lk hc, .inr rfl⟩
theorem kit_lt {T : String} (h : T = "list" ∨ T = "tuple") : PySem.W.kitAny K (.type T) [.type "list", .type "tuple"] = some true := by
  rcases h with rfl | rfl
  · exact kitAny_cons (b := true) (kit_ty (by decide +kernel)) (fun h => absurd h (by decide)) fun _ => rfl
  · exact kitAny_cons (b := false) (kit_ty (by decide +kernel)) (fun _ => kitAny_cons (b := true) (kit_ty (by decide +kernel)) (fun h => absurd h (by decide)) fun _ => rfl) fun h => absurd h (by decide)
/-- isinstance(e, (list, tuple)), e one of both -/
theorem ev_isLT {ta : TE} {a : Addr} {xs : List V} (ha : Ev ta σ H (.ref a)) (h : Sq K H a xs) : Ev (tCB (rIsiT K) (tCons ta (tCons (tTup (tCons (tC (.ty "list")) (tCons (tC (.ty "tuple")) tNil))) tNil))) σ H (.bl true) := fun H1 e Q q =>
  ha H1 e _ fun H2 e2 => eu_tup (σ := σ) (H := H2) (ea_cons ev_c (ea_cons ev_c ea_nil)) (by show 2 ≤ 100000; decide) H2 (Ex.refl H2) _ fun p H3 _ e3 h3 => by
    obtain ⟨T, ty, hT⟩ := sq_ty (h.mono ((e.trans e2).trans e3))
    exact ⟨_, p, _, _, _, true, rfl, h3, .cons (.ty "list") (.cons (.ty "tuple") .nil), ty, kit_lt hT, q H3 (e2.trans e3)⟩
/-- all(e), e a new list of bools that are True -/
theorem ev_all {te : TE} {bs : List Bool} (h : EvL te σ H (bs.map V.bl)) : Ev (tCB (rAll K) (tCons te tNil)) σ H (.bl (bs.all id)) := fun H1 e Q q =>
  h H1 e _ fun p H2 _ e2 hp => ⟨p, bs, rfl, sq_of hp, q H2 e2⟩
end
section
variable {P : Program} {w : World} {K : PySem.W.Frag} {mg : Str → Option Value} {base : Heap}
/-! ### are_parts -/
def Pos (l : List Int) : Prop := ∀ i, i < l.length → 0 ≤ at' l i
def spParts (K : PySem.W.Frag) : Sp := fun vs H Q _ => ∃ (a : Addr) (l : List Int), vs = [.ref a, .int 2000] ∧ Sq K H a (vI l) ∧ 0 < l.length ∧ l.length ≤ 2000 ∧ Pos l ∧ RetV (.bl true) H Q
theorem scParts : FnScope ["values", "most", "value"] ["values", "most"] (defScope sParts) := ⟨rfl, rfl, rfl, by decide +kernel, rfl, by decide +kernel, by decide +kernel⟩
theorem ok_Parts {f fI fZ : Addr} {fd fdI fdZ : FuncData} (F : Fun K "are_parts" "are_parts" sParts f fd) (T : GlbS mg) (TT : GlbT mg) (all : mg "all" = none)
    (GZ : FnOk P w K mg base CX0 2 fZ fdZ ["value"] (spFrom0 K)) (kZ : PySem.W.keepIn K (.ref fZ) = true) (bZ : Binds K fdZ ["value"] []) (gZ : mg "is_from_zero" = some (.ref fZ)) :
    FnOk P w K mg base CX0 3 f fd ["values", "most"] (spParts K) := by
  refine F.ok scParts (fun vs H Q E h => ?_) (fun cdv A outer s H vs Q E hr h => ?_)
  · obtain ⟨a, l, rfl, _⟩ := h
    rfl
  · obtain ⟨a, l, rfl, hA, l0, l1, hp, k⟩ := h
    refine ⟨_, pss_cons (ps_if (PW.pt (pw_or (pt_not (pt_val (pe_callB call_isiT (by rfl) TT.inst (by decide +kernel) (pa_cons (pv 0) (pa_cons (pe_tup (pa_cons (pe_bltn (v := .ty "list") (by rfl) T.list (by decide +kernel) rfl) (pa_cons (pe_bltn (v := .ty "tuple") (by rfl) T.tuple (by decide +kernel) rfl) pa_nil))) pa_nil)))))
        (pw_or1 (pt_not (pt_chain op_le op_le pe_int (pe_callB call_len_seq (by rfl) T.len PySem.boot_len (pa_cons (pv 0) pa_nil)) (pv 1)))))) (pss_one (ps_ret pe_bl)) pss_nil)
      (pss_one (ps_ret (pe_callB (cr_all rfl) (by rfl) all (by decide +kernel) (pa_cons (pe_lc (own := [("value", 2)]) (g := gName 2) rfl scParts.nd (pi_seq (pv 0)) (blkOk_by (own := [("value", 2)]) (N := ["values", "most", "value"]) (sc := defScope sParts) (by decide +kernel))
        (fun _ _ _ _ _ => pg_name (i := 2) scParts.nd rfl (Or.inl rfl)) (fun _ _ _ _ _ => pts_nil) (fun _ _ _ _ _ => pe_call GZ hr (by rfl) gZ kZ bZ .nil pass0 (pa_cons (pv 2) pa_nil))) pa_nil)))), ?_⟩
    refine q_when (b := false) (et_is (et_or (et_not (et_B (ev_isLT (ev_var rfl) hA))) (fun _ => et_not (et_B (ev_chain ev_c (ev_is (ev_cb (ea_cons (ev_var rfl) ea_nil) (rc_lenQ hA)) (by rw [vI_len])) (ev_var rfl))))) (by
      rw [decide_eq_true (by omega : (1 : Int) ≤ (l.length : Int)), decide_eq_true (by omega : (l.length : Int) ≤ 2000)]
      rfl)) (fun hb => absurd hb (by decide)) (fun _ H1 e1 => ?_)
    have c1 := el_lcQ (K := K) (σ := [some (.ref a), some (.int 2000), none]) (H := H1) (te := tCall (spFrom0 K) [] E0 (tCons (tVar 2) tNil)) (a := a) (xs := vI l) (tl := tVar 0) (j := 2) (vs := [2]) (fun _ => V.bl true) (ev_var rfl) (hA.mono e1) (by rw [vI_len]; omega) (fun _ => rfl)
      (fun i x H2 e2 hx => by
        have hi : i < l.length := by
          have := (List.getElem?_eq_some_iff.mp hx).1
          rwa [vI_len] at this
        rw [vI_get hi] at hx
        obtain rfl := Option.some.inj hx
        refine ev_call (ea_cons (ev_var rfl) ea_nil) fun H3 e3 Q3 q3 E3 => .inl ⟨_, rfl, ?_⟩
        rw [decide_eq_true (hp i hi)]
        exact q3)
    have e2 : (List.range (vI l).length).map (fun _ => V.bl true) = (List.replicate l.length true).map V.bl := by
      rw [vI_len, List.map_const', List.length_range, List.map_replicate]
    rw [e2] at c1
    refine s_ret (ev_is (ev_all c1) (by congr 1; rw [List.all_eq_true]; intro b hb; exact (List.eq_of_mem_replicate hb))) fun H2 e3 => k H2 (e1.trans e3)
end
end K01
namespace Gr
/-- the gains of a normal form are gains of the growth -/
theorem small_of {t g t' g' : List Int} (nf : NF t' g') (t0 : 0 < t.length) (g0 : 0 < g.length) (sm : Small g) (e : ∀ n, val t' g' n = val t g n) : Small g' := fun i hi => by
  have p := (dif_pd (g := g')).mul t.length i
  rw [dif_lt hi] at p
  have m1 : t.length ≤ t.length * g'.length := Nat.le_mul_of_pos_right _ nf.gains
  have a := val_step (g := g') nf.told (i + t.length * g'.length)
  rw [p, e, e] at a
  have b := rise_ge (g := g) t0 (n := t'.length - 1 + (i + t.length * g'.length)) (by omega)
  unfold rise at b
  rw [b] at a
  rw [← a]
  exact sm _ (Nat.mod_lt _ g0)
end Gr
namespace K01
open PySem L2 Evl Gr ClX
theorem val_nonneg {t g : List Int} (pt : Pos t) (t0 : 0 < t.length) (g0 : 0 < g.length) (sm : Small g) (n : Nat) : 0 ≤ val t g n := by
  unfold val
  by_cases h : n < t.length
  · rw [if_pos h]
    exact pt n h
  · rw [if_neg h]
    have a := pt (t.length - 1) (by omega)
    have b := (acc_small sm g0 (n - t.length + 1)).1
    unfold lst
    omega
abbrev sGr (i : Nat) : Stmt := inClass (top 34) i
theorem sqT_upd {K : PySem.W.Frag} {H : Hp} {o p C dx : Addr} {fs : List (Str × V)} {u : HO} {xs : List V} (h : SqT K H p xs) (ho : H o = some (.ins C dx fs)) : SqT K (upd H o u) p xs := by
  rcases h with (h | ⟨o', h⟩) | h
  · exact .inl (.inl (by rw [upd_ne (fun z => by rw [z, ho] at h; cases h)]; exact h))
  · exact .inl (.inr ⟨o', by rw [upd_ne (fun z => by rw [z, ho] at h; cases h)]; exact h⟩)
  · exact .inr h
theorem ev_cval {K : PySem.W.Frag} {σ : L2.St} {H : Hp} {ta : TE} {C : Addr} {mc : Value} {f : Str} {v : V} {u : Value} (ha : Ev ta σ H (.ref C)) (r : CRead K C mc) (k : CVal K C mc f v u) : Ev (tCVal K ta f) σ H v := fun H1 e Q q =>
  ha H1 e _ fun H2 e2 => ⟨C, mc, v, u, rfl, r, k, q H2 e2⟩
section
variable {P : Program} {w : World} {K : PySem.W.Frag} {mg : Str → Option Value} {base : Heap}
/-! ### Growth.__init__ -/
def spInit (K : PySem.W.Frag) (C : Addr) : Sp := fun vs H Q _ => ∃ (o a b dx : Addr) (t g : List Int), vs = [.ref o, .ref a, .ref b] ∧ H o = some (.ins C dx []) ∧ Sq K H a (vI t) ∧ Sq K H b (vI g) ∧ 0 < t.length ∧ t.length ≤ 2000 ∧ 0 < g.length ∧ g.length ≤ 2000 ∧ Pos t ∧ Small g ∧
  ∀ t' g' H', Keep o H H' → GrAt K C H' o t' g' → Pos t' → (∀ n, val t' g' n = val t g n) → Q .non H'
theorem scInit : FnScope ["self", "told", "gains"] ["self", "told", "gains"] (defScope (sGr 1)) := ⟨rfl, rfl, rfl, by decide +kernel, rfl, by decide +kernel, by decide +kernel⟩
/-- what the class's constant is, and the class's own name -/
structure GName (K : PySem.W.Frag) (mg : Str → Option Value) (C : Addr) (mc : Value) : Prop where
  g : mg "Growth" = some (.ref C)
  rd : CRead K C mc
  most : ∃ u, CVal K C mc "MOST" (.int 2000) u
theorem ok_Init {C f fP fN fR : Addr} {mc : Value} {fd fdP fdN fdR : FuncData} {dvs : List V} (F : FunD K "__init__" "Growth.__init__" (defArgs (sGr 1)) (defBody (sGr 1)) (defScope (sGr 1)) dvs [] f fd) (N : GName K mg C mc) (G : GCls K C)
    (GP : FnOk P w K mg base CX0 3 fP fdP ["values", "most"] (spParts K)) (kP : PySem.W.keepIn K (.ref fP) = true) (bP : Binds K fdP ["values", "most"] []) (gP : mg "are_parts" = some (.ref fP))
    (GN : FnOk P w K mg base CX0 2 fN fdN ["told", "gains"] (spNF K)) (kN : PySem.W.keepIn K (.ref fN) = true) (bN : Binds K fdN ["told", "gains"] []) (gN : mg "normal_form" = some (.ref fN))
    (GR : FnOk P w K mg base CX0 1 fR fdR ["gains"] (spRis K)) (kR : PySem.W.keepIn K (.ref fR) = true) (bR : Binds K fdR ["gains"] []) (gR : mg "rises_of" = some (.ref fR)) :
    FnOk P w K mg base CX0 4 f fd ["self", "told", "gains"] (spInit K C) := by
  obtain ⟨mu, cm⟩ := N.most
  refine F.ok scInit (fun vs H Q E h => ?_) (fun cdv A outer s H vs Q E hr h => ?_)
  · obtain ⟨o, a, b, dx, t, g, rfl, _⟩ := h
    rfl
  · obtain ⟨o, a, b, dx, t, g, rfl, hO, hA, hB, t0, t1, g0, g1, pt, sm, k⟩ := h
    refine ⟨_, pss_cons (ps_if (pt_not (pt_val (pe_call GP hr (by rfl) gP kP bP .nil pass0 (pa_cons (pv 1) (pa_cons (pe_cval (pe_glob (v := .ref C) rfl N.g rfl)) pa_nil))))) (pss_one ps_no) pss_nil)
      (pss_cons (ps_if (pt_not (pt_val (pe_call GP hr (by rfl) gP kP bP .nil pass0 (pa_cons (pv 2) (pa_cons (pe_cval (pe_glob (v := .ref C) rfl N.g rfl)) pa_nil))))) (pss_one ps_no) pss_nil)
      (pss_cons (ps_asg (pe_call GN (hr.mono (by decide)) (by rfl) gN kN bN .nil pass0 (pa_cons (pv 1) (pa_cons (pv 2) pa_nil))) (pg_tup rfl (pgs_cons (pg_fld (pv 0)) (pgs_cons (pg_fld (pv 0)) pgs_nil))))
      (pss_one (ps_fld (pv 0) (pe_call GR (hr.mono (by decide)) (by rfl) gR kR bR .nil pass0 (pa_cons (pe_fld (pv 0) rfl) pa_nil)) (by rfl))))), ?_⟩
    have yes : ∀ {i : Nat} {c : Addr} {l : List Int} {H' : Hp} {σ : L2.St}, σ[i]? = some (some (.ref c)) → Sq K H' c (vI l) → 0 < l.length → l.length ≤ 2000 → Pos l →
        EvT (tNot (tB (tCall (spParts K) [] E0 (tCons (tVar i) (tCons (tCVal K (tC (.ref C)) "MOST") tNil))))) σ H' false := fun h0 hs l0 l1 lp =>
      et_is (et_not (et_B (ev_call (ea_cons (ev_var h0) (ea_cons (ev_cval ev_c N.rd cm) ea_nil)) fun H1 e Q q E => ⟨_, _, rfl, hs.mono e, l0, l1, lp, q⟩))) rfl
    have pg : Pos g := fun i hi => (sm i hi).1
    refine q_when (yes rfl hA t0 t1 pt) (fun hb => absurd hb (by decide)) (fun _ H1 e1 => ?_)
    refine q_when (yes rfl (hB.mono e1) g0 g1 pg) (fun hb => absurd hb (by decide)) (fun _ H2 e2 => ?_)
    have E2 := e1.trans e2
    refine ⟨_, rfl, _, rfl, a, b, t, g, rfl, hA.mono E2, hB.mono E2, t0, by omega, g0, by omega, fun r p q t' g' H3 e3 hr3 hp hq nf hv l1 l2 => ?_⟩
    have hO3 := e3 _ _ (E2 _ _ hO)
    refine ⟨r, [.ref p, .ref q], rfl, hr3, rfl, _, _, rfl, ⟨_, rfl, o, C, dx, [], rfl, hO3, G.cls, G.told, Nat.le_of_ble_eq_true rfl, ⟨_, _, rfl, ⟨_, rfl, o, C, dx, _, rfl, upd_same, G.cls, G.gains, Nat.le_of_ble_eq_true rfl, ⟨rfl, ?_⟩⟩⟩⟩⟩
    have kp3 : Keep o H (upd (upd H3 o (.ins C dx (putF "told" (.ref p) []))) o (.ins C dx (putF "gains" (.ref q) (putF "told" (.ref p) [])))) := fun c u hc hn => by
      rw [upd_ne hn, upd_ne hn]
      exact e3 _ _ (E2 _ _ hc)
    have hp4 : SqT K (upd (upd H3 o (.ins C dx (putF "told" (.ref p) []))) o (.ins C dx (putF "gains" (.ref q) (putF "told" (.ref p) [])))) p (vI t') := sqT_upd (sqT_upd hp hO3) upd_same
    have hq4 : SqT K (upd (upd H3 o (.ins C dx (putF "told" (.ref p) []))) o (.ins C dx (putF "gains" (.ref q) (putF "told" (.ref p) [])))) q (vI g') := sqT_upd (sqT_upd hq hO3) upd_same
    have hO4 : (upd (upd H3 o (.ins C dx (putF "told" (.ref p) []))) o (.ins C dx (putF "gains" (.ref q) (putF "told" (.ref p) [])))) o = some (.ins C dx [("told", .ref p), ("gains", .ref q)]) := upd_same
    generalize upd (upd H3 o (.ins C dx (putF "told" (.ref p) []))) o (.ins C dx (putF "gains" (.ref q) (putF "told" (.ref p) []))) = H4 at kp3 hp4 hq4 hO4 ⊢
    refine ⟨_, rfl, o, C, dx, _, .ref q, rfl, hO4, G.cls, G.gains, rfl, q, g', rfl, hq4, by omega, fun pr H5 e5 hpr => ?_⟩
    refine ⟨_, rfl, o, C, dx, _, rfl, e5 _ _ hO4, G.cls, G.rises, Nat.le_of_ble_eq_true rfl, ?_⟩
    have hO5 := e5 _ _ hO4
    refine k t' g' _ (fun c u hc hn => by rw [upd_ne hn]; exact e5 _ _ (kp3 _ _ hc hn)) ⟨dx, p, q, pr, upd_same, sqT_upd (ex_t e5 hp4) hO5, sqT_upd (ex_t e5 hq4) hO5, sqT_upd hpr hO5, nf, by omega, by omega, small_of nf t0 g0 sm hv⟩ (fun i hi => by
      have z := val_nonneg pt t0 g0 sm i
      rwa [← hv, val_lt hi] at z) hv
end
end K01
namespace Gr
/-- at last it never falls, and rises by no more than B -/
def Tail (f : Nat → Int) (B : Int) : Prop := ∃ m, ∀ n, m ≤ n → 0 ≤ f (n + 1) - f n ∧ f (n + 1) - f n ≤ B
theorem tail_val {t g : List Int} {B : Int} (t0 : 0 < t.length) (g0 : 0 < g.length) (h : ∀ i, i < g.length → 0 ≤ at' g i ∧ at' g i ≤ B) : Tail (val t g) B := ⟨t.length - 1, fun n hn => by
  have := rise_ge (g := g) t0 hn
  unfold rise at this
  rw [this]
  exact h _ (Nat.mod_lt _ g0)⟩
theorem gains_tail {t g : List Int} {f : Nat → Int} {B : Int} (t0 : 0 < t.length) (hf : ∀ n, val t g n = f n) (h : Tail f B) (i : Nat) (hi : i < g.length) : 0 ≤ at' g i ∧ at' g i ≤ B := by
  obtain ⟨m, hm⟩ := h
  have p := (dif_pd (g := g)).mul m i
  rw [dif_lt hi] at p
  have m1 : m ≤ m * g.length := Nat.le_mul_of_pos_right _ (by omega)
  have a := val_step (g := g) t0 (i + m * g.length)
  rw [p, hf, hf] at a
  rw [← a]
  exact hm _ (by omega)
theorem Tail.add {f g : Nat → Int} {A B : Int} (h : Tail f A) (h' : Tail g B) : Tail (fun n => f n + g n) (A + B) := by
  obtain ⟨m, hm⟩ := h
  obtain ⟨k, hk⟩ := h'
  refine ⟨max m k, fun n hn => ?_⟩
  have a := hm n (by omega)
  have b := hk n (by omega)
  show 0 ≤ f (n + 1) + g (n + 1) - (f n + g n) ∧ f (n + 1) + g (n + 1) - (f n + g n) ≤ A + B
  omega
theorem Tail.mono {f : Nat → Int} {A B : Int} (h : Tail f A) (hB : A ≤ B) : Tail f B := by
  obtain ⟨m, hm⟩ := h
  exact ⟨m, fun n hn => ⟨(hm n hn).1, Int.le_trans (hm n hn).2 hB⟩⟩
end Gr
namespace K01
open PySem L2 Evl Gr ClX
/-- a growth of these values stands at o -/
def GrF (K : PySem.W.Frag) (C : Addr) (H : Hp) (o : Addr) (f : Nat → Int) : Prop := ∃ t g, GrAt K C H o t g ∧ Pos t ∧ ∀ n, val t g n = f n
theorem GrF.mono {K : PySem.W.Frag} {C : Addr} {H H' : Hp} {o : Addr} {f : Nat → Int} (e : Ex H H') (h : GrF K C H o f) : GrF K C H' o f := by
  obtain ⟨t, g, h1, h2⟩ := h
  exact ⟨t, g, h1.mono e, h2⟩
/-- gives a new growth of these values -/
def EvG (K : PySem.W.Frag) (C : Addr) (te : TE) (σ : L2.St) (H : Hp) (f : Nat → Int) : Prop := ∀ H1, Ex H H1 → ∀ Q : VK, (∀ o H2, H1 o = none → Ex H1 H2 → GrF K C H2 o f → Q (.ref o) H2) → te σ H1 Q
/-- two parts, lists or tuples, old or new -/
def EvP (K : PySem.W.Frag) (ta : TA) (σ : L2.St) (H : Hp) (t g : List Int) : Prop := ∀ H1, Ex H H1 → ∀ Q : List V → Hp → Prop, (∀ a b H2, Ex H1 H2 → Sq K H2 a (vI t) → Sq K H2 b (vI g) → Q [.ref a, .ref b] H2) → ta σ H1 Q
section
variable {K : PySem.W.Frag} {C : Addr} {σ : L2.St} {H : Hp} {ta : TA} {t g : List Int} {f : Nat → Int}
theorem eg_make (h : EvP K ta σ H t g) (t0 : 0 < t.length) (t1 : t.length ≤ 2000) (g0 : 0 < g.length) (g1 : g.length ≤ 2000) (pt : Pos t) (sm : Small g) (hf : ∀ n, val t g n = f n) : EvG K C (tMake C (spInit K C) [] E0 ta) σ H f := fun H1 e Q q =>
  h H1 e _ fun a b H2 e2 ha hb x dx hx hd hn => by
    have e3 : Ex H2 (upd (upd H2 dx (.own x)) x (.ins C dx [])) := (Ex.new hd).trans (Ex.new (by rw [upd_ne hn.symm]; exact hx))
    refine ⟨x, a, b, dx, t, g, rfl, upd_same, ha.mono e3, hb.mono e3, t0, t1, g0, g1, pt, sm, fun t' g' H' kp gr pt' hv => ⟨rfl, ?_⟩⟩
    refine q x H' (fresh_back e2 hx) (e2.trans fun c u hc => ?_) ⟨t', g', gr, pt', fun n => (hv n).trans (hf n)⟩
    exact kp c u (e3 _ _ hc) (ne_of_none hc hx)
end
end K01
namespace K01
open PySem L2 Evl Gr ClX
theorem eqv_ints : ∀ xs ys : List Int, PyData.eqvAll (xs.map PyData.int) (ys.map PyData.int) = decide (xs = ys)
  | [], [] => by simp [PyData.eqvAll]
  | [], y :: ys => by simp [PyData.eqvAll]
  | x :: xs, [] => by simp [PyData.eqvAll]
  | x :: xs, y :: ys => by
    have ih := eqv_ints xs ys
    simp only [List.map_cons, PyData.eqvAll, PyData.eqv, ih]
    by_cases h : x = y <;> by_cases h2 : xs = ys <;> simp [h, h2]
theorem shaped_tup (ns : List Int) : SeqAt.shaped (.tuple (ns.map PyData.int)) = true := by
  unfold SeqAt.shaped
  simp [PyData.canLay0, canLay_ints, PyData.depth, depth_ints]
/-- what isinstance asks of the class -/
structure GIsi (K : PySem.W.Frag) (C : Addr) : Prop where
  ca : PySem.W.findIn K (.ref C) "__class__" = some (some (.builtin "object.__class__"))
  cn : PySem.W.specialIn K (.builtin "object.__class__") "__get__" = some (some (.builtin "getset_descriptor.__get__"))
  ct : PySem.W.takesIn K (.builtin "object.__class__") = some true
  cm : PySem.W.mroIn K C (.type "object") = some true
  own : PySem.W.kitOne K (.ref C) (.ref C) = some true
  int : PySem.W.kitOne K (.ref C) (.type "int") = some false
  bool : PySem.W.kitOne K (.ref C) (.type "bool") = some false
theorem gr_ty {K : PySem.W.Frag} {C : Addr} {H : Hp} {o : Addr} {t g : List Int} (G : GCls K C) (I : GIsi K C) (h : GrAt K C H o t g) : TyX K H (.ref o) (.ref C) := by
  obtain ⟨dx, p, q, r, h1, _⟩ := h
  exact .base (.ins h1 G.cls I.ca I.cn I.ct I.cm)
section
variable {K : PySem.W.Frag} {C : Addr} {σ : L2.St} {H : Hp} {ta tb : TE}
theorem ev_isG {o : Addr} {t g : List Int} (G : GCls K C) (I : GIsi K C) (ha : Ev ta σ H (.ref o)) (h : GrAt K C H o t g) : Ev (tCB (rIsi K) (tCons ta (tCons (tC (.ref C)) tNil))) σ H (.bl true) :=
  ev_cb (ea_cons ha (ea_cons ev_c ea_nil)) fun H1 e _ q => ⟨.ref o, .ref C, .ref C, .ref C, true, rfl, .own C, tyx_mono e (gr_ty G I h), I.own, q H1 (Ex.refl H1)⟩
/-- two tuples of ints compared -/
theorem ev_eqT {p q : Addr} {xs ys : List Int} (ha : Ev ta σ H (.ref p)) (hb : Ev tb σ H (.ref q)) (hp : SqT K H p (vI xs)) (hq : SqT K H q (vI ys)) : Ev (tOp (rEqD K) ta tb) σ H (.bl (decide (xs = ys))) :=
  ev_op ha hb fun H1 e Q q' => ⟨.tuple (xs.map PyData.int), .tuple (ys.map PyData.int), .tup (ex_t e hp) (dpAll_ints xs), .tup (ex_t e hq) (dpAll_ints ys), shaped_tup xs, shaped_tup ys, by
    have e2 : PyData.eqv (.tuple (xs.map PyData.int)) (.tuple (ys.map PyData.int)) = decide (xs = ys) := by
      rw [← eqv_ints]
      simp [PyData.eqv]
    rw [e2]
    exact q' H1 (Ex.refl H1)⟩
end
section
variable {P : Program} {w : World} {K : PySem.W.Frag} {mg : Str → Option Value} {base : Heap}
/-! ### Growth.__eq__ -/
def spGEq (K : PySem.W.Frag) (C : Addr) : Sp := fun vs H Q _ => ∃ (o u : Addr) (f f' : Nat → Int), vs = [.ref o, .ref u] ∧ GrF K C H o f ∧ GrF K C H u f' ∧ ∀ b : Bool, (b = true ↔ ∀ n, f n = f' n) → RetV (.bl b) H Q
theorem scGEq : FnScope ["self", "other"] ["self", "other"] (defScope (sGr 2)) := ⟨rfl, rfl, rfl, by decide +kernel, rfl, by decide +kernel, by decide +kernel⟩
theorem ok_GEq {C f : Addr} {mc : Value} {fd : FuncData} (F : Fun K "__eq__" "Growth.__eq__" (sGr 2) f fd) (N : GName K mg C mc) (G : GCls K C) (I : GIsi K C) (TT : GlbT mg) : FnOk P w K mg base CX0 1 f fd ["self", "other"] (spGEq K C) := by
  refine F.ok scGEq (fun vs H Q E h => ?_) (fun cdv A outer s H vs Q E hr h => ?_)
  · obtain ⟨o, u, f1, f2, rfl, _⟩ := h
    rfl
  · obtain ⟨o, u, f1, f2, rfl, ⟨t, g, hO, _, v1⟩, ⟨t', g', hU, _, v2⟩, k⟩ := h
    refine ⟨_, pss_one (ps_ret (pe_and (pe_callB call_isi (by rfl) TT.inst (by decide +kernel) (pa_cons (pv 1) (pa_cons (pe_glob (v := .ref C) rfl N.g rfl) pa_nil)))
      (pe_and (pe_cmpR (op_eqD hr.units) (pe_fld (pv 0) rfl) (pe_fld (pv 1) rfl) (nomark _)) (pe_one (pe_cmpR (op_eqD hr.units) (pe_fld (pv 0) rfl) (pe_fld (pv 1) rfl) (nomark _)))))), ?_⟩
    have i1 := ev_isG (σ := [some (.ref o), some (.ref u)]) (ta := tVar 1) G I (ev_var rfl) hU
    obtain ⟨dx, p, q, r, h1, h2, h3, h4, nf, t2, g2, sm⟩ := hO
    obtain ⟨dx', p', q', r', h1', h2', h3', h4', nf', t2', g2', sm'⟩ := hU
    have b1 := ev_eqT (σ := [some (.ref o), some (.ref u)]) (ta := tFld K (tVar 0) "told") (tb := tFld K (tVar 1) "told") (ev_fld (ev_var rfl) h1 G.cls G.told rfl) (ev_fld (ev_var rfl) h1' G.cls G.told rfl) h2 h2'
    have b2 := ev_eqT (σ := [some (.ref o), some (.ref u)]) (ta := tFld K (tVar 0) "gains") (tb := tFld K (tVar 1) "gains") (ev_fld (ev_var rfl) h1 G.cls G.gains rfl) (ev_fld (ev_var rfl) h1' G.cls G.gains rfl) h3 h3'
    refine s_ret (ev_is (ev_andV i1 fun _ => ev_andV b1 fun _ => b2) (by rw [Bool.true_and])) (k _ ?_)
    rw [Bool.and_eq_true_iff, decide_eq_true_iff, decide_eq_true_iff]
    constructor
    · rintro ⟨rfl, rfl⟩ n
      rw [← v1, ← v2]
    · intro hf
      exact nf_one nf nf' fun n => by rw [v1, v2, hf]
end
end K01
namespace Gr
/-- the rises come round at last -/
def PerT (f : Nat → Int) (l : Nat) : Prop := ∃ m, ∀ n, m ≤ n → f (n + l + 1) - f (n + l) = f (n + 1) - f n
theorem nf_dvd {t g : List Int} {f : Nat → Int} {l : Nat} (nf : NF t g) (hf : ∀ n, val t g n = f n) (h : PerT f l) : g.length ∣ l := by
  obtain ⟨m, hm⟩ := h
  have p : Pd (dif g) l := fun k => by
    have a := hm (t.length - 1 + (k + m * g.length)) (by have : m ≤ m * g.length := Nat.le_mul_of_pos_right m nf.gains; omega)
    rw [← hf, ← hf, ← hf, ← hf] at a
    have b := val_step (g := g) nf.told (k + m * g.length)
    have c := val_step (g := g) nf.told (k + l + m * g.length)
    rw [show t.length - 1 + (k + l + m * g.length) = t.length - 1 + (k + m * g.length) + l by omega] at c
    rw [a, b] at c
    rw [dif_pd.mul, dif_pd.mul] at c
    exact c.symm
  have q := Pd.gcd g.length l dif_pd p
  have c := nf.least.le _ (Nat.gcd_pos_of_pos_left _ nf.gains) q
  have d : Nat.gcd g.length l = g.length := Nat.le_antisymm (Nat.gcd_le_left _ nf.gains) c
  rw [← d]
  exact Nat.gcd_dvd_right _ _
theorem perT_val {t g : List Int} (t0 : 0 < t.length) {l : Nat} (h : g.length ∣ l) : PerT (val t g) l := ⟨t.length - 1, fun n hn => rise_pd t0 h hn⟩
theorem PerT.add {f g : Nat → Int} {l : Nat} (h : PerT f l) (h' : PerT g l) : PerT (fun n => f n + g n) l := by
  obtain ⟨m, hm⟩ := h
  obtain ⟨k, hk⟩ := h'
  refine ⟨max m k, fun n hn => ?_⟩
  have a := hm n (by omega)
  have b := hk n (by omega)
  show f (n + l + 1) + g (n + l + 1) - (f (n + l) + g (n + l)) = f (n + 1) + g (n + 1) - (f n + g n)
  omega
theorem PerT.mul {f : Nat → Int} {l : Nat} (h : PerT f l) {k : Nat} (hk : l ∣ k) : PerT f k := by
  obtain ⟨c, rfl⟩ := hk
  obtain ⟨m, hm⟩ := h
  refine ⟨m, ?_⟩
  induction c with
  | zero => intro n _; rw [Nat.mul_zero]; rfl
  | succ c ih =>
    intro n hn
    have a := hm (n + l * c) (by omega)
    rw [Nat.mul_succ, ← Nat.add_assoc, a]
    exact ih n hn
end Gr
namespace K01
open PySem L2 Evl Gr ClX
/-- a list that is walked and one that is made of it, of ints -/
theorem EvP.pair {K : PySem.W.Frag} {σ : L2.St} {H : Hp} {ta tb : TE} {a b : Addr} {t g : List Int} (ha : Ev ta σ H (.ref a)) (hb : Ev tb σ H (.ref b)) (sa : Sq K H a (vI t)) (sb : Sq K H b (vI g)) : EvP K (tCons ta (tCons tb tNil)) σ H t g := fun H1 e Q q =>
  ha H1 e _ fun H2 e2 => hb H2 (e.trans e2) _ fun H3 e3 => q a b H3 (e2.trans e3) (sa.mono ((e.trans e2).trans e3)) (sb.mono ((e.trans e2).trans e3))
theorem EvP.lists {K : PySem.W.Frag} {σ : L2.St} {H : Hp} {ta tb : TE} {t g : List Int} (ha : EvL ta σ H (vI t)) (hb : EvL tb σ H (vI g)) : EvP K (tCons ta (tCons tb tNil)) σ H t g := fun H1 e Q q =>
  ha H1 e _ fun p H2 _ e2 h2 => hb H2 (e.trans e2) _ fun r H3 _ e3 h3 => q p r H3 (e2.trans e3) (.inl (sq_of (e3 _ _ h2))) (.inl (sq_of h3))
section
variable {P : Program} {w : World} {K : PySem.W.Frag} {mg : Str → Option Value} {base : Heap}
/-! ### Growth.__call__ -/
def spGCall (K : PySem.W.Frag) (C : Addr) : Sp := fun vs H Q _ => ∃ (o : Addr) (n : Nat) (f : Nat → Int), vs = [.ref o, .int (n : Int)] ∧ GrF K C H o f ∧ (n : Int) ≤ 10 ^ 40 ∧ RetV (.int (f n)) H Q
theorem scGCall : FnScope ["self", "n"] ["self", "n"] (defScope (sGr 3)) := ⟨rfl, rfl, rfl, by decide +kernel, rfl, by decide +kernel, by decide +kernel⟩
theorem ok_GCall {C f fW fV : Addr} {fd fdW fdV : FuncData} (F : Fun K "__call__" "Growth.__call__" (sGr 3) f fd)
    (GW : FnOk P w K mg base CX0 2 fW fdW ["value", "least", "most"] (spWithin K)) (kW : PySem.W.keepIn K (.ref fW) = true) (bW : Binds K fdW ["value", "least", "most"] []) (gW : mg "is_within" = some (.ref fW))
    (GV : FnOk P w K mg base CX0 1 fV fdV ["one", "n"] (spVal K C)) (kV : PySem.W.keepIn K (.ref fV) = true) (bV : Binds K fdV ["one", "n"] []) (gV : mg "value_at" = some (.ref fV)) :
    FnOk P w K mg base CX0 3 f fd ["self", "n"] (spGCall K C) := by
  refine F.ok scGCall (fun vs H Q E h => ?_) (fun cdv A outer s H vs Q E hr h => ?_)
  · obtain ⟨o, n, f1, rfl, _⟩ := h
    rfl
  · obtain ⟨o, n, f1, rfl, ⟨t, g, hO, _, v1⟩, hn, k⟩ := h
    refine ⟨_, pss_cons (ps_if (pt_not (pt_val (pe_call GW hr (by rfl) gW kW bW .nil pass0 (pa_cons (pv 1) (pa_cons pe_int (pa_cons (pe_op op_pow pe_int pe_int) pa_nil)))))) (pss_one ps_no) pss_nil)
      (pss_one (ps_ret (pe_call GV (hr.mono (by decide)) (by rfl) gV kV bV .nil pass0 (pa_cons (pv 0) (pa_cons (pv 1) pa_nil))))), ?_⟩
    refine q_when (b := false) (et_is (et_not (et_B (ev_call (z := .bl true) (ea_cons (ev_var rfl) (ea_cons ev_c (ea_cons (ev_op ev_c ev_c (rv_I ⟨by decide, by decide, by decide⟩)) ea_nil))) fun H1 e Q q E => .inl ⟨_, _, _, rfl, ?_⟩))) rfl) (fun hb => absurd hb (by decide)) (fun _ H1 e1 => ?_)
    · have z : (decide ((0 : Int) ≤ (n : Int)) && decide ((n : Int) ≤ (10 : Int) ^ (40 : Int).toNat)) = true := by
        rw [decide_eq_true (by omega : (0 : Int) ≤ (n : Int)), decide_eq_true (show (n : Int) ≤ (10 : Int) ^ (40 : Int).toNat from hn)]
        rfl
      rw [z]
      exact q
    · exact s_ret (v := .int (f1 n)) (ev_call (ea_cons (ev_var rfl) (ea_cons (ev_var rfl) ea_nil)) fun H2 e2 Q q E => ⟨o, n, t, g, rfl, hO.mono (e1.trans e2), hn, by rw [v1]; exact q⟩) fun H2 e2 => k H2 (e1.trans e2)
/-! ### Growth.__add__ -/
/-- a new growth of these values is handed back -/
def RetG (K : PySem.W.Frag) (C : Addr) (f : Nat → Int) (H : Hp) (Q : VK) : Prop := ∀ o H', H o = none → Ex H H' → GrF K C H' o f → Q (.ref o) H'
def spAdd (K : PySem.W.Frag) (C : Addr) : Sp := fun vs H Q _ => ∃ (o u : Addr) (f f' : Nat → Int) (l : Nat), vs = [.ref o, .ref u] ∧ GrF K C H o f ∧ GrF K C H u f' ∧ 0 < l ∧ l ≤ 2000 ∧ PerT f l ∧ PerT f' l ∧ Tail (fun n => f n + f' n) 1000000000000000000000000000000 ∧ (∀ n, 0 ≤ f n + f' n) ∧
  RetG K C (fun n => f n + f' n) H Q
theorem scAdd : FnScope ["self", "other", "told", "gains"] ["self", "other"] (defScope (sGr 5)) := ⟨rfl, rfl, rfl, by decide +kernel, rfl, by decide +kernel, by decide +kernel⟩
theorem ok_Add {C f fI fS : Addr} {mc : Value} {fd fdI fdS : FuncData} {dvs : List V} (F : Fun K "__add__" "Growth.__add__" (sGr 5) f fd) (N : GName K mg C mc) (G : GCls K C) (I : GIsi K C) (TT : GlbT mg) (M : Mk K C fI)
    (GI : FnOk P w K mg base CX0 4 fI fdI ["self", "told", "gains"] (spInit K C)) (bI : Binds K fdI ["self", "told", "gains"] [])
    (GS : FnOk P w K mg base CX0 2 fS fdS ["one", "other"] (spSum K C)) (kS : PySem.W.keepIn K (.ref fS) = true) (bS : Binds K fdS ["one", "other"] []) (gS : mg "summed_parts" = some (.ref fS)) :
    FnOk P w K mg base CX0 6 f fd ["self", "other"] (spAdd K C) := by
  refine F.ok scAdd (fun vs H Q E h => ?_) (fun cdv A outer s H vs Q E hr h => ?_)
  · obtain ⟨o, u, f1, f2, l, rfl, _⟩ := h
    rfl
  · obtain ⟨o, u, f1, f2, l, rfl, ⟨t, g, hO, p1, v1⟩, ⟨t', g', hU, p2, v2⟩, l0, l1, d1, d2, tl, nn, k⟩ := h
    refine ⟨_, pss_cons (ps_if (pt_not (pt_val (pe_callB call_isi (by rfl) TT.inst (by decide +kernel) (pa_cons (pv 1) (pa_cons (pe_glob (v := .ref C) rfl N.g rfl) pa_nil))))) (pss_one ps_no) pss_nil)
      (pss_cons (ps_asg (pe_call GS (hr.mono (by decide)) (by rfl) gS kS bS .nil pass0 (pa_cons (pv 0) (pa_cons (pv 1) pa_nil))) (pg_tup rfl (pgs_cons (pg_name (i := 2) scAdd.nd rfl (.inl rfl)) (pgs_cons (pg_name (i := 3) scAdd.nd rfl (.inl rfl)) pgs_nil))))
      (pss_one (ps_ret (pe_make M GI hr (by rfl) N.g bI .nil pass0 (pa_cons (pv 2) (pa_cons (pv 3) pa_nil)))))), ?_⟩
    have e0 : (fun n => val t g n + val t' g' n) = fun n => f1 n + f2 n := funext fun n => by rw [v1, v2]
    have hO' := hO
    have hU' := hU
    obtain ⟨_, _, _, _, _, _, _, _, nf1, _, _, _⟩ := hO'
    obtain ⟨_, _, _, _, _, _, _, _, nf2, _, _, _⟩ := hU'
    have lc : Nat.lcm g.length g'.length ≤ 2000 := Nat.le_trans (Nat.le_of_dvd l0 (Nat.lcm_dvd (nf_dvd nf1 v1 d1) (nf_dvd nf2 v2 d2))) l1
    refine q_when (et_not (et_B (ev_isG G I (ev_var rfl) hU))) (fun hb => absurd hb (by decide)) (fun _ H1 e1 => ?_)
    refine ⟨_, rfl, _, rfl, o, u, t, g, t', g', rfl, hO.mono e1, hU.mono e1, lc, fun r p q b l' H2 e2 hr2 hp hq b0 b1 l0' l1' hv => ?_⟩
    rw [e0] at hp hq hv
    refine ⟨r, [.ref p, .ref q], rfl, hr2, rfl, _, _, rfl, _, _, rfl, rfl, ?_⟩
    have hv' : ∀ n, val (pT (fun n => f1 n + f2 n) b) (pG (fun n => f1 n + f2 n) b l') n = f1 n + f2 n := fun n => by
      rw [hv, v1, v2]
    refine eg_make (K := K) (C := C) (σ := [some (.ref o), some (.ref u), some (.ref p), some (.ref q)]) (H := H2) (ta := tCons (tVar 2) (tCons (tVar 3) tNil)) (EvP.pair (ev_var rfl) (ev_var rfl) (.inl hp) (.inl hq)) (by rw [pT_len]; exact b0) (by rw [pT_len]; exact b1) (by rw [pG_len]; exact l0') (by rw [pG_len]; exact l1')
      (fun i hi => by
        rw [pT_len] at hi
        rw [pT_at hi]
        exact nn i) (fun i hi => gains_tail (by rw [pT_len]; exact b0) hv' tl i hi) hv' H2 (Ex.refl H2) _ fun x H3 hx e3 gr => k x H3 (fresh_back (e1.trans e2) hx) ((e1.trans e2).trans e3) gr
end
end K01
namespace K01
open PySem L2 Evl
section
variable {P : Program} {w : World} {K : PySem.W.Frag} {mg : Str → Option Value} {base : Heap}
theorem emod_bd (a b : Int) (h : 0 < b) : 0 ≤ a % b ∧ a % b < b := ⟨Int.emod_nonneg a (by omega), Int.emod_lt_of_pos a h⟩
theorem mul_bd {a b A B : Int} (a0 : 0 ≤ a) (aA : a ≤ A) (b0 : 0 ≤ b) (bB : b ≤ B) : 0 ≤ a * b ∧ a * b ≤ A * B := ⟨Int.mul_nonneg a0 b0, Int.mul_le_mul aA bB b0 (by omega)⟩
/-- the last part of a draw: the mixing -/
theorem ok_draw {f : Addr} {fd : FuncData} (F : Fun K "_law_draw" "_law_draw" sDraw f fd) (T : Glb mg) : FnOk P w K mg base CX0 1 f fd ["_law_pen_here", "_law_many"] spDraw := by
  refine F.ok scDraw (fun vs H Q E h => ?_) (fun cdv A outer s H vs Q E hr h => ?_)
  · obtain ⟨p, l, cells, m, many, rfl, _⟩ := h
    rfl
  · obtain ⟨p, l, cells, m, many, rfl, hp, hm, h63, hm0, hm1, k⟩ := h
    refine ⟨_, pss_cons (ps_if (pt_cmpR op_gt (pe_ix ix_list (pv 0) pe_int (fun _ _ => rfl)) pe_int (nomark _)) (pss_cons (ps_set (i := 2) scDraw.nd rfl (.inl rfl) (pe_op op_mod (pe_callTy call_int1 (by rfl) T.int (by decide +kernel) (pa_cons (pe_ix ix_list (pv 0) pe_int (fun _ _ => rfl)) pa_nil)) (pv 1)))
      (pss_cons (ps_asg (pe_op op_fdiv (pe_callTy call_int1 (by rfl) T.int (by decide +kernel) (pa_cons (pe_ix ix_list (pv 0) pe_int (fun _ _ => rfl)) pa_nil)) (pv 1)) (pg_sub (pv 0) pe_int set_list))
      (pss_one (ps_ret (pv 2))))) pss_nil)
      (pss_cons (ps_set (i := 3) scDraw.nd rfl (.inl rfl) (pe_ix ix_list (pv 0) pe_int (fun _ _ => rfl)))
      (pss_cons (ps_asg (pe_op op_add (pv 3) pe_int) (pg_sub (pv 0) pe_int set_list))
      (pss_cons (ps_set (i := 4) scDraw.nd rfl (.inl rfl) (pe_op op_add (pe_op op_mul pe_int (pv 3)) pe_int))
      (pss_cut (ps_if (pt_cmpR (op_neD hr.units) (pe_ix ix_list (pv 0) pe_int (fun _ _ => rfl)) (pe_lst pa_nil) (nomark _)) (pss_one (ps_set (i := 4) scDraw.nd rfl (.inl rfl) (pe_ix ix_list (pe_ix ix_list (pv 0) pe_int (fun _ _ => rfl)) (pe_op op_mod (pe_callTy call_int1 (by rfl) T.int (by decide +kernel) (pa_cons (pv 3) pa_nil)) (pe_callB call_len_seq (by rfl) T.len PySem.boot_len (pa_cons (pe_ix ix_list (pv 0) pe_int (fun _ _ => rfl)) pa_nil))) (fun _ _ => rfl)))) pss_nil)
      (pss_cons (ps_if (PW.pt (pw_and (pt_cmpR op_lt (pv 3) (pe_callB call_len_seq (by rfl) T.len PySem.boot_len (pa_cons (pe_ix ix_list (pv 0) pe_int (fun _ _ => rfl)) pa_nil)) (nomark _)) (pw_and1 (pt_cmpR op_ge (pe_callB call_abs (by rfl) T.abs (by decide +kernel) (pa_cons (pv 4) pa_nil)) (pe_op op_pow pe_int pe_int) (nomark _))))) (pss_cons (ps_set (i := 5) scDraw.nd rfl (.inl rfl) (pe_op op_add (pe_op op_mul pe_int (pe_op op_sub (pe_callB call_abs (by rfl) T.abs (by decide +kernel) (pa_cons (pv 4) pa_nil)) (pe_op op_pow pe_int pe_int))) (pe_callTy call_int1 (by rfl) T.int (by decide +kernel) (pa_cons (pe_cmpR op_lt (pv 4) pe_int (nomark _)) pa_nil))))
      (pss_cons (ps_asg (pe_op op_fdiv (pe_callTy call_int1 (by rfl) T.int (by decide +kernel) (pa_cons (pv 5) pa_nil)) (pv 1)) (pg_sub (pv 0) pe_int set_list))
      (pss_one (ps_ret (pe_op op_mod (pe_callTy call_int1 (by rfl) T.int (by decide +kernel) (pa_cons (pv 5) pa_nil)) (pv 1)))))) pss_nil)
      (pss_cons (ps_set (i := 6) scDraw.nd rfl (.inl rfl) (pe_op op_mod (pe_callTy call_int1 (by rfl) T.int (by decide +kernel) (pa_cons (pe_op op_pow (pe_op op_add (pe_op op_add (pe_op op_mod (pe_callTy call_int1 (by rfl) T.int (by decide +kernel) (pa_cons (pv 4) pa_nil)) pe_int) (pe_op op_mul pe_int (pv 3))) pe_int) pe_int) pa_nil)) pe_int))
      (pss_cons (ps_set (i := 6) scDraw.nd rfl (.inl rfl) (pe_op op_mod (pe_callTy call_int1 (by rfl) T.int (by decide +kernel) (pa_cons (pe_op op_pow (pe_op op_add (pe_op op_add (pe_op op_mul (pv 6) (pe_op op_add (pe_op op_mul pe_int (pv 3)) pe_int)) (pe_op op_mul (pe_op op_mul pe_int (pv 3)) (pv 3))) pe_int) pe_int) pa_nil)) pe_int))
      (pss_one (ps_ret (pe_op op_mod (pe_callTy call_int1 (by rfl) T.int (by decide +kernel) (pa_cons (pe_op op_fdiv (pv 6) pe_int) pa_nil)) (pv 1))))))))))), ?_⟩
    have hpl := hp.ne
    obtain ⟨n, r, h1, h2, hn⟩ := hp
    have many1 : many < 1073741824 := by omega
    refine q_when (et_test (ev_op (ev_op (ev_var rfl) ev_c (rv_ixL (sq_of h1) (atI_nat (j := 2) rfl))) ev_c rv_I0)) (fun hb H1 e1 => ?_) (fun hb H1 e1 => ?_)
    · -- the rest gives a digit
      have r0 : 0 < r := of_decide_eq_true hb
      have g1 := e1 _ _ h1
      refine q_asg (ev_op (ev_cb (ea_cons (ev_op (ev_var rfl) ev_c (rv_ixL (sq_of g1) (atI_nat (j := 2) rfl))) ea_nil) rc_int) (ev_var rfl) (rv_I hm0)) fun H2 e2 => ?_
      have g2 := e2 _ _ g1
      refine q_setL (j := 2) g2 (ev_op (ev_cb (ea_cons (ev_op (ev_var rfl) ev_c (rv_ixL (sq_of g2) (atI_nat (j := 2) rfl))) ea_nil) rc_int) (ev_var rfl) (rv_I ⟨hm0, many1⟩)) (ev_var rfl) ev_c (by show 2 < 3; decide) fun H3 e3 => ?_
      refine s_ret (ev_var rfl) fun H4 e4 => ?_
      have key : ∀ b o, H b = some o → b ≠ p → H4 b = some o := fun b o hb hbp => e4 b o (by rw [upd_ne hbp]; exact e3 _ _ (e2 _ _ (e1 _ _ hb)))
      exact k _ H4 (emod_bd _ _ hm0).1 (emod_bd _ _ hm0).2 ⟨n, _, e4 _ _ upd_same, key _ _ h2 hpl, by omega⟩ key
    · -- at = pen[1]; pen[1] = at + 1
      have g1 := e1 _ _ h1
      refine q_asg (ev_op (ev_var rfl) ev_c (rv_ixL (sq_of g1) (atI_nat (j := 1) rfl))) fun H2 e2 => ?_
      have g2 := e2 _ _ g1
      refine q_setL (j := 1) g2 (ev_op (ev_var rfl) ev_c rv_I0) (ev_var rfl) ev_c (by show 1 < 3; decide) fun H3 e3 => ?_
      have g3 := e3 _ _ g2
      have hl3 : H3 l = some (.lst (cells.map V.int)) := e3 _ _ (e2 _ _ (e1 _ _ h2))
      have kp3 : ∀ b o, H b = some o → b ≠ p → (upd H3 p (.lst ([V.ref l, V.int (n : Int), V.int r].set 1 (V.int ((n : Int) + 1))))) b = some o := fun b o hb hbp => by
        rw [upd_ne hbp]; exact e3 _ _ (e2 _ _ (e1 _ _ hb))
      generalize hH : upd H3 p (.lst ([V.ref l, V.int (n : Int), V.int r].set 1 (V.int ((n : Int) + 1)))) = J at kp3
      have j1 : J p = some (.lst [V.ref l, V.int ((n + 1 : Nat) : Int), V.int r]) := by
        rw [← hH, upd_same]
        rfl
      have j2 : J l = some (.lst (cells.map V.int)) := kp3 _ _ h2 hpl
      have hn0 : (0 : Int) ≤ (n : Int) ∧ (n : Int) ≤ 50000 := ⟨by omega, by omega⟩
      -- cell = 64439 * at + 8619
      refine q_asg (ev_op (ev_op ev_c (ev_var rfl) (rv_I (.inl ⟨by decide, by decide⟩))) ev_c rv_I0) fun H4 e4 => ?_
      have j41 := e4 _ _ j1
      have j42 := e4 _ _ j2
      -- if pen[0] != []: cell = ..
      obtain ⟨bn, evn, hne⟩ := ev_neNil (K := K) (σ := [some (V.ref p), some (V.int many), none, some (V.int (n : Int)), some (V.int (64439 * (n : Int) + 8619)), none, none]) (H := H4) (cells := cells) (l := l)
        (ta := tOp (rIxL K) (tVar 0) (tC (V.int 0))) (ev_op (ev_var rfl) ev_c (rv_ixL (sq_of j41) (atI_nat (j := 0) rfl))) (sq_of j42)
      refine q_cut (M := fun σ' H' => ∃ c : Int, σ' = [some (V.ref p), some (V.int many), none, some (V.int (n : Int)), some (V.int c), none, none] ∧ Ex H4 H') (s_when (et_test evn) (fun hb H5 e5 => ?_) (fun hb H5 e5 => ⟨_, rfl, e5⟩)) ?_
      · have hlen : 0 < cells.length := List.length_pos_iff.mpr (hne hb)
        have hi : 0 ≤ (n : Int) % (cells.length : Int) ∧ (n : Int) % (cells.length : Int) < (cells.length : Int) := emod_bd _ _ (by omega)
        obtain ⟨i, ei⟩ := Int.eq_ofNat_of_zero_le hi.1
        have il : i < cells.length := by have := hi.2; omega
        have lm : ((cells.map V.int).length : Int) = (cells.length : Int) := by rw [List.length_map]
        refine s_asg (v := V.int (cells[i])) (ev_op (y := V.int (i : Int)) (ev_op (ev_var rfl) ev_c (rv_ixL (sq_of (e5 _ _ j41)) (atI_nat (j := 0) rfl)))
          (ev_is (ev_op (ev_cb (ea_cons (ev_var rfl) ea_nil) rc_int) (ev_cb (ea_cons (ev_op (ev_var rfl) ev_c (rv_ixL (sq_of (e5 _ _ j41)) (atI_nat (j := 0) rfl))) ea_nil) (rc_len (sq_of (e5 _ _ j42)))) (rv_I (by rw [lm]; omega))) (by show V.int ((n : Int) % ((cells.map V.int).length : Int)) = _; rw [lm, ei]))
          (rv_ixL (sq_of (e5 _ _ j42)) (atI_nat (by rw [List.getElem?_map, List.getElem?_eq_getElem il]; rfl)))) fun H6 e6 => ⟨_, rfl, e5.trans e6⟩
      rintro σ' H5 ⟨c, rfl, e5⟩
      have k1 := e5 _ _ j41
      have k2 := e5 _ _ j42
      have kp5 : ∀ b o, H b = some o → b ≠ p → H5 b = some o := fun b o hb hbp => e5 _ _ (e4 _ _ (kp3 _ _ hb hbp))
      have lm : ((cells.map V.int).length : Int) = (cells.length : Int) := by rw [List.length_map]
      refine q_when (et_and (et_test (ev_op (ev_var rfl) (ev_cb (ea_cons (ev_op (ev_var rfl) ev_c (rv_ixL (sq_of k1) (atI_nat (j := 0) rfl))) ea_nil) (rc_len (sq_of k2))) rv_I0))
        (fun _ => et_test (ev_op (ev_cb (ea_cons (ev_var rfl) ea_nil) rc_abs) (ev_op ev_c ev_c (rv_I ⟨by decide, by decide, by decide⟩)) rv_I0))) (fun hb H6 e6 => ?_) (fun hb H6 e6 => ?_)
      · -- a great cell
        refine q_asg (ev_op (ev_op ev_c (ev_op (ev_cb (ea_cons (ev_var rfl) ea_nil) rc_abs) (ev_op ev_c ev_c (rv_I ⟨by decide, by decide, by decide⟩)) rv_I0) (rv_I (.inl ⟨by decide, by decide⟩))) (ev_cb (ea_cons (ev_op (ev_var rfl) ev_c rv_I0) ea_nil) rc_intB) rv_I0) fun H7 e7 => ?_
        have k7 := e7 _ _ (e6 _ _ k1)
        refine q_setL (j := 2) k7 (ev_op (ev_cb (ea_cons (ev_var rfl) ea_nil) rc_int) (ev_var rfl) (rv_I ⟨hm0, many1⟩)) (ev_var rfl) ev_c (by show 2 < 3; decide) fun H8 e8 => ?_
        refine s_ret (ev_op (ev_cb (ea_cons (ev_var rfl) ea_nil) rc_int) (ev_var rfl) (rv_I hm0)) fun H9 e9 => ?_
        have key : ∀ b o, H b = some o → b ≠ p → H9 b = some o := fun b o hb hbp => e9 _ _ (by rw [upd_ne hbp]; exact e8 _ _ (e7 _ _ (e6 _ _ (kp5 _ _ hb hbp))))
        exact k _ H9 (emod_bd _ _ hm0).1 (emod_bd _ _ hm0).2 ⟨n + 1, _, e9 _ _ upd_same, key _ _ h2 hpl, by omega⟩ key
      · -- mixed
        have b1 := emod_bd c 2147483489 (by decide)
        refine q_asg (ev_op (ev_cb (ea_cons (ev_op (ev_op (ev_op (ev_op (ev_cb (ea_cons (ev_var rfl) ea_nil) rc_int) ev_c (rv_I (by decide))) (ev_op ev_c (ev_var rfl) (rv_I (.inl ⟨by decide, by decide⟩))) rv_I0) ev_c rv_I0) ev_c
          (rv_I ⟨by decide, by decide, by omega⟩)) ea_nil) rc_int) ev_c (rv_I (by decide))) fun H7 e7 => ?_
        generalize hx : (c % 2147483489 + 83829 * (n : Int) + 415) ^ (5 : Int).toNat % 2147483587 = x
        have b2 : 0 ≤ x ∧ x < 2147483587 := by rw [← hx]; exact emod_bd _ _ (by decide)
        have b3 := mul_bd b2.1 (by omega : x ≤ 2147483587) (by omega : 0 ≤ 2 * (n : Int) + 427) (by omega : 2 * (n : Int) + 427 ≤ 100427)
        have b4 := mul_bd (by omega : 0 ≤ 46429 * (n : Int)) (by omega : 46429 * (n : Int) ≤ 2321450000) hn0.1 hn0.2
        refine q_asg (ev_op (ev_cb (ea_cons (ev_op (ev_op (ev_op (ev_op (ev_var rfl) (ev_op (ev_op ev_c (ev_var rfl) (rv_I (.inl ⟨by decide, by decide⟩))) ev_c rv_I0) (rv_I (.inl ⟨by omega, by omega⟩)))
            (ev_op (ev_op ev_c (ev_var rfl) (rv_I (.inl ⟨by decide, by decide⟩))) (ev_var rfl) (rv_I (.inl ⟨by omega, by omega⟩))) rv_I0) ev_c rv_I0) ev_c (rv_I ⟨by decide, by decide, by omega⟩)) ea_nil) rc_int) ev_c (rv_I (by decide))) fun H8 e8 => ?_
        refine s_ret (ev_op (ev_cb (ea_cons (ev_op (ev_var rfl) ev_c (rv_I ⟨by decide, by decide⟩)) ea_nil) rc_int) (ev_var rfl) (rv_I hm0)) fun H9 e9 => ?_
        have k9 := e9 _ _ (e8 _ _ (e7 _ _ (e6 _ _ k1)))
        have key : ∀ b o, H b = some o → b ≠ p → H9 b = some o := fun b o hb hbp => e9 _ _ (e8 _ _ (e7 _ _ (e6 _ _ (kp5 _ _ hb hbp))))
        exact k _ H9 (emod_bd _ _ hm0).1 (emod_bd _ _ hm0).2 ⟨n + 1, _, k9, key _ _ h2 hpl, by omega⟩ key
end
end K01
namespace K01
open PySem L2 Evl
section
variable {P : Program} {w : World} {K : PySem.W.Frag} {mg : Str → Option Value} {base : Heap}
/-! ### _law_pen -/
def spPen (K : PySem.W.Frag) : Sp := fun vs H Q _ => ∃ (a : Addr) (ns : List Int), vs = [.ref a] ∧ SqL K H a (ns.map V.int) ∧ ns.length ≤ 63 ∧
  ∀ p l H', H p = none → H l = none → Ex H H' → PenAt H' p l ns 0 → Q (.ref p) H'
theorem scPen : FnScope ["_law_script"] ["_law_script"] (defScope sPen) := ⟨rfl, rfl, rfl, by decide +kernel, rfl, by decide +kernel, by decide +kernel⟩
theorem cut63 (xs : List V) (h : xs.length ≤ 63) : cutV xs none (some 63) = xs := by
  have e1 : HT.sIx xs.length 0 none = 0 := rfl
  have e2 : HT.sIx xs.length xs.length (some 63) = min 63 xs.length := rfl
  unfold cutV
  rw [e1, e2, List.drop_zero, Nat.sub_zero, Nat.min_eq_right h, List.take_length]
theorem ok_pen {f : Addr} {fd : FuncData} (F : Fun K "_law_pen" "_law_pen" sPen f fd) (T : Glb mg) : FnOk P w K mg base CX0 1 f fd ["_law_script"] (spPen K) := by
  refine F.ok scPen (fun vs H Q E h => ?_) (fun cdv A outer s H vs Q E hr h => ?_)
  · obtain ⟨a, ns, rfl, _⟩ := h
    rfl
  · obtain ⟨a, ns, rfl, hS, hl, k⟩ := h
    refine ⟨_, pss_one (ps_ret (pe_lst (pa_cons (pe_callTy call_list_of (by rfl) T.list (by decide +kernel) (pa_cons (pe_slice sl_list (pv 0) po_none (po_some pe_int)) pa_nil)) (pa_cons pe_int (pa_cons pe_int pa_nil))))), ?_⟩
    have ev := el_sl (K := K) (σ := [some (V.ref a)]) (H := H) (tl := tNoPart) (th := tPart (tC (.int 63))) (ev_var (i := 0) rfl) eo_none (eo_some ev_c) hS
    rw [cut63 _ (by rw [List.length_map]; exact hl)] at ev
    refine ev H (Ex.refl H) _ fun q H1 hq e1 h1 => ?_
    refine ⟨q, _, rfl, .inl (sq_of h1), fun l hl1 => ?_⟩
    refine ⟨by show 3 ≤ sizeLine; decide, fun p hp => ?_⟩
    have hp1 : p ≠ l := fun z => by
      rw [z, upd_same] at hp
      cases hp
    have hpn : H1 p = none := by rw [upd_ne hp1] at hp; exact hp
    exact k p l _ (fresh_back e1 hpn) (fresh_back e1 hl1) ((e1.trans (Ex.new hl1)).trans (Ex.new hp)) ⟨0, 0, upd_same, by rw [upd_ne hp1.symm, upd_same], Nat.le_refl _⟩
/-! ### _law_pick -/
def spPick : Sp := fun vs H Q _ => ∃ (p l a : Addr) (cells : List Int) (m : Nat) (xs : List V), vs = [.ref p, .ref a] ∧ PenAt H p l cells m ∧ m ≤ 50000 ∧ cells.length ≤ 63 ∧ H a = some (.lst xs) ∧ a ≠ p ∧ 0 < xs.length ∧ xs.length ≤ 1000000 ∧
  ∀ (i : Nat) x H', xs[i]? = some x → PenAt H' p l cells (m + 1) → Keep p H H' → Q x H'
theorem scPick : FnScope ["_law_pen_here", "_law_some"] ["_law_pen_here", "_law_some"] (defScope sPick) := ⟨rfl, rfl, rfl, by decide +kernel, rfl, by decide +kernel, by decide +kernel⟩
theorem ok_pick {f fD : Addr} {fd fdD : FuncData} (F : Fun K "_law_pick" "_law_pick" sPick f fd) (T : Glb mg) (FD : Fun K "_law_draw" "_law_draw" sDraw fD fdD) (bD : Binds K fdD ["_law_pen_here", "_law_many"] []) (gD : mg "_law_draw" = some (.ref fD)) :
    FnOk P w K mg base CX0 2 f fd ["_law_pen_here", "_law_some"] spPick := by
  have GD : FnOk P w K mg base CX0 1 fD fdD ["_law_pen_here", "_law_many"] spDraw := ok_draw FD T
  refine F.ok scPick (fun vs H Q E h => ?_) (fun cdv A outer s H vs Q E hr h => ?_)
  · obtain ⟨p, l, a, cells, m, xs, rfl, _⟩ := h
    rfl
  · obtain ⟨p, l, a, cells, m, xs, rfl, hp, hm, h63, ha, hap, hx0, hx1, k⟩ := h
    refine ⟨_, pss_one (ps_ret (pe_ix ix_list (pv 1) (pe_call GD hr (by rfl) gD FD.kp bD .nil pass0 (pa_cons (pv 0) (pa_cons (pe_callB call_len_seq (by rfl) T.len PySem.boot_len (pa_cons (pv 1) pa_nil)) pa_nil))) (fun _ _ => rfl))), ?_⟩
    refine ⟨_, rfl, _, rfl, _, rfl, a, xs, rfl, .inl (sq_of ha), p, l, cells, m, (xs.length : Int), rfl, hp, hm, h63, by omega, by omega, fun d H' d0 d1 hp' kp => ?_⟩
    obtain ⟨i, rfl⟩ := Int.eq_ofNat_of_zero_le d0
    have hi : i < xs.length := by omega
    have ei : xs[i]? = some xs[i] := List.getElem?_eq_getElem hi
    exact ⟨a, xs, (i : Int), xs[i], rfl, rfl, sq_of (kp _ _ ha hap), atI_nat ei, k i _ H' ei hp' kp⟩
end
end K01
namespace Gr
theorem sum_take {g : List Int} : ∀ r, r ≤ g.length → (g.take r).sum = acc (dif g) r
  | 0, _ => by rw [List.take_zero]; rfl
  | r + 1, h => by
    have e : g.take (r + 1) = g.take r ++ [at' g r] := at_eq_of (by rw [List.length_append, List.length_take, List.length_take]; show _ = _ + 1; omega) fun i hi => by
      rw [List.length_take] at hi
      rw [at_take (by omega), at_app, List.length_take]
      by_cases z : i < r
      · rw [if_pos (by omega), at_take z]
      · have : i = r := by omega
        subst this
        rw [if_neg (by omega), show i - min i g.length = 0 by omega]
        rfl
    rw [e, List.sum_append, sum_take r (by omega)]
    show acc (dif g) r + List.sum [at' g r] = acc (dif g) r + dif g r
    rw [dif_lt (by omega), List.sum_cons, List.sum_nil, Int.add_zero]
theorem sum_all {g : List Int} : g.sum = acc (dif g) g.length := by
  have := sum_take (g := g) g.length (Nat.le_refl _)
  rwa [List.take_length] at this
end Gr
namespace K01
open PySem L2 Evl Gr ClX
abbrev sLV : Stmt := top 40
abbrev sLVs : Stmt := top 41
/-- plain parts of a growth: a pair of two lists -/
def Pl (K : PySem.W.Frag) (H : Hp) (a : Addr) (t g : List Int) : Prop := ∃ p q, SqT K H a [.ref p, .ref q] ∧ SqL K H p (vI t) ∧ SqL K H q (vI g) ∧ 0 < t.length ∧ t.length ≤ 2000 ∧ 0 < g.length ∧ g.length ≤ 2000 ∧ Pos t ∧ Low g
theorem Pl.mono {K : PySem.W.Frag} {H H' : Hp} {a : Addr} {t g : List Int} (e : Ex H H') (h : Pl K H a t g) : Pl K H' a t g := by
  obtain ⟨p, q, h1, h2, h3, h4⟩ := h
  exact ⟨p, q, ex_t e h1, ex_l e h2, ex_l e h3, h4⟩
section
variable {P : Program} {w : World} {K : PySem.W.Frag} {mg : Str → Option Value} {base : Heap}
/-! ### _law_value -/
def spLV (K : PySem.W.Frag) : Sp := fun vs H Q _ => ∃ (a : Addr) (n : Nat) (t g : List Int), vs = [.ref a, .int (n : Int)] ∧ Pl K H a t g ∧ RetV (.int (val t g n)) H Q
theorem scLV : FnScope ["_law_plain_here", "_law_n", "_law_told", "_law_gains", "_law_steps", "_law_many"] ["_law_plain_here", "_law_n"] (defScope sLV) := ⟨rfl, rfl, rfl, by decide +kernel, rfl, by decide +kernel, by decide +kernel⟩
theorem ev_sum {σ : L2.St} {H : Hp} {ta : TE} {p : Addr} {l : List Int} (h : Ev ta σ H (.ref p)) (hs : SqL K H p (vI l)) : Ev (tCB (rSum K) (tCons ta tNil)) σ H (.int l.sum) := ev_cb (ea_cons h ea_nil) fun H1 e _ q => ⟨p, l, rfl, ex_l e hs, q H1 (Ex.refl H1)⟩
theorem ev_sumL {σ : L2.St} {H : Hp} {ta : TE} {l : List Int} (h : EvL ta σ H (vI l)) : Ev (tCB (rSum K) (tCons ta tNil)) σ H (.int l.sum) := fun H1 e Q q => h H1 e _ fun p H2 _ e2 h2 => ⟨p, l, rfl, sq_of h2, q H2 e2⟩
theorem ok_LV {f : Addr} {fd : FuncData} (F : Fun K "_law_value" "_law_value" sLV f fd) (T : Glb mg) (sum : mg "sum" = none) : FnOk P w K mg base CX0 1 f fd ["_law_plain_here", "_law_n"] (spLV K) := by
  refine F.ok scLV (fun vs H Q E h => ?_) (fun cdv A outer s H vs Q E hr h => ?_)
  · obtain ⟨a, n, t, g, rfl, _⟩ := h
    rfl
  · obtain ⟨a, n, t, g, rfl, ⟨p, q, hA, hp, hq, t0, t1, g0, g1, pt, sm⟩, k⟩ := h
    refine ⟨_, pss_cons (ps_asg (pv 0) (pg_tup rfl (pgs_cons (pg_name (i := 2) scLV.nd rfl (.inl rfl)) (pgs_cons (pg_name (i := 3) scLV.nd rfl (.inl rfl)) pgs_nil))))
      (pss_cons (ps_if (pt_cmpR op_lt (pv 1) (pe_callB call_len_seq (by rfl) T.len PySem.boot_len (pa_cons (pv 2) pa_nil)) (nomark _)) (pss_one (ps_ret (pe_ix ix_list (pv 2) (pv 1) (fun _ _ => rfl)))) pss_nil)
      (pss_cons (ps_set (i := 4) scLV.nd rfl (.inl rfl) (pe_op op_add (pe_op op_sub (pv 1) (pe_callB call_len_seq (by rfl) T.len PySem.boot_len (pa_cons (pv 2) pa_nil))) pe_int))
      (pss_cons (ps_set (i := 5) scLV.nd rfl (.inl rfl) (pe_callB call_len_seq (by rfl) T.len PySem.boot_len (pa_cons (pv 3) pa_nil)))
      (pss_one (ps_ret (pe_op op_add (pe_op op_add (pe_ix ix_list (pv 2) (pe_un un_neg pe_int) (fun _ _ => rfl))
          (pe_op op_mul (pe_op op_fdiv (pe_callTy call_int1 (by rfl) T.int (by decide +kernel) (pa_cons (pv 4) pa_nil)) (pv 5)) (pe_callB (cr_sum rfl) (by rfl) sum (by decide +kernel) (pa_cons (pv 3) pa_nil))))
        (pe_callB (cr_sum rfl) (by rfl) sum (by decide +kernel) (pa_cons (pe_slice sl_list (pv 3) po_none (po_some (pe_op op_mod (pe_callTy call_int1 (by rfl) T.int (by decide +kernel) (pa_cons (pv 4) pa_nil)) (pv 5)))) pa_nil)))))))), ?_⟩
    refine ⟨_, rfl, a, _, rfl, hA, rfl, _, _, rfl, _, _, rfl, rfl, ?_⟩
    show tSeq _ _ _ _ _
    refine q_when (et_test (ev_op (ev_var rfl) (ev_is (ev_cb (ea_cons (ev_var rfl) ea_nil) (rc_len hp)) (by rw [vI_len])) rv_I0)) (fun ht H1 e1 => ?_) (fun ht H1 e1 => ?_)
    · have hn : n < t.length := by have := of_decide_eq_true ht; omega
      exact s_ret (v := .int (val t g n)) (ev_op (ev_var rfl) (ev_var rfl) (rv_ixL (ex_l e1 hp) (by rw [atI_vI hn, val_lt hn]))) fun H2 e2 => k H2 (e1.trans e2)
    · have hn : t.length ≤ n := by have := of_decide_eq_false ht; omega
      obtain ⟨m, hm⟩ : ∃ m, m = n - t.length + 1 := ⟨_, rfl⟩
      have hr2 : m % g.length < g.length := Nat.mod_lt _ g0
      refine q_asg (v := .int (m : Int)) (ev_is (ev_op (ev_op (ev_var rfl) (ev_is (ev_cb (ea_cons (ev_var rfl) ea_nil) (rc_len (ex_l e1 hp))) (by rw [vI_len])) rv_I0) ev_c rv_I0) (by congr 1; omega)) fun H2 e2 => ?_
      have E2 := e1.trans e2
      refine q_asg (v := .int (g.length : Int)) (ev_is (ev_cb (ea_cons (ev_var rfl) ea_nil) (rc_len (ex_l E2 hq))) (by rw [vI_len])) fun H3 e3 => ?_
      have E3 := E2.trans e3
      have S := acc_low sm g0 g.length
      have sl := el_sl (K := K) (σ := [some (.ref a), some (.int (n : Int)), some (.ref p), some (.ref q), some (.int (m : Int)), some (.int (g.length : Int))]) (H := H3) (te := tVar 3) (tl := tNoPart) (th := tPart (tOp (rI (fun _ j => 0 < j) fun i j => .int (i % j)) (tCB (fun xs H Q => (∃ i, xs = [V.int i] ∧ Q (.int i) H) ∨ ∃ k, xs = [V.bl k] ∧ Q (.int (if k then 1 else 0)) H) (tCons (tVar 4) tNil)) (tVar 5)))
        (lo := none) (hi := some ((m % g.length : Nat) : Int)) (ev_var rfl) eo_none (eo_some (ev_is (ev_op (ev_cb (ea_cons (ev_var rfl) ea_nil) rc_int) (ev_var rfl) (rv_I (by omega))) rfl)) (ex_l E3 hq)
      rw [cut_take (by omega)] at sl
      refine s_ret (v := .int (val t g n)) (ev_is (ev_op (ev_op (ev_op (ev_var rfl) (ev_un ev_c ru_neg) (rv_ixL (ex_l E3 hp) (atI_vlast t0)))
        (ev_op (y := .int g.sum) (ev_op (ev_cb (ea_cons (ev_var rfl) ea_nil) rc_int) (ev_var rfl) (rv_I ⟨by omega, by omega⟩)) (ev_sum (ev_var rfl) (ex_l E3 hq)) (rv_I (.inr ⟨by rw [sum_all]; omega, by rw [sum_all]; omega⟩))) rv_I0) (ev_sumL sl) rv_I0) ?_) fun H4 e4 => k H4 (E3.trans e4)
      rw [sum_take _ (by omega), sum_all, spv_val_far t0 hn, ← hm]
      rfl
end
end K01
namespace K01
open PySem L2 Evl Gr ClX
theorem given_pT {f : Nat → Int} {n : Nat} : given n (fun _ => true) (fun i => V.int (f i)) = vI (pT f n) := by
  rw [given_all]
  unfold vI pT
  rw [List.map_map]
  rfl
section
variable {P : Program} {w : World} {K : PySem.W.Frag} {mg : Str → Option Value} {base : Heap}
theorem spv_LV {H : Hp} {a : Addr} {n : Nat} {t g : List Int} (h : Pl K H a t g) : SpV (spLV K) [.ref a, .int (n : Int)] H (.int (val t g n)) := fun H1 e Q q E => ⟨a, n, t, g, rfl, h.mono e, q⟩
/-! ### _law_values -/
def spLVs (K : PySem.W.Frag) : Sp := fun vs H Q _ => ∃ (a : Addr) (m : Nat) (t g : List Int), vs = [.ref a, .int (m : Int)] ∧ Pl K H a t g ∧ m ≤ 10000 ∧ ∀ p H', H p = none → Ex H H' → H' p = some (.lst (vI (pT (val t g) m))) → Q (.ref p) H'
theorem scLVs : FnScope ["_law_plain_here", "_law_many", "_law_n"] ["_law_plain_here", "_law_many"] (defScope sLVs) := ⟨rfl, rfl, rfl, by decide +kernel, rfl, by decide +kernel, by decide +kernel⟩
theorem ok_LVs {f fV : Addr} {fd fdV : FuncData} (F : Fun K "_law_values" "_law_values" sLVs f fd) (range : mg "range" = none)
    (GV : FnOk P w K mg base CX0 1 fV fdV ["_law_plain_here", "_law_n"] (spLV K)) (kV : PySem.W.keepIn K (.ref fV) = true) (bV : Binds K fdV ["_law_plain_here", "_law_n"] []) (gV : mg "_law_value" = some (.ref fV)) :
    FnOk P w K mg base CX0 2 f fd ["_law_plain_here", "_law_many"] (spLVs K) := by
  refine F.ok scLVs (fun vs H Q E h => ?_) (fun cdv A outer s H vs Q E hr h => ?_)
  · obtain ⟨a, m, t, g, rfl, _⟩ := h
    rfl
  · obtain ⟨a, m, t, g, rfl, hA, hm, k⟩ := h
    refine ⟨_, pss_one (ps_ret (pe_lc (own := [("_law_n", 2)]) (g := gName 2) rfl scLVs.nd (pi_range1 (by rfl) range (pa_cons (pv 1) pa_nil)) (blkOk_by (own := [("_law_n", 2)]) (N := ["_law_plain_here", "_law_many", "_law_n"]) (sc := defScope sLVs) (by decide +kernel))
      (fun _ _ _ _ _ => pg_name (i := 2) scLVs.nd rfl (Or.inl rfl)) (fun _ _ _ _ _ => pts_nil) (fun _ _ _ _ _ => pe_call GV hr (by rfl) gV kV bV .nil pass0 (pa_cons (pv 0) (pa_cons (pv 2) pa_nil))))), ?_⟩
    have c := el_lcR1 (σ := [some (.ref a), some (.int (m : Int)), none]) (H := H) (t := tYes) (te := tCall (spLV K) [] E0 (tCons (tVar 0) (tCons (tVar 2) tNil))) (ta := tCons (tVar 1) tNil) (j := 2) (vs := [2]) (n := (m : Int)) (fun _ => true) (fun i => V.int (val t g i))
      (ea_cons (ev_var rfl) ea_nil) (by omega) (fun _ => rfl) (fun i H1 _ _ => et_none) (fun i H1 e1 _ _ => ev_call (ea_cons (ev_var rfl) (ea_cons (ev_var rfl) ea_nil)) (spv_LV (hA.mono e1)))
    rw [given_pT, Int.toNat_natCast] at c
    exact s_retL c k
end
end K01
namespace K01
open PySem L2 Evl Gr ClX
/-- one part -/
def EvP1 (K : PySem.W.Frag) (ta : TA) (σ : L2.St) (H : Hp) (t : List Int) : Prop := ∀ H1, Ex H H1 → ∀ Q : List V → Hp → Prop, (∀ a H2, Ex H1 H2 → Sq K H2 a (vI t) → Q [.ref a] H2) → ta σ H1 Q
section
variable {K : PySem.W.Frag} {C : Addr} {σ : L2.St} {H : Hp} {ta : TA} {t g : List Int} {f : Nat → Int}
theorem eg_make1 {T0 : Addr} (h : EvP1 K ta σ H t) (hT : ∀ H, Sq K H T0 (vI g)) (t0 : 0 < t.length) (t1 : t.length ≤ 2000) (g0 : 0 < g.length) (g1 : g.length ≤ 2000) (pt : Pos t) (sm : Small g) (hf : ∀ n, val t g n = f n) : EvG K C (tMake C (spInit K C) [.ref T0] E0 ta) σ H f := fun H1 e Q q =>
  h H1 e _ fun a H2 e2 ha x dx hx hd hn => by
    have e3 : Ex H2 (upd (upd H2 dx (.own x)) x (.ins C dx [])) := (Ex.new hd).trans (Ex.new (by rw [upd_ne hn.symm]; exact hx))
    refine ⟨x, a, T0, dx, t, g, rfl, upd_same, ha.mono e3, hT _, t0, t1, g0, g1, pt, sm, fun t' g' H' kp gr pt' hv => ⟨rfl, ?_⟩⟩
    refine q x H' (fresh_back e2 hx) (e2.trans fun c u hc => ?_) ⟨t', g', gr, pt', fun n => (hv n).trans (hf n)⟩
    exact kp c u (e3 _ _ hc) (ne_of_none hc hx)
theorem EvP.tup1 {te tf : TE} {x y : Int} (h : Ev te σ H (.int x)) (h' : ∀ H1, Ex H H1 → Ev tf σ H1 (.int y)) : EvP K (tCons (tTup (tCons te tNil)) (tCons (tTup (tCons tf tNil)) tNil)) σ H [x] [y] := fun H1 e Q q =>
  eu_tup (σ := σ) (H := H) (ea_cons h ea_nil) (Nat.le_of_ble_eq_true rfl) H1 e _ fun p H2 _ e2 h2 => eu_tup (σ := σ) (H := H2) (ea_cons (h' H2 (e.trans e2)) ea_nil) (Nat.le_of_ble_eq_true rfl) H2 (Ex.refl H2) _ fun r H3 _ e3 h3 =>
    q p r H3 (e2.trans e3) (.inr (st_of (e3 _ _ h2))) (.inr (st_of h3))
theorem EvP1.tup {te : TE} {x : Int} (h : Ev te σ H (.int x)) : EvP1 K (tCons (tTup (tCons te tNil)) tNil) σ H [x] := fun H1 e Q q =>
  eu_tup (σ := σ) (H := H) (ea_cons h ea_nil) (Nat.le_of_ble_eq_true rfl) H1 e _ fun p H2 _ e2 h2 => q p H2 e2 (.inr (st_of h2))
end
theorem val_one {x y : Int} (n : Nat) : val [x] [y] n = x + n * y := by
  have a := val_ge (t := [x]) (g := [y]) Nat.one_pos n
  rw [show [x].length - 1 + n = n from Nat.zero_add n] at a
  rw [a]
  have b : ∀ m : Nat, acc (dif [y]) m = m * y := fun m => by
    induction m with
    | zero => show (0 : Int) = ((0 : Nat) : Int) * y; rw [Int.natCast_zero, Int.zero_mul]
    | succ m ih =>
      show acc _ m + dif [y] m = _
      have d : dif [y] m = y := by
        unfold dif
        rw [show m % [y].length = 0 from Nat.mod_one m]
        rfl
      rw [ih, d, show ((m + 1 : Nat) : Int) = (m : Int) + 1 from rfl, Int.add_mul, Int.one_mul]
  rw [b]
  rfl
section
variable {P : Program} {w : World} {K : PySem.W.Frag} {mg : Str → Option Value} {base : Heap}
/-! ### Growth.constant, Growth.ramp -/
def spConst (K : PySem.W.Frag) (C : Addr) : Sp := fun vs H Q _ => ∃ x : Nat, vs = [.int (x : Int)] ∧ RetG K C (fun _ => (x : Int)) H Q
theorem scConst : FnScope ["value"] ["value"] (defScope (sGr 17)) := ⟨rfl, rfl, rfl, by decide +kernel, rfl, by decide +kernel, by decide +kernel⟩
theorem ok_Const {C T0 f fI fZ : Addr} {mc : Value} {fd fdI fdZ : FuncData} {d0 : Value} (F : Fun K "constant" "Growth.constant" (sGr 17) f fd) (N : GName K mg C mc) (M : Mk K C fI)
    (GI : FnOk P w K mg base CX0 4 fI fdI ["self", "told", "gains"] (spInit K C)) (bI : Binds K fdI ["self", "told", "gains"] [.ref T0]) (hT : ∀ H, Sq K H T0 (vI [0]))
    (GZ : FnOk P w K mg base CX0 2 fZ fdZ ["value"] (spFrom0 K)) (kZ : PySem.W.keepIn K (.ref fZ) = true) (bZ : Binds K fdZ ["value"] []) (gZ : mg "is_from_zero" = some (.ref fZ)) :
    FnOk P w K mg base CX0 6 f fd ["value"] (spConst K C) := by
  refine F.ok scConst (fun vs H Q E h => ?_) (fun cdv A outer s H vs Q E hr h => ?_)
  · obtain ⟨x, rfl, _⟩ := h
    rfl
  · obtain ⟨x, rfl, k⟩ := h
    refine ⟨_, pss_cons (ps_if (pt_not (pt_val (pe_call GZ (hr.mono (by decide)) (by rfl) gZ kZ bZ .nil pass0 (pa_cons (pv 0) pa_nil)))) (pss_one ps_no) pss_nil)
      (pss_one (ps_ret (pe_make M GI hr (by rfl) N.g bI (dvs := [.ref T0]) (.cons rfl .nil) pass0 (pa_cons (pe_tup (pa_cons (pv 0) pa_nil)) pa_nil)))), ?_⟩
    refine q_when (b := false) (et_is (et_not (et_B (ev_call (z := .bl true) (ea_cons (ev_var rfl) ea_nil) fun H1 e Q q E => .inl ⟨_, rfl, by rw [decide_eq_true (by omega : (0 : Int) ≤ (x : Int))]; exact q⟩))) rfl) (fun hb => absurd hb (by decide)) (fun _ H1 e1 => ?_)
    refine eg_make1 (K := K) (C := C) (σ := [some (.int (x : Int))]) (H := H1) (t := [(x : Int)]) (g := [0]) (f := fun _ => (x : Int)) (EvP1.tup (ev_var rfl)) hT Nat.one_pos (Nat.le_of_ble_eq_true rfl) Nat.one_pos (Nat.le_of_ble_eq_true rfl)
      (fun i hi => by
        have z : i = 0 := by
          have : i < 1 := hi
          omega
        subst z
        show (0 : Int) ≤ (x : Int)
        omega) (fun i hi => by
        have z : i = 0 := by
          have : i < 1 := hi
          omega
        subst z
        exact ⟨Int.le_refl _, by decide⟩) (fun n => by rw [val_one, Int.mul_zero, Int.add_zero]) H1 (Ex.refl H1) _ fun o H2 ho e2 gr => k o H2 (fresh_back e1 ho) (e1.trans e2) gr
def spRamp (K : PySem.W.Frag) (C : Addr) : Sp := fun vs H Q _ => ∃ x y : Nat, vs = [.int (y : Int), .int (x : Int)] ∧ y ≤ 1000000000000000000000000000000 ∧ RetG K C (fun n => (x : Int) + n * (y : Int)) H Q
theorem scRamp : FnScope ["gain", "begin"] ["gain", "begin"] (defScope (sGr 18)) := ⟨rfl, rfl, rfl, by decide +kernel, rfl, by decide +kernel, by decide +kernel⟩
theorem ok_Ramp {C f fI fZ : Addr} {mc : Value} {fd fdI fdZ : FuncData} {dvs : List V} (F : FunD K "ramp" "Growth.ramp" (defArgs (sGr 18)) (defBody (sGr 18)) (defScope (sGr 18)) dvs [] f fd) (N : GName K mg C mc) (M : Mk K C fI)
    (GI : FnOk P w K mg base CX0 4 fI fdI ["self", "told", "gains"] (spInit K C)) (bI : Binds K fdI ["self", "told", "gains"] [])
    (GZ : FnOk P w K mg base CX0 2 fZ fdZ ["value"] (spFrom0 K)) (kZ : PySem.W.keepIn K (.ref fZ) = true) (bZ : Binds K fdZ ["value"] []) (gZ : mg "is_from_zero" = some (.ref fZ)) :
    FnOk P w K mg base CX0 6 f fd ["gain", "begin"] (spRamp K C) := by
  refine F.ok scRamp (fun vs H Q E h => ?_) (fun cdv A outer s H vs Q E hr h => ?_)
  · obtain ⟨x, y, rfl, _⟩ := h
    rfl
  · obtain ⟨x, y, rfl, hy, k⟩ := h
    refine ⟨_, pss_cons (ps_if (pt_not (pt_val (pe_call GZ (hr.mono (by decide)) (by rfl) gZ kZ bZ .nil pass0 (pa_cons (pv 0) pa_nil)))) (pss_one ps_no) pss_nil)
      (pss_cons (ps_if (pt_not (pt_val (pe_call GZ (hr.mono (by decide)) (by rfl) gZ kZ bZ .nil pass0 (pa_cons (pv 1) pa_nil)))) (pss_one ps_no) pss_nil)
      (pss_one (ps_ret (pe_make M GI hr (by rfl) N.g bI .nil pass0 (pa_cons (pe_tup (pa_cons (pv 1) pa_nil)) (pa_cons (pe_tup (pa_cons (pv 0) pa_nil)) pa_nil)))))), ?_⟩
    refine q_when (b := false) (et_is (et_not (et_B (ev_call (z := .bl true) (ea_cons (ev_var rfl) ea_nil) fun H1 e Q q E => .inl ⟨_, rfl, by rw [decide_eq_true (by omega : (0 : Int) ≤ (y : Int))]; exact q⟩))) rfl) (fun hb => absurd hb (by decide)) (fun _ H1 e1 => ?_)
    refine q_when (b := false) (et_is (et_not (et_B (ev_call (z := .bl true) (ea_cons (ev_var rfl) ea_nil) fun H1 e Q q E => .inl ⟨_, rfl, by rw [decide_eq_true (by omega : (0 : Int) ≤ (x : Int))]; exact q⟩))) rfl) (fun hb => absurd hb (by decide)) (fun _ H2 e2 => ?_)
    refine eg_make (K := K) (C := C) (σ := [some (.int (y : Int)), some (.int (x : Int))]) (H := H2) (t := [(x : Int)]) (g := [(y : Int)]) (f := fun n => (x : Int) + n * (y : Int)) (EvP.tup1 (ev_var rfl) (fun _ _ => ev_var rfl)) Nat.one_pos (Nat.le_of_ble_eq_true rfl) Nat.one_pos (Nat.le_of_ble_eq_true rfl)
      (fun i hi => by
        have z : i = 0 := by
          have : i < 1 := hi
          omega
        subst z
        show (0 : Int) ≤ (x : Int)
        omega) (fun i hi => by
        have z : i = 0 := by
          have : i < 1 := hi
          omega
        subst z
        show (0 : Int) ≤ (y : Int) ∧ (y : Int) ≤ 1000000000000000000000000000000
        omega) (fun n => val_one n) H2 (Ex.refl H2) _ fun o H3 ho e3 gr => k o H3 (fresh_back (e1.trans e2) ho) ((e1.trans e2).trans e3) gr
end
end K01
namespace K01
open PySem L2 Evl Gr ClX
/-! ### what draws: it may move the pen, and makes objects -/
def EvW (p l : Addr) (cells : List Int) (n : Nat) (te : TE) (σ : L2.St) (H : Hp) (R : V → Prop) : Prop := ∀ m H1, Keep p H H1 → PenAt H1 p l cells m → m + n ≤ 50000 → ∀ Q : VK, (∀ v H2, R v → PenAt H2 p l cells (m + n) → Keep p H1 H2 → Q v H2) → te σ H1 Q
section
variable {p l : Addr} {cells : List Int} {σ : L2.St} {H : Hp}
theorem w_draw {i : Nat} {tb : TE} {many : Int} (hi : σ[i]? = some (some (.ref p))) (hb : ∀ H1, Keep p H H1 → Ev tb σ H1 (.int many)) (h0 : 0 < many) (h1 : many ≤ 1000000000) (h63 : cells.length ≤ 63) :
    EvW p l cells 1 (tCall spDraw [] E0 (tCons (tVar i) (tCons tb tNil))) σ H (fun v => ∃ d : Nat, v = .int (d : Int) ∧ (d : Int) < many) := fun m H1 kp hP hm Q q =>
  ⟨_, hi, hb H1 kp H1 (Ex.refl H1) _ fun H2 e2 => ⟨p, l, cells, m, many, rfl, hP.mono e2 (Nat.le_refl m), by omega, h63, h0, h1, fun d H3 d0 d1 hP3 k3 => by
    obtain ⟨n, rfl⟩ := Int.eq_ofNat_of_zero_le d0
    exact q _ H3 ⟨n, rfl, d1⟩ hP3 ((Keep.of_ex e2).trans k3)⟩⟩
theorem w_pick {i : Nat} {tr : TA} {ns : List Int} (hi : σ[i]? = some (some (.ref p))) (hr : ∀ H1, EvA tr σ H1 (vI ns)) (h0 : 0 < ns.length) (h1 : ns.length ≤ 1000) (h63 : cells.length ≤ 63) :
    EvW p l cells 1 (tCall spPick [] E0 (tCons (tVar i) (tCons (tLst tr) tNil))) σ H (fun v => ∃ x, v = .int x ∧ x ∈ ns) := fun m H1 kp hP hm Q q =>
  ⟨_, hi, hr H1 H1 (Ex.refl H1) _ fun H2 e2 => ⟨by rw [vI_len]; exact sz_of (by omega), fun a ha => by
    have e3 := e2.trans (Ex.new (o := .lst (vI ns)) ha)
    have hap : a ≠ p := by
      obtain ⟨k, r, hp, _⟩ := hP
      intro z
      rw [z, e2 _ _ hp] at ha
      cases ha
    refine ⟨p, l, a, cells, m, vI ns, rfl, hP.mono e3 (Nat.le_refl m), by omega, h63, upd_same, hap, by rw [vI_len]; exact h0, by rw [vI_len]; omega, fun j x H3 hx hP3 k3 => ?_⟩
    have hj : j < ns.length := by
      have := (List.getElem?_eq_some_iff.mp hx).1
      rwa [vI_len] at this
    rw [vI_get hj] at hx
    obtain rfl := Option.some.inj hx
    refine q _ H3 ⟨_, rfl, ?_⟩ hP3 ((Keep.of_ex e3).trans k3)
    unfold at'
    rw [List.getD_eq_getElem?_getD, List.getElem?_eq_getElem hj]
    exact List.getElem_mem hj⟩⟩
end
abbrev sPlain : Stmt := top 39
theorem scPlain : FnScope ["_law_pen_here", "_law_is_rising", "_law_told", "_law_top", "_law_turn_so", "_law_most", "_law_gains"] ["_law_pen_here", "_law_is_rising"] (defScope sPlain) := ⟨rfl, rfl, rfl, by decide +kernel, rfl, by decide +kernel, by decide +kernel⟩
theorem PenAt.upd' {H : Hp} {p l a : Addr} {cells : List Int} {m : Nat} {o : HO} (h : PenAt H p l cells m) (h1 : a ≠ p) (h2 : a ≠ l) : PenAt (upd H a o) p l cells m := by
  obtain ⟨k, r, q1, q2, q3⟩ := h
  exact ⟨k, r, by rw [upd_ne h1.symm]; exact q1, by rw [upd_ne h2.symm]; exact q2, q3⟩
theorem PenAt.le {H : Hp} {p l : Addr} {cells : List Int} {m n : Nat} (h : PenAt H p l cells m) (hm : m ≤ n) : PenAt H p l cells n := h.mono (Ex.refl H) hm
/-- what is fresh may change -/
theorem Keep.mut {p a : Addr} {H H' : Hp} {o : HO} (h : Keep p H H') (ha : H a = none) : Keep p H (L2.upd H' a o) := fun b u hb hn => by
  have : b ≠ a := fun z => by rw [z, ha] at hb; cases hb
  rw [upd_ne this]
  exact h b u hb hn
section
variable {p l : Addr} {cells : List Int} {σ : L2.St} {H : Hp} {te : TE} {tu tz : TS} {D : Ends} {j m : Nat} {many : Int}
/-- a for over range(1 + what is drawn) -/
theorem q_forW (hw : EvW p l cells 1 te σ H (fun v => ∃ d : Nat, v = .int (d : Int) ∧ (d : Int) < many)) (hP : PenAt H p l cells m) (hm : m + 1 ≤ 50000) (hmany : many ≤ 100) (Pv : Nat → L2.St → Hp → Prop) (h0 : ∀ H1, PenAt H1 p l cells (m + 1) → Keep p H H1 → Pv 0 σ H1)
    (hs : ∀ (i : Nat) σ' H', (i : Int) < many → Pv i σ' H' → tu { D with nx := Pv (i + 1), ct := Pv (i + 1), bk := tz D } (σ'.set j (some (.int (i : Int)))) H') (hd : ∀ (n : Nat) σ' H', 0 < n → (n : Int) ≤ many → Pv n σ' H' → tz D σ' H') :
    tSeq (tFor (iRng1 (tCons (tOp (rI0 fun i j => .int (i + j)) (tC (.int 1)) te) tNil)) (gName j) tu) tz D σ H :=
  hw m H (Keep.of_ex (Ex.refl H)) hP hm _ fun v H2 hv hP2 k2 => by
    obtain ⟨d, rfl, hd'⟩ := hv
    refine ⟨1, (d : Int), rfl, rfl, ?_⟩
    refine ⟨1 + (d : Int), rfl, by omega, by omega, for_range (lo := 0) (n := (1 + (d : Int)).toNat) Pv (h0 H2 hP2 k2) (fun i σ' H' hi q => ?_) (fun σ' H' q => hd _ σ' H' (by omega) (by omega) q)⟩
    have e0 : (0 : Int) + (i : Int) = (i : Int) := Int.zero_add _
    show tu { D with nx := Pv (i + 1), ct := Pv (i + 1), bk := tz D } (σ'.set j (some (.int ((0 : Int) + (i : Int))))) H'
    rw [e0]
    exact hs i σ' H' (by omega) q
end
theorem q_asgR {σ : L2.St} {H : Hp} {te : TE} {i : Nat} {tz : TS} {D : Ends} (h : te σ H fun x H1 => tz D (σ.set i (some x)) H1) : tSeq (tAsg te (gName i)) tz D σ H := h
/-- [what is drawn for j in range(1 + what is drawn)] -/
theorem lc_draws {p l : Addr} {cells : List Int} {σ : L2.St} {H : Hp} {te0 te : TE} {j m : Nat} {many B : Int} {Q : VK} (hw : EvW p l cells 1 te0 σ H (fun v => ∃ d : Nat, v = .int (d : Int) ∧ (d : Int) < many)) (hP : PenAt H p l cells m) (hm : m + 102 ≤ 50000) (hmany : many ≤ 100)
    (hwi : ∀ x, wipe ((wipe σ [j]).set j (some x)) [j] = wipe σ [j]) (ht : ∀ x H1, Keep p H H1 → EvW p l cells 1 te ((wipe σ [j]).set j (some x)) H1 (fun v => ∃ d : Nat, v = .int (d : Int) ∧ (d : Int) < B))
    (k : ∀ a g H', H a = none → Keep p H H' → PenAt H' p l cells (m + 1 + g.length) → H' a = some (.lst (vI g)) → 0 < g.length → (g.length : Int) ≤ many → (∀ i, i < g.length → 0 ≤ at' g i ∧ at' g i < B) → Q (.ref a) H') :
    tLc (iRng1 (tCons (tOp (rI0 fun i j => .int (i + j)) (tC (.int 1)) te0) tNil)) (gName j) tYes te [j] σ H Q :=
  hw m H (Keep.of_ex (Ex.refl H)) hP (by omega) _ fun v H2 hv hP2 k2 => by
    obtain ⟨d, rfl, hd'⟩ := hv
    refine ⟨1, (d : Int), rfl, rfl, ?_⟩
    refine ⟨1 + (d : Int), rfl, by omega, by omega, fun Dl hD => ?_⟩
    have hDp : Dl ≠ p := fun z => by
      obtain ⟨_, _, q, _⟩ := hP2
      rw [z, q] at hD
      cases hD
    have hDl : Dl ≠ l := fun z => by
      obtain ⟨_, _, _, q, _⟩ := hP2
      rw [z, q] at hD
      cases hD
    have hDn : H Dl = none := by
      cases z : H Dl with
      | none => rfl
      | some u =>
        have := k2 _ _ z hDp
        rw [hD] at this
        cases this
    refine lc_range (lo := 0) (n := (1 + (d : Int)).toNat) (fun i H' => ∃ g : List Int, H' Dl = some (.lst (vI g)) ∧ g.length = i ∧ (∀ i', i' < g.length → 0 ≤ at' g i' ∧ at' g i' < B) ∧ PenAt H' p l cells (m + 1 + i) ∧ Keep p H2 H') ⟨[], upd_same, rfl, fun i' h => absurd h (Nat.not_lt_zero _), hP2.upd' hDp hDl, (Keep.of_ex (Ex.refl H2)).mut hD⟩ (fun i H' hi q => ⟨hwi _, ?_⟩) (fun H' q => ?_)
    · obtain ⟨g, hg, hlen, hb, hP3, k3⟩ := q
      show te ((wipe σ [j]).set j (some (.int ((0 : Int) + (i : Int))))) H' fun y H4 => ∃ acc, H4 Dl = some (.lst acc) ∧ acc.length < sizeLine ∧ _
      refine ht _ H' (k2.trans k3) (m + 1 + i) H' (Keep.of_ex (Ex.refl H')) hP3 (by omega) _ fun v H4 hv hP4 k4 => ?_
      obtain ⟨e, rfl, he⟩ := hv
      refine ⟨vI g, k4 _ _ hg hDp, sz_lt (by rw [vI_len]; omega), g ++ [(e : Int)], by rw [upd_same, vI_app], by rw [List.length_append, hlen]; rfl, fun i' hi' => ?_, (hP4.upd' hDp hDl).le (by omega), (k3.trans k4).mut hD⟩
      rw [List.length_append] at hi'
      have hi2 : i' < g.length + 1 := hi'
      rw [at_app]
      by_cases c : i' < g.length
      · rw [if_pos c]
        exact hb _ c
      · rw [if_neg c, show i' - g.length = 0 by omega]
        show 0 ≤ (e : Int) ∧ (e : Int) < B
        omega
    · obtain ⟨g, hg, hlen, hb, hP3, k3⟩ := q
      exact k Dl g H' hDn (k2.trans k3) (hP3.le (by omega)) hg (by omega) (by omega) hb
section
variable {P : Program} {w : World} {K : PySem.W.Frag} {mg : Str → Option Value} {base : Heap}
/-! ### _law_plain -/
/-- plain parts, new ones: at most five told -/
def PlN (H : Hp) (a : Addr) (t g : List Int) : Prop := ∃ p q, H a = some (.tup [.ref p, .ref q]) ∧ H p = some (.lst (vI t)) ∧ H q = some (.lst (vI g)) ∧ t.length ≤ 5
def spPlain (K : PySem.W.Frag) : Sp := fun vs H Q _ => ∃ (p l : Addr) (cells : List Int) (m : Nat) (r : Bool), vs = [.ref p, .bl r] ∧ PenAt H p l cells m ∧ m + 120 ≤ 50000 ∧ cells.length ≤ 63 ∧
  ∀ t g x H', Keep p H H' → PenAt H' p l cells (m + 13) → PlN H' x t g → Pl K H' x t g → g.length ≤ 4 → (∀ i, i < g.length → at' g i ≤ 1000000) → (∀ i, i < t.length → at' t i ≤ 5000000000) → Q (.ref x) H'
theorem ok_Plain {f fD fP : Addr} {fd fdD fdP : FuncData} (F : Fun K "_law_plain" "_law_plain" sPlain f fd) (range : mg "range" = none)
    (GD : FnOk P w K mg base CX0 1 fD fdD ["_law_pen_here", "_law_many"] spDraw) (kD : PySem.W.keepIn K (.ref fD) = true) (bD : Binds K fdD ["_law_pen_here", "_law_many"] []) (gD : mg "_law_draw" = some (.ref fD))
    (GP : FnOk P w K mg base CX0 2 fP fdP ["_law_pen_here", "_law_some"] spPick) (kP : PySem.W.keepIn K (.ref fP) = true) (bP : Binds K fdP ["_law_pen_here", "_law_some"] []) (gP : mg "_law_pick" = some (.ref fP)) :
    FnOk P w K mg base CX0 3 f fd ["_law_pen_here", "_law_is_rising"] (spPlain K) := by
  refine F.ok scPlain (fun vs H Q E h => ?_) (fun cdv A outer s H vs Q E hr h => ?_)
  · obtain ⟨p, l, cells, m, r, rfl, _⟩ := h
    rfl
  · obtain ⟨p, l, cells, m, r, rfl, hP, hm, h63, k⟩ := h
    refine ⟨_, pss_cons (ps_par (i := 2) (j := 3) rfl scPlain.nd rfl rfl (by decide) (by rfl) (by rfl) (pa_cons (pe_lst pa_nil) (pa_cons (pe_call GP hr (by rfl) gP kP bP .nil pass0 (pa_cons (pv 0) (pa_cons (pe_lst (pa_cons pe_int (pa_cons pe_int (pa_cons pe_int (pa_cons pe_int (pa_cons (pe_op op_pow pe_int pe_int) pa_nil)))))) pa_nil))) pa_nil)) (by rfl))
      (pss_cons (ps_for PassesOwn.never rfl (pi_range1 (by rfl) range (pa_cons (pe_op op_add pe_int (pe_call GD (hr.mono (by decide)) (by rfl) gD kD bD .nil pass0 (pa_cons (pv 0) (pa_cons pe_int pa_nil)))) pa_nil)) (pg_name (i := 4) scPlain.nd rfl (.inl rfl))
        (pss_one (ps_expr (pe_bm PySem.F.plainAttrs_list PySem.F.slot_list_append PySem.F.type_list_append mt_append (pv 2) (pa_cons (pe_op op_add (pe_call GD (hr.mono (by decide)) (by rfl) gD kD bD .nil pass0 (pa_cons (pv 0) (pa_cons (pv 3) pa_nil)))
          (pe_ifExp (PW.pt (pw_and (pt_cmpR (op_neD hr.units) (pv 2) (pe_lst pa_nil) (nomark _)) (pw_and1 (pt_val (pv 1))))) (pe_ix ix_list (pv 2) (pe_un un_neg pe_int) (fun _ _ => rfl)) pe_int)) pa_nil)))))
      (pss_cons (ps_set (i := 5) scPlain.nd rfl (.inr rfl) (pe_call GP hr (by rfl) gP kP bP .nil pass0 (pa_cons (pv 0) (pa_cons (pe_lst (pa_cons pe_int (pa_cons pe_int (pa_cons pe_int (pa_cons pe_int (pa_cons (pe_op op_pow pe_int pe_int) pa_nil)))))) pa_nil))))
      (pss_cons (ps_setLc (i := 6) (own := [("_law_turn_so", 4)]) (g := gName 4) rfl scPlain.nd rfl (by rfl) (by rfl) (pi_range1 (by rfl) range (pa_cons (pe_op op_add pe_int (pe_call GD (hr.mono (by decide)) (by rfl) gD kD bD .nil pass0 (pa_cons (pv 0) (pa_cons pe_int pa_nil)))) pa_nil)) (blkOk_by (own := [("_law_turn_so", 4)]) (N := ["_law_pen_here", "_law_is_rising", "_law_told", "_law_top", "_law_turn_so", "_law_most", "_law_gains"]) (sc := defScope sPlain) (by decide +kernel))
          (fun _ _ _ _ _ => pg_name (i := 4) scPlain.nd rfl (Or.inl rfl)) (fun _ _ _ _ _ => pts_nil) (fun _ _ _ _ _ => pe_call GD (hr.mono (by decide)) (by rfl) gD kD bD .nil pass0 (pa_cons (pv 0) (pa_cons (pe_op op_add (pv 5) pe_int) pa_nil))))
      (pss_one (ps_ret (pe_tup (pa_cons (pv 2) (pa_cons (pv 6) pa_nil)))))))), ?_⟩
    have hp0 : ∃ u, H p = some u := let ⟨_, _, q, _⟩ := hP; ⟨_, q⟩
    have hl0 : ∃ u, H l = some u := let ⟨_, _, _, q, _⟩ := hP; ⟨_, q⟩
    have kp0 : Keep p H H := Keep.of_ex (Ex.refl H)
    -- told = [], top = ..
    refine ⟨by decide, fun tl htl => ?_⟩
    have e1 := Ex.new (H := H) (o := .lst []) htl
    have hP1 := hP.mono e1 (Nat.le_refl m)
    have ntp : tl ≠ p := fun z => by
      obtain ⟨u, hu⟩ := hp0
      rw [z, hu] at htl
      cases htl
    have ntl : tl ≠ l := fun z => by
      obtain ⟨u, hu⟩ := hl0
      rw [z, hu] at htl
      cases htl
    refine w_pick (p := p) (l := l) (cells := cells) (σ := L2.start _ [V.ref p, V.bl r]) (H := upd H tl (.lst [])) (i := 0) (ns := [2, 5, 9, 40, (10 : Int) ^ (9 : Int).toNat]) rfl (fun H1 => ea_cons ev_c (ea_cons ev_c (ea_cons ev_c (ea_cons ev_c (ea_cons (ev_op ev_c ev_c (rv_I ⟨by decide, by decide, by decide⟩)) ea_nil))))) (by decide) (by decide) h63 m _ (Keep.of_ex (Ex.refl _)) hP1 (by omega) _ fun v H2 hv hP2 k2 => ?_
    obtain ⟨top, rfl, htop⟩ := hv
    have top2 : 0 < top ∧ top ≤ 1000000000 := by
      have : ∀ z ∈ [2, 5, 9, 40, (10 : Int) ^ (9 : Int).toNat], 0 < z ∧ z ≤ 1000000000 := by decide
      exact this _ htop
    refine ⟨_, _, rfl, ?_⟩
    have kH2 : Keep p H H2 := (Keep.of_ex e1).trans k2
    have htl2 : H2 tl = some (.lst (vI [])) := k2 _ _ upd_same ntp
    show tSeq _ _ _ _ _
    -- the loop of told values
    refine q_forW (p := p) (l := l) (cells := cells) (m := m + 1) (many := 5) (w_draw (i := 0) rfl (fun H1 _ => ev_c) (by decide) (by decide) h63) hP2 (by omega) (by decide)
      (fun i σ' H' => ∃ (x4 : Option V) (t : List Int), σ' = [some (.ref p), some (.bl r), some (.ref tl), some (.int top), x4, none, none] ∧ H' tl = some (.lst (vI t)) ∧ t.length = i ∧ Pos t ∧ PenAt H' p l cells (m + 2 + i) ∧ Keep p H H' ∧ ∀ j, j < t.length → at' t j ≤ 1000000000 * (t.length : Int))
      (fun H3 hP3 k3 => ⟨_, [], rfl, k3 _ _ htl2 ntp, rfl, fun i hi => absurd hi (Nat.not_lt_zero i), hP3, kH2.trans k3, fun j hj => absurd hj (Nat.not_lt_zero j)⟩) ?_ ?_
    · rintro i σ' H3 hi ⟨x4, t, rfl, ht, hlen, pt, hP3, k3, bt⟩
      show tDrop _ _ _ _
      refine ⟨_, rfl, Or.inl ⟨rfl, vI t, sq_of ht⟩, ?_⟩
      refine w_draw (p := p) (l := l) (cells := cells) (σ := [some (.ref p), some (.bl r), some (.ref tl), some (.int top), some (.int (i : Int)), none, none]) (H := H3) (i := 0) (tb := tVar 3) (many := top) rfl (fun H1 _ => ev_var rfl) top2.1 top2.2 h63 (m + 2 + i) H3 (Keep.of_ex (Ex.refl _)) hP3 (by omega) _ fun v H4 hv hP4 k4 => ?_
      obtain ⟨d, rfl, hd⟩ := hv
      have ht4 := k4 _ _ ht ntp
      obtain ⟨bn, evn, hne⟩ := ev_neNil (K := K) (σ := [some (.ref p), some (.bl r), some (.ref tl), some (.int top), some (.int (i : Int)), none, none]) (H := H4) (cells := t) (l := tl) (ta := tVar 2) (ev_var rfl) (sq_of ht4)
      have evi : ∃ z : Int, 0 ≤ z ∧ z ≤ 1000000000 * (t.length : Int) ∧ Ev (tIf (tAnd (tTest (tOp (rNeD K) (tVar 2) (tLst tNil))) (tB (tVar 1))) (tOp (rIxL K) (tVar 2) (tUn (rU fun i => .int (-i)) (tC (.int 1)))) (tC (.int 0))) [some (.ref p), some (.bl r), some (.ref tl), some (.int top), some (.int (i : Int)), none, none] H4 (.int z) := by
        have tst : EvT (tAnd (tTest (tOp (rNeD K) (tVar 2) (tLst tNil))) (tB (tVar 1))) [some (.ref p), some (.bl r), some (.ref tl), some (.int top), some (.int (i : Int)), none, none] H4 (bn && r) := et_and (et_test evn) fun _ => et_B (ev_var rfl)
        cases hbr : (bn && r) with
        | true =>
          rw [hbr] at tst
          have tn : 0 < t.length := List.length_pos_iff.mpr (hne (Bool.and_eq_true_iff.mp hbr).1)
          exact ⟨at' t (t.length - 1), pt _ (by omega), bt _ (by omega), ev_if tst (fun _ => ev_op (ev_var rfl) (ev_un ev_c ru_neg) (rv_ixL (sq_of ht4) (atI_vlast tn))) (fun hb => absurd hb (by decide))⟩
        | false =>
          rw [hbr] at tst
          exact ⟨0, Int.le_refl 0, by omega, ev_if tst (fun hb => absurd hb (by decide)) (fun _ => ev_c)⟩
      obtain ⟨z, z0, z1, evz⟩ := evi
      refine evz H4 (Ex.refl H4) _ fun H5 e5 => ?_
      refine ⟨(d : Int), z, rfl, rfl, tl, vI t, .int ((d : Int) + z), rfl, rfl, e5 _ _ ht4, sz_lt (by rw [vI_len]; omega), ?_⟩
      refine ⟨_, t ++ [(d : Int) + z], rfl, by rw [upd_same, vI_app], by rw [List.length_append, hlen]; rfl, fun i' hi' => ?_, ((hP4.mono e5 (Nat.le_refl _)).upd' ntp ntl).le (by omega), ((k3.trans k4).trans (Keep.of_ex e5)).mut htl, fun i' hi' => ?_⟩
      rotate_left
      · rw [List.length_append] at hi' ⊢
        have hi2 : i' < t.length + 1 := hi'
        show at' (t ++ [(d : Int) + z]) i' ≤ 1000000000 * ((t.length + 1 : Nat) : Int)
        rw [at_app]
        by_cases c : i' < t.length
        · rw [if_pos c]
          have := bt _ c
          omega
        · rw [if_neg c, show i' - t.length = 0 by omega]
          show (d : Int) + z ≤ _
          have := top2.2
          omega
      rw [List.length_append] at hi'
      have hi2 : i' < t.length + 1 := hi'
      rw [at_app]
      by_cases c : i' < t.length
      · rw [if_pos c]
        exact pt _ c
      · rw [if_neg c, show i' - t.length = 0 by omega]
        show 0 ≤ (d : Int) + z
        omega
    · rintro n σ' H3 n0 n5 ⟨x4, t, rfl, ht, hlen, pt, hP3, k3, bt⟩
      refine q_asgR (w_pick (p := p) (l := l) (cells := cells) (σ := [some (.ref p), some (.bl r), some (.ref tl), some (.int top), x4, none, none]) (H := H3) (i := 0) (ns := [1, 2, 3, 7, (10 : Int) ^ (6 : Int).toNat]) rfl (fun H1 => ea_cons ev_c (ea_cons ev_c (ea_cons ev_c (ea_cons ev_c (ea_cons (ev_op ev_c ev_c (rv_I ⟨by decide, by decide, by decide⟩)) ea_nil))))) (by decide) (by decide) h63 (m + 2 + n) H3 (Keep.of_ex (Ex.refl _)) hP3 (by omega) _ fun v H4 hv hP4 k4 => ?_)
      obtain ⟨most, rfl, hmost⟩ := hv
      have most2 : 0 < most ∧ most ≤ 1000000 := by
        have : ∀ z ∈ [1, 2, 3, 7, (10 : Int) ^ (6 : Int).toNat], 0 < z ∧ z ≤ 1000000 := by decide
        exact this _ hmost
      have ht4 := k4 _ _ ht ntp
      refine q_asgR (lc_draws (p := p) (l := l) (cells := cells) (σ := [some (.ref p), some (.bl r), some (.ref tl), some (.int top), x4, some (.int most), none]) (H := H4) (j := 4) (m := m + 2 + n + 1) (many := 4) (B := most + 1) (w_draw (i := 0) rfl (fun H1 _ => ev_c) (by decide) (by decide) h63) hP4 (by omega) (by decide) (fun _ => rfl)
        (fun x H1 _ => w_draw (i := 0) rfl (fun H2 _ => ev_op (ev_var rfl) ev_c rv_I0) (by omega) (by omega) h63) fun a g H5 ha k5 hP5 hg g0 g4 hb => ?_)
      show tRet _ _ _ _
      refine ⟨_, rfl, _, rfl, by show 2 ≤ sizeLine; decide, fun x hx => ?_⟩
      have e6 := Ex.new (H := H5) (o := .tup [.ref tl, .ref a]) hx
      have sg : Low g := fun i hi => ⟨(hb i hi).1, by have := (hb i hi).2; omega⟩
      refine k t g x _ (((k3.trans k4).trans k5).trans (Keep.of_ex e6)) ((hP5.mono e6 (Nat.le_refl _)).le (by omega)) ⟨tl, a, upd_same, e6 _ _ (k5 _ _ ht4 ntp), e6 _ _ hg, by omega⟩ ⟨tl, a, st_of upd_same, sq_of (e6 _ _ (k5 _ _ ht4 ntp)), sq_of (e6 _ _ hg), by omega, by omega, g0, by omega, pt, sg⟩ (by omega) (fun i hi => by have := (hb i hi).2; omega) (fun i hi => by have := bt i hi; omega)
end
end K01
namespace K01
open PySem L2 Evl Gr ClX
section
variable {P : Program} {w : World} {K : PySem.W.Frag} {mg : Str → Option Value} {base : Heap}
/-- is_within(e, 0, MOST): yes -/
theorem ev_within {σ : L2.St} {H : Hp} {ta tc : TE} {n hi : Nat} (ha : Ev ta σ H (.int (n : Int))) (hc : Ev tc σ H (.int (hi : Int))) (h : n ≤ hi) : Ev (tCall (spWithin K) [] E0 (tCons ta (tCons (tC (.int 0)) (tCons tc tNil)))) σ H (.bl true) :=
  ev_call (ea_cons ha (ea_cons ev_c (ea_cons hc ea_nil))) fun H1 e Q q E => .inl ⟨_, _, _, rfl, by
    rw [decide_eq_true (by omega : (0 : Int) ≤ (n : Int)), decide_eq_true (by omega : (n : Int) ≤ (hi : Int))]
    exact q⟩
/-! ### Growth.first -/
def spGFirst (K : PySem.W.Frag) (C : Addr) : Sp := fun vs H Q _ => ∃ (o : Addr) (n : Nat) (f : Nat → Int), vs = [.ref o, .int (n : Int)] ∧ GrF K C H o f ∧ n ≤ 2000 ∧ ∀ p H', Ex H H' → SqT K H' p (vI (pT f n)) → Q (.ref p) H'
theorem scGFirst : FnScope ["self", "n"] ["self", "n"] (defScope (sGr 4)) := ⟨rfl, rfl, rfl, by decide +kernel, rfl, by decide +kernel, by decide +kernel⟩
theorem ok_GFirst {C f fF fW : Addr} {mc : Value} {fd fdF fdW : FuncData} (F : Fun K "first" "Growth.first" (sGr 4) f fd) (T : GlbS mg) (N : GName K mg C mc)
    (GW : FnOk P w K mg base CX0 2 fW fdW ["value", "least", "most"] (spWithin K)) (kW : PySem.W.keepIn K (.ref fW) = true) (bW : Binds K fdW ["value", "least", "most"] []) (gW : mg "is_within" = some (.ref fW))
    (GF : FnOk P w K mg base CX0 1 fF fdF ["one", "many"] (spFirst K C)) (kF : PySem.W.keepIn K (.ref fF) = true) (bF : Binds K fdF ["one", "many"] []) (gF : mg "first_values" = some (.ref fF)) :
    FnOk P w K mg base CX0 3 f fd ["self", "n"] (spGFirst K C) := by
  obtain ⟨mu, cm⟩ := N.most
  refine F.ok scGFirst (fun vs H Q E h => ?_) (fun cdv A outer s H vs Q E hr h => ?_)
  · obtain ⟨o, n, f1, rfl, _⟩ := h
    rfl
  · obtain ⟨o, n, f1, rfl, ⟨t, g, hO, pt, v1⟩, hn, k⟩ := h
    refine ⟨_, pss_cons (ps_if (pt_not (pt_val (pe_call GW hr (by rfl) gW kW bW .nil pass0 (pa_cons (pv 1) (pa_cons pe_int (pa_cons (pe_cval (pe_glob (v := .ref C) rfl N.g rfl)) pa_nil)))))) (pss_one ps_no) pss_nil)
      (pss_one (ps_ret (pe_tupleOf (by rfl) T.tuple (pe_call GF (hr.mono (by decide)) (by rfl) gF kF bF .nil pass0 (pa_cons (pv 0) (pa_cons (pv 1) pa_nil)))))), ?_⟩
    refine q_when (et_not (et_B (ev_within (hi := 2000) (ev_var rfl) (ev_cval ev_c N.rd cm) hn))) (fun hb => absurd hb (by decide)) (fun _ H1 e1 => ?_)
    refine ⟨_, rfl, _, rfl, o, n, t, g, rfl, hO.mono e1, by omega, fun p H2 hp e2 h2 => ?_⟩
    have e : val t g = f1 := funext v1
    rw [e] at h2
    exact .inl ⟨p, _, rfl, sq_of h2, fun q hq => k q _ ((e1.trans e2).trans (Ex.new hq)) (st_of upd_same)⟩
end
end K01
namespace Gr
theorem Tail.sc {f : Nat → Int} {B : Int} (h : Tail f B) {k : Nat} : Tail (fun n => (k : Int) * f n) ((k : Int) * B) := by
  obtain ⟨m, hm⟩ := h
  refine ⟨m, fun n hn => ?_⟩
  obtain ⟨a, b⟩ := hm n hn
  show 0 ≤ (k : Int) * f (n + 1) - (k : Int) * f n ∧ (k : Int) * f (n + 1) - (k : Int) * f n ≤ (k : Int) * B
  rw [← Int.mul_sub]
  exact ⟨Int.mul_nonneg (by omega) a, Int.mul_le_mul_of_nonneg_left b (by omega)⟩
theorem acc_le {d : Nat → Int} {B : Int} (h : ∀ k, d k ≤ B) : ∀ n : Nat, acc d n ≤ (n : Int) * B
  | 0 => by rw [show ((0 : Nat) : Int) = 0 from rfl, Int.zero_mul]; exact Int.le_refl 0
  | n + 1 => by
    show acc d n + d n ≤ _
    rw [show ((n + 1 : Nat) : Int) = (n : Int) + 1 from rfl, Int.add_mul, Int.one_mul]
    exact Int.add_le_add (acc_le h n) (h n)
theorem val_le {t g : List Int} {A B : Int} (t0 : 0 < t.length) (g0 : 0 < g.length) (B0 : 0 ≤ B) (ht : ∀ i, i < t.length → at' t i ≤ A) (hg : ∀ i, i < g.length → at' g i ≤ B) (n : Nat) : val t g n ≤ A + (n : Int) * B := by
  unfold val
  by_cases h : n < t.length
  · rw [if_pos h]
    have a := ht n h
    have b := Int.mul_nonneg (show (0 : Int) ≤ (n : Int) by omega) B0
    omega
  · rw [if_neg h]
    have a : lst t ≤ A := ht _ (by omega)
    have b := acc_le (d := dif g) (fun k => hg _ (Nat.mod_lt _ g0)) (n - t.length + 1)
    have c : ((n - t.length + 1 : Nat) : Int) * B ≤ (n : Int) * B := Int.mul_le_mul_of_nonneg_right (by omega) B0
    omega
theorem dvd12 {n : Nat} (h0 : 0 < n) (h4 : n ≤ 4) : n ∣ 12 := by
  have : n = 1 ∨ n = 2 ∨ n = 3 ∨ n = 4 := by omega
  rcases this with rfl | rfl | rfl | rfl <;> decide
end Gr
namespace K01
open PySem L2 Evl Gr ClX OpX StX OwX
theorem q_call {σ : L2.St} {H : Hp} {sp : Sp} {dvs vs : List V} {E : XK} {ta : TA} {i : Nat} {tz : TS} {D : Ends} (h : EvA ta σ H vs) (k : ∀ H1, Ex H H1 → sp (vs ++ dvs) H1 (fun v H2 => tz D (σ.set i (some v)) H2) E) :
    tSeq (tAsg (tCall sp dvs E ta) (gName i)) tz D σ H := h H (Ex.refl H) _ k
theorem lst_i {t : TA} {Q : VK} {σ : L2.St} {H : Hp} (h : t σ H fun xs H1 => xs.length ≤ sizeLine ∧ ∀ l, H1 l = none → Q (.ref l) (upd H1 l (.lst xs))) : tLst t σ H Q := h
theorem cons_i {te : TE} {tr : TA} {σ : L2.St} {H : Hp} {Q : List V → Hp → Prop} (h : te σ H fun x H1 => tr σ H1 fun xs H2 => Q (x :: xs) H2) : tCons te tr σ H Q := h
theorem op_i {r : R2} {ta tb : TE} {σ : L2.St} {H : Hp} {Q : VK} (h : ta σ H fun x H1 => tb σ H1 fun y H2 => r x y H2 Q) : tOp r ta tb σ H Q := h
theorem fnR0 {P : Program} {w : World} {K : PySem.W.Frag} {mg : Str → Option Value} {base : Heap} {CX : CXT} {k : Nat} {f : Addr} {fd : FuncData} {ps : List Str} {sp : Sp} (F : FnOk P w K mg base CX k f fd ps sp) (b : Binds K fd ps []) : FnR P w K mg base CX k f sp :=
  (F.raw b .nil).imp fun vs H Q E h => by rw [List.append_nil]; exact h
theorem gr_ins {X : Cx} {C : Addr} {H : Hp} {o : Addr} {f : Nat → Int} (h : GrF X.K C H o f) : InsC X H o C := by
  obtain ⟨t, g, ⟨dx, p, q, r, h1, _⟩, _⟩ := h
  exact .inr ⟨dx, _, h1⟩
/-- a def of the module, found by its name -/
def Gfn (P : Program) (w : World) (K : PySem.W.Frag) (mg : Str → Option Value) (base : Heap) (k : Nat) (name : Str) (ps : List Str) (sp : Sp) : Prop :=
  ∃ f fd, FnOk P w K mg base CX0 k f fd ps sp ∧ PySem.W.keepIn K (.ref f) = true ∧ Binds K fd ps [] ∧ mg name = some (.ref f)
/-- what != asks of the class -/
structure GNe (K : PySem.W.Frag) (C fE : Addr) : Prop where
  has : Has K C fE "__eq__"
  ne : PySem.W.findIn K (.ref C) "__ne__" = some (some (.builtin "object.__ne__"))
  ob : PySem.W.mroIn K C (.type "object") = some true
  nf : PySem.W.notFirst K C (.ref C) = true
section
variable {p l : Addr} {cells : List Int} {σ : L2.St} {H : Hp}
/-- one of some things, one of which is drawn -/
theorem w_pickD {i : Nat} {tr : TA} {R : List Int → Prop} (hi : σ[i]? = some (some (.ref p)))
    (hr : ∀ m H1, Keep p H H1 → PenAt H1 p l cells m → m + 1 ≤ 50000 → ∀ Q : List V → Hp → Prop, (∀ ns H2, R ns → PenAt H2 p l cells (m + 1) → Keep p H1 H2 → Q (vI ns) H2) → tr σ H1 Q) (hR : ∀ ns, R ns → 0 < ns.length ∧ ns.length ≤ 1000) (h63 : cells.length ≤ 63) :
    EvW p l cells 2 (tCall spPick [] E0 (tCons (tVar i) (tCons (tLst tr) tNil))) σ H (fun v => ∃ x ns, v = .int x ∧ R ns ∧ x ∈ ns) := fun m H1 kp hP hm Q q =>
  ⟨_, hi, hr m H1 kp hP (by omega) _ fun ns H2 rn hP2 k2 => ⟨by rw [vI_len]; exact sz_of (by have := (hR ns rn).2; omega), fun a ha => by
    have e3 := Ex.new (H := H2) (o := .lst (vI ns)) ha
    have hap : a ≠ p := by
      obtain ⟨k, r, hp, _⟩ := hP2
      intro z
      rw [z, hp] at ha
      cases ha
    refine ⟨p, l, a, cells, m + 1, vI ns, rfl, hP2.mono e3 (Nat.le_refl _), by omega, h63, upd_same, hap, by rw [vI_len]; exact (hR ns rn).1, by rw [vI_len]; have := (hR ns rn).2; omega, fun j x H3 hx hP3 k3 => ?_⟩
    have hj : j < ns.length := by
      have := (List.getElem?_eq_some_iff.mp hx).1
      rwa [vI_len] at this
    rw [vI_get hj] at hx
    obtain rfl := Option.some.inj hx
    refine q _ H3 ⟨_, ns, rfl, rn, ?_⟩ hP3 ((k2.trans (Keep.of_ex e3)).trans k3)
    unfold at'
    rw [List.getD_eq_getElem?_getD, List.getElem?_eq_getElem hj]
    exact List.getElem_mem hj⟩⟩
theorem c_i {x : V} {Q : VK} (h : Q x H) : tC x σ H Q := h
theorem q_par {ta : TA} {i j : Nat} {tz : TS} {D : Ends} (h : ta σ H fun vs H1 => ∃ u v, vs = [u, v] ∧ tz D ((σ.set i (some u)).set j (some v)) H1) : tSeq (tPar i j ta) tz D σ H := h
theorem q_par3 {ta : TA} {i j n : Nat} {tz : TS} {D : Ends} (h : ta σ H fun vs H1 => ∃ u v w, vs = [u, v, w] ∧ tz D (((σ.set i (some u)).set j (some v)).set n (some w)) H1) : tSeq (tPar3 i j n ta) tz D σ H := h
theorem etu_tuple {K : PySem.W.Frag} {te : TE} {xs : List V} (h : EvL te σ H xs) : EvTu K (tThen te (kTup K)) σ H xs := fun H1 e Q q =>
  h H1 e _ fun p H2 _ e2 h2 => .inl ⟨p, xs, rfl, sq_of h2, fun r hr => q r _ (e2.trans (Ex.new hr)) (st_of upd_same)⟩
end
end K01
namespace K01
open PySem L2 Evl Gr ClX OpX StX OwX StM
/-! ### growths as they are, old or new -/
/-- gives a growth of these values -/
def EvR (K : PySem.W.Frag) (C : Addr) (te : TE) (σ : L2.St) (H : Hp) (f : Nat → Int) : Prop := ∀ H1, Ex H H1 → ∀ Q : VK, (∀ o H2, Ex H1 H2 → GrF K C H2 o f → Q (.ref o) H2) → te σ H1 Q
section
variable {K : PySem.W.Frag} {C : Addr} {σ : L2.St} {H H' : Hp} {te : TE} {f g : Nat → Int}
theorem EvG.any (h : EvG K C te σ H f) : EvR K C te σ H f := fun H1 e Q q => h H1 e Q fun o H2 _ e2 gr => q o H2 e2 gr
theorem er_var {i : Nat} {o : Addr} (h0 : σ[i]? = some (some (.ref o))) (h : GrF K C H o f) : EvR K C (tVar i) σ H f := fun H1 e Q q => ⟨_, h0, q o H1 (Ex.refl H1) (h.mono e)⟩
theorem EvR.mono (h : EvR K C te σ H f) (e : Ex H H') : EvR K C te σ H' f := fun H1 e1 => h H1 (e.trans e1)
theorem EvR.is (h : EvR K C te σ H f) (e : ∀ n, f n = g n) : EvR K C te σ H g := (funext e : f = g) ▸ h
theorem GrF.is {o : Addr} (h : GrF K C H o f) (e : ∀ n, f n = g n) : GrF K C H o g := (funext e : f = g) ▸ h
theorem GrF.ins {o : Addr} (h : GrF K C H o f) : ∃ dx p q r, H o = some (.ins C dx [("told", .ref p), ("gains", .ref q), ("rises", .ref r)]) := by
  obtain ⟨t, g, ⟨dx, p, q, r, h1, _⟩, _⟩ := h
  exact ⟨dx, p, q, r, h1⟩
end
section
variable {X : Cx} {C : Addr} {σ : L2.St} {H : Hp} {ta tb : TE} {f g : Nat → Int}
/-- two of the same values are not unlike -/
theorem ev_neR (ha : EvR X.K C ta σ H f) (hb : EvR X.K C tb σ H f) (_n1 : PySem.W.notFirst X.K C (.ref C) = true) : Ev (tOp (rNeO X C (spGEq X.K C) E0) ta tb) σ H (.bl false) := fun H1 e Q q =>
  ha H1 e _ fun o H2 e2 go => hb H2 (e.trans e2) _ fun u H3 e3 gu => ⟨o, u, rfl, rfl, gr_ins (go.mono e3), gr_ins gu, o, u, f, f, rfl, go.mono e3, gu, fun b hb => by
    obtain rfl : b = true := hb.mpr fun _ => rfl
    exact fun H4 e4 => ⟨true, rfl, q H4 ((e2.trans e3).trans e4)⟩⟩
theorem ev_eqR (ha : EvR X.K C ta σ H f) (hb : EvR X.K C tb σ H f) (n1 : PySem.W.notFirst X.K C (.ref C) = true) : Ev (tOp (rEqO X C (spGEq X.K C) E0) ta tb) σ H (.bl true) := fun H1 e Q q =>
  ha H1 e _ fun o H2 e2 go => hb H2 (e.trans e2) _ fun u H3 e3 gu => ⟨o, u, C, rfl, rfl, gr_ins (go.mono e3), gr_ins gu, n1, o, u, f, f, rfl, go.mono e3, gu, fun b hb => by
    obtain rfl : b = true := hb.mpr fun _ => rfl
    exact fun H4 e4 => q H4 ((e2.trans e3).trans e4)⟩
theorem ev_callG {n : Nat} (ha : EvR X.K C ta σ H f) (hn : Ev tb σ H (.int (n : Int))) (h : (n : Int) ≤ 10 ^ 40) : Ev (tCallO X C (spGCall X.K C) E0 ta (tCons tb tNil)) σ H (.int (f n)) := fun H1 e Q q =>
  ha H1 e _ fun o H2 e2 go => ⟨o, rfl, hn H2 (e.trans e2) _ fun H3 e3 => ⟨gr_ins (go.mono e3), o, n, f, rfl, go.mono e3, h, fun H4 e4 => q H4 ((e2.trans e3).trans e4)⟩⟩
end
section
variable {K : PySem.W.Frag} {C : Addr} {σ : L2.St} {H : Hp} {ta tb : TE} {tk : TA} {f g : Nat → Int}
theorem etu_first {n : Nat} (ha : EvR K C ta σ H f) (hb : Ev tb σ H (.int (n : Int))) (hn : n ≤ 2000) : EvTu K (tMeth C "first" (spGFirst K C) [] E0 ta (tCons tb tNil)) σ H (vI (pT f n)) := fun H1 e Q q =>
  ha H1 e _ fun o H2 e2 go => by
    obtain ⟨dx, p, q', r, h1⟩ := go.ins
    exact ⟨o, dx, _, rfl, h1, rfl, hb H2 (e.trans e2) _ fun H3 e3 => ⟨o, n, f, rfl, go.mono e3, hn, fun a H4 e4 h => q a H4 ((e2.trans e3).trans e4) h⟩⟩
/-- a growth made of the parts of one -/
theorem ep_parts {o : Addr} {i : Nat} (G : GCls K C) (h0 : σ[i]? = some (some (.ref o))) {t g : List Int} (h : GrAt K C H o t g) : EvP K (tCons (tFld K (tVar i) "told") (tCons (tFld K (tVar i) "gains") tNil)) σ H t g := by
  obtain ⟨dx, p, q, r, h1, h2, h3, _⟩ := h
  exact EvP.pair (ev_fld (ev_var h0) h1 G.cls G.told rfl) (ev_fld (ev_var h0) h1 G.cls G.gains rfl) (.inr h2) (.inr h3)
theorem er_again {o : Addr} {i : Nat} (G : GCls K C) (h0 : σ[i]? = some (some (.ref o))) (h : GrF K C H o f) :
    EvR K C (tMake C (spInit K C) [] E0 (tCons (tFld K (tVar i) "told") (tCons (tFld K (tVar i) "gains") tNil))) σ H f := by
  obtain ⟨t, g, hG, pt, v⟩ := h
  have hG' := hG
  obtain ⟨_, _, _, _, _, _, _, _, nf, t2, g2, sm⟩ := hG'
  exact (eg_make (ep_parts G h0 hG) nf.told t2 nf.gains g2 pt sm v).any
/-- a growth made of plain parts -/
theorem er_plain {a : Addr} {i : Nat} {t g : List Int} (h0 : σ[i]? = some (some (.ref a))) (h : Pl K H a t g) : EvG K C (tMake C (spInit K C) [] E0 (tCons (tOp (rIx K) (tVar i) (tC (.int 0))) (tCons (tOp (rIx K) (tVar i) (tC (.int 1))) tNil))) σ H (val t g) := by
  obtain ⟨p, q, h1, h2, h3, t0, t1, g0, g1, pt, sm⟩ := h
  exact eg_make (EvP.pair (ev_op (ev_var h0) ev_c (rv_ix (.inr h1) rfl)) (ev_op (ev_var h0) ev_c (rv_ix (.inr h1) rfl)) (.inl h2) (.inl h3)) t0 t1 g0 g1 pt sm.small fun _ => rfl
/-- two tuples of the same ints -/
theorem ev_eqTu {xs : List Int} (ha : EvTu K ta σ H (vI xs)) (hb : EvTu K tb σ H (vI xs)) : Ev (tOp (rEqD K) ta tb) σ H (.bl true) := fun H1 e Q q =>
  ha H1 e _ fun p H2 e2 hp => hb H2 (e.trans e2) _ fun r H3 e3 hr => ⟨.tuple (xs.map PyData.int), .tuple (xs.map PyData.int), .tup (ex_t e3 hp) (dpAll_ints xs), .tup hr (dpAll_ints xs), shaped_tup xs, shaped_tup xs, by
    have e2' : PyData.eqv (.tuple (xs.map PyData.int)) (.tuple (xs.map PyData.int)) = true := by
      have := eqv_ints xs xs
      rw [decide_eq_true rfl] at this
      simpa [PyData.eqv] using this
    rw [e2']
    exact q H3 (e2.trans e3)⟩
/-- two lists of the same ints -/
theorem ev_neLs {xs : List Int} (ha : EvL ta σ H (vI xs)) (hb : EvL tb σ H (vI xs)) : Ev (tOp (rNeD K) ta tb) σ H (.bl false) := fun H1 e Q q =>
  ha H1 e _ fun p H2 _ e2 hp => hb H2 (e.trans e2) _ fun r H3 _ e3 hr => ⟨.list (xs.map PyData.int), .list (xs.map PyData.int), .lst (sq_of (e3 _ _ hp)) (dpAll_ints xs), .lst (sq_of hr) (dpAll_ints xs), shaped_ints xs, shaped_ints xs, by
    have e2' : PyData.eqv (.list (xs.map PyData.int)) (.list (xs.map PyData.int)) = true := by
      have := eqv_ints xs xs
      rw [decide_eq_true rfl] at this
      simpa [PyData.eqv] using this
    rw [e2']
    exact q H3 (e2.trans e3)⟩
end
/-! ### what stands while the pen moves -/
section
variable {K : PySem.W.Frag} {C : Addr} {H H' : Hp} {p l : Addr} {cells : List Int} {m : Nat}
theorem sqt_keep {q : Addr} {xs : List V} (hP : PenAt H p l cells m) (kp : Keep p H H') (h : SqT K H q xs) : SqT K H' q xs := by
  obtain ⟨_, _, hp, _⟩ := hP
  rcases h with (h | ⟨o, h⟩) | h
  · exact .inl (.inl (kp _ _ h fun z => by rw [z, hp] at h; cases h))
  · exact .inl (.inr ⟨o, kp _ _ h fun z => by rw [z, hp] at h; cases h⟩)
  · exact .inr h
theorem sql_keep {q : Addr} {xs : List Int} (hP : PenAt H p l cells m) (kp : Keep p H H') (h : SqL K H q (vI xs)) : SqL K H' q (vI xs) := by
  obtain ⟨_, _, hp, _⟩ := hP
  have no : ∀ {k r : Int}, ¬ [V.ref l, V.int k, V.int r] = vI xs := fun e => by
    cases xs with
    | nil => cases e
    | cons x xs => cases e
  rcases h with (h | ⟨o, h⟩) | h
  · exact .inl (.inl (kp _ _ h fun z => by rw [z, hp] at h; exact no (HO.lst.inj (Option.some.inj h))))
  · exact .inl (.inr ⟨o, kp _ _ h fun z => by rw [z, hp] at h; cases h⟩)
  · exact .inr h
theorem Pl.keep {a : Addr} {t g : List Int} (hP : PenAt H p l cells m) (kp : Keep p H H') (h : Pl K H a t g) : Pl K H' a t g := by
  obtain ⟨x, y, h1, h2, h3, h4⟩ := h
  exact ⟨x, y, sqt_keep hP kp h1, sql_keep hP kp h2, sql_keep hP kp h3, h4⟩
theorem GrF.keep {o : Addr} {f : Nat → Int} (hP : PenAt H p l cells m) (kp : Keep p H H') (h : GrF K C H o f) : GrF K C H' o f := by
  obtain ⟨t, g, ⟨dx, x, y, z, h1, h2, h3, h4, h5⟩, h6⟩ := h
  refine ⟨t, g, ⟨dx, x, y, z, kp _ _ h1 fun e => ?_, sqt_keep hP kp h2, sqt_keep hP kp h3, sqt_keep hP kp h4, h5⟩, h6⟩
  obtain ⟨_, _, hp, _⟩ := hP
  rw [e, hp] at h1
  cases h1
end
section
variable {K : PySem.W.Frag}
/-- plain parts as they are drawn -/
def PlB (K : PySem.W.Frag) (H : Hp) (a : Addr) (t g : List Int) : Prop := Pl K H a t g ∧ g.length ≤ 4 ∧ (∀ i, i < g.length → at' g i ≤ 1000000) ∧ ∀ i, i < t.length → at' t i ≤ 5000000000
structure Drawn (f : Nat → Int) : Prop where
  per : PerT f 12
  tail : Tail f 1000000
  pos : ∀ n, 0 ≤ f n
  le : ∀ n : Nat, f n ≤ 5000000000 + (n : Int) * 1000000
theorem PlB.drawn {H : Hp} {a : Addr} {t g : List Int} (h : PlB K H a t g) : Drawn (val t g) := by
  obtain ⟨⟨p, q, h1, h2, h3, t0, t1, g0, g1, pt, sm⟩, g4, bg, bt⟩ := h
  exact ⟨perT_val t0 (dvd12 g0 g4), tail_val t0 g0 fun i hi => ⟨(sm i hi).1, bg i hi⟩, val_nonneg pt t0 g0 sm.small, val_le t0 g0 (by decide) bt bg⟩
end
section
variable {K : PySem.W.Frag} {C : Addr} {σ : L2.St} {H : Hp} {te : TE} {ta : TA} {f : Nat → Int}
theorem er_of {o : Addr} (h : Ev te σ H (.ref o)) (g : GrF K C H o f) : EvR K C te σ H f := fun H1 e Q q => h H1 e _ fun H2 e2 => q o H2 e2 (g.mono (e.trans e2))
theorem er_const {x : Nat} : EvR K C (tSMeth C (spConst K C) E0 (tC (.ref C)) (tCons (tC (.int (x : Int))) tNil)) σ H (fun _ => (x : Int)) := fun H1 e Q q =>
  ⟨rfl, x, rfl, fun a H3 _ e4 gr => q a H3 e4 gr⟩
theorem gr_updL {o Dl : Addr} {xs : List V} {u : HO} (h : GrF K C H o f) (hD : H Dl = some (.lst xs)) : GrF K C (L2.upd H Dl u) o f := by
  obtain ⟨t, g, ⟨dx, x, y, z, h1, h2, h3, h4, h5⟩, h6⟩ := h
  have tup : ∀ {q : Addr} {ys : List V}, SqT K H q ys → SqT K (L2.upd H Dl u) q ys := fun {q ys} s => by
    rcases s with (s | ⟨w, s⟩) | s
    · exact .inl (.inl (by rw [upd_ne (fun e => by rw [e, hD] at s; cases s)]; exact s))
    · exact .inl (.inr ⟨w, by rw [upd_ne (fun e => by rw [e, hD] at s; cases s)]; exact s⟩)
    · exact .inr s
  exact ⟨t, g, ⟨dx, x, y, z, by rw [upd_ne (fun e => by rw [e, hD] at h1; cases h1)]; exact h1, tup h2, tup h3, tup h4, h5⟩, h6⟩
end
theorem PlB.keep {K : PySem.W.Frag} {H H' : Hp} {p l a : Addr} {cells : List Int} {m : Nat} {t g : List Int} (h : PlB K H a t g) (hP : PenAt H p l cells m) (kp : Keep p H H') : PlB K H' a t g := ⟨Pl.keep hP kp h.1, h.2⟩
theorem yes_i {σ : L2.St} {H : Hp} {A B : Hp → Prop} (h : A H) : tYes σ H (fun b H3 => if b = true then A H3 else B H3) := iteT (A := A H) (B := B H) h
end K01
namespace K01
open PySem L2 Evl Gr ClX OpX StX StM OwX EqT
/-- what is asked of tuples beside the class -/
structure GTup (K : PySem.W.Frag) (C : Addr) : Prop where
  no : PySem.W.kitOne K (.type "tuple") (.ref C) = some false
  nf : PySem.W.notFirst K C (.type "tuple") = true
theorem gtup_of {K : PySem.W.Frag} {C : Addr} (h : PySem.W.subIn K (.type "tuple") (.ref C) = some false) (c : (PySem.W.clsIn K C).isSome = true) (t : PySem.W.typeIn K (.ref C) = some (.type "type")) : GTup K C := ⟨by
  unfold PySem.W.kitOne PySem.W.kitCls
  rw [if_neg (by simp)]
  show (if ((PySem.W.clsIn K C).isSome && PySem.W.typeIn K (.ref C) == some (.type "type")) = true then PySem.W.subIn K (.type "tuple") (.ref C) else none) = some false
  rw [if_pos (by rw [c, t]; rfl)]
  exact h, by
  unfold PySem.W.notFirst
  rw [h]
  simp⟩
theorem tup_ty {K : PySem.W.Frag} {H : Hp} {b : Addr} {ys : List V} (h : SqT K H b ys) : TyX K H (.ref b) (.type "tuple") := by
  rcases h with (h | ⟨o, h⟩) | ⟨o, its, n, h, hc, _⟩
  · exact .base (.tup h)
  · exact .fTuple h
  · exact .kTuple h hc
theorem gr_insC {X : Cx} {C : Addr} {H : Hp} {o : Addr} {f : Nat → Int} (h : GrF X.K C H o f) : InsC X H o C := by
  obtain ⟨t, g, ⟨dx, p, q, r, h1, _⟩, _⟩ := h
  exact .inr ⟨dx, _, h1⟩
section
variable {P : Program} {w : World} {K : PySem.W.Frag} {mg : Str → Option Value} {base : Heap}
/-! ### Growth.__eq__ beside a tuple -/
def spGEqT (K : PySem.W.Frag) (C : Addr) : Sp := fun vs H Q _ => ∃ (o u : Addr) (f : Nat → Int) (ys : List V), vs = [.ref o, .ref u] ∧ GrF K C H o f ∧ SqT K H u ys ∧ RetV (.bl false) H Q
theorem ok_GEqT {C f : Addr} {mc : Value} {fd : FuncData} (F : Fun K "__eq__" "Growth.__eq__" (sGr 2) f fd) (N : GName K mg C mc) (G : GCls K C) (GT : GTup K C) (TT : GlbT mg) : FnOk P w K mg base CX0 1 f fd ["self", "other"] (spGEqT K C) := by
  refine F.ok scGEq (fun vs H Q E h => ?_) (fun cdv A outer s H vs Q E hr h => ?_)
  · obtain ⟨o, u, f1, ys, rfl, _⟩ := h
    rfl
  · obtain ⟨o, u, f1, ys, rfl, hO, hU, k⟩ := h
    refine ⟨_, pss_one (ps_ret (pe_and (pe_callB call_isi (by rfl) TT.inst (by decide +kernel) (pa_cons (pv 1) (pa_cons (pe_glob (v := .ref C) rfl N.g rfl) pa_nil)))
      (pe_and (pe_cmpR (op_eqD hr.units) (pe_fld (pv 0) rfl) (pe_fld (pv 1) rfl) (nomark _)) (pe_one (pe_cmpR (op_eqD hr.units) (pe_fld (pv 0) rfl) (pe_fld (pv 1) rfl) (nomark _)))))), ?_⟩
    refine s_ret (ev_is (ev_andV (a := false) (b := false) (ev_cb (ea_cons (ev_var rfl) (ea_cons ev_c ea_nil)) fun H1 e _ q => ⟨.ref u, .ref C, .type "tuple", .ref C, false, rfl, .own C, tyx_mono e (tup_ty hU), GT.no, q H1 (Ex.refl H1)⟩) fun z => absurd z (by decide)) rfl) k
end
section
variable {X : Cx} {C : Addr} {σ : L2.St} {H : Hp} {ta tb : TE} {f : Nat → Int}
/-- a growth beside a tuple -/
theorem ev_eqRT {ys : List V} (GT : GTup X.K C) (ha : EvR X.K C ta σ H f) (hb : EvTu X.K tb σ H ys) : Ev (tOp (rEqT X C (spGEqT X.K C) E0) ta tb) σ H (.bl false) := fun H1 e Q q =>
  ha H1 e _ fun o H2 e2 go => hb H2 (e.trans e2) _ fun u H3 e3 hu => ⟨o, u, ys, rfl, rfl, gr_insC (go.mono e3), hu, GT.nf, o, u, f, ys, rfl, go.mono e3, hu, fun H4 e4 => q H4 ((e2.trans e3).trans e4)⟩
end
end K01
namespace K01
open PySem L2 Evl Gr ClX
/-- one, and nought behind it -/
def stp (n : Nat) : List Int := (List.range n).map fun i => if i = 0 then 1 else 0
theorem stp_len {n : Nat} : (stp n).length = n := by unfold stp; rw [List.length_map, List.length_range]
section
variable {K : PySem.W.Frag} {σ : L2.St} {H : Hp}
theorem EvP.tupL {te tb : TE} {x : Int} {g : List Int} (h : Ev te σ H (.int x)) (h' : ∀ H1, Ex H H1 → EvL tb σ H1 (vI g)) : EvP K (tCons (tTup (tCons te tNil)) (tCons tb tNil)) σ H [x] g := fun H1 e Q q =>
  eu_tup (σ := σ) (H := H) (ea_cons h ea_nil) (Nat.le_of_ble_eq_true rfl) H1 e _ fun p H2 _ e2 h2 => h' H2 (e.trans e2) H2 (Ex.refl H2) _ fun r H3 _ e3 h3 =>
    q p r H3 (e2.trans e3) (.inr (st_of (e3 _ _ h2))) (.inl (sq_of h3))
end
section
variable {P : Program} {w : World} {K : PySem.W.Frag} {mg : Str → Option Value} {base : Heap}
/-! ### Growth.steps -/
def spSteps (K : PySem.W.Frag) (C : Addr) : Sp := fun vs H Q _ => ∃ m : Nat, vs = [.int (m : Int)] ∧ 0 < m ∧ m ≤ 2000 ∧ RetG K C (val [0] (stp m)) H Q
theorem scSteps : FnScope ["many", "at"] ["many"] (defScope (sGr 19)) := ⟨rfl, rfl, rfl, by decide +kernel, rfl, by decide +kernel, by decide +kernel⟩
theorem ok_Steps {C f fI fZ : Addr} {mc : Value} {fd fdI fdZ : FuncData} (F : Fun K "steps" "Growth.steps" (sGr 19) f fd) (range : mg "range" = none) (N : GName K mg C mc) (M : Mk K C fI)
    (GI : FnOk P w K mg base CX0 4 fI fdI ["self", "told", "gains"] (spInit K C)) (bI : Binds K fdI ["self", "told", "gains"] [])
    (GZ : FnOk P w K mg base CX0 1 fZ fdZ ["value"] (spIsInt K)) (kZ : PySem.W.keepIn K (.ref fZ) = true) (bZ : Binds K fdZ ["value"] []) (gZ : mg "is_integer" = some (.ref fZ)) :
    FnOk P w K mg base CX0 6 f fd ["many"] (spSteps K C) := by
  obtain ⟨mu, cm⟩ := N.most
  refine F.ok scSteps (fun vs H Q E h => ?_) (fun cdv A outer s H vs Q E hr h => ?_)
  · obtain ⟨x, rfl, _⟩ := h
    rfl
  · obtain ⟨m, rfl, m0, m1, k⟩ := h
    refine ⟨_, pss_cons (ps_if (PW.pt (pw_or (pt_not (pt_val (pe_call GZ (hr.mono (by decide)) (by rfl) gZ kZ bZ .nil pass0 (pa_cons (pv 0) pa_nil)))) (pw_or1 (pt_not (pt_chain op_le op_le pe_int (pv 0) (pe_cval (pe_glob (v := .ref C) rfl N.g rfl))))))) (pss_one ps_no) pss_nil)
      (pss_one (ps_ret (pe_make M GI hr (by rfl) N.g bI .nil pass0 (pa_cons (pe_tup (pa_cons pe_int pa_nil)) (pa_cons (pe_lc (own := [("at", 1)]) (g := gName 1) rfl scSteps.nd (pi_range1 (by rfl) range (pa_cons (pv 0) pa_nil)) (blkOk_by (own := [("at", 1)]) (N := ["many", "at"]) (sc := defScope (sGr 19)) (by decide +kernel))
        (fun _ _ _ _ _ => pg_name (i := 1) scSteps.nd rfl (Or.inl rfl)) (fun _ _ _ _ _ => pts_nil) (fun _ _ _ _ _ => pe_ifExp (pt_cmpR op_eq (pv 1) pe_int (nomark _)) pe_int pe_int)) pa_nil))))), ?_⟩
    refine q_when (b := false) (et_is (et_or (et_not (et_B (ev_call (z := .bl true) (ea_cons (ev_var rfl) ea_nil) (spv_isInt (.base (.int _)) kit_int_int kit_int_bool)))) (fun _ => et_not (et_test (ev_chain ev_c (ev_var rfl) (ev_cval ev_c N.rd cm))))) (by
      rw [decide_eq_true (by omega : (1 : Int) ≤ (m : Int)), decide_eq_true (by omega : (m : Int) ≤ 2000)]
      rfl)) (fun hb => absurd hb (by decide)) (fun _ H1 e1 => ?_)
    have c1 : ∀ H2, Ex H1 H2 → EvL (tLc (iRng1 (tCons (tVar 0) tNil)) (gName 1) tYes (tIf (tTest (tOp rEq (tVar 1) (tC (.int 0)))) (tC (.int 1)) (tC (.int 0))) [1]) [some (.int (m : Int)), none] H2 (vI (stp m)) := fun H2 _ => by
      have z := el_lcR1 (σ := [some (.int (m : Int)), none]) (H := H2) (t := tYes) (te := tIf (tTest (tOp rEq (tVar 1) (tC (.int 0)))) (tC (.int 1)) (tC (.int 0))) (ta := tCons (tVar 0) tNil) (j := 1) (vs := [1]) (n := (m : Int)) (fun _ => true) (fun i => V.int (if i = 0 then 1 else 0))
        (ea_cons (ev_var rfl) ea_nil) (by omega) (fun _ => rfl) (fun i H1 _ _ => et_none) (fun i H3 _ _ _ => by
          by_cases h : i = 0
          · subst h
            exact ev_if (b := true) (et_is (et_test (ev_op (ev_var rfl) ev_c (rv_eq rfl))) (by rw [vint_inj]; rfl)) (fun _ => ev_c) (fun hb => absurd hb (by decide))
          · rw [if_neg h]
            exact ev_if (b := false) (et_is (et_test (ev_op (ev_var rfl) ev_c (rv_eq rfl))) (by rw [vint_inj, decide_eq_false (by omega)])) (fun hb => absurd hb (by decide)) (fun _ => ev_c))
      rw [given_all, Int.toNat_natCast] at z
      have e : vI (stp m) = (List.range m).map fun i => V.int (if i = 0 then 1 else 0) := by
        unfold vI stp
        rw [List.map_map]
        rfl
      rw [e]
      exact z
    refine eg_make (K := K) (C := C) (σ := [some (.int (m : Int)), none]) (H := H1) (t := [0]) (g := stp m) (f := val [0] (stp m)) (EvP.tupL ev_c c1) Nat.one_pos (Nat.le_of_ble_eq_true rfl) (by rw [stp_len]; exact m0) (by rw [stp_len]; exact m1)
      (fun i hi => by
        have z : i = 0 := by
          have : i < 1 := hi
          omega
        subst z
        exact Int.le_refl 0) (fun i hi => by
        rw [stp_len] at hi
        have e : at' (stp m) i = if i = 0 then 1 else 0 := at_map_range hi
        rw [e]
        by_cases h : i = 0
        · rw [if_pos h]; decide
        · rw [if_neg h]; decide) (fun n => rfl) H1 (Ex.refl H1) _ fun o H2 ho e2 gr => k o H2 (fresh_back e1 ho) (e1.trans e2) gr
end
end K01
namespace Gr
/-! ### a row so many times -/
def rep (c : Nat) (h : List Int) : List Int := (List.replicate c h).flatten
theorem rep_succ {c : Nat} {h : List Int} : rep (c + 1) h = h ++ rep c h := by
  unfold rep
  rw [List.replicate_succ, List.flatten_cons]
theorem rep_len {c : Nat} {h : List Int} : (rep c h).length = c * h.length := by
  induction c with
  | zero => rw [Nat.zero_mul]; rfl
  | succ c ih => rw [rep_succ, List.length_append, ih, Nat.succ_mul, Nat.add_comm]
theorem rep_at {h : List Int} (h0 : 0 < h.length) : ∀ {c i : Nat}, i < c * h.length → at' (rep c h) i = at' h (i % h.length)
  | 0, i, hi => absurd hi (by rw [Nat.zero_mul]; exact Nat.not_lt_zero i)
  | c + 1, i, hi => by
    rw [rep_succ, at_app]
    rw [Nat.succ_mul] at hi
    by_cases z : i < h.length
    · rw [if_pos z, Nat.mod_eq_of_lt z]
    · rw [if_neg z, rep_at h0 (c := c) (by omega), Nat.mod_eq_sub_mod (a := i) (by omega)]
theorem dif_rep {h : List Int} {c : Nat} (h0 : 0 < h.length) (c0 : 0 < c) : dif (rep c h) = dif h := funext fun k => by
  have L : 0 < c * h.length := Nat.mul_pos c0 h0
  show at' (rep c h) (k % (rep c h).length) = at' h (k % h.length)
  rw [rep_len, rep_at h0 (Nat.mod_lt _ L), Nat.mod_mod_of_dvd _ (Nat.dvd_mul_left _ _)]
/-- whether the first n, again and again, are all -/
theorem rep_take {g : List Int} {n : Nat} (g0 : 0 < g.length) (n0 : 0 < n) (d : n ∣ g.length) : rep (g.length / n) (g.take n) = g ↔ Pd (dif g) n := by
  have nl : n ≤ g.length := Nat.le_of_dvd g0 d
  have tl : (g.take n).length = n := by rw [List.length_take]; omega
  have c1 : g.length / n * n = g.length := Nat.div_mul_cancel d
  have c0 : 0 < g.length / n := Nat.div_pos nl n0
  constructor
  · intro e
    have z := dif_rep (h := g.take n) (c := g.length / n) (by omega) c0
    rw [e] at z
    rw [z]
    have := dif_pd (g := g.take n)
    rwa [tl] at this
  · intro p
    refine at_eq_of (by rw [rep_len, tl, c1]) fun i hi => ?_
    rw [rep_len, tl] at hi
    rw [rep_at (by omega) (by rw [tl]; exact hi), tl, at_take (Nat.mod_lt _ n0)]
    have a := p.mod i
    rw [dif_lt (by have := Nat.mod_lt i n0; omega), dif_lt (by omega)] at a
    exact a
/-! ### one told value less -/
section
variable {t g : List Int} {s : Nat}
theorem dif_cutS (hg : 0 < g.length) (i : Nat) : dif (cutG g (s + 1)) (i + 1) = dif (cutG g s) i := by
  have p := (dif_pd (g := cutG g (s + 1))).mul (s + 1) (i + 1)
  have q := (dif_pd (g := cutG g s)).mul (s + 1) i
  rw [cutG_len] at p q
  have m : s + 1 ≤ (s + 1) * g.length := Nat.le_mul_of_pos_right _ hg
  rw [← p, ← q, dif_cut' hg (by omega), dif_cut' hg (by omega)]
  congr 1
  omega
theorem cutG_succ (hg : 0 < g.length) : cutG g (s + 1) = lst (cutG g s) :: (cutG g s).take (g.length - 1) := by
  have l := cutG_len (g := g) (s := s)
  have l' := cutG_len (g := g) (s := s + 1)
  refine at_eq_of (by rw [List.length_cons, List.length_take, l, l']; omega) fun i hi => ?_
  rw [l'] at hi
  cases i with
  | zero =>
    show at' (cutG g (s + 1)) 0 = lst (cutG g s)
    rw [← dif_lt (by omega)]
    have p := dif_pd (g := cutG g (s + 1)) 0
    rw [← p, l', show 0 + g.length = g.length - 1 + 1 by omega, dif_cutS hg, dif_lt (by omega)]
    unfold lst
    rw [l]
  | succ i =>
    show at' (cutG g (s + 1)) (i + 1) = at' ((cutG g s).take (g.length - 1)) i
    rw [at_take (by omega), ← dif_lt (g := cutG g (s + 1)) (by omega), dif_cutS hg, dif_lt (by omega)]
theorem cutT_succ (h : s + 1 < t.length) : cutT t (s + 1) = (cutT t s).take ((cutT t s).length - 1) := by
  rw [cutT_len (by omega)]
  unfold cutT
  rw [List.take_take]
  congr 1
  omega
theorem lst_cutG (hg : 0 < g.length) : lst (cutG g s) = back g s := by
  have a := back_cut (g := g) (s := s + 1) hg (i := s) (Nat.lt_succ_self s)
  rw [show s + 1 - 1 - s = 0 by omega, cutG_succ hg, dif_lt (by rw [List.length_cons]; omega)] at a
  exact a
theorem cutG_zero (hg : 0 < g.length) : cutG g 0 = g := by
  unfold cutG
  rw [Nat.zero_mod, Nat.sub_zero, List.drop_length, List.take_length, List.nil_append]
theorem cutT_zero : cutT t 0 = t := by
  unfold cutT
  rw [Nat.sub_zero, List.take_length]
end
/-! ### told for longer -/
theorem val_more {t g g' : List Int} {m : Nat} (t0 : 0 < t.length) (hm : t.length ≤ m) (hd : ∀ k, dif g' k = dif g (k + (m - t.length))) (n : Nat) : val (pT (val t g) m) g' n = val t g n := by
  have l := pT_len (f := val t g) (b := m)
  rcases Nat.lt_or_ge n m with a | a
  · rw [val_lt (by omega)]
    exact pT_at a
  · obtain ⟨k, rfl⟩ : ∃ k, n = m - 1 + k := ⟨n - (m - 1), by omega⟩
    have v := val_ge (t := pT (val t g) m) (g := g') (by omega) k
    rw [l] at v
    have e : lst (pT (val t g) m) = val t g (m - 1) := by
      unfold lst
      rw [l]
      exact pT_at (by omega)
    rw [v, e, show m - 1 = t.length - 1 + (m - t.length) by omega, val_ge t0, show t.length - 1 + (m - t.length) + k = t.length - 1 + (m - t.length + k) by omega, val_ge t0, acc_add]
    rw [acc_congr (e := fun k => dif g (m - t.length + k)) k fun i _ => by rw [hd, Nat.add_comm]]
    omega
end Gr
namespace K01
open Gr
/-- n divided by m, rounded up -/
theorem val_stp {m : Nat} (m0 : 0 < m) (n : Nat) : val [0] (stp m) n = (((n + m - 1) / m : Nat) : Int) := by
  have a := val_ge (t := [0]) (g := stp m) Nat.one_pos n
  rw [show [(0 : Int)].length - 1 + n = n from Nat.zero_add n] at a
  rw [a]
  show (0 : Int) + acc (dif (stp m)) n = _
  rw [Int.zero_add]
  clear a
  induction n with
  | zero =>
    show (0 : Int) = (((0 + m - 1) / m : Nat) : Int)
    rw [Nat.div_eq_of_lt (by omega)]
    rfl
  | succ n ih =>
    show acc (dif (stp m)) n + dif (stp m) n = _
    have hr : n % m < m := Nat.mod_lt _ m0
    have d : dif (stp m) n = if n % m = 0 then 1 else 0 := by
      unfold dif
      rw [stp_len]
      exact at_map_range hr
    rw [ih, d]
    have e := Nat.div_add_mod n m
    generalize n % m = r at e hr
    generalize n / m = q at e
    have ed : ∀ x c : Nat, m * c ≤ x → x < m * c + m → x / m = c := fun x c h1 h2 => by
      rw [Nat.div_eq_iff m0]
      have : c * m = m * c := Nat.mul_comm c m
      omega
    by_cases z : r = 0
    · rw [if_pos z, ed (n + m - 1) q (by omega) (by omega), ed (n + 1 + m - 1) (q + 1) (by rw [Nat.mul_succ]; omega) (by rw [Nat.mul_succ]; omega)]
      rfl
    · rw [if_neg z, ed (n + m - 1) (q + 1) (by rw [Nat.mul_succ]; omega) (by rw [Nat.mul_succ]; omega), ed (n + 1 + m - 1) (q + 1) (by rw [Nat.mul_succ]; omega) (by rw [Nat.mul_succ]; omega)]
      rfl
end K01
namespace K01
open PySem L2 Evl Gr ClX OpX StX StM OwX EqT
abbrev sIs : Stmt := top 42
section
variable {K : PySem.W.Frag} {σ : L2.St} {H : Hp} {ta tb tl : TE} {C : Addr} {f : Nat → Int}
theorem given_none {n : Nat} {v : Nat → V} : given n (fun _ => false) v = vI [] := by
  unfold given
  have f : ∀ l : List Nat, l.filter (fun _ => false) = [] := fun l => by induction l with | nil => rfl | cons a l ih => exact ih
  rw [f]
  rfl
/-- [j for j in a new list if ..], of which none holds -/
theorem el_noneN {t : TT} {j : Nat} {xs : List V} (hl : EvL tl σ H xs) (h4 : xs.length ≤ 40000) (hw : ∀ x, wipe ((wipe σ [j]).set j (some x)) [j] = wipe σ [j])
    (ht : ∀ (i : Nat) (x : V) H1, Ex H H1 → xs[i]? = some x → EvT t ((wipe σ [j]).set j (some x)) H1 false) : EvL (tLc (iList K tl) (gName j) t (tVar j) [j]) σ H (vI []) := by
  have c := el_lcNL (K := K) (σ := σ) (H := H) (t := t) (te := tVar j) (j := j) (vs := [j]) (fun _ => false) (fun _ => V.non) hl h4 hw ht (fun i x H1 e hi hf => by cases hf)
  rw [given_none] at c
  exact c
theorem el_nil : EvL (tLst tNil) σ H (vI []) := el_lst ea_nil (by decide)
theorem eqv_lists (xs ys : List Int) : PyData.eqv (.list (xs.map PyData.int)) (.list (ys.map PyData.int)) = decide (xs = ys) := by
  have := eqv_ints xs ys
  simpa [PyData.eqv] using this
theorem ev_eqL {xs ys : List Int} (ha : EvL ta σ H (vI xs)) (hb : EvL tb σ H (vI ys)) : Ev (tOp (rEqD K) ta tb) σ H (.bl (decide (xs = ys))) := fun H1 e Q q =>
  ha H1 e _ fun p H2 _ e2 hp => hb H2 (e.trans e2) _ fun r H3 _ e3 hr => ⟨.list (xs.map PyData.int), .list (ys.map PyData.int), .lst (sq_of (e3 _ _ hp)) (dpAll_ints xs), .lst (sq_of hr) (dpAll_ints ys), shaped_ints xs, shaped_ints ys, by rw [eqv_lists]; exact q H3 (e2.trans e3)⟩
theorem eqv_tups (xs ys : List Int) : PyData.eqv (.tuple (xs.map PyData.int)) (.tuple (ys.map PyData.int)) = decide (xs = ys) := by
  have := eqv_ints xs ys
  simpa [PyData.eqv] using this
theorem ev_neTu {xs ys : List Int} (ha : EvTu K ta σ H (vI xs)) (hb : EvTu K tb σ H (vI ys)) : Ev (tOp (rNeD K) ta tb) σ H (.bl (!decide (xs = ys))) := fun H1 e Q q =>
  ha H1 e _ fun p H2 e2 hp => hb H2 (e.trans e2) _ fun r H3 e3 hr => ⟨.tuple (xs.map PyData.int), .tuple (ys.map PyData.int), .tup (ex_t e3 hp) (dpAll_ints xs), .tup hr (dpAll_ints ys), shaped_tup xs, shaped_tup ys, by rw [eqv_tups]; exact q H3 (e2.trans e3)⟩
theorem ev_eqTuG {xs ys : List Int} (ha : EvTu K ta σ H (vI xs)) (hb : EvTu K tb σ H (vI ys)) : Ev (tOp (rEqD K) ta tb) σ H (.bl (decide (xs = ys))) := fun H1 e Q q =>
  ha H1 e _ fun p H2 e2 hp => hb H2 (e.trans e2) _ fun r H3 e3 hr => ⟨.tuple (xs.map PyData.int), .tuple (ys.map PyData.int), .tup (ex_t e3 hp) (dpAll_ints xs), .tup hr (dpAll_ints ys), shaped_tup xs, shaped_tup ys, by rw [eqv_tups]; exact q H3 (e2.trans e3)⟩
theorem ev_isGr (G : GCls K C) (I : GIsi K C) (ha : EvR K C ta σ H f) : Ev (tCB (rIsi K) (tCons ta (tCons (tC (.ref C)) tNil))) σ H (.bl true) := fun H1 e Q q =>
  ha H1 e _ fun o H2 e2 ⟨t, g, ho, _⟩ => ⟨.ref o, .ref C, .ref C, .ref C, true, rfl, .own C, gr_ty G I ho, I.own, q H2 e2⟩
theorem ev_lenL {p : Addr} {g : List Int} (h : Ev ta σ H (.ref p)) (hs : SqL K H p (vI g)) : Ev (tCB (fun xs H Q => ∃ p ys, xs = [V.ref p] ∧ (SqL K H p ys ∨ SqT K H p ys) ∧ Q (.int ys.length) H) (tCons ta tNil)) σ H (.int (g.length : Int)) := ev_is (ev_cb (ea_cons h ea_nil) (rc_lenQ (.inl hs))) (by rw [vI_len])
end
section
variable {P : Program} {w : World} {K : PySem.W.Frag} {mg : Str → Option Value} {base : Heap}
/-! ### _law_is -/
def spIs (K : PySem.W.Frag) (C : Addr) : Sp := fun vs H Q _ => ∃ (o a : Addr) (d : Nat) (t g : List Int), vs = [.ref o, .ref a, .int (d : Int)] ∧ GrF K C H o (val t g) ∧ Pl K H a t g ∧ t.length ≤ 5 ∧ g.length ≤ 4 ∧ d < 9 ∧ RetV (.bl true) H Q
abbrev nIs : List Str := ["_law_made", "_law_plain_here", "_law_more", "_law_many", "_law_n"]
theorem scIs : FnScope nIs ["_law_made", "_law_plain_here", "_law_more"] (defScope sIs) := ⟨rfl, rfl, rfl, by decide +kernel, rfl, by decide +kernel, by decide +kernel⟩
theorem ok_Is {C f fF fC : Addr} {mc : Value} {fd fdF fdC : FuncData} (F : Fun K "_law_is" "_law_is" sIs f fd) (T : GlbS mg) (TT : GlbT mg) (N : GName K mg C mc) (G : GCls K C) (I : GIsi K C) (CO : CallO K C fC) (MF : Meth K C "first" fF)
    (GF : FnOk P w K mg base CX0 3 fF fdF ["self", "n"] (spGFirst K C)) (bF : Binds K fdF ["self", "n"] []) (GC : FnOk P w K mg base CX0 3 fC fdC ["self", "n"] (spGCall K C)) (bC : Binds K fdC ["self", "n"] [])
    (LV : Gfn P w K mg base 1 "_law_value" ["_law_plain_here", "_law_n"] (spLV K)) (LW : Gfn P w K mg base 2 "_law_values" ["_law_plain_here", "_law_many"] (spLVs K)) :
    FnOk P w K mg base CX0 4 f fd ["_law_made", "_law_plain_here", "_law_more"] (spIs K C) := by
  obtain ⟨fV, fdV, GV, kV, bV, gV⟩ := LV
  obtain ⟨fW, fdW, GW, kW, bW, gW⟩ := LW
  refine F.ok scIs (fun vs H Q E h => ?_) (fun cdv A outer s H vs Q E hr h => ?_)
  · obtain ⟨o, a, d, t, g, rfl, _⟩ := h
    rfl
  · obtain ⟨o, a, d, t, g, rfl, hO, hA, t5, g4, d9, k⟩ := h
    have r2 := hr.mono (show 2 ≤ 3 by decide)
    have r1 := hr.mono (show 1 ≤ 3 by decide)
    refine ⟨_, pss_cons (ps_set (i := 3) scIs.nd rfl (.inl rfl) (pe_op op_add (pe_op op_add (pe_callB call_len_seq (by rfl) T.len PySem.boot_len (pa_cons (pe_ix ix_seq (pv 1) pe_int (fun _ _ => rfl)) pa_nil))
        (pe_op op_mul pe_int (pe_callB call_len_seq (by rfl) T.len PySem.boot_len (pa_cons (pe_ix ix_seq (pv 1) pe_int (fun _ _ => rfl)) pa_nil)))) pe_int))
      (pss_cons (ps_if (PW.pt (pw_or (pt_cmpR (op_neD hr.units) (pe_meth (pv 0) G.cls MF GF hr bF .nil pass0 (pa_cons (pv 3) pa_nil)) (pe_tupleOf (by rfl) T.tuple (pe_call GW r2 (by rfl) gW kW bW .nil pass0 (pa_cons (pv 1) (pa_cons (pv 3) pa_nil)))) (nomark _))
          (pw_or1 (pt_not (pt_val (pe_callB call_isi (by rfl) TT.inst (by decide +kernel) (pa_cons (pv 0) (pa_cons (pe_glob (v := .ref C) rfl N.g rfl) pa_nil)))))))) (pss_one ps_no) pss_nil)
      (pss_one (ps_ret (pe_cmpR (op_eqD hr.units) (pe_lc (own := [("_law_n", 4)]) (g := gName 4) rfl scIs.nd (pi_list (pe_lst (pa_cons (pe_op op_pow pe_int pe_int) (pa_cons (pe_op op_add (pe_op op_pow pe_int pe_int) (pv 2)) (pa_cons (pe_op op_add pe_int (pv 2)) (pa_cons (pe_op op_add (pv 3) (pv 2)) pa_nil))))))
          (blkOk_by (own := [("_law_n", 4)]) (N := nIs) (sc := defScope sIs) (by decide +kernel))
          (fun _ _ _ _ _ => pg_name (i := 4) scIs.nd rfl (Or.inl rfl)) (fun _ _ _ _ _ => pts_one (pt_cmpR op_ne (show PE _ _ (tCallO (cxOf CX0 P w K mg base nIs "_law_is" (defScope sIs) f cdv A outer s H E).nox C (spGCall K C) E0 (tVar 0) (tCons (tVar 4) tNil)) from pe_callO (pv 0) CO (fnR0 GC bC) hr pass0 (pa_cons (pv 4) pa_nil)) (pe_call GV r1 (by rfl) gV kV bV .nil pass0 (pa_cons (pv 1) (pa_cons (pv 4) pa_nil))) (nomark _))) (fun _ _ _ _ _ => pv 4))
        (pe_lst pa_nil) (nomark _))))), ?_⟩
    obtain ⟨p, q, h1, h2, h3, t0, t1, g0, g1, pt, sm⟩ := id hA
    have q0 : ∀ {J' : Hp} {σ' : L2.St}, Ex H J' → σ'[1]? = some (some (.ref a)) → Ev (tOp (rIx K) (tVar 1) (tC (.int 0))) σ' J' (.ref p) := fun e h0 => ev_op (ev_var h0) ev_c (rv_ix (.inr (ex_t e h1)) rfl)
    have q1 : ∀ {J' : Hp} {σ' : L2.St}, Ex H J' → σ'[1]? = some (some (.ref a)) → Ev (tOp (rIx K) (tVar 1) (tC (.int 1))) σ' J' (.ref q) := fun e h0 => ev_op (ev_var h0) ev_c (rv_ix (.inr (ex_t e h1)) rfl)
    obtain ⟨m, hm⟩ : ∃ m, m = t.length + 2 * g.length + 8 := ⟨_, rfl⟩
    refine q_asg (v := .int (m : Int)) (ev_is (ev_op (ev_op (ev_lenL (q0 (Ex.refl H) rfl) h2) (ev_op ev_c (ev_lenL (q1 (Ex.refl H) rfl) h3) (rv_I (.inl ⟨by decide, by decide⟩))) rv_I0) ev_c rv_I0) (by congr 1; omega)) fun H1 e1 => ?_
    have lw : EvL (tCall (spLVs K) [] E0 (tCons (tVar 1) (tCons (tVar 3) tNil))) [some (.ref o), some (.ref a), some (.int (d : Int)), some (.int (m : Int)), none] H1 (vI (pT (val t g) m)) := fun J e Q q =>
      ⟨_, rfl, _, rfl, a, m, t, g, rfl, hA.mono (e1.trans e), by omega, fun r H2 hr2 e2 h2 => q r H2 hr2 e2 h2⟩
    show tSeq _ _ _ [some (.ref o), some (.ref a), some (.int (d : Int)), some (.int (m : Int)), none] H1
    refine q_when (b := false) (et_is (et_or (et_test (ev_neTu (etu_first (n := m) (er_var rfl (hO.mono e1)) (ev_var rfl) (by omega)) (etu_tuple lw))) fun _ => et_not (et_B (ev_isGr G I (er_var rfl (hO.mono e1))))) (by rw [decide_eq_true rfl]; rfl)) (fun hb => absurd hb (by decide)) (fun _ H2 e2 => ?_)
    have E2 := e1.trans e2
    show tRet _ _ [some (.ref o), some (.ref a), some (.int (d : Int)), some (.int (m : Int)), none] H2
    have pw : ∀ {x y : Int} {σ : L2.St} {H1 : Hp}, CPow x y → Ev (tOp (L2.rI CPow fun i j => .int (i ^ j.toNat)) (tC (.int x)) (tC (.int y))) σ H1 (.int (x ^ y.toNat)) := fun h => ev_op ev_c ev_c (rv_I h)
    have xs : EvL (tLst (tCons (tOp (L2.rI CPow fun i j => .int (i ^ j.toNat)) (tC (.int 10)) (tC (.int 40))) (tCons (tOp (L2.rI0 fun i j => .int (i + j)) (tOp (L2.rI CPow fun i j => .int (i ^ j.toNat)) (tC (.int 10)) (tC (.int 30))) (tVar 2)) (tCons (tOp (L2.rI0 fun i j => .int (i + j)) (tC (.int 1000)) (tVar 2)) (tCons (tOp (L2.rI0 fun i j => .int (i + j)) (tVar 3) (tVar 2)) tNil)))))
        [some (.ref o), some (.ref a), some (.int (d : Int)), some (.int (m : Int)), none] H2 ([((10 ^ 40 : Nat) : Int), ((10 ^ 30 + d : Nat) : Int), ((1000 + d : Nat) : Int), ((m + d : Nat) : Int)].map V.int) :=
      el_lst (ea_cons (pw ⟨by decide, by decide, by decide⟩) (ea_cons (ev_op (pw ⟨by decide, by decide, by decide⟩) (ev_var rfl) rv_I0) (ea_cons (ev_op ev_c (ev_var rfl) rv_I0) (ea_cons (ev_op (ev_var rfl) (ev_var rfl) rv_I0) ea_nil)))) (by show 4 ≤ 100000; decide)
    refine s_ret (ev_is (ev_eqL (xs := []) (ys := []) (el_noneN xs (by show 4 ≤ 40000; decide) (fun _ => rfl) fun i x H3 e3 hx => ?_) el_nil) (by rw [decide_eq_true rfl])) fun H3 e3 => k H3 (E2.trans e3)
    obtain ⟨n, rfl, hn⟩ : ∃ n : Nat, x = .int (n : Int) ∧ n ≤ 10 ^ 40 := by
      have hi : i < 4 := (List.getElem?_eq_some_iff.mp hx).1
      have : i = 0 ∨ i = 1 ∨ i = 2 ∨ i = 3 := by omega
      rcases this with rfl | rfl | rfl | rfl
      · exact ⟨_, (Option.some.inj hx).symm, Nat.le_refl _⟩
      · exact ⟨_, (Option.some.inj hx).symm, by omega⟩
      · exact ⟨_, (Option.some.inj hx).symm, by omega⟩
      · exact ⟨_, (Option.some.inj hx).symm, by omega⟩
    exact et_is (et_test (ev_op (ev_callG (er_var rfl (hO.mono (E2.trans e3))) (ev_var rfl) (by exact_mod_cast hn)) (ev_call (ea_cons (ev_var rfl) (ea_cons (ev_var rfl) ea_nil)) (spv_LV (hA.mono (E2.trans e3)))) (rv_ne rfl))) (by rw [decide_eq_true rfl]; rfl)
end
end K01
namespace Gr
/-- the numbers below n of which something holds -/
def which (n : Nat) (p : Nat → Bool) : List Nat := (List.range n).filter p
theorem which_nil {n : Nat} {p : Nat → Bool} : which n p = [] ↔ ∀ k, k < n → p k = false := by
  unfold which
  rw [List.filter_eq_nil_iff]
  exact ⟨fun h k hk => by have := h k (List.mem_range.mpr hk); cases z : p k; rfl; exact absurd z this, fun h k hk z => by rw [h k (List.mem_range.mp hk)] at z; cases z⟩
theorem which_first {n : Nat} {p : Nat → Bool} {m : Nat} (hm : m < n) (hp : p m = true) (h : ∀ k, k < m → p k = false) : ∃ r, which n p = m :: r := by
  obtain ⟨d, rfl⟩ : ∃ d, n = m + (d + 1) := ⟨n - m - 1, by omega⟩
  unfold which
  rw [List.range_add, List.filter_append]
  have z : (List.range m).filter p = [] := which_nil.mpr h
  rw [z, List.nil_append, List.range_succ_eq_map, List.map_cons, List.filter_cons, if_pos (by rw [Nat.add_zero]; exact hp)]
  exact ⟨_, rfl⟩
/-- the law's own word for a number of gains that comes round -/
def rnd (g : List Int) (n : Nat) : Bool := decide (g.length % n = 0) && decide (rep (g.length / n) (g.take n) = g)
theorem rnd_least {g : List Int} {n : Nat} (g0 : 0 < g.length) (h : Least (dif g) n) : n ≤ g.length ∧ rnd g n = true ∧ ∀ k, 0 < k → k < n → rnd g k = false := by
  obtain ⟨d, le⟩ := h.dvd g0
  refine ⟨le, ?_, fun k k0 kn => ?_⟩
  · unfold rnd
    rw [decide_eq_true (Nat.mod_eq_zero_of_dvd d), decide_eq_true ((rep_take g0 h.pos d).mpr h.pd)]
    rfl
  · unfold rnd
    rw [Bool.and_eq_false_iff]
    by_cases z : g.length % k = 0
    · right
      refine decide_eq_false fun e => ?_
      have := h.le k k0 ((rep_take g0 k0 (Nat.dvd_of_mod_eq_zero z)).mp e)
      omega
    · left
      exact decide_eq_false z
end Gr
namespace K01
open PySem L2 Evl Gr ClX OpX StX StM OwX EqT
section
variable {K : PySem.W.Frag} {σ : L2.St} {H : Hp} {ta tb tl te : TE}
theorem el_listL {p : Addr} {xs : List V} (h : Ev te σ H (.ref p)) (hs : SqL K H p xs) : EvL (tCB (rListS K) (tCons te tNil)) σ H xs := fun H1 e Q q =>
  h H1 e _ fun H2 e2 => ⟨p, xs, rfl, .inl (ex_l (e.trans e2) hs), fun l hl => q l _ (fresh_back e2 hl) (e2.trans (Ex.new hl)) upd_same⟩
theorem ev_at0 {x : Int} {r : List Int} (h : EvL ta σ H (vI (x :: r))) : Ev (tOp (rIxL K) ta (tC (.int 0))) σ H (.int x) := fun H1 e Q q =>
  h H1 e _ fun p H2 _ e2 hp => (rv_ixL (K := K) (v := V.int x) (i := 0) (sq_of hp) (by exact atI_vI (g := x :: r) (i := 0) (Nat.succ_pos _))) H2 (Ex.refl H2) Q fun H3 e3 => q H3 (e2.trans e3)
theorem vI_rep {g : List Int} {c : Nat} : (List.replicate c (vI g)).flatten = vI (rep c g) := by
  unfold rep vI
  rw [List.map_flatten, List.map_replicate]
theorem el_rep {g : List Int} {c : Nat} (h : EvL ta σ H (vI g)) (hc : Ev tb σ H (.int (c : Int))) (hz : g.length * c ≤ 100000) (hc2 : c ≤ 100000) : EvL (tOp rRep ta tb) σ H (vI (rep c g)) := fun H1 e Q q =>
  h H1 e _ fun p H2 _ e2 hp => hc H2 (e.trans e2) _ fun H3 e3 => ⟨p, (c : Int), vI g, rfl, rfl, e3 _ _ hp, by omega, by omega, by rw [vI_len, Int.toNat_natCast]; exact sz_of hz, fun a ha => by
    rw [Int.toNat_natCast, vI_rep]
    exact q a _ (fresh_back (e2.trans e3) ha) ((e2.trans e3).trans (Ex.new ha)) upd_same⟩
theorem etu_tupleP {p : Addr} {xs : List V} (h : Ev te σ H (.ref p)) (hs : SqL K H p xs) : EvTu K (tThen te (kTup K)) σ H xs := fun H1 e Q q =>
  h H1 e _ fun H2 e2 => .inl ⟨p, xs, rfl, ex_l (e.trans e2) hs, fun r hr => q r _ (e2.trans (Ex.new hr)) (st_of upd_same)⟩
/-- i, j = (two new lists) -/
theorem s_asg2 {i j : Nat} {xs ys : List V} {D : Ends} (ha : EvL ta σ H xs) (hb : EvL tb σ H ys) (k : ∀ p q H1, H p = none → H q = none → Ex H H1 → H1 p = some (.lst xs) → H1 q = some (.lst ys) → D.nx ((σ.set i (some (.ref p))).set j (some (.ref q))) H1) :
    tAsg (tTup (tCons ta (tCons tb tNil))) (gTup K 2 (gCons (gName i) (gCons (gName j) gNil))) D σ H :=
  ha H (Ex.refl H) _ fun p H1 hp e1 h1 => hb H1 e1 _ fun q H2 hq e2 h2 => ⟨by show 2 ≤ sizeLine; decide, fun l hl => ⟨l, _, rfl, st_of upd_same, rfl, _, _, rfl, _, _, rfl, rfl, k p q _ hp (fresh_back e1 hq) ((e1.trans e2).trans (Ex.new hl)) ((Ex.new hl) _ _ (e2 _ _ h1)) ((Ex.new hl) _ _ h2)⟩⟩
theorem q_asg2 {i j : Nat} {xs ys : List V} {tz : TS} {D : Ends} (ha : EvL ta σ H xs) (hb : EvL tb σ H ys) (k : ∀ p q H1, H p = none → H q = none → Ex H H1 → H1 p = some (.lst xs) → H1 q = some (.lst ys) → tz D ((σ.set i (some (.ref p))).set j (some (.ref q))) H1) :
    tSeq (tAsg (tTup (tCons ta (tCons tb tNil))) (gTup K 2 (gCons (gName i) (gCons (gName j) gNil)))) tz D σ H := s_asg2 (D := { D with nx := tz D }) ha hb k
/-- xs[:-1], xs[-1:] -/
theorem cut_init {g : List Int} (h : 0 < g.length) : cutV (vI g) none (some (-1)) = vI (g.take (g.length - 1)) := by
  have e : HT.sIx (vI g).length (vI g).length (some (-1)) = g.length - 1 := by
    rw [vI_len]
    show (if (-1 : Int) < 0 then ((-1 : Int) + (g.length : Int)).toNat else min (-1 : Int).toNat g.length) = g.length - 1
    rw [if_pos (by decide)]
    omega
  unfold cutV
  rw [e, show HT.sIx (vI g).length 0 none = 0 from rfl, List.drop_zero, Nat.sub_zero]
  unfold vI
  rw [List.map_take]
theorem cut_last {g : List Int} (h : 0 < g.length) : cutV (vI g) (some (-1)) none = vI [lst g] := by
  have e : HT.sIx (vI g).length 0 (some (-1)) = g.length - 1 := by
    rw [vI_len]
    show (if (-1 : Int) < 0 then ((-1 : Int) + (g.length : Int)).toNat else min (-1 : Int).toNat g.length) = g.length - 1
    rw [if_pos (by decide)]
    omega
  unfold cutV
  rw [e, HT.sIx_none, vI_len, show g.length - (g.length - 1) = 1 by omega]
  have z : (vI g).drop (g.length - 1) = [V.int (lst g)] := by
    refine List.ext_getElem? fun i => ?_
    rw [List.getElem?_drop]
    cases i with
    | zero => rw [Nat.add_zero, vI_get (by omega)]; rfl
    | succ i => rw [List.getElem?_eq_none (by rw [vI_len]; omega)]; rfl
  rw [z]
  rfl
theorem el_catN {xs ys : List Int} (ha : EvL ta σ H (vI xs)) (hb : EvL tb σ H (vI ys)) (hz : xs.length + ys.length ≤ 100000) : EvL (tOp rCat ta tb) σ H (vI (xs ++ ys)) := fun H1 e Q k =>
  ha H1 e _ fun p H2 _ e2 hp => hb H2 (e.trans e2) _ fun r H3 _ e3 hr => ⟨p, r, vI xs, vI ys, rfl, rfl, e3 _ _ hp, hr, by rw [vI_len, vI_len]; exact sz_of hz, fun a ha => k a _ (fresh_back (e2.trans e3) ha) ((e2.trans e3).trans (Ex.new ha)) (by rw [upd_same]; unfold vI; rw [List.map_append])⟩
theorem ev_eqLP {p : Addr} {xs ys : List Int} (ha : EvL ta σ H (vI xs)) (hb : Ev tb σ H (.ref p)) (hp : SqL K H p (vI ys)) : Ev (tOp (rEqD K) ta tb) σ H (.bl (decide (xs = ys))) := fun H1 e Q q =>
  ha H1 e _ fun r H2 _ e2 hr => hb H2 (e.trans e2) _ fun H3 e3 => ⟨.list (xs.map PyData.int), .list (ys.map PyData.int), .lst (sq_of (e3 _ _ hr)) (dpAll_ints xs), .lst (ex_l (e.trans (e2.trans e3)) hp) (dpAll_ints ys), shaped_ints xs, shaped_ints ys, by rw [eqv_lists]; exact q H3 (e2.trans e3)⟩
end
abbrev sNo : Stmt := top 43
section
variable {P : Program} {w : World} {K : PySem.W.Frag} {mg : Str → Option Value} {base : Heap}
/-! ### _law_normal -/
def spNo (K : PySem.W.Frag) : Sp := fun vs H Q _ => ∃ (a : Addr) (t g : List Int), vs = [.ref a] ∧ Pl K H a t g ∧ RetNF K t g H Q
abbrev nNo : List Str := ["_law_plain_here", "_law_told", "_law_gains", "_law_many", "_law_n"]
theorem scNo : FnScope nNo ["_law_plain_here"] (defScope sNo) := ⟨rfl, rfl, rfl, by decide +kernel, rfl, by decide +kernel, by decide +kernel⟩
theorem ok_No {f : Addr} {fd : FuncData} (F : Fun K "_law_normal" "_law_normal" sNo f fd) (T : GlbS mg) (int_ : mg "int" = none) : FnOk P w K mg base CX0 1 f fd ["_law_plain_here"] (spNo K) := by
  refine F.ok scNo (fun vs H Q E h => ?_) (fun cdv A outer s H vs Q E hr h => ?_)
  · obtain ⟨a, t, g, rfl, _⟩ := h
    rfl
  · obtain ⟨a, t, g, rfl, hA, k⟩ := h
    refine ⟨_, pss_cons (ps_asg (pe_tup (pa_cons (pe_callTy call_list_of (by rfl) T.list (by decide +kernel) (pa_cons (pe_ix ix_seq (pv 0) pe_int (fun _ _ => rfl)) pa_nil)) (pa_cons (pe_callTy call_list_of (by rfl) T.list (by decide +kernel) (pa_cons (pe_ix ix_seq (pv 0) pe_int (fun _ _ => rfl)) pa_nil)) pa_nil)))
        (pg_tup rfl (pgs_cons (pg_name (i := 1) scNo.nd rfl (.inl rfl)) (pgs_cons (pg_name (i := 2) scNo.nd rfl (.inr rfl)) pgs_nil))))
      (pss_cons (ps_set (i := 3) scNo.nd rfl (.inl rfl) (pe_ix ix_list (pe_lc (own := [("_law_n", 4)]) (g := gName 4) rfl scNo.nd (pi_range2 (by rfl) T.range (pa_cons pe_int (pa_cons (pe_op op_add (pe_callB call_len_seq (by rfl) T.len PySem.boot_len (pa_cons (pv 2) pa_nil)) pe_int) pa_nil)))
          (blkOk_by (own := [("_law_n", 4)]) (N := nNo) (sc := defScope sNo) (by decide +kernel)) (fun _ _ _ _ _ => pg_name (i := 4) scNo.nd rfl (Or.inl rfl))
          (fun _ _ _ _ _ => pts_one (PW.pt (pw_and (pt_cmpR op_eq (pe_op op_mod (pe_callTy call_int1 (by rfl) int_ (by decide +kernel) (pa_cons (pe_callB (show CallR _ _ (fun xs H Q => ∃ p ys, xs = [V.ref p] ∧ (SqL K H p ys ∨ SqT K H p ys) ∧ Q (.int ys.length) H) from call_len_seq) (by rfl) T.len PySem.boot_len (pa_cons (pv 2) pa_nil)) pa_nil)) (pv 4)) pe_int (nomark _))
            (pw_and1 (pt_cmpR (show OpR _ _ (rEqD K) from op_eqD hr.units) (pe_op op_rep (pe_slice (show SlR _ (rSlL K) from sl_list) (pv 2) po_none (po_some (pv 4))) (pe_callTy call_int1 (by rfl) int_ (by decide +kernel) (pa_cons (pe_op op_fdiv (pe_callB (show CallR _ _ (fun xs H Q => ∃ p ys, xs = [V.ref p] ∧ (SqL K H p ys ∨ SqT K H p ys) ∧ Q (.int ys.length) H) from call_len_seq) (by rfl) T.len PySem.boot_len (pa_cons (pv 2) pa_nil)) (pv 4)) pa_nil))) (pv 2) (nomark _))))))
          (fun _ _ _ _ _ => pv 4)) pe_int (fun _ _ => rfl)))
      (pss_cons (ps_set (i := 2) scNo.nd rfl (.inr rfl) (pe_slice sl_list (pv 2) po_none (po_some (pv 3))))
      (pss_cons (ps_while PassesOwn.never (PW.pt (pw_and (pt_cmpR op_gt (pe_callB call_len_seq (by rfl) T.len PySem.boot_len (pa_cons (pv 1) pa_nil)) pe_int (nomark _))
          (pw_and1 (pt_cmpR op_eq (pe_op op_sub (pe_ix ix_list (pv 1) (pe_un un_neg pe_int) (fun _ _ => rfl)) (pe_ix ix_list (pv 1) (pe_un un_neg pe_int) (fun _ _ => rfl))) (pe_ix ix_list (pv 2) (pe_un un_neg pe_int) (fun _ _ => rfl)) (nomark _)))))
        (pss_one (ps_asg (pe_tup (pa_cons (pe_slice sl_list (pv 1) po_none (po_some (pe_un un_neg pe_int))) (pa_cons (pe_op op_cat (pe_slice sl_list (pv 2) (po_some (pe_un un_neg pe_int)) po_none) (pe_slice sl_list (pv 2) po_none (po_some (pe_un un_neg pe_int)))) pa_nil)))
          (pg_tup rfl (pgs_cons (pg_name (i := 1) scNo.nd rfl (.inl rfl)) (pgs_cons (pg_name (i := 2) scNo.nd rfl (.inr rfl)) pgs_nil))))))
      (pss_one (ps_ret (pe_tup (pa_cons (pe_tupleOf (by rfl) T.tuple (pv 1)) (pa_cons (pe_tupleOf (by rfl) T.tuple (pv 2)) pa_nil)))))))), ?_⟩
    obtain ⟨p, q, h1, h2, h3, t0, t1, g0, g1, pt, sm⟩ := id hA
    obtain ⟨n, ln⟩ := ex_least g.length g0 (dif_pd (g := g))
    obtain ⟨nl, rn, fn⟩ := rnd_least g0 ln
    obtain ⟨dn, _⟩ := ln.dvd g0
    have n0 := ln.pos
    refine q_asg2 (el_listL (ev_op (ev_var rfl) ev_c (rv_ix (.inr h1) rfl)) h2) (el_listL (ev_op (ev_var rfl) ev_c (rv_ix (.inr h1) rfl)) h3) fun pa pb H1 _ _ e1 ha hb => ?_
    show tSeq _ _ _ [some (.ref a), some (.ref pa), some (.ref pb), none, none] H1
    have lenG : ∀ {σ' : L2.St} {J' : Hp}, Ex H1 J' → σ'[2]? = some (some (.ref pb)) → Ev (tCB (fun xs H Q => ∃ p ys, xs = [V.ref p] ∧ (SqL K H p ys ∨ SqT K H p ys) ∧ Q (.int ys.length) H) (tCons (tVar 2) tNil)) σ' J' (.int (g.length : Int)) := fun e h0 => ev_lenL (ev_var h0) (sq_of (e _ _ hb))
    have c1 := el_lcR2 (σ := [some (.ref a), some (.ref pa), some (.ref pb), none, none]) (H := H1) (j := 4) (vs := [4]) (lo := 1) (n := (g.length : Int) + 1) (te := tVar 4)
      (t := tAnd (tTest (tOp rEq (tOp (L2.rI (fun _ j => 0 < j) fun i j => .int (i % j)) (tCB (fun xs H Q => (∃ i, xs = [V.int i] ∧ Q (.int i) H) ∨ ∃ k, xs = [V.bl k] ∧ Q (.int (if k then 1 else 0)) H) (tCons (tCB (fun xs H Q => ∃ p ys, xs = [V.ref p] ∧ (SqL K H p ys ∨ SqT K H p ys) ∧ Q (.int ys.length) H) (tCons (tVar 2) tNil)) tNil)) (tVar 4)) (tC (.int 0))))
        (tTest (tOp (rEqD K) (tOp rRep (tSl (rSlL K) (tVar 2) tNoPart (tPart (tVar 4))) (tCB (fun xs H Q => (∃ i, xs = [V.int i] ∧ Q (.int i) H) ∨ ∃ k, xs = [V.bl k] ∧ Q (.int (if k then 1 else 0)) H) (tCons (tOp (L2.rI CDiv fun i j => .int (i / j)) (tCB (fun xs H Q => ∃ p ys, xs = [V.ref p] ∧ (SqL K H p ys ∨ SqT K H p ys) ∧ Q (.int ys.length) H) (tCons (tVar 2) tNil)) (tVar 4)) tNil))) (tVar 2))))
      (fun i => rnd g (i + 1)) (fun i => V.int (1 + (i : Int)))
      (ta := tCons (tC (.int 1)) (tCons (tOp (L2.rI0 fun i j => .int (i + j)) (tCB (fun xs H Q => ∃ p ys, xs = [V.ref p] ∧ (SqL K H p ys ∨ SqT K H p ys) ∧ Q (.int ys.length) H) (tCons (tVar 2) tNil)) (tC (.int 1))) tNil))
      (ea_cons ev_c (ea_cons (ev_op (lenG (Ex.refl H1) rfl) ev_c rv_I0) ea_nil)) (by omega) (fun _ => rfl) (fun i H2 e2 hi => ?_) (fun i H2 e2 hi _ => ev_var rfl)
    rotate_left
    · have il : i + 1 ≤ g.length := by omega
      have ei : (1 : Int) + (i : Int) = ((i + 1 : Nat) : Int) := by omega
      show EvT _ [some (.ref a), some (.ref pa), some (.ref pb), none, some (.int (1 + (i : Int)))] H2 _
      rw [ei]
      unfold rnd
      refine et_and (et_test (ev_is (ev_op (ev_op (ev_cb (ea_cons (lenG e2 rfl) ea_nil) rc_int) (ev_var rfl) (rv_I (by omega))) ev_c (rv_eq rfl)) ?_)) fun hd => et_test ?_
      · rw [vint_inj]
        congr 1
        rw [decide_eq_decide]
        omega
      · have sl := el_sl (K := K) (σ := [some (.ref a), some (.ref pa), some (.ref pb), none, some (.int ((i + 1 : Nat) : Int))]) (H := H2) (te := tVar 2) (tl := tNoPart) (th := tPart (tVar 4)) (lo := none) (hi := some ((i + 1 : Nat) : Int)) (ev_var rfl) eo_none (eo_some (ev_var rfl)) (sq_of (e2 _ _ hb))
        rw [cut_take il] at sl
        have lq : g.length / (i + 1) ≤ g.length := Nat.div_le_self _ _
        have lt : (g.take (i + 1)).length = i + 1 := by rw [List.length_take]; omega
        refine ev_eqLP (el_rep sl (ev_is (ev_cb (ea_cons (ev_op (lenG e2 rfl) (ev_var rfl) (rv_I ⟨by omega, by omega⟩)) ea_nil) rc_int) (by congr 1)) ?_ (by omega)) (ev_var rfl) (sq_of (e2 _ _ hb))
        have := Nat.div_mul_le_self g.length (i + 1)
        rw [lt, Nat.mul_comm]
        omega
    have c2 : given ((g.length : Int) + 1 - 1).toNat (fun i => rnd g (i + 1)) (fun i => V.int (1 + (i : Int))) = vI ((which g.length fun i => rnd g (i + 1)).map fun i : Nat => (1 : Int) + (i : Int)) := by
      unfold given which vI
      rw [List.map_map, show ((g.length : Int) + 1 - 1).toNat = g.length by omega]
      rfl
    rw [c2] at c1
    obtain ⟨r, hw⟩ := which_first (n := g.length) (p := fun i => rnd g (i + 1)) (m := n - 1) (by omega) (by rw [show n - 1 + 1 = n by omega]; exact rn) (fun k hk => fn (k + 1) (by omega) (by omega))
    rw [hw, List.map_cons] at c1
    refine q_asg (v := .int (n : Int)) (ev_is (ev_at0 c1) (by congr 1; omega)) fun H2 e2 => ?_
    have E2 := e1.trans e2
    show tSeq _ _ _ [some (.ref a), some (.ref pa), some (.ref pb), some (.int (n : Int)), none] H2
    have sl := el_sl (K := K) (σ := [some (.ref a), some (.ref pa), some (.ref pb), some (.int (n : Int)), none]) (H := H2) (te := tVar 2) (tl := tNoPart) (th := tPart (tVar 3)) (lo := none) (hi := some (n : Int)) (ev_var rfl) eo_none (eo_some (ev_var rfl)) (sq_of (e2 _ _ hb))
    rw [cut_take nl] at sl
    refine q_asgL sl fun pc H3 _ e3 hc => ?_
    have E3 := E2.trans e3
    have fl : (g.take n).length = n := by rw [List.length_take]; omega
    have fg : 0 < (g.take n).length := by omega
    have fd' : dif (g.take n) = dif g := dif_take ln.pd n0 nl
    have ll : Least (dif (g.take n)) (g.take n).length := by rw [fd', fl]; exact ln
    show tSeq _ _ _ [some (.ref a), some (.ref pa), some (.ref pc), some (.int (n : Int)), none] H3
    refine q_while (fun m σ' H' => ∃ (s : Nat) (x y : Addr), m = t.length - s ∧ σ' = [some (.ref a), some (.ref x), some (.ref y), some (.int (n : Int)), none] ∧ Ex H H' ∧ H' x = some (.lst (vI (cutT t s))) ∧ H' y = some (.lst (vI (cutG (g.take n) s))) ∧ Spr t (g.take n) s) t.length
      ⟨0, pa, pc, rfl, rfl, E3, by rw [cutT_zero]; exact e3 _ _ (e2 _ _ ha), by rw [cutG_zero fg]; exact hc, spr_zero t0⟩ ?_
    rintro m σ' H4 ⟨s, x, y, rfl, rfl, E4, hx, hy, sp⟩
    have hs := sp.1
    have lT : (cutT t s).length = t.length - s := cutT_len hs
    have lG : (cutG (g.take n) s).length = n := by rw [cutG_len, fl]
    have a1 : 1 < (cutT t s).length → at' (cutT t s) ((cutT t s).length - 1) - at' (cutT t s) ((cutT t s).length - 2) = at' t (t.length - 1 - s) - at' t (t.length - 1 - s - 1) := fun h => by
      rw [lT]
      unfold cutT
      rw [at_take (by omega), at_take (by omega), show t.length - s - 1 = t.length - 1 - s by omega, show t.length - s - 2 = t.length - 1 - s - 1 by omega]
    refine ⟨_, et_and (et_test (ev_op (ev_lenL (ev_var rfl) (sq_of hx)) ev_c rv_I0)) (fun hlt => et_test (ev_op (ev_op (ev_op (y := .int (-1)) (z := .int (at' (cutT t s) ((cutT t s).length - 1))) (ev_var rfl) (ev_un ev_c ru_neg) (rv_ixL (sq_of hx) (atI_vlast (by have := of_decide_eq_true hlt; omega))))
        (ev_op (y := .int (-2)) (z := .int (at' (cutT t s) ((cutT t s).length - 2))) (ev_var rfl) (ev_un ev_c ru_neg) (rv_ixL (sq_of hx) (by
          have := atI_neg (g := cutT t s) (r := 1) (by have := of_decide_eq_true hlt; omega)
          exact this))) rv_I0)
        (ev_op (y := .int (-1)) (z := .int (lst (cutG (g.take n) s))) (ev_var rfl) (ev_un ev_c ru_neg) (rv_ixL (sq_of hy) (atI_vlast (by omega)))) (rv_eq rfl))), fun ht H5 e5 => ?_, fun ht H5 e5 => ?_⟩
    · obtain ⟨z1, z2⟩ := Bool.and_eq_true_iff.mp ht
      rw [vint_inj] at z2
      have z1' := of_decide_eq_true z1
      have z2' := of_decide_eq_true z2
      have h1' : 1 < (cutT t s).length := by omega
      rw [a1 h1', lst_cutG fg] at z2'
      have E5 := E4.trans e5
      have hx5 := e5 _ _ hx
      have hy5 := e5 _ _ hy
      refine ⟨fun σ' H' => ∃ x y : Addr, σ' = [some (.ref a), some (.ref x), some (.ref y), some (.int (n : Int)), none] ∧ Ex H H' ∧ H' x = some (.lst (vI (cutT t (s + 1)))) ∧ H' y = some (.lst (vI (cutG (g.take n) (s + 1)))),
        fun σ2 H6 ⟨x2, y2, i1, i2, i3, i4⟩ => ⟨t.length - (s + 1), by omega, s + 1, x2, y2, rfl, i1, i2, i3, i4, spr_step sp (by omega) z2'⟩, ?_⟩
      have s1 := el_sl (K := K) (σ := [some (.ref a), some (.ref x), some (.ref y), some (.int (n : Int)), none]) (H := H5) (te := tVar 1) (tl := tNoPart) (th := tPart (tUn (rU fun i => .int (-i)) (tC (.int 1)))) (lo := none) (hi := some (-1)) (ev_var rfl) eo_none (eo_some (ev_un ev_c ru_neg)) (sq_of hx5)
      have s2 := el_sl (K := K) (σ := [some (.ref a), some (.ref x), some (.ref y), some (.int (n : Int)), none]) (H := H5) (te := tVar 2) (tl := tPart (tUn (rU fun i => .int (-i)) (tC (.int 1)))) (th := tNoPart) (lo := some (-1)) (hi := none) (ev_var rfl) (eo_some (ev_un ev_c ru_neg)) eo_none (sq_of hy5)
      have s3 := el_sl (K := K) (σ := [some (.ref a), some (.ref x), some (.ref y), some (.int (n : Int)), none]) (H := H5) (te := tVar 2) (tl := tNoPart) (th := tPart (tUn (rU fun i => .int (-i)) (tC (.int 1)))) (lo := none) (hi := some (-1)) (ev_var rfl) eo_none (eo_some (ev_un ev_c ru_neg)) (sq_of hy5)
      rw [cut_init (by omega), ← cutT_succ (by omega)] at s1
      rw [cut_last (by omega)] at s2
      rw [cut_init (by omega)] at s3
      have s4 := el_catN s2 s3 (by rw [List.length_take, lG]; show 1 + _ ≤ _; omega)
      have e6 : [lst (cutG (g.take n) s)] ++ (cutG (g.take n) s).take ((cutG (g.take n) s).length - 1) = cutG (g.take n) (s + 1) := by
        rw [cutG_succ fg, cutG_len]
        rfl
      rw [e6] at s4
      exact s_asg2 s1 s4 fun x2 y2 H6 _ _ e7 i3 i4 => ⟨x2, y2, rfl, E5.trans e7, i3, i4⟩
    · have fin : s = t.length - 1 ∨ at' t (t.length - 1 - s) - at' t (t.length - 1 - s - 1) ≠ back (g.take n) s := by
        rcases Nat.lt_or_ge 1 (cutT t s).length with z | z
        · right
          rw [decide_eq_true (by omega : ((cutT t s).length : Int) > 1), Bool.true_and, vint_inj, a1 z, lst_cutG fg] at ht
          exact of_decide_eq_false ht
        · left
          omega
      have E5 := E4.trans e5
      show tRet _ _ [some (.ref a), some (.ref x), some (.ref y), some (.int (n : Int)), none] H5
      have u1 := etu_tupleP (K := K) (σ := [some (.ref a), some (.ref x), some (.ref y), some (.int (n : Int)), none]) (H := H5) (te := tVar 1) (ev_var rfl) (sq_of (e5 _ _ hx))
      have u2 := etu_tupleP (K := K) (σ := [some (.ref a), some (.ref x), some (.ref y), some (.int (n : Int)), none]) (H := H5) (te := tVar 2) (ev_var rfl) (sq_of (e5 _ _ hy))
      refine u1 H5 (Ex.refl H5) _ fun u H6 e6 hu => u2 H6 e6 _ fun v H7 e7 hv => ⟨by show 2 ≤ sizeLine; decide, fun r hr => ?_⟩
      have e8 := Ex.new (H := H7) (o := .tup [.ref u, .ref v]) hr
      exact k r u v (cutT t s) (cutG (g.take n) s) _ (((E5.trans e6).trans e7).trans e8) (st_of upd_same) (ex_t (e7.trans e8) hu) (ex_t e8 hv) (nf_cut fg ll sp fin) (fun n' => (val_cut fg sp n').trans (val_congr fd' n')) (by rw [lT]; omega) (by rw [lG]; exact nl)
end
end K01
namespace K01
open PySem L2 Evl Gr ClX OpX StX StM OwX EqT
abbrev sLo : Stmt := top 44
section
variable {K : PySem.W.Frag} {σ : L2.St} {H : Hp} {ta tb tl te : TE}
/-- i, j, n = what a tuple display has -/
theorem q_asg3 {i j n : Nat} {t : TA} {tz : TS} {D : Ends} (h : t σ H fun xs H1 => xs.length ≤ sizeLine ∧ ∀ l, H1 l = none → (gTup K 3 (gCons (gName i) (gCons (gName j) (gCons (gName n) gNil)))) (.ref l) σ (upd H1 l (.tup xs)) (tz D)) :
    tSeq (tAsg (tTup t) (gTup K 3 (gCons (gName i) (gCons (gName j) (gCons (gName n) gNil))))) tz D σ H := h
theorem g3_i {i j n : Nat} {l : Addr} {u v w : V} {Q : L2.St → Hp → Prop} (k : Q (((σ.set i (some u)).set j (some v)).set n (some w)) (upd H l (.tup [u, v, w]))) : (gTup K 3 (gCons (gName i) (gCons (gName j) (gCons (gName n) gNil)))) (.ref l) σ (upd H l (.tup [u, v, w])) Q :=
  ⟨l, _, rfl, st_of upd_same, rfl, _, _, rfl, _, _, rfl, _, _, rfl, rfl, k⟩
theorem tup_i {t : TA} {Q : VK} (h : t σ H fun xs H1 => xs.length ≤ sizeLine ∧ ∀ l, H1 l = none → Q (.ref l) (upd H1 l (.tup xs))) : tTup t σ H Q := h
theorem low_rep {g : List Int} {c : Nat} (g0 : 0 < g.length) (h : Low g) : Low (rep c g) := fun i hi => by
  rw [rep_len] at hi
  rw [rep_at g0 hi]
  exact h _ (Nat.mod_lt _ g0)
theorem low_rot {g : List Int} {r : Nat} (h : Low g) (hr : r < g.length) : Low (rot g r) := fun i hi => by
  rw [rot_len (by omega)] at hi
  rw [← dif_lt (g := rot g r) (by rw [rot_len (by omega)]; exact hi), dif_rot hr]
  exact h _ (Nat.mod_lt _ (by omega))
theorem pT_more {t g : List Int} {m : Nat} : pT (val t g) (t.length + m) = t ++ (List.range m).map fun k => val t g (t.length + k) := by
  refine at_eq_of (by rw [pT_len, List.length_append, List.length_map, List.length_range]) fun i hi => ?_
  rw [pT_len] at hi
  rw [pT_at hi, at_app]
  by_cases z : i < t.length
  · rw [if_pos z, val_lt z]
  · rw [if_neg z, at_map_range (by omega), show t.length + (i - t.length) = i by omega]
theorem lst_keep {p l q : Addr} {cells : List Int} {m : Nat} {H' : Hp} {xs : List Int} (hP : PenAt H p l cells m) (kp : Keep p H H') (h : H q = some (.lst (vI xs))) : H' q = some (.lst (vI xs)) := by
  obtain ⟨_, _, hp, _⟩ := hP
  have no : ∀ {k r : Int}, ¬ [V.ref l, V.int k, V.int r] = vI xs := fun {k r} e => by
    cases xs with
    | nil => cases e
    | cons x xs => cases e
  exact kp _ _ h fun z => by rw [z, hp] at h; exact no (HO.lst.inj (Option.some.inj h))
theorem tup_keep {p l q : Addr} {cells : List Int} {m : Nat} {H' : Hp} {xs : List V} (hP : PenAt H p l cells m) (kp : Keep p H H') (h : H q = some (.tup xs)) : H' q = some (.tup xs) := by
  obtain ⟨_, _, hp, _⟩ := hP
  exact kp _ _ h fun z => by rw [z, hp] at h; cases h
theorem el_catPL {q : Addr} {xs ys : List Int} (ha : Ev ta σ H (.ref q)) (hq : H q = some (.lst (vI xs))) (hb : EvL tb σ H (vI ys)) (hz : xs.length + ys.length ≤ 100000) : EvL (tOp rCat ta tb) σ H (vI (xs ++ ys)) := fun H1 e Q k =>
  ha H1 e _ fun H2 e2 => hb H2 (e.trans e2) _ fun r H3 _ e3 hr => ⟨q, r, vI xs, vI ys, rfl, rfl, (e.trans (e2.trans e3)) _ _ hq, hr, by rw [vI_len, vI_len]; exact sz_of hz, fun a ha => k a _ (fresh_back (e2.trans e3) ha) ((e2.trans e3).trans (Ex.new ha)) (by rw [upd_same]; unfold vI; rw [List.map_append])⟩
end
section
variable {P : Program} {w : World} {K : PySem.W.Frag} {mg : Str → Option Value} {base : Heap}
/-! ### _law_longer -/
def spLo (K : PySem.W.Frag) : Sp := fun vs H Q _ => ∃ (p l : Addr) (cells : List Int) (m : Nat) (a : Addr) (t g : List Int), vs = [.ref p, .ref a] ∧ PenAt H p l cells m ∧ m + 10 ≤ 50000 ∧ cells.length ≤ 63 ∧ PlN H a t g ∧ Pl K H a t g ∧ g.length ≤ 4 ∧
  ∀ r x y t' g' H', Keep p H H' → PenAt H' p l cells (m + 2) → SqT K H' r [.ref x, .ref y] → SqL K H' x (vI t') → SqL K H' y (vI g') → 0 < t'.length → t'.length ≤ 20 → 0 < g'.length → g'.length ≤ 20 → Pos t' → Low g' → (∀ n, val t' g' n = val t g n) → Q (.ref r) H'
abbrev nLo : List Str := ["_law_pen_here", "_law_plain_here", "_law_told", "_law_gains", "_law_many", "_law_later", "_law_turned", "_law_k"]
theorem scLo : FnScope nLo ["_law_pen_here", "_law_plain_here"] (defScope sLo) := ⟨rfl, rfl, rfl, by decide +kernel, rfl, by decide +kernel, by decide +kernel⟩
theorem ok_Lo {f : Addr} {fd : FuncData} (F : Fun K "_law_longer" "_law_longer" sLo f fd) (T : GlbS mg) (int_ : mg "int" = none)
    (LD : Gfn P w K mg base 1 "_law_draw" ["_law_pen_here", "_law_many"] spDraw) (LV : Gfn P w K mg base 1 "_law_value" ["_law_plain_here", "_law_n"] (spLV K)) : FnOk P w K mg base CX0 2 f fd ["_law_pen_here", "_law_plain_here"] (spLo K) := by
  obtain ⟨fD, fdD, GD, kD, bD, gD⟩ := LD
  obtain ⟨fV, fdV, GV, kV, bV, gV⟩ := LV
  refine F.ok scLo (fun vs H Q E h => ?_) (fun cdv A outer s H vs Q E hr h => ?_)
  · obtain ⟨p, l, cells, m, a, t, g, rfl, _⟩ := h
    rfl
  · obtain ⟨p, l, cells, m, a, t, g, rfl, hP, hm, h63, hN, hA, g4, k⟩ := h
    refine ⟨_, pss_cons (ps_asg (pe_tup (pa_cons (pe_ix ix_seq (pv 1) pe_int (fun _ _ => rfl)) (pa_cons (pe_ix ix_seq (pv 1) pe_int (fun _ _ => rfl)) (pa_cons (pe_call GD hr (by rfl) gD kD bD .nil pass0 (pa_cons (pv 0) (pa_cons pe_int pa_nil))) pa_nil))))
        (pg_tup rfl (pgs_cons (pg_name (i := 2) scLo.nd rfl (.inr rfl)) (pgs_cons (pg_name (i := 3) scLo.nd rfl (.inl rfl)) (pgs_cons (pg_name (i := 4) scLo.nd rfl (.inl rfl)) pgs_nil)))))
      (pss_cons (ps_set (i := 5) scLo.nd rfl (.inl rfl) (pe_op op_cat (pv 2) (pe_lc (own := [("_law_k", 7)]) (g := gName 7) rfl scLo.nd (pi_range1 (by rfl) T.range (pa_cons (pv 4) pa_nil)) (blkOk_by (own := [("_law_k", 7)]) (N := nLo) (sc := defScope sLo) (by decide +kernel))
          (fun _ _ _ _ _ => pg_name (i := 7) scLo.nd rfl (Or.inl rfl)) (fun _ _ _ _ _ => pts_nil)
          (fun _ _ _ _ _ => pe_call GV hr (by rfl) gV kV bV .nil pass0 (pa_cons (pv 1) (pa_cons (pe_op op_add (pe_callB (show CallR _ _ (fun xs H Q => ∃ p ys, xs = [V.ref p] ∧ (SqL K H p ys ∨ SqT K H p ys) ∧ Q (.int ys.length) H) from call_len_seq) (by rfl) T.len PySem.boot_len (pa_cons (pv 2) pa_nil)) (pv 7)) pa_nil))))))
      (pss_cons (ps_set (i := 6) scLo.nd rfl (.inl rfl) (pe_op op_mod (pe_callTy call_int1 (by rfl) int_ (by decide +kernel) (pa_cons (pv 4) pa_nil)) (pe_callB call_len_seq (by rfl) T.len PySem.boot_len (pa_cons (pv 3) pa_nil))))
      (pss_one (ps_ret (pe_tup (pa_cons (pv 5) (pa_cons (pe_op op_rep (pe_op op_cat (pe_slice sl_list (pv 3) (po_some (pv 6)) po_none) (pe_slice sl_list (pv 3) po_none (po_some (pv 6)))) (pe_op op_add pe_int (pe_call GD hr (by rfl) gD kD bD .nil pass0 (pa_cons (pv 0) (pa_cons pe_int pa_nil))))) pa_nil))))))), ?_⟩
    obtain ⟨_, _, _, _, _, t0, t1, g0, g1, pt, sm⟩ := id hA
    obtain ⟨pa, pb, n1, n2, n3, t5⟩ := id hN
    have ix0 : ∀ {J : Hp} {σ' : L2.St}, Ex H J → σ'[1]? = some (some (.ref a)) → Ev (tOp (rIx K) (tVar 1) (tC (.int 0))) σ' J (.ref pa) := fun e h0 => ev_op (ev_var h0) ev_c (rv_ix (.inr (st_of (e _ _ n1))) rfl)
    have ix1 : ∀ {J : Hp} {σ' : L2.St}, Ex H J → σ'[1]? = some (some (.ref a)) → Ev (tOp (rIx K) (tVar 1) (tC (.int 1))) σ' J (.ref pb) := fun e h0 => ev_op (ev_var h0) ev_c (rv_ix (.inr (st_of (e _ _ n1))) rfl)
    refine q_asg3 (cons_i (ix0 (Ex.refl H) rfl H (Ex.refl H) _ fun H1 e1 => cons_i (ix1 e1 rfl H1 (Ex.refl H1) _ fun H2 e2 => cons_i (w_draw (p := p) (l := l) (cells := cells) (H := H2) (i := 0) (many := 6) rfl (fun H1 _ => ev_c) (by decide) (by decide) h63 m H2 (Keep.of_ex (Ex.refl H2)) (hP.mono (e1.trans e2) (Nat.le_refl m)) (by omega) _ fun v H3 hv P3 k3 => ⟨by show 3 ≤ sizeLine; decide, fun lt hlt => ?_⟩))))
    obtain ⟨d, rfl, hd⟩ := hv
    refine g3_i ?_
    have P2 := hP.mono (e1.trans e2) (Nat.le_refl m)
    have e4 := Ex.new (H := H3) (o := .tup [.ref pa, .ref pb, .int (d : Int)]) hlt
    have k4 := ((Keep.of_ex (p := p) (e1.trans e2)).trans k3).trans (Keep.of_ex e4)
    have P4 := P3.mono e4 (Nat.le_refl (m + 1))
    have A4 := (Pl.keep P2 k3 (hA.mono (e1.trans e2))).mono e4
    have l2 := e4 _ _ (lst_keep P2 k3 ((e1.trans e2) _ _ n2))
    have l3 := e4 _ _ (lst_keep P2 k3 ((e1.trans e2) _ _ n3))
    show tSeq _ _ _ [some (.ref p), some (.ref a), some (.ref pa), some (.ref pb), some (.int (d : Int)), none, none, none] (upd H3 lt (.tup [.ref pa, .ref pb, .int (d : Int)]))
    generalize upd H3 lt (.tup [.ref pa, .ref pb, .int (d : Int)]) = H4 at e4 k4 P4 A4 l2 l3 ⊢
    have d6 : d < 6 := by omega
    -- the told values, told for longer
    have c1 := el_lcR1 (σ := [some (.ref p), some (.ref a), some (.ref pa), some (.ref pb), some (.int (d : Int)), none, none, none]) (H := H4) (t := tYes)
      (te := tCall (spLV K) [] E0 (tCons (tVar 1) (tCons (tOp (L2.rI0 fun i j => .int (i + j)) (tCB (fun xs H Q => ∃ p ys, xs = [V.ref p] ∧ (SqL K H p ys ∨ SqT K H p ys) ∧ Q (.int ys.length) H) (tCons (tVar 2) tNil)) (tVar 7)) tNil)))
      (ta := tCons (tVar 4) tNil) (j := 7) (vs := [7]) (n := (d : Int)) (fun _ => true) (fun i => V.int (val t g (t.length + i)))
      (ea_cons (ev_var rfl) ea_nil) (by omega) (fun _ => rfl) (fun i H1 _ _ => et_none) (fun i H5 e5 _ _ => ev_call (ea_cons (ev_var rfl) (ea_cons (ev_is (ev_op (ev_lenL (ev_var rfl) (sq_of (e5 _ _ l2))) (ev_var rfl) rv_I0) (by rfl)) ea_nil)) (spv_LV (n := t.length + i) (A4.mono e5)))
    rw [given_pT, Int.toNat_natCast] at c1
    have c2 := el_catPL (ta := tVar 2) (σ := [some (.ref p), some (.ref a), some (.ref pa), some (.ref pb), some (.int (d : Int)), none, none, none]) (ev_var rfl) l2 c1 (by rw [pT_len]; omega)
    have c3 : t ++ pT (fun k => val t g (t.length + k)) d = pT (val t g) (t.length + d) := pT_more.symm
    rw [c3] at c2
    refine q_asgL c2 fun pl H5 _ e5 h5 => ?_
    obtain ⟨r, hr'⟩ : ∃ r, r = d % g.length := ⟨_, rfl⟩
    have rl : r < g.length := hr' ▸ Nat.mod_lt _ g0
    refine q_asg (v := .int (r : Int)) (ev_is (ev_op (ev_cb (ea_cons (ev_var rfl) ea_nil) rc_int) (ev_lenL (ev_var rfl) (sq_of (e5 _ _ l3))) (rv_I (by omega))) (by congr 1; rw [hr']; rfl)) fun H6 e6 => ?_
    have E6 := e5.trans e6
    have P6 := P4.mono E6 (Nat.le_refl (m + 1))
    show tTup _ _ _ _
    have s1 := el_sl (K := K) (σ := [some (.ref p), some (.ref a), some (.ref pa), some (.ref pb), some (.int (d : Int)), some (.ref pl), some (.int (r : Int)), none]) (H := H6) (te := tVar 3) (tl := tPart (tVar 6)) (th := tNoPart) (lo := some (r : Int)) (hi := none) (ev_var rfl) (eo_some (ev_var rfl)) eo_none (sq_of (E6 _ _ l3))
    have s2 := el_sl (K := K) (σ := [some (.ref p), some (.ref a), some (.ref pa), some (.ref pb), some (.int (d : Int)), some (.ref pl), some (.int (r : Int)), none]) (H := H6) (te := tVar 3) (tl := tNoPart) (th := tPart (tVar 6)) (lo := none) (hi := some (r : Int)) (ev_var rfl) eo_none (eo_some (ev_var rfl)) (sq_of (E6 _ _ l3))
    rw [cut_drop (by omega)] at s1
    rw [cut_take (by omega)] at s2
    have s3 := el_catN s1 s2 (by rw [List.length_drop, List.length_take]; omega)
    have s4 : g.drop r ++ g.take r = rot g r := rfl
    rw [s4] at s3
    refine tup_i (cons_i ⟨_, rfl, cons_i (op_i (s3 H6 (Ex.refl H6) _ fun pc H7 _ e7 h7 => op_i (c_i (w_draw (p := p) (l := l) (cells := cells) (H := H7) (i := 0) (many := 3) rfl (fun H1 _ => ev_c) (by decide) (by decide) h63 (m + 1) H7 (Keep.of_ex (Ex.refl H7)) (P6.mono e7 (Nat.le_refl _)) (by omega) _ fun v H8 hv P8 k8 => ?_))))⟩)
    obtain ⟨d2, rfl, hd2⟩ := hv
    have P7 := P6.mono e7 (Nat.le_refl (m + 1))
    have h8 := lst_keep P7 k8 h7
    have rlen : (rot g r).length = g.length := rot_len (by omega)
    have cz : (rot g r).length * (1 + d2) ≤ 20 := by
      rw [rlen]
      exact Nat.le_trans (Nat.mul_le_mul g4 (by omega : 1 + d2 ≤ 3)) (by decide)
    have cz' : g.length * (1 + d2) ≤ 20 := by rw [← rlen]; exact cz
    refine ⟨1, (d2 : Int), rfl, rfl, pc, (1 : Int) + (d2 : Int), vI (rot g r), rfl, rfl, h8, by omega, by omega, ?_, fun z hz => ⟨by show 2 ≤ sizeLine; decide, fun x hx => ?_⟩⟩
    · rw [vI_len, show ((1 : Int) + (d2 : Int)).toNat = 1 + d2 by omega]
      exact sz_of (by omega)
    · have e9 : (List.replicate ((1 : Int) + (d2 : Int)).toNat (vI (rot g r))).flatten = vI (rep (1 + d2) (rot g r)) := by
        rw [show ((1 : Int) + (d2 : Int)).toNat = 1 + d2 by omega, vI_rep]
      rw [e9] at hx ⊢
      have f9 := Ex.new (H := H8) (o := .lst (vI (rep (1 + d2) (rot g r)))) hz
      have h9 : (upd H8 z (.lst (vI (rep (1 + d2) (rot g r))))) z = some (.lst (vI (rep (1 + d2) (rot g r)))) := upd_same
      have h9' := f9 _ _ (lst_keep P7 k8 (e7 _ _ (e6 _ _ h5)))
      have P9 := P8.mono f9 (Nat.le_refl _)
      have k9 := ((k4.trans (Keep.of_ex (E6.trans e7))).trans k8).trans (Keep.of_ex f9)
      generalize upd H8 z (.lst (vI (rep (1 + d2) (rot g r)))) = H9 at hx f9 h9 h9' P9 k9 ⊢
      have f10 := Ex.new (H := H9) (o := .tup [.ref pl, .ref z]) hx
      have ro : 0 < (rot g r).length := by omega
      have gl : (rep (1 + d2) (rot g r)).length = g.length * (1 + d2) := by rw [rep_len, rlen, Nat.mul_comm]
      have g00 : 0 < g.length * (1 + d2) := Nat.mul_pos g0 (by omega)
      refine k x pl z (pT (val t g) (t.length + d)) (rep (1 + d2) (rot g r)) _ (k9.trans (Keep.of_ex f10)) ((P9.mono f10 (Nat.le_refl _)).le (by omega)) (st_of upd_same) (sq_of (f10 _ _ h9')) (sq_of (f10 _ _ h9)) (by rw [pT_len]; omega) (by rw [pT_len]; omega) (by omega) (by omega)
        (fun i hi => by
          rw [pT_len] at hi
          rw [pT_at hi]
          exact val_nonneg pt t0 g0 sm.small i) (low_rep ro (low_rot sm rl)) (fun n => val_more t0 (by omega) (fun i => ?_) n)
      rw [dif_rep ro (by omega), dif_rot rl, show i + (t.length + d - t.length) = i + d by omega]
      have pq := (dif_pd (g := g)).mul (d / g.length) (i + r)
      have q := Nat.mod_add_div d g.length
      rw [Nat.mul_comm, ← hr'] at q
      rw [← pq]
      congr 1
      omega
end
end K01
namespace K01
open PySem L2 Evl Gr ClX OpX StX StM OwX EqT
/-- numbers that are not great -/
def Few (xs : List Int) : Prop := xs.length ≤ 20 ∧ ∀ x, x ∈ xs → x.natAbs < 10 ^ 12
theorem big12 {i : Int} (h : i.natAbs < 10 ^ 12) : i.natAbs.log2 < 40 := by
  rcases Nat.eq_zero_or_pos i.natAbs with z | z
  · rw [z]; decide
  · exact (Nat.log2_lt (by omega)).mpr (Nat.lt_trans h (by decide))
theorem dsAll_ints {K : PySem.W.Frag} {H : Hp} : ∀ xs : List Int, DsAll K H (vI xs) (xs.map PyData.int)
  | [] => .nil
  | x :: xs => .cons (.int x) (dsAll_ints xs)
theorem show_ints : ∀ {xs : List Int}, (∀ x, x ∈ xs → x.natAbs < 10 ^ 12) → PyData.showableAll (xs.map PyData.int) = true
  | [], _ => by simp [PyData.showableAll]
  | x :: xs, h => by
    have a := big12 (h x (List.mem_cons_self ..))
    simp [PyData.showableAll, PyData.showable, show_ints fun y hy => h y (List.mem_cons_of_mem _ hy)]
    omega
theorem short_ints : ∀ {xs : List Int}, (∀ x, x ∈ xs → x.natAbs < 10 ^ 12) → PyData.leavesShortAll 13 (xs.map PyData.int) = true
  | [], _ => by simp [PyData.leavesShortAll]
  | x :: xs, h => by simp [PyData.leavesShortAll, PyData.leavesShort, PyData.shown_int_le (h x (List.mem_cons_self ..)), short_ints fun y hy => h y (List.mem_cons_of_mem _ hy)]
theorem weight_ints : ∀ {xs : List Int}, (∀ x, x ∈ xs → x.natAbs < 10 ^ 12) → PyData.weightAll (xs.map PyData.int) ≤ 41 * xs.length
  | [], _ => by simp [PyData.weightAll]
  | x :: xs, h => by
    have a := big12 (h x (List.mem_cons_self ..))
    have b := weight_ints fun y hy => h y (List.mem_cons_of_mem _ hy)
    simp only [List.map_cons, PyData.weightAll, PyData.weight, List.length_cons]
    split <;> omega
abbrev two (xs ys : List Int) : PyData := .tuple [.tuple (xs.map PyData.int), .tuple (ys.map PyData.int)]
/-- repr of a pair of two tuples of ints -/
theorem repr_two {K : PySem.W.Frag} {H : Hp} {r a b : Addr} {xs ys : List Int} {Q : VK} (hr : SqT K H r [.ref a, .ref b]) (ha : SqT K H a (vI xs)) (hb : SqT K H b (vI ys)) (fx : Few xs) (fy : Few ys) (k : Q (.str (two xs ys).shown) H) : rRepr K [.ref r] H Q := by
  refine ⟨_, two xs ys, rfl, .tup hr (.cons (.tup ha (dsAll_ints xs)) (.cons (.tup hb (dsAll_ints ys)) .nil)), ?_, ?_, ?_, k⟩
  · simp [PyData.showable, PyData.showableAll, show_ints fx.2, show_ints fy.2]
  · simp [PyData.depth, PyData.depthAll, depth_ints]
  · exact PyData.shown_fits (B := 13) (by decide) (by decide) (by simp [PyData.leavesShort, PyData.leavesShortAll, short_ints fx.2, short_ints fy.2]) (by
      have l1 := weight_ints fx.2
      have l2 := weight_ints fy.2
      have l3 := fx.1
      have l4 := fy.1
      simp only [PyData.weight, PyData.weightAll]
      omega)
theorem eqv_two {xs ys xs' ys' : List Int} : PyData.eqv (two xs ys) (two xs' ys') = (decide (xs = xs') && decide (ys = ys')) := by
  have a := eqv_ints xs xs'
  have b := eqv_ints ys ys'
  simp [PyData.eqv, PyData.eqvAll, a, b]
theorem shaped_two (xs ys : List Int) : SeqAt.shaped (two xs ys) = true := by
  unfold SeqAt.shaped
  simp [PyData.canLay0, PyData.canLayAll0, canLay_ints, PyData.depth, PyData.depthAll, depth_ints]
section
variable {K : PySem.W.Frag} {σ : L2.St} {H : Hp} {ta tb tl te : TE} {C : Addr} {f : Nat → Int}
/-- gives a pair of two tuples of ints -/
def EvTw (K : PySem.W.Frag) (te : TE) (σ : L2.St) (H : Hp) (xs ys : List Int) : Prop := ∀ H1, Ex H H1 → ∀ Q : VK, (∀ r a b H2, Ex H1 H2 → SqT K H2 r [.ref a, .ref b] → SqT K H2 a (vI xs) → SqT K H2 b (vI ys) → Q (.ref r) H2) → te σ H1 Q
theorem tw_var {i : Nat} {r a b : Addr} {xs ys : List Int} (h0 : σ[i]? = some (some (.ref r))) (hr : SqT K H r [.ref a, .ref b]) (ha : SqT K H a (vI xs)) (hb : SqT K H b (vI ys)) : EvTw K (tVar i) σ H xs ys := fun H1 e Q q =>
  ⟨_, h0, q r a b H1 (Ex.refl H1) (ex_t e hr) (ex_t e ha) (ex_t e hb)⟩
theorem tw_tup {xs ys : List Int} (ha : EvTu K ta σ H (vI xs)) (hb : EvTu K tb σ H (vI ys)) : EvTw K (tTup (tCons ta (tCons tb tNil))) σ H xs ys := fun H1 e Q q =>
  ha H1 e _ fun a H2 e2 h2 => hb H2 (e.trans e2) _ fun b H3 e3 h3 => ⟨by show 2 ≤ sizeLine; decide, fun r hr => q r a b _ ((e2.trans e3).trans (Ex.new hr)) (st_of upd_same) (ex_t (e3.trans (Ex.new hr)) h2) (ex_t (Ex.new hr) h3)⟩
theorem ev_repr2 {xs ys : List Int} (h : EvTw K te σ H xs ys) (fx : Few xs) (fy : Few ys) : Ev (tCB (rRepr K) (tCons te tNil)) σ H (.str (two xs ys).shown) := fun H1 e Q q =>
  h H1 e _ fun r a b H2 e2 hr ha hb => repr_two hr ha hb fx fy (q H2 e2)
theorem ev_eqTw {xs ys xs' ys' : List Int} (h : EvTw K ta σ H xs ys) (h' : EvTw K tb σ H xs' ys') : Ev (tOp (rEqD K) ta tb) σ H (.bl (decide (xs = xs') && decide (ys = ys'))) := fun H1 e Q q =>
  h H1 e _ fun r a b H2 e2 hr ha hb => h' H2 (e.trans e2) _ fun r' a' b' H3 e3 hr' ha' hb' => ⟨two xs ys, two xs' ys', .tup (ex_t e3 hr) (.cons (.tup (ex_t e3 ha) (dpAll_ints xs)) (.cons (.tup (ex_t e3 hb) (dpAll_ints ys)) .nil)), .tup hr' (.cons (.tup ha' (dpAll_ints xs')) (.cons (.tup hb' (dpAll_ints ys')) .nil)), shaped_two xs ys, shaped_two xs' ys', by
    rw [eqv_two]
    exact q H3 (e2.trans e3)⟩
theorem etu_fld {o p C dx : Addr} {fs : List (Str × V)} {f : Str} {xs : List V} (ha : Ev ta σ H (.ref o)) (ho : H o = some (.ins C dx fs)) (c : Cls K C) (n : NoAttr K C f) (hf : fs.lookup f = some (.ref p)) (hp : SqT K H p xs) : EvTu K (tFld K ta f) σ H xs := fun H1 e Q q =>
  ev_fld ha ho c n hf H1 e _ fun H2 e2 => q p H2 e2 (ex_t (e.trans e2) hp)
theorem EvP.tus {t g : List Int} (ha : EvTu K ta σ H (vI t)) (hb : EvTu K tb σ H (vI g)) : EvP K (tCons ta (tCons tb tNil)) σ H t g := fun H1 e Q q =>
  ha H1 e _ fun a H2 e2 h2 => hb H2 (e.trans e2) _ fun b H3 e3 h3 => q a b H3 (e2.trans e3) (.inr (ex_t e3 h2)) (.inr h3)
theorem ev_nePP {p q : Addr} {xs ys : List Int} (ha : Ev ta σ H (.ref p)) (hp : SqL K H p (vI xs)) (hb : Ev tb σ H (.ref q)) (hq : SqL K H q (vI ys)) : Ev (tOp (rNeD K) ta tb) σ H (.bl (!decide (xs = ys))) := fun H1 e Q k =>
  ha H1 e _ fun H2 e2 => hb H2 (e.trans e2) _ fun H3 e3 => ⟨.list (xs.map PyData.int), .list (ys.map PyData.int), .lst (ex_l (e.trans (e2.trans e3)) hp) (dpAll_ints xs), .lst (ex_l (e.trans (e2.trans e3)) hq) (dpAll_ints ys), shaped_ints xs, shaped_ints ys, by rw [eqv_lists]; exact k H3 (e2.trans e3)⟩
end
section
variable {X : Cx} {C : Addr} {σ : L2.St} {H : Hp} {ta tb : TE} {f f' : Nat → Int}
/-- two growths, beside two normal forms -/
theorem ev_eqN {t g t' g' : List Int} (ha : EvR X.K C ta σ H f) (hb : EvR X.K C tb σ H f') (n1 : PySem.W.notFirst X.K C (.ref C) = true) (h : NF t g) (hv : ∀ n, val t g n = f n) (h' : NF t' g') (hv' : ∀ n, val t' g' n = f' n) :
    Ev (tOp (rEqO X C (spGEq X.K C) E0) ta tb) σ H (.bl (decide (t = t') && decide (g = g'))) := fun H1 e Q q =>
  ha H1 e _ fun o H2 e2 go => hb H2 (e.trans e2) _ fun u H3 e3 gu => ⟨o, u, C, rfl, rfl, gr_insC (go.mono e3), gr_insC gu, n1, o, u, f, f', rfl, go.mono e3, gu, fun b hb => by
    have : b = (decide (t = t') && decide (g = g')) := by
      rw [Bool.eq_iff_iff, hb, Bool.and_eq_true_iff, decide_eq_true_iff, decide_eq_true_iff]
      constructor
      · intro z
        exact nf_one h h' fun n => by rw [hv, hv', z]
      · rintro ⟨rfl, rfl⟩ n
        rw [← hv, ← hv']
    rw [this]
    exact fun H4 e4 => q H4 ((e2.trans e3).trans e4)⟩
end
end K01
namespace Gr
theorem spr_ex {t g : List Int} (t0 : 0 < t.length) : ∃ s, Spr t g s ∧ (s = t.length - 1 ∨ at' t (t.length - 1 - s) - at' t (t.length - 1 - s - 1) ≠ back g s) := by
  have go : ∀ k s, k = t.length - s → Spr t g s → ∃ s, Spr t g s ∧ (s = t.length - 1 ∨ at' t (t.length - 1 - s) - at' t (t.length - 1 - s - 1) ≠ back g s) := by
    intro k
    induction k with
    | zero => intro s hk h; have := h.1; omega
    | succ k ih =>
      intro s hk h
      by_cases z : s = t.length - 1
      · exact ⟨s, h, .inl z⟩
      · by_cases y : at' t (t.length - 1 - s) - at' t (t.length - 1 - s - 1) = back g s
        · exact ih (s + 1) (by omega) (spr_step h (by have := h.1; omega) y)
        · exact ⟨s, h, .inr y⟩
  exact go _ 0 rfl (spr_zero t0)
theorem nf_ex {t g : List Int} (t0 : 0 < t.length) (g0 : 0 < g.length) : ∃ t' g', NF t' g' ∧ ∀ n, val t' g' n = val t g n := by
  obtain ⟨p, lp⟩ := ex_least g.length g0 (dif_pd (g := g))
  obtain ⟨pd, pn⟩ := lp.dvd g0
  have fl : (g.take p).length = p := by rw [List.length_take]; omega
  have fd' : dif (g.take p) = dif g := dif_take lp.pd lp.pos pn
  have p0 := lp.pos
  obtain ⟨s, sp, fin⟩ := spr_ex (t := t) (g := g.take p) t0
  exact ⟨_, _, nf_cut (by omega) (by rw [fd', fl]; exact lp) sp fin, fun n => (val_cut (by omega) sp n).trans (val_congr fd' n)⟩
end Gr
namespace K01
open PySem L2 Evl Gr ClX OpX StX StM OwX EqT
abbrev sRi : Stmt := top 45
section
variable {K : PySem.W.Frag} {σ : L2.St} {H : Hp} {ta tb tl te : TE} {C : Addr}
theorem etu_var {i : Nat} {p : Addr} {xs : List V} (h0 : σ[i]? = some (some (.ref p))) (hs : SqT K H p xs) : EvTu K (tVar i) σ H xs := fun H1 e Q q => ⟨_, h0, q p H1 (Ex.refl H1) (ex_t e hs)⟩
theorem sqt_updL {q Dl : Addr} {xs ys : List V} {u : HO} (s : SqT K H q ys) (hD : H Dl = some (.lst xs)) : SqT K (upd H Dl u) q ys := by
  rcases s with (s | ⟨w, s⟩) | s
  · exact .inl (.inl (by rw [upd_ne (fun e => by rw [e, hD] at s; cases s)]; exact s))
  · exact .inl (.inr ⟨w, by rw [upd_ne (fun e => by rw [e, hD] at s; cases s)]; exact s⟩)
  · exact .inr s
theorem PlN.keep {H' : Hp} {p l a : Addr} {cells : List Int} {m : Nat} {t g : List Int} (h : PlN H a t g) (hP : PenAt H p l cells m) (kp : Keep p H H') : PlN H' a t g := by
  obtain ⟨x, y, h1, h2, h3, h4⟩ := h
  exact ⟨x, y, tup_keep hP kp h1, lst_keep hP kp h2, lst_keep hP kp h3, h4⟩
theorem etu_nil : EvTu K (tTup tNil) σ H (vI []) := fun H1 e Q q => ⟨by show 0 ≤ sizeLine; decide, fun p hp => q p _ (Ex.new hp) (st_of upd_same)⟩
/-- Growth(gains = .., told = ..) of plain parts -/
theorem er_plainK {a : Addr} {i : Nat} {t g : List Int} (h0 : σ[i]? = some (some (.ref a))) (h : Pl K H a t g) :
    EvR K C (tMakeK C 0 2 (spInit K C) (fun us ws => us ++ ws.reverse) E0 tNil (tCons (tOp (rIx K) (tVar i) (tC (.int 1))) (tCons (tOp (rIx K) (tVar i) (tC (.int 0))) tNil))) σ H (val t g) := fun H1 e Q q => by
  obtain ⟨p, r, h1, h2, h3, t0, t1, g0, g1, pt, sm⟩ := h
  have i1 : Ev (tOp (rIx K) (tVar i) (tC (.int 1))) σ H (.ref r) := ev_op (ev_var h0) ev_c (rv_ix (.inr h1) rfl)
  have i0 : Ev (tOp (rIx K) (tVar i) (tC (.int 0))) σ H (.ref p) := ev_op (ev_var h0) ev_c (rv_ix (.inr h1) rfl)
  refine i1 H1 e _ fun H2 e2 => i0 H2 (e.trans e2) _ fun H3 e3 => ⟨rfl, rfl, fun x dx hx hd hn => ?_⟩
  have e4 : Ex H3 (upd (upd H3 dx (.own x)) x (.ins C dx [])) := (Ex.new hd).trans (Ex.new (by rw [upd_ne hn.symm]; exact hx))
  have E := (e.trans (e2.trans e3)).trans e4
  refine ⟨x, p, r, dx, t, g, rfl, upd_same, .inl (ex_l E h2), .inl (ex_l E h3), t0, t1, g0, g1, pt, sm.small, fun t' g' H' kp gr pt' hv => ⟨rfl, ?_⟩⟩
  refine q x H' ((e2.trans e3).trans fun c u hc => ?_) ⟨t', g', gr, pt', hv⟩
  exact kp c u (e4 _ _ hc) (ne_of_none hc hx)
theorem few_of {t g tn gn : List Int} (nf : NF tn gn) (t0 : 0 < t.length) (g0 : 0 < g.length) (hv : ∀ n, val tn gn n = val t g n) (l1 : tn.length ≤ t.length) (l2 : gn.length ≤ g.length) (t5 : t.length ≤ 5) (g4 : g.length ≤ 4) (pt : Pos t) (bg : ∀ i, i < g.length → 0 ≤ at' g i ∧ at' g i ≤ 1000000) (bt : ∀ i, i < t.length → at' t i ≤ 5000000000) : Few tn ∧ Few gn := by
  have mem : ∀ {xs : List Int} {x : Int}, x ∈ xs → ∃ i, i < xs.length ∧ x = at' xs i := fun {xs x} h => by
    obtain ⟨i, hi, rfl⟩ := List.getElem_of_mem h
    exact ⟨i, hi, by unfold at'; rw [List.getD_eq_getElem?_getD, List.getElem?_eq_getElem hi]; rfl⟩
  refine ⟨⟨by omega, fun x hx => ?_⟩, ⟨by omega, fun x hx => ?_⟩⟩
  · obtain ⟨i, hi, rfl⟩ := mem hx
    have a := hv i
    rw [val_lt hi, val_lt (by omega)] at a
    have b := bt i (by omega)
    have c := pt i (by omega)
    rw [a]
    omega
  · obtain ⟨i, hi, rfl⟩ := mem hx
    have a := gains_tail nf.told hv (tail_val (t := t) t0 g0 bg) i hi
    omega
end
section
variable {P : Program} {w : World} {K : PySem.W.Frag} {mg : Str → Option Value} {base : Heap}
/-! ### _law_right -/
def spRi (K : PySem.W.Frag) : Sp := fun vs H Q _ => ∃ (p l : Addr) (cells : List Int) (m : Nat) (a : Addr) (t g : List Int), vs = [.ref p, .ref a] ∧ PenAt H p l cells m ∧ m + 150 ≤ 50000 ∧ cells.length ≤ 63 ∧ PlN H a t g ∧ PlB K H a t g ∧
  ∀ H', Keep p H H' → PenAt H' p l cells (m + 16) → Q (.bl true) H'
abbrev nRi : List Str := ["_law_pen_here", "_law_plain_here", "_law_told", "_law_gains", "_law_made", "_law_due", "_law_longer_here", "_law_other"]
theorem scRi : FnScope nRi ["_law_pen_here", "_law_plain_here"] (defScope sRi) := ⟨rfl, rfl, rfl, by decide +kernel, rfl, by decide +kernel, by decide +kernel⟩
theorem ok_Ri {C f fI fE fF : Addr} {mc : Value} {fd fdI fdE fdF : FuncData} (F : Fun K "_law_right" "_law_right" sRi f fd) (T : GlbS mg) (repr : mg "repr" = none) (N : GName K mg C mc) (G : GCls K C) (GT : GTup K C) (M : Mk K C fI) (NE : GNe K C fE) (MF : Meth K C "first" fF)
    (GI : FnOk P w K mg base CX0 4 fI fdI ["self", "told", "gains"] (spInit K C)) (bI : Binds K fdI ["self", "told", "gains"] []) (kI : KBn K fdI ["self", "told", "gains"] 1 ["gains", "told"] (fun us ws => us ++ ws.reverse) (fun vs zs => vs ++ zs.reverse))
    (GE : FnOk P w K mg base CX0 1 fE fdE ["self", "other"] (spGEq K C)) (GET : FnOk P w K mg base CX0 1 fE fdE ["self", "other"] (spGEqT K C)) (bE : Binds K fdE ["self", "other"] [])
    (GF : FnOk P w K mg base CX0 3 fF fdF ["self", "n"] (spGFirst K C)) (bF : Binds K fdF ["self", "n"] [])
    (LD : Gfn P w K mg base 1 "_law_draw" ["_law_pen_here", "_law_many"] spDraw) (LPl : Gfn P w K mg base 3 "_law_plain" ["_law_pen_here", "_law_is_rising"] (spPlain K))
    (LI : Gfn P w K mg base 4 "_law_is" ["_law_made", "_law_plain_here", "_law_more"] (spIs K C)) (LN : Gfn P w K mg base 1 "_law_normal" ["_law_plain_here"] (spNo K)) (LL : Gfn P w K mg base 2 "_law_longer" ["_law_pen_here", "_law_plain_here"] (spLo K)) :
    FnG P w K mg base 6 f fd ["_law_pen_here", "_law_plain_here"] (spRi K) := by
  obtain ⟨fD, fdD, GD, kD, bD, gD⟩ := LD
  obtain ⟨fP, fdP, GP, kP, bP, gP⟩ := LPl
  obtain ⟨fS, fdS, GS, kS, bS, gS⟩ := LI
  obtain ⟨fN, fdN, GN, kN, bN, gN⟩ := LN
  obtain ⟨fL, fdL, GL, kL, bL, gL⟩ := LL
  refine fnG_of F scRi (fun vs H Q E h => ?_) (fun cdv A outer s H vs Q E gd hr h => ?_)
  · obtain ⟨p, l, cells, m, a, t, g, rfl, _⟩ := h
    rfl
  · obtain ⟨p, l, cells, m, a, t, g, rfl, hP, hm, h63, hN, hB, k⟩ := h
    have gq : ∀ env, Qt (A.deeper env) := fun env => gd.deeper env
    have r4 := hr.mono (show 4 ≤ 5 by decide)
    have r3 := hr.mono (show 3 ≤ 5 by decide)
    have r2 := hr.mono (show 2 ≤ 5 by decide)
    have r1 := hr.mono (show 1 ≤ 5 by decide)
    refine ⟨_, pss_cons (ps_par (i := 2) (j := 3) rfl scRi.nd rfl rfl (by decide) (by rfl) (by rfl)
        (pa_cons (pe_callTy call_list_of (by rfl) T.list (by decide +kernel) (pa_cons (pe_ix ix_seq (pv 1) pe_int (fun _ _ => rfl)) pa_nil)) (pa_cons (pe_callTy call_list_of (by rfl) T.list (by decide +kernel) (pa_cons (pe_ix ix_seq (pv 1) pe_int (fun _ _ => rfl)) pa_nil)) pa_nil)) (by rfl))
      (pss_cons (ps_par (i := 4) (j := 5) rfl scRi.nd rfl rfl (by decide) (by rfl) (by rfl)
        (pa_cons (pe_make M GI hr (by rfl) N.g bI .nil pass0 (pa_cons (pv 2) (pa_cons (pv 3) pa_nil))) (pa_cons (pe_call GN r1 (by rfl) gN kN bN .nil pass0 (pa_cons (pv 1) pa_nil)) pa_nil)) (by rfl))
      (pss_cons (ps_if (PW.pt (pw_or (pt_cmpR (op_neD hr.units) (pv 2) (pe_ix ix_seq (pv 1) pe_int (fun _ _ => rfl)) (nomark _)) (pw_or1 (pt_cmpR (op_neD hr.units) (pv 3) (pe_ix ix_seq (pv 1) pe_int (fun _ _ => rfl)) (nomark _))))) (pss_one ps_no) pss_nil)
      (pss_cons (ps_expr (pe_bm PySem.F.plainAttrs_list PySem.F.slot_list_append PySem.F.type_list_append mt_append (pv 2) (pa_cons pe_int pa_nil)))
      (pss_cons (ps_asg (pe_op op_add (pe_ix ix_list (pv 3) pe_int (fun _ _ => rfl)) pe_int) (pg_sub (pv 3) pe_int set_list))
      (pss_cons (ps_if (PW.pt (pw_or (pt_not (pt_val (pe_call GS r4 (by rfl) gS kS bS .nil pass0 (pa_cons (pv 4) (pa_cons (pv 1) (pa_cons (pe_call GD r1 (by rfl) gD kD bD .nil pass0 (pa_cons (pv 0) (pa_cons pe_int pa_nil))) pa_nil))))))
          (pw_or1 (pt_cmpR op_ne (pe_callB (call_reprD (gq _) hr.units) (by rfl) repr (by decide +kernel) (pa_cons (pe_tup (pa_cons (pe_fld (pv 4) rfl) (pa_cons (pe_fld (pv 4) rfl) pa_nil))) pa_nil)) (pe_callB (call_reprD (gq _) hr.units) (by rfl) repr (by decide +kernel) (pa_cons (pv 5) pa_nil)) (nomark _))))) (pss_one ps_no) pss_nil)
      (pss_cons (ps_set (i := 6) scRi.nd rfl (.inl rfl) (pe_call GL r2 (by rfl) gL kL bL .nil pass0 (pa_cons (pv 0) (pa_cons (pv 1) pa_nil))))
      (pss_cons (ps_if (PW.pt (pw_or (pt_cmpR (op_neO (E := E0) NE.has NE.ne NE.ob (fnR0 GE bE) r2 pass0) (pe_make M GI hr (by rfl) N.g bI .nil pass0 (pa_cons (pe_tupleOf (by rfl) T.tuple (pe_ix ix_seq (pv 6) pe_int (fun _ _ => rfl))) (pa_cons (pe_tupleOf (by rfl) T.tuple (pe_ix ix_seq (pv 6) pe_int (fun _ _ => rfl))) pa_nil))) (pv 4) (nomark _))
          (pw_or (pt_cmpR (op_eqT (E := E0) (op := .Eq) (fun _ _ => rfl) NE.has (fnR0 GET bE) r1 pass0) (pv 4) (pv 5) (nomark _))
          (pw_or1 (pt_cmpR (op_eqT (E := E0) (op := .Eq) (fun _ _ => rfl) NE.has (fnR0 GET bE) r1 pass0) (pv 4) (pe_tupleOf (by rfl) T.tuple (pe_ix ix_seq (pv 1) pe_int (fun _ _ => rfl))) (nomark _)))))) (pss_one ps_no) pss_nil)
      (pss_cons (ps_set (i := 7) scRi.nd rfl (.inl rfl) (pe_call GP r3 (by rfl) gP kP bP .nil pass0 (pa_cons (pv 0) (pa_cons pe_bl pa_nil))))
      (pss_one (ps_ret (pe_and (pe_cmpR op_eq (pe_cmpR (op_eqO (E := E0) (op := .Eq) (fun _ _ => rfl) NE.has (fnR0 GE bE) r1 pass0) (pv 4) (pe_makeK0 M GI hr (by rfl) N.g kI pass0 (pk_cons (pe_ix ix_seq (pv 7) pe_int (fun _ _ => rfl)) (pk_cons (pe_ix ix_seq (pv 7) pe_int (fun _ _ => rfl)) pk_nil))) (nomark _))
          (pe_cmpR (op_eqD hr.units) (pv 5) (pe_call GN r1 (by rfl) gN kN bN .nil pass0 (pa_cons (pv 7) pa_nil)) (nomark _)) (nomark _))
        (pe_and (pe_cmpR (op_eqD hr.units) (pe_meth (pv 4) G.cls MF GF r3 bF .nil pass0 (pa_cons pe_int pa_nil)) (pe_tup pa_nil) (nomark _))
        (pe_one (pe_cmpR (op_eqD hr.units) (pe_meth (pv 4) G.cls MF GF r3 bF .nil pass0 (pa_cons pe_int pa_nil)) (pe_slice sl_tupA (pe_ix ix_seq (pv 5) pe_int (fun _ _ => rfl)) po_none (po_some pe_int)) (nomark _))))))))))))))), ?_⟩
    obtain ⟨hA, g4, bg, bt⟩ := id hB
    obtain ⟨q1, q2, h1, h2, h3, t0, t1, g0, g1, pt, sm⟩ := id hA
    have t5 : t.length ≤ 5 := let ⟨_, _, _, _, _, z⟩ := hN; z
    have bg' : ∀ i, i < g.length → 0 ≤ at' g i ∧ at' g i ≤ 1000000 := fun i hi => ⟨(sm i hi).1, bg i hi⟩
    have i0 : ∀ {J : Hp} {σ' : L2.St}, Ex H J → σ'[1]? = some (some (.ref a)) → Ev (tOp (rIx K) (tVar 1) (tC (.int 0))) σ' J (.ref q1) := fun e h0 => ev_op (ev_var h0) ev_c (rv_ix (.inr (ex_t e h1)) rfl)
    have i1 : ∀ {J : Hp} {σ' : L2.St}, Ex H J → σ'[1]? = some (some (.ref a)) → Ev (tOp (rIx K) (tVar 1) (tC (.int 1))) σ' J (.ref q2) := fun e h0 => ev_op (ev_var h0) ev_c (rv_ix (.inr (ex_t e h1)) rfl)
    -- two lists
    refine q_par (cons_i ((el_listL (i0 (Ex.refl H) rfl) h2) H (Ex.refl H) _ fun pt' H1 hpt e1 l1 => cons_i ((el_listL (i1 e1 rfl) (ex_l e1 h3)) H1 (Ex.refl H1) _ fun pg' H2 hpg e2 l2 => ⟨_, _, rfl, ?_⟩)))
    have E2 := e1.trans e2
    have l1' := e2 _ _ l1
    show tSeq _ _ _ [some (.ref p), some (.ref a), some (.ref pt'), some (.ref pg'), none, none, none, none] H2
    -- the growth, and the normal form that is due
    refine q_par (cons_i ((eg_make (K := K) (C := C) (σ := [some (.ref p), some (.ref a), some (.ref pt'), some (.ref pg'), none, none, none, none]) (H := H2) (t := t) (g := g) (EvP.pair (ev_var rfl) (ev_var rfl) (.inl (sq_of l1')) (.inl (sq_of l2))) t0 t1 g0 g1 pt sm.small fun _ => rfl) H2 (Ex.refl H2) _ fun o H3 _ e3 go =>
      cons_i ⟨_, rfl, a, t, g, rfl, hA.mono (E2.trans e3), fun rd pd qd tn gn H4 e4 hrd hpd hqd nf hv ln1 ln2 => ⟨_, _, rfl, ?_⟩⟩))
    have E4 := (E2.trans e3).trans e4
    have go4 := go.mono e4
    have lt4 := (e3.trans e4) _ _ l1'
    have lg4 := (e3.trans e4) _ _ l2
    have pne : pg' ≠ pt' := ne_of_none l1 hpg |>.symm
    obtain ⟨ftn, fgn⟩ := few_of nf t0 g0 hv ln1 ln2 t5 g4 pt bg' bt
    show tSeq _ _ _ [some (.ref p), some (.ref a), some (.ref pt'), some (.ref pg'), some (.ref o), some (.ref rd), none, none] H4
    refine q_when (b := false) (et_is (et_or (et_test (ev_nePP (ev_var rfl) (sq_of lt4) (i0 E4 rfl) (ex_l E4 h2))) fun _ => et_test (ev_nePP (ev_var rfl) (sq_of lg4) (i1 E4 rfl) (ex_l E4 h3))) (by rw [decide_eq_true rfl, decide_eq_true rfl]; rfl)) (fun hb => absurd hb (by decide)) (fun _ H5 e5 => ?_)
    have E5 := E4.trans e5
    -- the lists change
    refine q_app (e5 _ _ lt4) (ev_var rfl) (v := .int 3) ev_c (by rw [vI_len]; omega) fun H6 e6 => ?_
    have E6 := E5.trans e6
    have lt6 := e6 _ _ (e5 _ _ lt4)
    have lg6 := e6 _ _ (e5 _ _ lg4)
    have go6 : GrF K C (upd H6 pt' (.lst (vI t ++ [.int 3]))) o (val t g) := gr_updL ((go4.mono e5).mono e6) lt6
    have hrd6 := sqt_updL (u := .lst (vI t ++ [.int 3])) (ex_t (e5.trans e6) hrd) lt6
    have hpd6 := sqt_updL (u := .lst (vI t ++ [.int 3])) (ex_t (e5.trans e6) hpd) lt6
    have hqd6 := sqt_updL (u := .lst (vI t ++ [.int 3])) (ex_t (e5.trans e6) hqd) lt6
    have lg6' : (upd H6 pt' (.lst (vI t ++ [.int 3]))) pg' = some (.lst (vI g)) := by rw [upd_ne pne]; exact lg6
    have E6' : Ex H (upd H6 pt' (.lst (vI t ++ [.int 3]))) := E6.mut hpt
    generalize upd H6 pt' (.lst (vI t ++ [.int 3])) = J6 at go6 hrd6 hpd6 hqd6 lg6' E6' ⊢
    refine q_setL (j := 0) (v := .int (at' g 0 + 1)) lg6' (ev_op (ev_op (y := .int 0) (ev_var rfl) ev_c (rv_ixL (sq_of lg6') (atI_vI (i := 0) g0))) ev_c rv_I0) (ev_var rfl) ev_c (by rw [vI_len]; exact g0) fun H7 e7 => ?_
    have lg7 := e7 _ _ lg6'
    have hpgH : H pg' = none := fresh_back e1 hpg
    have go7 : GrF K C (upd H7 pg' (.lst ((vI g).set 0 (.int (at' g 0 + 1))))) o (val t g) := gr_updL (go6.mono e7) lg7
    have hrd7 := sqt_updL (u := .lst ((vI g).set 0 (.int (at' g 0 + 1)))) (ex_t e7 hrd6) lg7
    have hpd7 := sqt_updL (u := .lst ((vI g).set 0 (.int (at' g 0 + 1)))) (ex_t e7 hpd6) lg7
    have hqd7 := sqt_updL (u := .lst ((vI g).set 0 (.int (at' g 0 + 1)))) (ex_t e7 hqd6) lg7
    have E7 : Ex H (upd H7 pg' (.lst ((vI g).set 0 (.int (at' g 0 + 1))))) := (E6'.trans e7).mut hpgH
    generalize upd H7 pg' (.lst ((vI g).set 0 (.int (at' g 0 + 1)))) = J7 at go7 hrd7 hpd7 hqd7 E7 ⊢
    have P7 := hP.mono E7 (Nat.le_refl m)
    show tSeq _ _ _ [some (.ref p), some (.ref a), some (.ref pt'), some (.ref pg'), some (.ref o), some (.ref rd), none, none] J7
    -- whether it is the growth, and its parts are those due
    refine ⟨_, rfl, _, rfl, cons_i (w_draw (p := p) (l := l) (cells := cells) (H := J7) (i := 0) (many := 9) rfl (fun H1 _ => ev_c) (by decide) (by decide) h63 m J7 (Keep.of_ex (Ex.refl J7)) P7 (by omega) _ fun v H8 hv8 P8 k8 => ?_)⟩
    obtain ⟨d, rfl, hd⟩ := hv8
    have A8 := Pl.keep P7 k8 (hA.mono E7)
    have go8 := GrF.keep P7 k8 go7
    have hrd8 := sqt_keep P7 k8 hrd7
    have hpd8 := sqt_keep P7 k8 hpd7
    have hqd8 := sqt_keep P7 k8 hqd7
    have K8 : Keep p H H8 := (Keep.of_ex E7).trans k8
    refine ⟨o, a, d, t, g, rfl, go8, A8, t5, g4, by omega, fun H9 e9 => ⟨true, rfl, iteF ?_⟩⟩
    have go9 := go8.mono e9
    have parts : ∃ (dx x y z : Addr), H9 o = some (.ins C dx [("told", .ref x), ("gains", .ref y), ("rises", .ref z)]) ∧ SqT K H9 x (vI tn) ∧ SqT K H9 y (vI gn) := by
      obtain ⟨tm, gm, ⟨dx, x, y, z, j1, j2, j3, _, nfm, _⟩, _, vm⟩ := go9
      obtain ⟨rfl, rfl⟩ := nf_one nfm nf fun n => by rw [vm, hv]
      exact ⟨dx, x, y, z, j1, j2, j3⟩
    obtain ⟨dx, x1, x2, x3, j1, j2, j3⟩ := parts
    refine (et_is (b := false) (et_test (ev_op (ev_repr2 (tw_tup (etu_fld (ev_var rfl) j1 G.cls G.told rfl j2) (etu_fld (ev_var rfl) j1 G.cls G.gains rfl j3)) ftn fgn) (ev_repr2 (tw_var (i := 5) rfl (ex_t e9 hrd8) (ex_t e9 hpd8) (ex_t e9 hqd8)) ftn fgn) (rv_ne rfl))) (by rw [decide_eq_true rfl]; rfl)) H9 (Ex.refl H9) _ ?_
    intro H10 e10
    refine iteF ?_
    show tSeq (tAsg (tCall (spLo K) [] E0 (tCons (tVar 0) (tCons (tVar 1) tNil))) (gName 6)) _ _ [some (.ref p), some (.ref a), some (.ref pt'), some (.ref pg'), some (.ref o), some (.ref rd), none, none] H10
    have E10 := e9.trans e10
    have P10 := P8.mono E10 (Nat.le_refl _)
    have N10 := hN.keep (hP) (K8.trans (Keep.of_ex E10))
    have A10 := A8.mono E10
    -- the same told for longer
    refine q_asgR ⟨_, rfl, _, rfl, p, l, cells, m + 1, a, t, g, rfl, P10, by omega, h63, N10, A10, g4, fun rl xl yl tl gl H11 k11 P11 hrl hxl hyl tl0 tl2 gl0 gl2 ptl sml hvl => ?_⟩
    have go11 := GrF.keep P10 k11 (go8.mono E10)
    have hrd11 := sqt_keep P10 k11 (ex_t E10 hrd8)
    have hpd11 := sqt_keep P10 k11 (ex_t E10 hpd8)
    have hqd11 := sqt_keep P10 k11 (ex_t E10 hqd8)
    have A11 := Pl.keep P10 k11 A10
    have K11 : Keep p H H11 := (K8.trans (Keep.of_ex E10)).trans k11
    obtain ⟨u1, u2, hu1, hu2, _⟩ := id A11
    show tSeq _ _ _ [some (.ref p), some (.ref a), some (.ref pt'), some (.ref pg'), some (.ref o), some (.ref rd), some (.ref rl), none] H11
    have x0 : Ev (tOp (rIx K) (tVar 6) (tC (.int 0))) [some (.ref p), some (.ref a), some (.ref pt'), some (.ref pg'), some (.ref o), some (.ref rd), some (.ref rl), none] H11 (.ref xl) := ev_op (ev_var rfl) ev_c (rv_ix (.inr hrl) rfl)
    have y0 : Ev (tOp (rIx K) (tVar 6) (tC (.int 1))) [some (.ref p), some (.ref a), some (.ref pt'), some (.ref pg'), some (.ref o), some (.ref rd), some (.ref rl), none] H11 (.ref yl) := ev_op (ev_var rfl) ev_c (rv_ix (.inr hrl) rfl)
    have z0 : Ev (tOp (rIx K) (tVar 1) (tC (.int 0))) [some (.ref p), some (.ref a), some (.ref pt'), some (.ref pg'), some (.ref o), some (.ref rd), some (.ref rl), none] H11 (.ref u1) := ev_op (ev_var rfl) ev_c (rv_ix (.inr hu1) rfl)
    have mk := (eg_make (K := K) (C := C) (EvP.tus (etu_tupleP x0 hxl) (etu_tupleP y0 hyl)) tl0 (by omega) gl0 (by omega) ptl sml.small hvl).any
    refine q_when (b := false) (et_is (et_or (et_test (ev_neR mk (er_var rfl go11) NE.nf)) fun _ => et_or (et_test (ev_eqRT GT (er_var rfl go11) (etu_var (i := 5) rfl hrd11))) fun _ => et_test (ev_eqRT GT (er_var rfl go11) (etu_tupleP z0 hu2))) rfl) (fun hb => absurd hb (by decide)) (fun _ H12 e12 => ?_)
    have P12 := P11.mono e12 (Nat.le_refl _)
    -- another one
    refine q_asgR ⟨_, rfl, p, l, cells, m + 1 + 2, false, rfl, P12, by omega, h63, fun t' g' a' H13 k13 P13 N13 A13 _ _ _ => ?_⟩
    have go13 := GrF.keep P12 k13 (go11.mono e12)
    have hrd13 := sqt_keep P12 k13 (ex_t e12 hrd11)
    have hpd13 := sqt_keep P12 k13 (ex_t e12 hpd11)
    have hqd13 := sqt_keep P12 k13 (ex_t e12 hqd11)
    have K13 : Keep p H H13 := (K11.trans (Keep.of_ex e12)).trans k13
    obtain ⟨_, _, _, _, _, t0', t1', g0', g1', pt'', sm'⟩ := id A13
    obtain ⟨tn', gn', nf', hv'⟩ := nf_ex (t := t') (g := g') t0' g0'
    show tRet _ _ [some (.ref p), some (.ref a), some (.ref pt'), some (.ref pg'), some (.ref o), some (.ref rd), some (.ref rl), some (.ref a')] H13
    have tw2 : EvTw K (tCall (spNo K) [] E0 (tCons (tVar 7) tNil)) [some (.ref p), some (.ref a), some (.ref pt'), some (.ref pg'), some (.ref o), some (.ref rd), some (.ref rl), some (.ref a')] H13 tn' gn' := fun J e Q q =>
      ⟨_, rfl, a', t', g', rfl, A13.mono e, fun r x y t2 g2 J2 e2 hr2 hx2 hy2 nf2 hv2 _ _ => by
        obtain ⟨rfl, rfl⟩ := nf_one nf2 nf' fun n => by rw [hv2, hv']
        exact q r x y J2 e2 hr2 hx2 hy2⟩
    have ix5 : Ev (tOp (rIx K) (tVar 5) (tC (.int 0))) [some (.ref p), some (.ref a), some (.ref pt'), some (.ref pg'), some (.ref o), some (.ref rd), some (.ref rl), some (.ref a')] H13 (.ref pd) := ev_op (ev_var rfl) ev_c (rv_ix (.inr hrd13) rfl)
    have sl := etu_cut (K := K) (tl := tNoPart) (th := tPart (tC (.int 1))) (lo := none) (hi := some ((1 : Nat) : Int)) ix5 eo_none (eo_some ev_c) hpd13
    rw [cut_take (n := 1) nf.told] at sl
    refine s_ret (v := .bl true) (ev_is (ev_andV (ev_op (ev_eqN (er_var rfl go13) (er_plainK rfl A13) NE.nf nf hv nf' hv') (ev_eqTw (tw_var (i := 5) rfl hrd13 hpd13 hqd13) tw2) (rv_eq rfl)) fun _ => ev_andV (ev_eqTuG (etu_first (n := 0) (er_var rfl go13) (ev_c (v := .int 0)) (by decide)) etu_nil) fun _ => ev_eqTuG (etu_first (n := 1) (er_var rfl go13) (ev_c (v := .int 1)) (by decide)) sl) ?_) fun H14 e14 => ?_
    · have w1 : pT (val t g) 0 = [] := rfl
      have w2 : pT (val t g) 1 = tn.take 1 := by
        refine at_eq_of (by rw [pT_len, List.length_take]; have := nf.told; omega) fun i hi => ?_
        rw [pT_len] at hi
        rw [pT_at hi, at_take hi, ← val_lt (g := gn) (by have := nf.told; omega), hv]
      rw [decide_eq_true rfl, decide_eq_true w1, decide_eq_true w2]
      rfl
    · exact k H14 (K13.trans (Keep.of_ex e14)) ((P13.mono e14 (Nat.le_refl _)).le (by omega))
end
end K01
namespace K01
open PySem L2 Evl Gr ClX OpX StX StM OwX EqT
abbrev sKi : Stmt := top 46
section
variable {K : PySem.W.Frag} {σ : L2.St} {H : Hp} {ta tb tl te : TE} {C : Addr}
theorem for_i {tl : TE} {g : TG} {tu tz : TS} {D : Ends} (h : tl σ H fun x H1 => ∃ a, x = .ref a ∧ (∃ xs, SqL K H1 a xs) ∧ tFor (fun _ _ R => R (Itl K a) H1) g tu { D with nx := tz D } σ H1) : tSeq (tFor (iList K tl) g tu) tz D σ H := h
theorem s_retR {D : Ends} (h : te σ H D.rt) : tRet te D σ H := h
end
abbrev fRamp (b y : Nat) : Nat → Int := fun n => (b : Int) + n * (y : Int)
section
variable {P : Program} {w : World} {K : PySem.W.Frag} {mg : Str → Option Value} {base : Heap}
/-! ### _law_kinds_right -/
def spKi : Sp := fun vs H Q _ => ∃ (p l : Addr) (cells : List Int) (m : Nat), vs = [.ref p] ∧ PenAt H p l cells m ∧ m + 20 ≤ 50000 ∧ cells.length ≤ 63 ∧ ∀ H', Keep p H H' → PenAt H' p l cells (m + 4) → Q (.bl true) H'
abbrev nKi : List Str := ["_law_pen_here", "_law_gain", "_law_begin_so", "_law_many", "_law_ramp", "_law_steps_so", "_law_same", "_law_n"]
theorem scKi : FnScope nKi ["_law_pen_here"] (defScope sKi) := ⟨rfl, rfl, rfl, by decide +kernel, rfl, by decide +kernel, by decide +kernel⟩
theorem ok_Ki {C f fE fC fCo fRa fSt pCo pRa pSt : Addr} {mc u0 : Value} {fd fdE fdC fdCo fdRa fdSt : FuncData} (F : Fun K "_law_kinds_right" "_law_kinds_right" sKi f fd) (int_ : mg "int" = none) (N : GName K mg C mc) (NE : GNe K C fE) (CO : CallO K C fC)
    (SCo : SMet K C mc "constant" pCo fCo) (SRa : SMet K C mc "ramp" pRa fRa) (SSt : SMet K C mc "steps" pSt fSt)
    (GE : FnOk P w K mg base CX0 1 fE fdE ["self", "other"] (spGEq K C)) (bE : Binds K fdE ["self", "other"] []) (GC : FnOk P w K mg base CX0 3 fC fdC ["self", "n"] (spGCall K C)) (bC : Binds K fdC ["self", "n"] [])
    (GCo : FnOk P w K mg base CX0 6 fCo fdCo ["value"] (spConst K C)) (bCo : Binds K fdCo ["value"] []) (GSt : FnOk P w K mg base CX0 6 fSt fdSt ["many"] (spSteps K C)) (bSt : Binds K fdSt ["many"] []) (kSt : KBn K fdSt ["many"] 0 ["many"] (fun us ws => us ++ ws) (fun vs zs => vs ++ zs))
    (GRa : FnOk P w K mg base CX0 6 fRa fdRa ["gain", "begin"] (spRamp K C)) (bRa : Binds K fdRa ["gain", "begin"] [u0]) (bRa2 : Binds K fdRa ["gain", "begin"] []) (hu : Vals [.int 0] [u0]) (kRa : KBn K fdRa ["gain", "begin"] 0 ["begin", "gain"] (fun us ws => us ++ ws.reverse) (fun vs zs => vs ++ zs.reverse))
    (LD : Gfn P w K mg base 1 "_law_draw" ["_law_pen_here", "_law_many"] spDraw) (LP : Gfn P w K mg base 2 "_law_pick" ["_law_pen_here", "_law_some"] spPick) :
    FnOk P w K mg base CX0 8 f fd ["_law_pen_here"] spKi := by
  obtain ⟨fD, fdD, GD, kD, bD, gD⟩ := LD
  obtain ⟨fP, fdP, GP, kP, bP, gP⟩ := LP
  refine F.ok scKi (fun vs H Q E h => ?_) (fun cdv A outer s H vs Q E hr h => ?_)
  · obtain ⟨p, l, cells, m, rfl, _⟩ := h
    rfl
  · obtain ⟨p, l, cells, m, rfl, hP, hm, h63, k⟩ := h
    have r6 := hr.mono (show 6 ≤ 7 by decide)
    have r3 := hr.mono (show 3 ≤ 7 by decide)
    have r2 := hr.mono (show 2 ≤ 7 by decide)
    have r1 := hr.mono (show 1 ≤ 7 by decide)
    refine ⟨_, pss_cons (ps_par3 (i := 1) (j := 2) (l := 3) rfl scKi.nd rfl rfl rfl (by decide) (by decide) (by decide) (by rfl) (by rfl) (by rfl)
        (pa_cons (pe_call GP r2 (by rfl) gP kP bP .nil pass0 (pa_cons (pv 0) (pa_cons (pe_lst (pa_cons pe_int (pa_cons pe_int (pa_cons (pe_op op_pow pe_int pe_int) pa_nil)))) pa_nil)))
        (pa_cons (pe_call GD r1 (by rfl) gD kD bD .nil pass0 (pa_cons (pv 0) (pa_cons pe_int pa_nil)))
        (pa_cons (pe_op op_add pe_int (pe_call GD r1 (by rfl) gD kD bD .nil pass0 (pa_cons (pv 0) (pa_cons pe_int pa_nil)))) pa_nil))) (by rfl))
      (pss_cons (ps_par3 (i := 4) (j := 5) (l := 6) rfl scKi.nd rfl rfl rfl (by decide) (by decide) (by decide) (by rfl) (by rfl) (by rfl)
        (pa_cons (pe_smeth (pe_glob (v := .ref C) rfl N.g rfl) N.rd SRa (fnR0 GRa bRa2) r6 pass0 (pa_cons (pv 1) (pa_cons (pv 2) pa_nil))) (pa_cons (pe_smeth (pe_glob (v := .ref C) rfl N.g rfl) N.rd SSt (fnR0 GSt bSt) r6 pass0 (pa_cons (pv 3) pa_nil))
        (pa_cons (pe_smeth (pe_glob (v := .ref C) rfl N.g rfl) N.rd SCo (fnR0 GCo bCo) r6 pass0 (pa_cons (pv 2) pa_nil)) pa_nil))) (by rfl))
      (pss_cons (ps_for PassesOwn.never rfl (pi_list (pe_lst (pa_cons pe_int (pa_cons pe_int (pa_cons pe_int (pa_cons (pe_op op_sub (pv 3) pe_int) (pa_cons (pv 3) (pa_cons (pe_op op_add (pv 3) pe_int) (pa_cons (pe_op op_add (pe_op op_mul pe_int (pv 3)) pe_int) (pa_cons (pe_op op_pow pe_int pe_int)
          (pa_cons (pe_call GD r1 (by rfl) gD kD bD .nil pass0 (pa_cons (pv 0) (pa_cons (pe_op op_pow pe_int pe_int) pa_nil))) pa_nil))))))))))) (pg_name (i := 7) scKi.nd rfl (.inl rfl))
        (pss_one (ps_if (pt_cmpR (op_neD hr.units) (pe_lst (pa_cons (pe_callO (pv 4) CO (fnR0 GC bC) r3 pass0 (pa_cons (pv 7) pa_nil)) (pa_cons (pe_callO (pv 5) CO (fnR0 GC bC) r3 pass0 (pa_cons (pv 7) pa_nil)) (pa_cons (pe_callO (pv 6) CO (fnR0 GC bC) r3 pass0 (pa_cons (pv 7) pa_nil)) pa_nil))))
          (pe_lst (pa_cons (pe_op op_add (pv 2) (pe_op op_mulW (pv 1) (pv 7))) (pa_cons (pe_op op_fdiv (pe_callTy call_int1 (by rfl) int_ (by decide +kernel) (pa_cons (pe_op op_sub (pe_op op_add (pv 7) (pv 3)) pe_int) pa_nil)) (pv 3)) (pa_cons (pv 2) pa_nil)))) (nomark _)) (pss_one ps_no) pss_nil)))
      (pss_one (ps_ret (pe_and (pe_cmpR (op_eqO (E := E0) (op := .Eq) (fun _ _ => rfl) NE.has (fnR0 GE bE) r1 pass0) (pe_smethK (pe_glob (v := .ref C) rfl N.g rfl) N.rd SRa GRa r6 kRa (pk_cons (pv 2) (pk_cons (pv 1) pk_nil))) (pv 4) (nomark _))
        (pe_and (pe_cmpR op_eq (pe_callO (pe_smeth (pe_glob (v := .ref C) rfl N.g rfl) N.rd SRa (GRa.raw bRa hu) r6 pass0 (pa_cons (pv 1) pa_nil)) CO (fnR0 GC bC) r3 pass0 (pa_cons pe_int pa_nil)) (pe_op op_mul pe_int (pv 1)) (nomark _))
        (pe_one (pe_cmpR (op_eqO (E := E0) (op := .Eq) (fun _ _ => rfl) NE.has (fnR0 GE bE) r1 pass0) (pe_smethK (pe_glob (v := .ref C) rfl N.g rfl) N.rd SSt GSt r6 kSt (pk_cons (pv 3) pk_nil)) (pv 5) (nomark _))))))))), ?_⟩
    have pw : ∀ {x y : Int} {σ : L2.St} {H1 : Hp}, CPow x y → Ev (tOp (L2.rI CPow fun i j => .int (i ^ j.toNat)) (tC (.int x)) (tC (.int y))) σ H1 (.int (x ^ y.toNat)) := fun h => ev_op ev_c ev_c (rv_I h)
    have e30 : (10 : Int) ^ (30 : Int).toNat = 1000000000000000000000000000000 := by decide
    have e40 : (10 : Int) ^ (40 : Int).toNat = 10000000000000000000000000000000000000000 := by decide
    have e40' : (10 : Int) ^ 40 = 10000000000000000000000000000000000000000 := by decide
    have e9 : (10 : Int) ^ (9 : Int).toNat = 1000000000 := by decide
    -- what is drawn
    refine q_par3 (cons_i (w_pick (p := p) (l := l) (cells := cells) (H := H) (i := 0) (ns := [0, 3, (10 : Int) ^ (30 : Int).toNat]) rfl (fun H1 => ea_cons ev_c (ea_cons ev_c (ea_cons (pw ⟨by decide, by decide, by decide⟩) ea_nil))) (by decide) (by decide) h63 m H (Keep.of_ex (Ex.refl H)) hP (by omega) _ fun v H1 hv P1 k1 =>
      cons_i (w_draw (p := p) (l := l) (cells := cells) (H := H1) (i := 0) (many := 50) rfl (fun H1 _ => ev_c) (by decide) (by decide) h63 (m + 1) H1 (Keep.of_ex (Ex.refl H1)) P1 (by omega) _ fun v2 H2 hv2 P2 k2 =>
      cons_i (op_i (c_i (w_draw (p := p) (l := l) (cells := cells) (H := H2) (i := 0) (many := 60) rfl (fun H1 _ => ev_c) (by decide) (by decide) h63 (m + 1 + 1) H2 (Keep.of_ex (Ex.refl H2)) P2 (by omega) _ fun v3 H3 hv3 P3 k3 => ?_)))))) 
    obtain ⟨gz, rfl, hgz⟩ := hv
    obtain ⟨b, rfl, hb⟩ := hv2
    obtain ⟨d, rfl, hd⟩ := hv3
    have gz2 : 0 ≤ gz ∧ gz ≤ 1000000000000000000000000000000 := by
      rw [e30] at hgz
      rcases List.mem_cons.mp hgz with rfl | hgz
      · exact ⟨by decide, by decide⟩
      rcases List.mem_cons.mp hgz with rfl | hgz
      · exact ⟨by decide, by decide⟩
      rcases List.mem_cons.mp hgz with rfl | hgz
      · exact ⟨by decide, by decide⟩
      cases hgz
    obtain ⟨y, rfl⟩ := Int.eq_ofNat_of_zero_le gz2.1
    have hy : (y : Int) ≤ 1000000000000000000000000000000 := gz2.2
    refine ⟨1, (d : Int), rfl, rfl, _, _, _, rfl, ?_⟩
    obtain ⟨c, hc⟩ : ∃ c, c = 1 + d := ⟨_, rfl⟩
    have ec : (1 : Int) + (d : Int) = (c : Int) := by omega
    have c0 : 0 < c := by omega
    have c61 : c ≤ 61 := by omega
    have K3 : Keep p H H3 := (k1.trans k2).trans k3
    show tSeq _ _ _ [some (.ref p), some (.int (y : Int)), some (.int (b : Int)), some (.int ((1 : Int) + (d : Int))), none, none, none, none] H3
    rw [ec]
    -- the three growths
    refine q_par3 (cons_i ⟨rfl, _, rfl, _, rfl, b, y, rfl, by omega, fun o1 H4 _ e4 g1 => cons_i ⟨rfl, _, rfl, c, rfl, c0, by omega, fun o2 H5 _ e5 g2 => cons_i ⟨rfl, _, rfl, b, rfl, fun o3 H6 _ e6 g3 => ⟨_, _, _, rfl, ?_⟩⟩⟩⟩)
    have E6 := (e4.trans e5).trans e6
    have P6 := P3.mono E6 (Nat.le_refl _)
    show tSeq _ _ _ [some (.ref p), some (.int (y : Int)), some (.int (b : Int)), some (.int (c : Int)), some (.ref o1), some (.ref o2), some (.ref o3), none] H6
    -- the numbers
    have n4 : Ev (tOp (L2.rI0 fun i j => .int (i - j)) (tVar 3) (tC (.int 1))) [some (.ref p), some (.int (y : Int)), some (.int (b : Int)), some (.int (c : Int)), some (.ref o1), some (.ref o2), some (.ref o3), none] H6 (.int ((c - 1 : Nat) : Int)) := ev_is (ev_op (ev_var rfl) ev_c rv_I0) (by congr 1; omega)
    have n6 : Ev (tOp (L2.rI0 fun i j => .int (i + j)) (tVar 3) (tC (.int 1))) [some (.ref p), some (.int (y : Int)), some (.int (b : Int)), some (.int (c : Int)), some (.ref o1), some (.ref o2), some (.ref o3), none] H6 (.int ((c + 1 : Nat) : Int)) := ev_is (ev_op (ev_var rfl) ev_c rv_I0) (by congr 1)
    have n7 : Ev (tOp (L2.rI0 fun i j => .int (i + j)) (tOp (L2.rI CMul fun i j => .int (i * j)) (tC (.int 7)) (tVar 3)) (tC (.int 1))) [some (.ref p), some (.int (y : Int)), some (.int (b : Int)), some (.int (c : Int)), some (.ref o1), some (.ref o2), some (.ref o3), none] H6 (.int ((7 * c + 1 : Nat) : Int)) := ev_is (ev_op (ev_op ev_c (ev_var rfl) (rv_I (.inl ⟨by decide, by decide⟩))) ev_c rv_I0) (by congr 1)
    refine for_i (lst_i (cons_i (c_i (cons_i (c_i (cons_i (c_i (cons_i (n4 H6 (Ex.refl H6) _ fun J1 f1 => cons_i ⟨_, rfl, cons_i (n6 J1 f1 _ fun J2 f2 => cons_i (n7 J2 (f1.trans f2) _ fun J3 f3 => cons_i (pw (x := 10) (y := 40) ⟨by decide, by decide, by decide⟩ J3 (Ex.refl J3) _ fun J4 f4 => cons_i (w_draw (p := p) (l := l) (cells := cells) (H := J4) (i := 0) (many := (10 : Int) ^ (9 : Int).toNat) rfl (fun H1 _ => pw ⟨by decide, by decide, by decide⟩) (by decide) (by decide) h63 (m + 1 + 1 + 1) J4 (Keep.of_ex (Ex.refl J4)) (P6.mono ((f1.trans f2).trans (f3.trans f4)) (Nat.le_refl _)) (by omega) _ fun v4 J5 hv4 P7 k7 => ⟨by show 9 ≤ sizeLine; decide, fun L hL => ?_⟩))))⟩)))))))))
    obtain ⟨d4, rfl, hd4⟩ := hv4
    rw [e9] at hd4
    have F4 := (f1.trans f2).trans (f3.trans f4)
    have P6' := P6.mono F4 (Nat.le_refl _)
    have G1 := GrF.keep P6' k7 (((g1.mono e5).mono e6).mono F4)
    have G2 := GrF.keep P6' k7 ((g2.mono e6).mono F4)
    have G3 := GrF.keep P6' k7 (g3.mono F4)
    obtain ⟨xs, hxs⟩ : ∃ xs : List V, xs = [.int 0, .int 1, .int 2, .int ((c - 1 : Nat) : Int), .int (c : Int), .int ((c + 1 : Nat) : Int), .int ((7 * c + 1 : Nat) : Int), .int ((10 : Int) ^ (40 : Int).toNat), .int (d4 : Int)] := ⟨_, rfl⟩
    rw [← hxs]
    have e8 := Ex.new (H := J5) (o := .lst xs) hL
    have h8 : (upd J5 L (.lst xs)) L = some (.lst xs) := upd_same
    have P8 := P7.mono e8 (Nat.le_refl _)
    have K8 : Keep p H (upd J5 L (.lst xs)) := ((K3.trans (Keep.of_ex (E6.trans F4))).trans k7).trans (Keep.of_ex e8)
    generalize upd J5 L (.lst xs) = J8 at e8 h8 P8 K8 ⊢
    refine ⟨L, rfl, ⟨_, sq_of h8⟩, for_list (xs := xs) (fun _ σ' H' => ∃ x : Option V, σ' = [some (.ref p), some (.int (y : Int)), some (.int (b : Int)), some (.int (c : Int)), some (.ref o1), some (.ref o2), some (.ref o3), x] ∧ Ex J8 H') ⟨_, rfl, Ex.refl _⟩ (fun _ _ H' _ ⟨_, _, e⟩ => sq_of (e _ _ h8)) ?_ ?_⟩
    · rintro i x σ' H11 hx ⟨x0, rfl, e11⟩
      obtain ⟨n, rfl, hn⟩ : ∃ n : Nat, x = .int (n : Int) ∧ (n : Int) ≤ 10 ^ 40 := by
        rw [hxs] at hx
        rw [e40']
        have hi : i < 9 := (List.getElem?_eq_some_iff.mp hx).1
        have : i = 0 ∨ i = 1 ∨ i = 2 ∨ i = 3 ∨ i = 4 ∨ i = 5 ∨ i = 6 ∨ i = 7 ∨ i = 8 := by omega
        rcases this with rfl | rfl | rfl | rfl | rfl | rfl | rfl | rfl | rfl
        · exact ⟨0, (Option.some.inj hx).symm, by decide⟩
        · exact ⟨1, (Option.some.inj hx).symm, by decide⟩
        · exact ⟨2, (Option.some.inj hx).symm, by decide⟩
        · exact ⟨c - 1, (Option.some.inj hx).symm, by omega⟩
        · exact ⟨c, (Option.some.inj hx).symm, by omega⟩
        · exact ⟨c + 1, (Option.some.inj hx).symm, by omega⟩
        · exact ⟨7 * c + 1, (Option.some.inj hx).symm, by omega⟩
        · exact ⟨10 ^ 40, (Option.some.inj hx).symm, by decide⟩
        · exact ⟨d4, (Option.some.inj hx).symm, by omega⟩
      have E11 := e8.trans e11
      show tIfS _ _ _ _ [some (.ref p), some (.int (y : Int)), some (.int (b : Int)), some (.int (c : Int)), some (.ref o1), some (.ref o2), some (.ref o3), some (.int (n : Int))] H11
      have hn' := hn
      rw [e40'] at hn'
      refine s_if (b := false) (et_test (ev_neLs (xs := [fRamp b y n, val [0] (stp c) n, (b : Int)]) (el_lst (ea_cons (ev_callG (f := fRamp b y) (n := n) (er_var rfl (G1.mono E11)) (ev_var rfl) hn) (ea_cons (ev_callG (f := val [0] (stp c)) (n := n) (er_var rfl (G2.mono E11)) (ev_var rfl) hn) (ea_cons (ev_callG (f := fun _ => (b : Int)) (n := n) (er_var rfl (G3.mono E11)) (ev_var rfl) hn) ea_nil))) (by show 3 ≤ 100000; decide))
        (el_lst (ea_cons (ev_is (ev_op (ev_var rfl) (ev_op (ev_var rfl) (ev_var rfl) (rv_I (wide_mul (a := 140) (b := 140) (wide_lt40 ⟨by omega, by omega⟩) (wide_lt40 ⟨by omega, by omega⟩) (by decide) (by decide) (by decide)))) rv_I0) (by show V.int ((b : Int) + (y : Int) * (n : Int)) = V.int ((b : Int) + (n : Int) * (y : Int)); rw [Int.mul_comm]))
          (ea_cons (ev_is (ev_op (ev_cb (ea_cons (ev_op (ev_op (ev_var rfl) (ev_var rfl) rv_I0) ev_c rv_I0) ea_nil) rc_int) (ev_var rfl) (rv_I ⟨by omega, by omega⟩)) (by
            rw [val_stp c0]
            have : (n : Int) + (c : Int) - 1 = ((n + c - 1 : Nat) : Int) := by omega
            rw [this]
            rfl)) (ea_cons (ev_var rfl) ea_nil))) (by show 3 ≤ 100000; decide)))) (fun hb => absurd hb (by decide)) (fun _ H14 e14 => ⟨_, rfl, e11.trans e14⟩)
    · rintro σ' H11 ⟨x0, rfl, e11⟩
      have E11 := e8.trans e11
      have G1' := G1.mono E11
      have G2' := G2.mono E11
      dsimp only
      refine s_ret (v := .bl true) (ev_is (ev_andV (ev_eqR (f := fRamp b y) (fun J e Q q => ⟨rfl, _, rfl, _, rfl, rfl, b, y, rfl, by omega, fun o J3 _ f3 gr => q o J3 f3 gr⟩) (er_var rfl G1') NE.nf) fun _ => ev_andV (ev_op (ev_callG (f := fRamp 0 y) (n := 5) (fun J e Q q => ⟨rfl, _, rfl, 0, y, rfl, by omega, fun o J3 _ f3 gr => q o J3 f3 gr⟩) (ev_c (v := .int 5)) (by decide)) (ev_op ev_c (ev_var rfl) (rv_I (.inl ⟨by decide, by decide⟩))) (rv_eq rfl))
        fun _ => ev_eqR (f := val [0] (stp c)) (fun J e Q q => ⟨rfl, _, rfl, rfl, c, rfl, c0, by omega, fun o J3 _ f3 gr => q o J3 f3 gr⟩) (er_var rfl G2') NE.nf) ?_) fun H12 e12 => ?_
      · have : V.int (fRamp 0 y 5) = V.int (5 * (y : Int)) := by
          show V.int (((0 : Nat) : Int) + ((5 : Nat) : Int) * (y : Int)) = V.int (5 * (y : Int))
          congr 1
          omega
        rw [this, decide_eq_true rfl]
        rfl
      · exact k H12 (K8.trans (Keep.of_ex (e11.trans e12))) (P8.mono (e11.trans e12) (Nat.le_refl _))
end
end K01
namespace Gr
theorem acc_const {x : Int} : ∀ n : Nat, acc (fun _ => x) n = (n : Int) * x
  | 0 => by show (0 : Int) = ((0 : Nat) : Int) * x; rw [Int.natCast_zero, Int.zero_mul]
  | n + 1 => by
    show acc (fun _ => x) n + x = _
    rw [acc_const n, show ((n + 1 : Nat) : Int) = (n : Int) + 1 from rfl, Int.add_mul, Int.one_mul]
theorem dif_three : dif [3, 3] = fun _ => 3 := funext fun k => by
  unfold dif
  have : k % [3, 3].length < 2 := Nat.mod_lt k (by decide)
  generalize k % [(3 : Int), 3].length = r at this
  have : r = 0 ∨ r = 1 := by omega
  rcases this with rfl | rfl <;> rfl
theorem val_spare (n : Nat) : val [0, 3, 6] [3, 3] n = (n : Int) * 3 := by
  rcases Nat.lt_or_ge n 2 with h | h
  · rw [val_lt (by show n < 3; omega)]
    have : n = 0 ∨ n = 1 := by omega
    rcases this with rfl | rfl <;> rfl
  · obtain ⟨k, rfl⟩ : ∃ k, n = 2 + k := ⟨n - 2, by omega⟩
    have v := val_ge (t := [0, 3, 6]) (g := [3, 3]) (by decide) k
    rw [show [(0 : Int), 3, 6].length - 1 + k = 2 + k from rfl, dif_three, acc_const] at v
    rw [v]
    show (6 : Int) + _ = _
    omega
theorem nf_three : NF [0] [3] := ⟨by decide, by decide, ⟨by decide, fun k => by unfold dif; rw [show [(3 : Int)].length = 1 from rfl, Nat.mod_one, Nat.mod_one], fun q hq _ => hq⟩, .inl rfl⟩
end Gr
namespace K01
open PySem L2 Evl Gr ClX OpX StX StM OwX EqT
abbrev sLaw : Stmt := top 47
section
variable {K : PySem.W.Frag} {σ : L2.St} {H : Hp} {ta tb tl te : TE} {C : Addr} {f : Nat → Int}
theorem etu_toldR {t g : List Int} (G : GCls K C) (h : EvR K C te σ H f) (nf : NF t g) (hv : ∀ n, val t g n = f n) : EvTu K (tFld K te "told") σ H (vI t) := fun H1 e Q q =>
  h H1 e _ fun o H2 e2 go => by
    obtain ⟨tm, gm, ⟨dx, x, y, z, j1, j2, j3, _, nfm, _⟩, _, vm⟩ := go
    obtain ⟨rfl, rfl⟩ := nf_one nfm nf fun n => by rw [vm, hv]
    exact ⟨o, C, dx, _, _, rfl, j1, G.cls, G.told, rfl, q x H2 e2 j2⟩
theorem etu_gainsR {t g : List Int} (G : GCls K C) (h : EvR K C te σ H f) (nf : NF t g) (hv : ∀ n, val t g n = f n) : EvTu K (tFld K te "gains") σ H (vI g) := fun H1 e Q q =>
  h H1 e _ fun o H2 e2 go => by
    obtain ⟨tm, gm, ⟨dx, x, y, z, j1, j2, j3, _, nfm, _⟩, _, vm⟩ := go
    obtain ⟨rfl, rfl⟩ := nf_one nfm nf fun n => by rw [vm, hv]
    exact ⟨o, C, dx, _, _, rfl, j1, G.cls, G.gains, rfl, q y H2 e2 j3⟩
theorem ev_lenT {p : Addr} {g : List Int} (h : Ev ta σ H (.ref p)) (hs : SqT K H p (vI g)) : Ev (tCB (fun xs H Q => ∃ p ys, xs = [V.ref p] ∧ (SqL K H p ys ∨ SqT K H p ys) ∧ Q (.int ys.length) H) (tCons ta tNil)) σ H (.int (g.length : Int)) := ev_is (ev_cb (ea_cons h ea_nil) (rc_lenQ (.inr hs))) (by rw [vI_len])
theorem evp_tl {t g : List Int} (ha : EvTu K ta σ H (vI t)) (hb : EvL tb σ H (vI g)) : EvP K (tCons ta (tCons tb tNil)) σ H t g := fun H1 e Q q =>
  ha H1 e _ fun a H2 e2 h2 => hb H2 (e.trans e2) _ fun b H3 _ e3 h3 => q a b H3 (e2.trans e3) (.inr (ex_t e3 h2)) (.inl (sq_of h3))
theorem evp1_lst {t : List Int} (ha : EvL ta σ H (vI t)) : EvP1 K (tCons ta tNil) σ H t := fun H1 e Q q => ha H1 e _ fun a H2 _ e2 h2 => q a H2 e2 (.inl (sq_of h2))
theorem etu_disp {t : TA} {xs : List V} (h : EvA t σ H xs) (hl : xs.length ≤ 100000) : EvTu K (tTup t) σ H xs := fun H1 e Q q => eu_tup h hl H1 e _ fun p H2 _ e2 h2 => q p H2 e2 (st_of h2)
end
abbrev nLaw : List Str := ["_law_script", "_law_pen_here", "_law_turn_so", "_law_plain_here", "_law_long"]
section
variable {P : Program} {w : World} {K : PySem.W.Frag} {mg : Str → Option Value} {base : Heap}
/-! ### law -/
def spLaw (K : PySem.W.Frag) : Sp := fun vs H Q _ => ∃ (a : Addr) (ns : List Int), vs = [.ref a] ∧ SqL K H a (ns.map V.int) ∧ ns.length ≤ 63 ∧ ∀ H', Q (.bl true) H'
theorem scLaw : FnScope nLaw ["_law_script"] (defScope sLaw) := ⟨rfl, rfl, rfl, by decide +kernel, rfl, by decide +kernel, by decide +kernel⟩
theorem ok_Law {C T0 f fI fE fC fF fCo fRa fSt pCo pRa pSt fR : Addr} {mc u0 : Value} {fd fdI fdE fdC fdF fdCo fdRa fdSt fdR : FuncData} (F : Fun K "law" "law" sLaw f fd) (T : GlbS mg) (N : GName K mg C mc) (G : GCls K C) (M : Mk K C fI) (NE : GNe K C fE) (CO : CallO K C fC) (MF : Meth K C "first" fF)
    (GI : FnOk P w K mg base CX0 4 fI fdI ["self", "told", "gains"] (spInit K C)) (bI : Binds K fdI ["self", "told", "gains"] []) (bI1 : Binds K fdI ["self", "told", "gains"] [.ref T0]) (hT : ∀ H, Sq K H T0 (vI [0]))
    (SCo : SMet K C mc "constant" pCo fCo) (SRa : SMet K C mc "ramp" pRa fRa) (SSt : SMet K C mc "steps" pSt fSt)
    (GE : FnOk P w K mg base CX0 1 fE fdE ["self", "other"] (spGEq K C)) (bE : Binds K fdE ["self", "other"] []) (GC : FnOk P w K mg base CX0 3 fC fdC ["self", "n"] (spGCall K C)) (bC : Binds K fdC ["self", "n"] [])
    (GF : FnOk P w K mg base CX0 3 fF fdF ["self", "n"] (spGFirst K C)) (bF : Binds K fdF ["self", "n"] [])
    (GCo : FnOk P w K mg base CX0 6 fCo fdCo ["value"] (spConst K C)) (kCo : KBn K fdCo ["value"] 0 ["value"] (fun us ws => us ++ ws) (fun vs zs => vs ++ zs)) (GSt : FnOk P w K mg base CX0 6 fSt fdSt ["many"] (spSteps K C)) (bSt : Binds K fdSt ["many"] [])
    (GRa : FnOk P w K mg base CX0 6 fRa fdRa ["gain", "begin"] (spRamp K C)) (bRa : Binds K fdRa ["gain", "begin"] [u0]) (hu : Vals [.int 0] [u0])
    (GR : FnG P w K mg base 6 fR fdR ["_law_pen_here", "_law_plain_here"] (spRi K)) (kR : PySem.W.keepIn K (.ref fR) = true) (bR : Binds K fdR ["_law_pen_here", "_law_plain_here"] []) (gR : mg "_law_right" = some (.ref fR))
    (LPe : Gfn P w K mg base 1 "_law_pen" ["_law_script"] (spPen K)) (LD : Gfn P w K mg base 1 "_law_draw" ["_law_pen_here", "_law_many"] spDraw) (LPl : Gfn P w K mg base 3 "_law_plain" ["_law_pen_here", "_law_is_rising"] (spPlain K))
    (LV : Gfn P w K mg base 1 "_law_value" ["_law_plain_here", "_law_n"] (spLV K)) (LK : Gfn P w K mg base 8 "_law_kinds_right" ["_law_pen_here"] spKi) :
    FnG P w K mg base 10 f fd ["_law_script"] (spLaw K) := by
  obtain ⟨fP, fdP, GP, kP, bP, gP⟩ := LPe
  obtain ⟨fD, fdD, GD, kD, bD, gD⟩ := LD
  obtain ⟨fL, fdL, GL, kL, bL, gL⟩ := LPl
  obtain ⟨fV, fdV, GV, kV, bV, gV⟩ := LV
  obtain ⟨fK, fdK, GK, kK, bK, gK⟩ := LK
  obtain ⟨mu, cm⟩ := N.most
  refine fnG_of F scLaw (fun vs H Q E h => ?_) (fun cdv A outer s H vs Q E gd hr h => ?_)
  · obtain ⟨a, ns, rfl, _⟩ := h
    rfl
  · obtain ⟨a, ns, rfl, hS, h63, k⟩ := h
    have gq : ∀ env, Qt (A.deeper env) := fun env => gd.deeper env
    have r8 := hr.mono (show 8 ≤ 9 by decide)
    have r6 := hr.mono (show 6 ≤ 9 by decide)
    have r5 := hr.mono (show 5 ≤ 9 by decide)
    have r3 := hr.mono (show 3 ≤ 9 by decide)
    have r2 := hr.mono (show 2 ≤ 9 by decide)
    have r1 := hr.mono (show 1 ≤ 9 by decide)
    refine ⟨_, pss_cons (ps_set (i := 1) scLaw.nd rfl (.inl rfl) (pe_call GP r1 (by rfl) gP kP bP .nil pass0 (pa_cons (pv 0) pa_nil)))
      (pss_cons (ps_for PassesOwn.never rfl (pi_range1 (by rfl) T.range (pa_cons pe_int pa_nil)) (pg_name (i := 2) scLaw.nd rfl (.inl rfl))
        (pss_one (ps_if (PW.pt (pw_or (pt_not (pt_val (pe_callG GR (gq _) r6 (by rfl) gR kR bR (pa_cons (pv 1) (pa_cons (pe_call GL r3 (by rfl) gL kL bL .nil pass0 (pa_cons (pv 1) (pa_cons (pe_cmpR op_eq (pe_call GD r1 (by rfl) gD kD bD .nil pass0 (pa_cons (pv 1) (pa_cons pe_int pa_nil))) pe_int (nomark _)) pa_nil))) pa_nil)))))
          (pw_or1 (pt_not (pt_val (pe_call GK r8 (by rfl) gK kK bK .nil pass0 (pa_cons (pv 1) pa_nil))))))) (pss_one ps_no) pss_nil)))
      (pss_cons (ps_if (PW.pt (pw_or (pt_cmpR (op_neO (E := E0) NE.has NE.ne NE.ob (fnR0 GE bE) r2 pass0) (pe_make M GI r5 (by rfl) N.g bI1 (dvs := [.ref T0]) (.cons rfl .nil) pass0 (pa_cons (pe_lst (pa_cons pe_int pa_nil)) pa_nil)) (pe_smethK (pe_glob (v := .ref C) rfl N.g rfl) N.rd SCo GCo r6 kCo (pk_cons pe_int pk_nil)) (nomark _))
          (pw_or (pt_cmpR (op_neD hr.units) (pe_fld (pe_smeth (pe_glob (v := .ref C) rfl N.g rfl) N.rd SRa (GRa.raw bRa hu) r6 pass0 (pa_cons pe_int pa_nil)) rfl) (pe_tup (pa_cons pe_int pa_nil)) (nomark _))
          (pw_or1 (pt_cmpR (op_neD hr.units) (pe_fld (pe_make M GI r5 (by rfl) N.g bI .nil pass0 (pa_cons (pe_tup (pa_cons pe_int (pa_cons pe_int (pa_cons pe_int pa_nil)))) (pa_cons (pe_lst (pa_cons pe_int (pa_cons pe_int pa_nil))) pa_nil))) rfl) (pe_tup (pa_cons pe_int pa_nil)) (nomark _)))))) (pss_one ps_no) pss_nil)
      (pss_cons (ps_set (i := 3) scLaw.nd rfl (.inl rfl) (pe_call GL r3 (by rfl) gL kL bL .nil pass0 (pa_cons (pv 1) (pa_cons pe_bl pa_nil))))
      (pss_cons (ps_set (i := 4) scLaw.nd rfl (.inl rfl) (pe_meth (pe_make M GI r5 (by rfl) N.g bI .nil pass0 (pa_cons (pe_ix ix_seq (pv 3) pe_int (fun _ _ => rfl)) (pa_cons (pe_ix ix_seq (pv 3) pe_int (fun _ _ => rfl)) pa_nil))) G.cls MF GF r3 bF .nil pass0 (pa_cons pe_int pa_nil)))
      (pss_cons (ps_if (PW.pt (pw_or (pt_cmpR op_ne (pe_callB call_len_seq (by rfl) T.len PySem.boot_len (pa_cons (pv 4) pa_nil)) pe_int (nomark _))
          (pw_or1 (pt_cmpR op_ne (pe_ix ix_seq (pv 4) (pe_un un_neg pe_int) (fun _ _ => rfl)) (pe_call GV r1 (by rfl) gV kV bV .nil pass0 (pa_cons (pv 3) (pa_cons pe_int pa_nil))) (nomark _))))) (pss_one ps_no) pss_nil)
      (pss_one (ps_ret (pe_cmpR (op_eqD hr.units) (pe_lst (pa_cons (pe_cval (pe_glob (v := .ref C) rfl N.g rfl)) (pa_cons (pe_callO (pe_smeth (pe_glob (v := .ref C) rfl N.g rfl) N.rd SSt (fnR0 GSt bSt) r6 pass0 (pa_cons pe_int pa_nil)) CO (fnR0 GC bC) r3 pass0 (pa_cons pe_int pa_nil))
        (pa_cons (pe_callO (pe_smeth (pe_glob (v := .ref C) rfl N.g rfl) N.rd SSt (fnR0 GSt bSt) r6 pass0 (pa_cons pe_int pa_nil)) CO (fnR0 GC bC) r3 pass0 (pa_cons pe_int pa_nil)) pa_nil)))) (pe_lst (pa_cons pe_int (pa_cons pe_int (pa_cons pe_int pa_nil)))) (nomark _))))))))), ?_⟩
    refine ⟨_, rfl, a, ns, rfl, hS, h63, fun p l H1 _ _ e1 hP => ?_⟩
    refine ⟨8, rfl, by decide, by decide, for_range (lo := 0) (n := 8) (fun i σ' H' => (∃ x2 : Option V, σ' = [some (.ref a), some (.ref p), x2, none, none]) ∧ PenAt H' p l ns (34 * i)) ⟨⟨none, rfl⟩, hP⟩ ?_ ?_⟩
    · rintro i σ' H2 hi ⟨⟨x2, rfl⟩, hP2⟩
      show tIfS _ _ _ _ [some (.ref a), some (.ref p), some (.int (0 + (i : Int))), none, none] H2
      refine ⟨_, rfl, cons_i ⟨_, rfl, cons_i (op_i (w_draw (p := p) (l := l) (cells := ns) (σ := [some (.ref a), some (.ref p), some (.int (0 + (i : Int))), none, none]) (H := H2) (i := 1) (many := 2) rfl (fun H1 _ => ev_c) (by decide) (by decide) h63 (34 * i) H2 (Keep.of_ex (Ex.refl H2)) hP2 (by omega) _ fun v H4 hv P4 k4 => ?_))⟩⟩
      obtain ⟨d, rfl, hd⟩ := hv
      refine ⟨rfl, p, l, ns, 34 * i + 1, _, rfl, P4, by omega, h63, fun t g a1 H5 k5 P5 N5 A5 a4 ab at_ => ?_⟩
      refine ⟨p, l, ns, 34 * i + 1 + 13, a1, t, g, rfl, P5, by omega, h63, N5, ⟨A5, a4, ab, at_⟩, fun H6 k6 P6 => ⟨true, rfl, iteF ?_⟩⟩
      refine ⟨_, rfl, p, l, ns, 34 * i + 1 + 13 + 16, rfl, P6, by omega, h63, fun H7 k7 P7 => ⟨true, rfl, iteF ?_⟩⟩
      refine ⟨⟨_, rfl⟩, ?_⟩
      have : 34 * (i + 1) = 34 * i + 1 + 13 + 16 + 4 := by omega
      rw [this]
      exact P7
    · rintro σ' H3 ⟨⟨x2, rfl⟩, P3⟩
      dsimp only
      have z0 : ∀ i, i < [(0 : Int)].length → 0 ≤ at' [(0 : Int)] i ∧ at' [(0 : Int)] i ≤ 1000000000000000000000000000000 := fun i hi => by
        have : i = 0 := by have : i < 1 := hi; omega
        subst this
        decide
      have z3 : ∀ i, i < [(3 : Int), 3].length → 0 ≤ at' [(3 : Int), 3] i ∧ at' [(3 : Int), 3] i ≤ 1000000000000000000000000000000 := fun i hi => by
        have : i = 0 ∨ i = 1 := by have : i < 2 := hi; omega
        rcases this with rfl | rfl <;> decide
      refine q_when (b := false) (et_is (et_or (et_test (ev_neR (f := fun _ => ((4 : Nat) : Int)) (eg_make1 (t := [4]) (g := [0]) (evp1_lst (el_lst (ea_cons ev_c ea_nil) (by show 1 ≤ 100000; decide))) hT (by decide) (by decide) (by decide) (by decide) (fun i hi => by
          have : i = 0 := by have : i < 1 := hi; omega
          subst this
          decide) z0 fun n => by rw [val_one, Int.mul_zero]; rfl).any (fun J e Q q => ⟨rfl, rfl, 4, rfl, fun o J3 _ f3 gr => q o J3 f3 gr⟩) NE.nf)) fun _ =>
        et_or (et_test (ev_neTu (etu_toldR (f := fRamp 0 3) G (fun J e Q q => ⟨rfl, 0, 3, rfl, by decide, fun o J3 _ f3 gr => q o J3 f3 gr⟩) nf_three fun n => by rw [val_one]; rfl) (etu_disp (xs := vI [0]) (ea_cons ev_c ea_nil) (by show 1 ≤ 100000; decide)))) fun _ =>
        et_test (ev_neTu (etu_gainsR (f := val [0, 3, 6] [3, 3]) G (eg_make (t := [0, 3, 6]) (g := [3, 3]) (evp_tl (etu_disp (ea_cons ev_c (ea_cons ev_c (ea_cons ev_c ea_nil))) (by show 3 ≤ 100000; decide)) (el_lst (ea_cons ev_c (ea_cons ev_c ea_nil)) (by show 2 ≤ 100000; decide))) (by decide) (by decide) (by decide) (by decide) (fun i hi => by
          have : i = 0 ∨ i = 1 ∨ i = 2 := by have : i < 3 := hi; omega
          rcases this with rfl | rfl | rfl <;> decide) z3 fun _ => rfl).any nf_three fun n => by rw [val_one, val_spare]; omega) (etu_disp (xs := vI [3]) (ea_cons ev_c ea_nil) (by show 1 ≤ 100000; decide)))) (by rw [decide_eq_true rfl, decide_eq_true rfl]; rfl)) (fun hb => absurd hb (by decide)) (fun _ H4 e4 => ?_)
      have P4 := P3.mono e4 (Nat.le_refl _)
      refine q_asgR ⟨_, rfl, p, l, ns, 34 * 8, true, rfl, P4, by decide, h63, fun t g a1 H5 k5 P5 N5 A5 a4 ab at_ => ?_⟩
      show tSeq _ _ _ [some (.ref a), some (.ref p), x2, some (.ref a1), none] H5
      refine q_asgT (etu_first (n := 2000) (er_plain rfl A5).any (ev_c (v := .int 2000)) (by decide)) fun pl H6 e6 h6 => ?_
      show tSeq _ _ _ [some (.ref a), some (.ref p), x2, some (.ref a1), some (.ref pl)] H6
      refine q_when (b := false) (et_is (et_or (et_test (ev_op (ev_lenT (ev_var rfl) h6) ev_c (rv_ne rfl))) fun _ => et_test (ev_op
        (ev_op (y := .int (-1)) (z := .int (val t g 1999)) (ev_var rfl) (ev_un ev_c ru_neg) (rv_ix (.inr h6) (by rw [atI_vlast (by rw [pT_len]; decide), pT_len, pT_at (by decide)])))
        (ev_call (ea_cons (ev_var rfl) (ea_cons ev_c ea_nil)) (spv_LV (n := 1999) (A5.mono e6))) (rv_ne rfl))) (by rw [pT_len, decide_eq_true (show V.int ((2000 : Nat) : Int) = V.int 2000 from rfl), decide_eq_true rfl]; rfl)) (fun hb => absurd hb (by decide)) (fun _ H7 e7 => ?_)
      show tRet _ _ [some (.ref a), some (.ref p), x2, some (.ref a1), some (.ref pl)] H7
      have st : ∀ {σ' : L2.St} {J : Hp}, EvR K C (tSMeth C (spSteps K C) E0 (tC (.ref C)) (tCons (tC (.int 2000)) tNil)) σ' J (val [0] (stp 2000)) := fun J e Q q => ⟨rfl, 2000, rfl, by decide, by decide, fun o J3 _ f3 gr => q o J3 f3 gr⟩
      have e40' : (10 : Int) ^ 40 = 10000000000000000000000000000000000000000 := by decide
      refine s_ret (v := .bl true) (ev_is (ev_eqL (xs := [2000, 2, 1]) (ys := [2000, 2, 1]) (el_lst (ea_cons (ev_cval ev_c N.rd cm) (ea_cons (ev_is (ev_callG (n := 2001) st (ev_c (v := .int 2001)) (by rw [e40']; decide)) (by rw [val_stp (by decide)]; rfl)) (ea_cons (ev_is (ev_callG (n := 2000) st (ev_c (v := .int 2000)) (by rw [e40']; decide)) (by rw [val_stp (by decide)]; rfl)) ea_nil))) (by show 3 ≤ 100000; decide))
        (el_lst (ea_cons ev_c (ea_cons ev_c (ea_cons ev_c ea_nil))) (by show 3 ≤ 100000; decide))) (by rw [decide_eq_true rfl])) fun H8 _ => k H8
end
end K01
namespace K01
open PySem L2 Evl Gr ClX OpX StX StM OwX EqT
theorem vals_rev {vs : List V} {us : List Value} (h : Vals vs us) : Vals vs.reverse us.reverse := h.reverse
/-- a def of the text named x, its full name y, where it stands -/
structure FQ (K : PySem.W.Frag) (x y : Str) (st : Stmt) (f : Addr) : Prop where
  l : ∃ (oc : Value) (od : Option Addr) (kV doc pm : Value) (an : Option Addr) (cdv ct : Value) (osl : Array (Option Value)),
    K.lookup f = some ⟨oc, od, .func (PySem.W.fnOf x y (defArgs st) (defBody st) (defScope st) .none kV doc pm an cdv ct), osl⟩ ∧ PySem.W.codeIn K cdv y = true
  k : PySem.W.keepIn K (.ref f) = true
theorem FQ.fn {K : PySem.W.Frag} {x y : Str} {st : Stmt} {f : Addr} (h : FQ K x y st f) : ∃ fd, Fun K x y st f fd := by
  obtain ⟨oc, od, kV, doc, pm, an, cdv, ct, osl, h1, h2⟩ := h.l
  exact ⟨_, fun_mk h1 h2 h.k⟩
/-- .. with defaults -/
structure FW (K : PySem.W.Frag) (x y : Str) (st : Stmt) (dvs : List V) (f : Addr) : Prop where
  l : ∃ (oc : Value) (od : Option Addr) (dV kV doc pm : Value) (an : Option Addr) (cdv ct : Value) (osl : Array (Option Value)),
    K.lookup f = some ⟨oc, od, .func (PySem.W.fnOf x y (defArgs st) (defBody st) (defScope st) dV kV doc pm an cdv ct), osl⟩ ∧ PySem.W.codeIn K cdv y = true ∧ DflV K dV dvs
  k : PySem.W.keepIn K (.ref f) = true
theorem FW.fn {K : PySem.W.Frag} {x y : Str} {st : Stmt} {dvs : List V} {f : Addr} (h : FW K x y st dvs f) : ∃ fd, FunD K x y (defArgs st) (defBody st) (defScope st) dvs [] f fd := by
  obtain ⟨oc, od, dV, kV, doc, pm, an, cdv, ct, osl, h1, h2, h3⟩ := h.l
  exact ⟨_, ⟨⟨oc, od, dV, kV, doc, pm, an, cdv, ct, osl, rfl, h1, h2, h3, .inl rfl⟩, h.k⟩⟩
theorem kit_self {K : PySem.W.Frag} {C : Addr} : PySem.W.kitOne K (.ref C) (.ref C) = some true := by
  unfold PySem.W.kitOne
  rw [if_pos (by simp)]
theorem kit_sub {K : PySem.W.Frag} {C : Addr} {t : String} {b : Bool} (m : PySem.W.kitMeta t = true) (h : PySem.W.subIn K (.ref C) (.type t) = some b) : PySem.W.kitOne K (.ref C) (.type t) = some b := by
  unfold PySem.W.kitOne PySem.W.kitCls
  rw [if_neg (by simp)]
  show (if PySem.W.kitMeta t = true then PySem.W.subIn K (.ref C) (.type t) else none) = some b
  rw [if_pos m]
  exact h
theorem all_mk {l : PySem.W.OpenLaw} {w : World} {K : PySem.W.Frag} {h : Heap} {mg : Str → Option Value} {fa fInt fWi fZ fLp fSp fNf fRi fVa fFi fAp fPe fDr fPi fPl fLV fLW fLI fLN fLL fLR fLK fLa mEq mCa mMf mCn mSt mIn mRa C T0 pCn pRa pSt : Addr} {mc : Value} (X : K.In h) (G : h.Ns mainGlobals mg) (hfa : mg "law" = some (.ref fa))
    (aInt : PySem.W.nsIn K mainGlobals "is_integer" = some (some (.ref fInt))) (hInt : FQ K "is_integer" "is_integer" (top 3) fInt)
    (aWi : PySem.W.nsIn K mainGlobals "is_within" = some (some (.ref fWi))) (hWi : FQ K "is_within" "is_within" (top 4) fWi)
    (aZ : PySem.W.nsIn K mainGlobals "is_from_zero" = some (some (.ref fZ))) (hZ : FQ K "is_from_zero" "is_from_zero" (top 5) fZ)
    (aLp : PySem.W.nsIn K mainGlobals "least_period" = some (some (.ref fLp))) (hLp : FQ K "least_period" "least_period" (top 14) fLp)
    (aSp : PySem.W.nsIn K mainGlobals "spare_told" = some (some (.ref fSp))) (hSp : FQ K "spare_told" "spare_told" (top 15) fSp)
    (aNf : PySem.W.nsIn K mainGlobals "normal_form" = some (some (.ref fNf))) (hNf : FQ K "normal_form" "normal_form" (top 16) fNf)
    (aRi : PySem.W.nsIn K mainGlobals "rises_of" = some (some (.ref fRi))) (hRi : FQ K "rises_of" "rises_of" (top 17) fRi)
    (aVa : PySem.W.nsIn K mainGlobals "value_at" = some (some (.ref fVa))) (hVa : FQ K "value_at" "value_at" (top 18) fVa)
    (aFi : PySem.W.nsIn K mainGlobals "first_values" = some (some (.ref fFi))) (hFi : FQ K "first_values" "first_values" (top 19) fFi)
    (aAp : PySem.W.nsIn K mainGlobals "are_parts" = some (some (.ref fAp))) (hAp : FQ K "are_parts" "are_parts" (top 32) fAp)
    (aPe : PySem.W.nsIn K mainGlobals "_law_pen" = some (some (.ref fPe))) (hPe : FQ K "_law_pen" "_law_pen" (top 36) fPe)
    (aDr : PySem.W.nsIn K mainGlobals "_law_draw" = some (some (.ref fDr))) (hDr : FQ K "_law_draw" "_law_draw" (top 37) fDr)
    (aPi : PySem.W.nsIn K mainGlobals "_law_pick" = some (some (.ref fPi))) (hPi : FQ K "_law_pick" "_law_pick" (top 38) fPi)
    (aPl : PySem.W.nsIn K mainGlobals "_law_plain" = some (some (.ref fPl))) (hPl : FQ K "_law_plain" "_law_plain" (top 39) fPl)
    (aLV : PySem.W.nsIn K mainGlobals "_law_value" = some (some (.ref fLV))) (hLV : FQ K "_law_value" "_law_value" (top 40) fLV)
    (aLW : PySem.W.nsIn K mainGlobals "_law_values" = some (some (.ref fLW))) (hLW : FQ K "_law_values" "_law_values" (top 41) fLW)
    (aLI : PySem.W.nsIn K mainGlobals "_law_is" = some (some (.ref fLI))) (hLI : FQ K "_law_is" "_law_is" (top 42) fLI)
    (aLN : PySem.W.nsIn K mainGlobals "_law_normal" = some (some (.ref fLN))) (hLN : FQ K "_law_normal" "_law_normal" (top 43) fLN)
    (aLL : PySem.W.nsIn K mainGlobals "_law_longer" = some (some (.ref fLL))) (hLL : FQ K "_law_longer" "_law_longer" (top 44) fLL)
    (aLR : PySem.W.nsIn K mainGlobals "_law_right" = some (some (.ref fLR))) (hLR : FQ K "_law_right" "_law_right" (top 45) fLR)
    (aLK : PySem.W.nsIn K mainGlobals "_law_kinds_right" = some (some (.ref fLK))) (hLK : FQ K "_law_kinds_right" "_law_kinds_right" (top 46) fLK)
    (aLa : PySem.W.nsIn K mainGlobals "law" = some (some (.ref fLa))) (hLa : FQ K "law" "law" (top 47) fLa)
    (aC : PySem.W.nsIn K mainGlobals "Growth" = some (some (.ref C))) (rd : PySem.W.readsIn K C mc = true) (ga : PySem.W.specialIn K (.ref C) "__getattribute__" = some (some (.builtin "type.__getattribute__"))) (most : ∃ t, PySem.W.findCls K (.ref C) mc "MOST" = some (.val (.int 2000 t)))
    (cls : Cls K C) (nt : NoAttr K C "told") (ng : NoAttr K C "gains") (nr : NoAttr K C "rises") (makes : PySem.W.makesIn K C = true) (kC : PySem.W.keepIn K (.ref C) = true) (aIn : PySem.W.findIn K (.ref C) "__init__" = some (some (.ref mIn))) (tIn : PySem.W.isFn K (.ref mIn) = true) (hIn : FW K "__init__" "Growth.__init__" (sGr 1) [.ref T0] mIn)
    (hT0 : ∃ (o : Obj) (its : Array Value) (n : Nat), K.lookup T0 = some o ∧ o.cls = .type "tuple" ∧ o.data = .seq its n ∧ its.size ≤ sizeLine ∧ Vals [.int 0] its.toList)
    (aEq : PySem.W.findIn K (.ref C) "__eq__" = some (some (.ref mEq))) (tEq : PySem.W.isFn K (.ref mEq) = true) (hEq : FQ K "__eq__" "Growth.__eq__" (sGr 2) mEq)
    (aCa : PySem.W.findIn K (.ref C) "__call__" = some (some (.ref mCa))) (tCa : PySem.W.isFn K (.ref mCa) = true) (hCa : FQ K "__call__" "Growth.__call__" (sGr 3) mCa)
    (aMf : PySem.W.findIn K (.ref C) "first" = some (some (.ref mMf))) (tMf : PySem.W.isFn K (.ref mMf) = true) (hMf : FQ K "first" "Growth.first" (sGr 4) mMf)
    (sCn : SMet K C mc "constant" pCn mCn) (hCn : FQ K "constant" "Growth.constant" (sGr 17) mCn)
    (sSt : SMet K C mc "steps" pSt mSt) (hSt : FQ K "steps" "Growth.steps" (sGr 19) mSt)
    (sRa : SMet K C mc "ramp" pRa mRa) (hRa : FW K "ramp" "Growth.ramp" (sGr 18) [.int 0] mRa)
    (iCa : PySem.W.fnIn K mCa = true) (ne : PySem.W.findIn K (.ref C) "__ne__" = some (some (.builtin "object.__ne__"))) (nf : PySem.W.notFirst K C (.ref C) = true) (sT : PySem.W.subIn K (.type "tuple") (.ref C) = some false) (tT : PySem.W.typeIn K (.ref C) = some (.type "type")) (noInt : PySem.W.subIn K (.ref C) (.type "int") = some false) (noBool : PySem.W.subIn K (.ref C) (.type "bool") = some false)
    (ob : PySem.W.mroIn K C (.type "object") = some true)
    (cc : PySem.W.findIn K (.ref C) "__class__" = some (some (.builtin "object.__class__"))) (cs : PySem.W.specialIn K (.builtin "object.__class__") "__get__" = some (some (.builtin "getset_descriptor.__get__"))) (ct : PySem.W.takesIn K (.builtin "object.__class__") = some true)
    (z_isinstance : PySem.W.nsIn K mainGlobals "isinstance" = some none)
    (z_int : PySem.W.nsIn K mainGlobals "int" = some none)
    (z_bool : PySem.W.nsIn K mainGlobals "bool" = some none)
    (z_str : PySem.W.nsIn K mainGlobals "str" = some none)
    (z_len : PySem.W.nsIn K mainGlobals "len" = some none)
    (z_abs : PySem.W.nsIn K mainGlobals "abs" = some none)
    (z_list : PySem.W.nsIn K mainGlobals "list" = some none)
    (z_range : PySem.W.nsIn K mainGlobals "range" = some none)
    (z_tuple : PySem.W.nsIn K mainGlobals "tuple" = some none)
    (z_divmod : PySem.W.nsIn K mainGlobals "divmod" = some none)
    (z_max : PySem.W.nsIn K mainGlobals "max" = some none)
    (z_zip : PySem.W.nsIn K mainGlobals "zip" = some none)
    (z_all : PySem.W.nsIn K mainGlobals "all" = some none)
    (z_sum : PySem.W.nsIn K mainGlobals "sum" = some none)
    (z_repr : PySem.W.nsIn K mainGlobals "repr" = some none)
    : ∃ fd : FuncData, (∀ (s : Shared) (v : Value), BindsTo s fd ⟨[v], []⟩ [("_law_script", v)]) ∧ ∀ base : Heap, K.In base → base.Ns mainGlobals mg → FnG l.prog w K mg base 10 fa fd ["_law_script"] (spLaw K) := by
  have eLa := hfa.symm.trans (PySem.W.mg_of X G aLa)
  cases eLa
  have gInt := PySem.W.mg_of X G aInt
  obtain ⟨dInt, FInt⟩ := hInt.fn
  have bInt : Binds K dInt ["value"] [] := FInt.binds fun _ _ _ _ _ _ us hl => match us, hl with | [_], _ => rfl
  have gWi := PySem.W.mg_of X G aWi
  obtain ⟨dWi, FWi⟩ := hWi.fn
  have bWi : Binds K dWi ["value", "least", "most"] [] := FWi.binds fun _ _ _ _ _ _ us hl => match us, hl with | [_, _, _], _ => rfl
  have gZ := PySem.W.mg_of X G aZ
  obtain ⟨dZ, FZ⟩ := hZ.fn
  have bZ : Binds K dZ ["value"] [] := FZ.binds fun _ _ _ _ _ _ us hl => match us, hl with | [_], _ => rfl
  have gLp := PySem.W.mg_of X G aLp
  obtain ⟨dLp, FLp⟩ := hLp.fn
  have bLp : Binds K dLp ["gains"] [] := FLp.binds fun _ _ _ _ _ _ us hl => match us, hl with | [_], _ => rfl
  have gSp := PySem.W.mg_of X G aSp
  obtain ⟨dSp, FSp⟩ := hSp.fn
  have bSp : Binds K dSp ["told", "gains"] [] := FSp.binds fun _ _ _ _ _ _ us hl => match us, hl with | [_, _], _ => rfl
  have gNf := PySem.W.mg_of X G aNf
  obtain ⟨dNf, FNf⟩ := hNf.fn
  have bNf : Binds K dNf ["told", "gains"] [] := FNf.binds fun _ _ _ _ _ _ us hl => match us, hl with | [_, _], _ => rfl
  have gRi := PySem.W.mg_of X G aRi
  obtain ⟨dRi, FRi⟩ := hRi.fn
  have bRi : Binds K dRi ["gains"] [] := FRi.binds fun _ _ _ _ _ _ us hl => match us, hl with | [_], _ => rfl
  have gVa := PySem.W.mg_of X G aVa
  obtain ⟨dVa, FVa⟩ := hVa.fn
  have bVa : Binds K dVa ["one", "n"] [] := FVa.binds fun _ _ _ _ _ _ us hl => match us, hl with | [_, _], _ => rfl
  have gFi := PySem.W.mg_of X G aFi
  obtain ⟨dFi, FFi⟩ := hFi.fn
  have bFi : Binds K dFi ["one", "many"] [] := FFi.binds fun _ _ _ _ _ _ us hl => match us, hl with | [_, _], _ => rfl
  have gAp := PySem.W.mg_of X G aAp
  obtain ⟨dAp, FAp⟩ := hAp.fn
  have bAp : Binds K dAp ["values", "most"] [] := FAp.binds fun _ _ _ _ _ _ us hl => match us, hl with | [_, _], _ => rfl
  have gPe := PySem.W.mg_of X G aPe
  obtain ⟨dPe, FPe⟩ := hPe.fn
  have bPe : Binds K dPe ["_law_script"] [] := FPe.binds fun _ _ _ _ _ _ us hl => match us, hl with | [_], _ => rfl
  have gDr := PySem.W.mg_of X G aDr
  obtain ⟨dDr, FDr⟩ := hDr.fn
  have bDr : Binds K dDr ["_law_pen_here", "_law_many"] [] := FDr.binds fun _ _ _ _ _ _ us hl => match us, hl with | [_, _], _ => rfl
  have gPi := PySem.W.mg_of X G aPi
  obtain ⟨dPi, FPi⟩ := hPi.fn
  have bPi : Binds K dPi ["_law_pen_here", "_law_some"] [] := FPi.binds fun _ _ _ _ _ _ us hl => match us, hl with | [_, _], _ => rfl
  have gPl := PySem.W.mg_of X G aPl
  obtain ⟨dPl, FPl⟩ := hPl.fn
  have bPl : Binds K dPl ["_law_pen_here", "_law_is_rising"] [] := FPl.binds fun _ _ _ _ _ _ us hl => match us, hl with | [_, _], _ => rfl
  have gLV := PySem.W.mg_of X G aLV
  obtain ⟨dLV, FLV⟩ := hLV.fn
  have bLV : Binds K dLV ["_law_plain_here", "_law_n"] [] := FLV.binds fun _ _ _ _ _ _ us hl => match us, hl with | [_, _], _ => rfl
  have gLW := PySem.W.mg_of X G aLW
  obtain ⟨dLW, FLW⟩ := hLW.fn
  have bLW : Binds K dLW ["_law_plain_here", "_law_many"] [] := FLW.binds fun _ _ _ _ _ _ us hl => match us, hl with | [_, _], _ => rfl
  have gLI := PySem.W.mg_of X G aLI
  obtain ⟨dLI, FLI⟩ := hLI.fn
  have bLI : Binds K dLI ["_law_made", "_law_plain_here", "_law_more"] [] := FLI.binds fun _ _ _ _ _ _ us hl => match us, hl with | [_, _, _], _ => rfl
  have gLN := PySem.W.mg_of X G aLN
  obtain ⟨dLN, FLN⟩ := hLN.fn
  have bLN : Binds K dLN ["_law_plain_here"] [] := FLN.binds fun _ _ _ _ _ _ us hl => match us, hl with | [_], _ => rfl
  have gLL := PySem.W.mg_of X G aLL
  obtain ⟨dLL, FLL⟩ := hLL.fn
  have bLL : Binds K dLL ["_law_pen_here", "_law_plain_here"] [] := FLL.binds fun _ _ _ _ _ _ us hl => match us, hl with | [_, _], _ => rfl
  have gLR := PySem.W.mg_of X G aLR
  obtain ⟨dLR, FLR⟩ := hLR.fn
  have bLR : Binds K dLR ["_law_pen_here", "_law_plain_here"] [] := FLR.binds fun _ _ _ _ _ _ us hl => match us, hl with | [_, _], _ => rfl
  have gLK := PySem.W.mg_of X G aLK
  obtain ⟨dLK, FLK⟩ := hLK.fn
  have bLK : Binds K dLK ["_law_pen_here"] [] := FLK.binds fun _ _ _ _ _ _ us hl => match us, hl with | [_], _ => rfl
  have gLa := PySem.W.mg_of X G aLa
  obtain ⟨eEq, MEq⟩ := hEq.fn
  have cEq : Binds K eEq ["self", "other"] [] := MEq.binds fun _ _ _ _ _ _ us hl => match us, hl with | [_, _], _ => rfl
  obtain ⟨eCa, MCa⟩ := hCa.fn
  have cCa : Binds K eCa ["self", "n"] [] := MCa.binds fun _ _ _ _ _ _ us hl => match us, hl with | [_, _], _ => rfl
  obtain ⟨eMf, MMf⟩ := hMf.fn
  have cMf : Binds K eMf ["self", "n"] [] := MMf.binds fun _ _ _ _ _ _ us hl => match us, hl with | [_, _], _ => rfl
  obtain ⟨eCn, MCn⟩ := hCn.fn
  have cCn : Binds K eCn ["value"] [] := MCn.binds fun _ _ _ _ _ _ us hl => match us, hl with | [_], _ => rfl
  obtain ⟨eSt, MSt⟩ := hSt.fn
  have cSt : Binds K eSt ["many"] [] := MSt.binds fun _ _ _ _ _ _ us hl => match us, hl with | [_], _ => rfl
  have kCo : KBn K eCn ["value"] 0 ["value"] (fun us ws => us ++ ws) (fun vs zs => vs ++ zs) := MCn.kb 0 (fun us ws => us ++ ws) (fun r s => r.append s) fun _ _ _ _ _ _ us ws l1 l2 => match us, l1, ws, l2 with | [], _, [_], _ => rfl
  have kSt : KBn K eSt ["many"] 0 ["many"] (fun us ws => us ++ ws) (fun vs zs => vs ++ zs) := MSt.kb 0 (fun us ws => us ++ ws) (fun r s => r.append s) fun _ _ _ _ _ _ us ws l1 l2 => match us, l1, ws, l2 with | [], _, [_], _ => rfl
  obtain ⟨eIn, MIn⟩ := hIn.fn
  obtain ⟨eRa, MRa⟩ := hRa.fn
  obtain ⟨oc, od, kV, doc, pm, an, cdv, ct', osl, lkL, cdL⟩ := hLa.l
  have FLa := fun_mk (st := top 47) lkL cdL hLa.k
  have cIn : Binds K eIn ["self", "told", "gains"] [] := by
    obtain ⟨ds, v0, b0⟩ := MIn.binds1 (ps := ["self", "told", "gains"]) 3 1 (List.cons_ne_nil _ _) rfl fun _ _ _ _ _ _ _ us its l1 l2 => match us, l1, its, l2 with | [_, _, _], _, [_], _ => ⟨_, rfl, rfl⟩
    cases v0
    exact b0
  have kIn : KBn K eIn ["self", "told", "gains"] 1 ["gains", "told"] (fun us ws => us ++ ws.reverse) (fun vs zs => vs ++ zs.reverse) := by
    obtain ⟨its, kb⟩ := MIn.kbindsD (ps := ["self", "told", "gains"]) 1 ["gains", "told"] (fun us _ ws => us ++ ws.reverse) (List.cons_ne_nil _ _) (fun r _ s => r.append (vals_rev s)) fun _ _ _ _ _ _ _ us its ws l1 l2 l3 => match us, l1, its, l2, ws, l3 with | [_], _, [_], _, [_, _], _ => ⟨_, rfl, rfl⟩
    exact kb
  have kRa : KBn K eRa ["gain", "begin"] 0 ["begin", "gain"] (fun us ws => us ++ ws.reverse) (fun vs zs => vs ++ zs.reverse) := by
    obtain ⟨its, kb⟩ := MRa.kbindsD (ps := ["gain", "begin"]) 0 ["begin", "gain"] (fun us _ ws => us ++ ws.reverse) (List.cons_ne_nil _ _) (fun r _ s => r.append (vals_rev s)) fun _ _ _ _ _ _ _ us its ws l1 l2 l3 => match us, l1, its, l2, ws, l3 with | [], _, [_], _, [_, _], _ => ⟨_, rfl, rfl⟩
    exact kb
  obtain ⟨dsI, vIn, cIn1⟩ := MIn.binds1 (ps := ["self", "told", "gains"]) 2 0 (List.cons_ne_nil _ _) rfl fun _ _ _ _ _ _ _ us its l1 l2 => match us, l1, its, l2 with | [_, _], _, [_], _ => ⟨_, rfl, rfl⟩
  have cRa2 : Binds K eRa ["gain", "begin"] [] := by
    obtain ⟨ds, v0, b0⟩ := MRa.binds1 (ps := ["gain", "begin"]) 2 1 (List.cons_ne_nil _ _) rfl fun _ _ _ _ _ _ _ us its l1 l2 => match us, l1, its, l2 with | [_, _], _, [_], _ => ⟨_, rfl, rfl⟩
    cases v0
    exact b0
  obtain ⟨dsR, vRa, cRa⟩ := MRa.binds1 (ps := ["gain", "begin"]) 1 0 (List.cons_ne_nil _ _) rfl fun _ _ _ _ _ _ _ us its l1 l2 => match us, l1, its, l2 with | [_], _, [_], _ => ⟨_, rfl, rfl⟩
  have m_isinstance := PySem.W.mg_none_of X G z_isinstance
  have m_int := PySem.W.mg_none_of X G z_int
  have m_bool := PySem.W.mg_none_of X G z_bool
  have m_str := PySem.W.mg_none_of X G z_str
  have m_len := PySem.W.mg_none_of X G z_len
  have m_abs := PySem.W.mg_none_of X G z_abs
  have m_list := PySem.W.mg_none_of X G z_list
  have m_range := PySem.W.mg_none_of X G z_range
  have m_tuple := PySem.W.mg_none_of X G z_tuple
  have m_divmod := PySem.W.mg_none_of X G z_divmod
  have m_max := PySem.W.mg_none_of X G z_max
  have m_zip := PySem.W.mg_none_of X G z_zip
  have m_all := PySem.W.mg_none_of X G z_all
  have m_sum := PySem.W.mg_none_of X G z_sum
  have m_repr := PySem.W.mg_none_of X G z_repr
  have TT : GlbT mg := ⟨m_isinstance, m_int, m_bool, m_str, m_len⟩
  have TS : GlbS mg := ⟨m_len, m_range, m_tuple, m_list⟩
  have TV : GlbV mg := ⟨m_divmod, m_max, m_zip⟩
  have TG : Glb mg := ⟨m_int, m_abs, m_len, m_list⟩
  have N : GName K mg C mc := ⟨PySem.W.mg_of X G aC, ⟨rd, ga⟩, most.imp' (fun t => .int 2000 t) fun t e => ⟨e, ⟨t, rfl⟩⟩⟩
  have GC : GCls K C := ⟨cls, nt, ng, nr⟩
  have GI : GIsi K C := ⟨cc, cs, ct, ob, kit_self, kit_sub (by decide +kernel) noInt, kit_sub (by decide +kernel) noBool⟩
  have M : Mk K C mIn := ⟨makes, aIn, tIn, kC⟩
  have NE : GNe K C mEq := ⟨⟨aEq, tEq⟩, ne, ob, nf⟩
  have CO : CallO K C mCa := ⟨aCa, tCa, iCa⟩
  have GT : GTup K C := gtup_of sT (by obtain ⟨cd, hc, _⟩ := PySem.W.any_some cls.hd; rw [hc]; rfl) tT
  have hT : ∀ H, Sq K H T0 (vI [0]) := fun H => .inr (.inr hT0)
  refine ⟨PySem.W.fnOf "law" "law" (defArgs sLaw) (defBody sLaw) (defScope sLaw) .none kV doc pm an cdv ct', fun s v => .of_eq rfl, fun base _ _ => ?_⟩
  have oInt : FnOk l.prog w K mg base CX0 1 fInt dInt ["value"] (spIsInt K) := ok_isInt FInt TT
  have oWi : FnOk l.prog w K mg base CX0 2 fWi dWi ["value", "least", "most"] (spWithin K) := ok_within FWi TT FInt bInt gInt
  have oZ : FnOk l.prog w K mg base CX0 2 fZ dZ ["value"] (spFrom0 K) := ok_from0 FZ TT FInt bInt gInt
  have oNf : FnOk l.prog w K mg base CX0 2 fNf dNf ["told", "gains"] (spNF K) := ok_NF FNf TS FLp bLp gLp FSp bSp gSp
  have oRi : FnOk l.prog w K mg base CX0 1 fRi dRi ["gains"] (spRis K) := ok_Ris FRi TS
  have oFi : FnOk l.prog w K mg base CX0 1 fFi dFi ["one", "many"] (spFirst K C) := ok_First FFi TS GC
  have oAp : FnOk l.prog w K mg base CX0 3 fAp dAp ["values", "most"] (spParts K) := ok_Parts (fI := fInt) (fdI := dInt) FAp TS TT m_all oZ hZ.k bZ gZ
  have oIn : FnOk l.prog w K mg base CX0 4 mIn eIn ["self", "told", "gains"] (spInit K C) := ok_Init MIn N GC oAp hAp.k bAp gAp oNf hNf.k bNf gNf oRi hRi.k bRi gRi
  have oRa : FnOk l.prog w K mg base CX0 6 mRa eRa ["gain", "begin"] (spRamp K C) := ok_Ramp MRa N M oIn cIn oZ hZ.k bZ gZ
  have oCn : FnOk l.prog w K mg base CX0 6 mCn eCn ["value"] (spConst K C) := by
    rcases vIn with _ | ⟨r, r0⟩
    cases r0
    cases r
    exact ok_Const (d0 := .none) MCn N M oIn cIn1 hT oZ hZ.k bZ gZ
  have oSt : FnOk l.prog w K mg base CX0 6 mSt eSt ["many"] (spSteps K C) := ok_Steps MSt m_range N M oIn cIn oInt hInt.k bInt gInt
  have oVa : FnOk l.prog w K mg base CX0 1 fVa dVa ["one", "n"] (spVal K C) := ok_Val FVa TS TV GC
  have oEq : FnOk l.prog w K mg base CX0 1 mEq eEq ["self", "other"] (spGEq K C) := ok_GEq MEq N GC GI TT
  have oEqT : FnOk l.prog w K mg base CX0 1 mEq eEq ["self", "other"] (spGEqT K C) := ok_GEqT MEq N GC GT TT
  have oCa : FnOk l.prog w K mg base CX0 3 mCa eCa ["self", "n"] (spGCall K C) := ok_GCall MCa oWi hWi.k bWi gWi oVa hVa.k bVa gVa
  have oMf : FnOk l.prog w K mg base CX0 3 mMf eMf ["self", "n"] (spGFirst K C) := ok_GFirst MMf TS N oWi hWi.k bWi gWi oFi hFi.k bFi gFi
  have oDr : FnOk l.prog w K mg base CX0 1 fDr dDr ["_law_pen_here", "_law_many"] spDraw := ok_draw FDr TG
  have oPi : FnOk l.prog w K mg base CX0 2 fPi dPi ["_law_pen_here", "_law_some"] spPick := ok_pick FPi TG FDr bDr gDr
  have oLV : FnOk l.prog w K mg base CX0 1 fLV dLV ["_law_plain_here", "_law_n"] (spLV K) := ok_LV FLV TG m_sum
  have oPl : FnOk l.prog w K mg base CX0 3 fPl dPl ["_law_pen_here", "_law_is_rising"] (spPlain K) := ok_Plain FPl m_range oDr hDr.k bDr gDr oPi hPi.k bPi gPi
  have oLW : FnOk l.prog w K mg base CX0 2 fLW dLW ["_law_plain_here", "_law_many"] (spLVs K) := ok_LVs FLW m_range oLV hLV.k bLV gLV
  have oLI : FnOk l.prog w K mg base CX0 4 fLI dLI ["_law_made", "_law_plain_here", "_law_more"] (spIs K C) := ok_Is FLI TS TT N GC GI CO ⟨aMf, tMf, hMf.k⟩ oMf cMf oCa cCa ⟨_, _, oLV, hLV.k, bLV, gLV⟩ ⟨_, _, oLW, hLW.k, bLW, gLW⟩
  have oLN : FnOk l.prog w K mg base CX0 1 fLN dLN ["_law_plain_here"] (spNo K) := ok_No FLN TS m_int
  have oLL : FnOk l.prog w K mg base CX0 2 fLL dLL ["_law_pen_here", "_law_plain_here"] (spLo K) := ok_Lo FLL TS m_int ⟨_, _, oDr, hDr.k, bDr, gDr⟩ ⟨_, _, oLV, hLV.k, bLV, gLV⟩
  have oLR : FnG l.prog w K mg base 6 fLR dLR ["_law_pen_here", "_law_plain_here"] (spRi K) := ok_Ri FLR TS m_repr N GC GT M NE ⟨aMf, tMf, hMf.k⟩ oIn cIn kIn oEq oEqT cEq oMf cMf ⟨_, _, oDr, hDr.k, bDr, gDr⟩ ⟨_, _, oPl, hPl.k, bPl, gPl⟩ ⟨_, _, oLI, hLI.k, bLI, gLI⟩ ⟨_, _, oLN, hLN.k, bLN, gLN⟩ ⟨_, _, oLL, hLL.k, bLL, gLL⟩
  have oPe : FnOk l.prog w K mg base CX0 1 fPe dPe ["_law_script"] (spPen K) := ok_pen FPe TG
  rcases vRa with _ | ⟨rR, r0⟩
  cases r0
  have oLK : FnOk l.prog w K mg base CX0 8 fLK dLK ["_law_pen_here"] spKi := ok_Ki FLK m_int N NE CO sCn sRa sSt oEq cEq oCa cCa oCn cCn oSt cSt kSt oRa cRa cRa2 (.cons rR .nil) kRa ⟨_, _, oDr, hDr.k, bDr, gDr⟩ ⟨_, _, oPi, hPi.k, bPi, gPi⟩
  rcases vIn with _ | ⟨r, r0⟩
  cases r0
  cases r
  exact ok_Law FLa TS N GC M NE CO ⟨aMf, tMf, hMf.k⟩ oIn cIn cIn1 hT sCn sRa sSt oEq cEq oCa cCa oMf cMf oCn kCo oSt cSt oRa cRa (.cons rR .nil) oLR hLR.k bLR gLR
    ⟨_, _, oPe, hPe.k, bPe, gPe⟩ ⟨_, _, oDr, hDr.k, bDr, gDr⟩ ⟨_, _, oPl, hPl.k, bPl, gPl⟩ ⟨_, _, oLV, hLV.k, bLV, gLV⟩ ⟨_, _, oLK, hLK.k, bLK, gLK⟩
end K01
namespace K01
open PySem L2 Evl
theorem walk {l : PySem.W.OpenLaw} {q : Program} {loose : List Str} {XP : (Str → Option Value) → Heap → Prop} {YP : World → Heap → Prop} {d : DefRec} {K : Params → PySem.W.Frag} (hn : l.most = some 63) (hdf : d.params.defaults = [])
    (hY : ∀ (w : World) (h : Heap), YP w h → (K w.params).In h)
    (F : ∀ (w : World) (mg : Str → Option Value) (fa : Addr) (h : Heap), (K w.params).In h → h.Ns mainGlobals mg → mg d.name = some (.ref fa) →
      ∃ fd : FuncData, (∀ (s : Shared) (u : Value), BindsTo s fd ⟨[u], []⟩ [("_law_script", u)]) ∧ ∀ base : Heap, (K w.params).In base → base.Ns mainGlobals mg → FnG l.prog w (K w.params) mg base 10 fa fd ["_law_script"] (spLaw (K w.params))) :
    PySem.W.WalkO q loose XP YP l.row.toRowW d [] (fun f vs => PySem.call f vs) :=
  walkG_of (n := 63) (k := 10) (x := "_law_script") (sp := fun w => spLaw (K w.params)) hn (by decide) hdf ⟨rfl, by decide, by decide⟩ hY F (fun w H a ns hl _ hS => ⟨a, ns, rfl, hS, hl, fun _ => rfl⟩)
end K01
open PySem PySem.W PyProof.Rows
set_option maxRecDepth 100000 in
set_option maxHeartbeats 0 in
theorem PySem.Challenge.cw_layerpost_k01_growths_made_and_asked_holds : PySem.Challenge.rw_layerpost_k01_growths_made_and_asked.Holds := by
  w_on; o_law; k_head; (case hw => w_witness2)
  k_fill
  refine K01.walk (l := PySem.Challenge.rw_layerpost_k01_growths_made_and_asked) rfl rfl (fun w h Y => PySem.W.kIn_of Y) ?F
  case F =>
    intro w mg fa h KX G hmg
    refine' K01.all_mk KX G hmg ?qaInt ?qhInt ?qaWi ?qhWi ?qaZ ?qhZ ?qaLp ?qhLp ?qaSp ?qhSp ?qaNf ?qhNf ?qaRi ?qhRi ?qaVa ?qhVa ?qaFi ?qhFi ?qaAp ?qhAp ?qaPe ?qhPe ?qaDr ?qhDr ?qaPi ?qhPi ?qaPl ?qhPl ?qaLV ?qhLV ?qaLW ?qhLW ?qaLI ?qhLI ?qaLN ?qhLN ?qaLL ?qhLL ?qaLR ?qhLR ?qaLK ?qhLK ?qaLa ?qhLa ?qaC ?qrd ?qga ?qmost ?qcls ?qnt ?qng ?qnr ?qmakes ?qkC ?qaIn ?qtIn ?qhIn ?qhT0 ?qaEq ?qtEq ?qhEq ?qaCa ?qtCa ?qhCa ?qaMf ?qtMf ?qhMf ?qsCn ?qhCn ?qsSt ?qhSt ?qsRa ?qhRa ?qiCa ?qne ?qnf ?qsT ?qtT ?qnoInt ?qnoBool ?qob ?qcc ?qcs ?qct ?qzisinstance ?qzint ?qzbool ?qzstr ?qzlen ?qzabs ?qzlist ?qzrange ?qztuple ?qzdivmod ?qzmax ?qzzip ?qzall ?qzsum ?qzrepr
    (case qaInt => k_is)
    (case qhInt => exact ⟨⟨_, _, _, _, _, _, _, _, _, by k_is, by k_is⟩, by k_is⟩)
    (case qaWi => k_is)
    (case qhWi => exact ⟨⟨_, _, _, _, _, _, _, _, _, by k_is, by k_is⟩, by k_is⟩)
    (case qaZ => k_is)
    (case qhZ => exact ⟨⟨_, _, _, _, _, _, _, _, _, by k_is, by k_is⟩, by k_is⟩)
    (case qaLp => k_is)
    (case qhLp => exact ⟨⟨_, _, _, _, _, _, _, _, _, by k_is, by k_is⟩, by k_is⟩)
    (case qaSp => k_is)
    (case qhSp => exact ⟨⟨_, _, _, _, _, _, _, _, _, by k_is, by k_is⟩, by k_is⟩)
    (case qaNf => k_is)
    (case qhNf => exact ⟨⟨_, _, _, _, _, _, _, _, _, by k_is, by k_is⟩, by k_is⟩)
    (case qaRi => k_is)
    (case qhRi => exact ⟨⟨_, _, _, _, _, _, _, _, _, by k_is, by k_is⟩, by k_is⟩)
    (case qaVa => k_is)
    (case qhVa => exact ⟨⟨_, _, _, _, _, _, _, _, _, by k_is, by k_is⟩, by k_is⟩)
    (case qaFi => k_is)
    (case qhFi => exact ⟨⟨_, _, _, _, _, _, _, _, _, by k_is, by k_is⟩, by k_is⟩)
    (case qaAp => k_is)
    (case qhAp => exact ⟨⟨_, _, _, _, _, _, _, _, _, by k_is, by k_is⟩, by k_is⟩)
    (case qaPe => k_is)
    (case qhPe => exact ⟨⟨_, _, _, _, _, _, _, _, _, by k_is, by k_is⟩, by k_is⟩)
    (case qaDr => k_is)
    (case qhDr => exact ⟨⟨_, _, _, _, _, _, _, _, _, by k_is, by k_is⟩, by k_is⟩)
    (case qaPi => k_is)
    (case qhPi => exact ⟨⟨_, _, _, _, _, _, _, _, _, by k_is, by k_is⟩, by k_is⟩)
    (case qaPl => k_is)
    (case qhPl => exact ⟨⟨_, _, _, _, _, _, _, _, _, by k_is, by k_is⟩, by k_is⟩)
    (case qaLV => k_is)
    (case qhLV => exact ⟨⟨_, _, _, _, _, _, _, _, _, by k_is, by k_is⟩, by k_is⟩)
    (case qaLW => k_is)
    (case qhLW => exact ⟨⟨_, _, _, _, _, _, _, _, _, by k_is, by k_is⟩, by k_is⟩)
    (case qaLI => k_is)
    (case qhLI => exact ⟨⟨_, _, _, _, _, _, _, _, _, by k_is, by k_is⟩, by k_is⟩)
    (case qaLN => k_is)
    (case qhLN => exact ⟨⟨_, _, _, _, _, _, _, _, _, by k_is, by k_is⟩, by k_is⟩)
    (case qaLL => k_is)
    (case qhLL => exact ⟨⟨_, _, _, _, _, _, _, _, _, by k_is, by k_is⟩, by k_is⟩)
    (case qaLR => k_is)
    (case qhLR => exact ⟨⟨_, _, _, _, _, _, _, _, _, by k_is, by k_is⟩, by k_is⟩)
    (case qaLK => k_is)
    (case qhLK => exact ⟨⟨_, _, _, _, _, _, _, _, _, by k_is, by k_is⟩, by k_is⟩)
    (case qaLa => k_is)
    (case qhLa => exact ⟨⟨_, _, _, _, _, _, _, _, _, by k_is, by k_is⟩, by k_is⟩)
    (case qaC => k_is)
    (case qrd => exact (show PySem.W.readsIn _ _ (.type "type") = true by k_is))
    (case qga => k_is)
    (case qmost => exact ⟨_, by k_is⟩)
    (case qcls => exact ⟨by k_is, by k_is, by k_is, by k_is⟩)
    (case qnt => exact (by unfold L2.NoAttr; k_is))
    (case qng => exact (by unfold L2.NoAttr; k_is))
    (case qnr => exact (by unfold L2.NoAttr; k_is))
    (case qmakes => k_is)
    (case qkC => k_is)
    (case qaIn => k_is)
    (case qtIn => k_is)
    (case qhIn => exact ⟨⟨_, _, _, _, _, _, _, _, _, _, by k_is, by k_is, .inr ⟨by simp, _, _, _, _, rfl, by k_is, rfl, .cons rfl .nil⟩⟩, by k_is⟩)
    (case qhT0 => exact ⟨_, _, _, by k_is, rfl, rfl, by decide, .cons ⟨_, rfl⟩ .nil⟩)
    (case qaEq => k_is)
    (case qtEq => k_is)
    (case qhEq => exact ⟨⟨_, _, _, _, _, _, _, _, _, by k_is, by k_is⟩, by k_is⟩)
    (case qaCa => k_is)
    (case qtCa => k_is)
    (case qhCa => exact ⟨⟨_, _, _, _, _, _, _, _, _, by k_is, by k_is⟩, by k_is⟩)
    (case qaMf => k_is)
    (case qtMf => k_is)
    (case qhMf => exact ⟨⟨_, _, _, _, _, _, _, _, _, by k_is, by k_is⟩, by k_is⟩)
    (case qsCn => exact ⟨by k_is, ⟨_, by k_is⟩, by k_is⟩)
    (case qhCn => exact ⟨⟨_, _, _, _, _, _, _, _, _, by k_is, by k_is⟩, by k_is⟩)
    (case qsSt => exact ⟨by k_is, ⟨_, by k_is⟩, by k_is⟩)
    (case qhSt => exact ⟨⟨_, _, _, _, _, _, _, _, _, by k_is, by k_is⟩, by k_is⟩)
    (case qsRa => exact ⟨by k_is, ⟨_, by k_is⟩, by k_is⟩)
    (case qhRa => exact ⟨⟨_, _, _, _, _, _, _, _, _, _, by k_is, by k_is, .inr ⟨by simp, _, _, _, _, rfl, by k_is, rfl, .cons ⟨_, rfl⟩ .nil⟩⟩, by k_is⟩)
    (case qiCa => k_is)
    (case qne => k_is)
    (case qnf => k_is)
    (case qsT => k_is)
    (case qtT => k_is)
    (case qnoInt => k_is)
    (case qnoBool => k_is)
    (case qob => k_is)
    (case qcc => k_is)
    (case qcs => k_is)
    (case qct => k_is)
    (case qzisinstance => k_is)
    (case qzint => k_is)
    (case qzbool => k_is)
    (case qzstr => k_is)
    (case qzlen => k_is)
    (case qzabs => k_is)
    (case qzlist => k_is)
    (case qzrange => k_is)
    (case qztuple => k_is)
    (case qzdivmod => k_is)
    (case qzmax => k_is)
    (case qzzip => k_is)
    (case qzall => k_is)
    (case qzsum => k_is)
    (case qzrepr => k_is)
