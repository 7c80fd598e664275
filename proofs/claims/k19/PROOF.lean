import PyProof.Rows.All
import Wide.All
import OpenK.AllK
import Wide.FinOn
import HandS.ForMost
import HandS.Codes
import PyProof.ReprRoads
import PyProof.EnumMake
import HandS.Iter
import HandS.Walk
import KE.GoesMore
import KE.GoesEnum
import HandS.Evl
import HandS.Wide
import HandS.IsInst
import HandS.StrMore
import HandS.Defaults
import HandS.ClsMeth
import HandS.TupAny
import HandS.Conv
import HandS.Keys
import HandS.SetFor
import HandS.Strs
import HandS.TupSets
import HandS.SortKw
import HandS.Star
import HandS.Sort
import HandS.SortInts
import KE.BitLaws
import HandS.CallLocal
import HandS.SlotsOwn
import HandS.OwnEq
import KE.KOpsOwn
import HandS.TupMul
import HandS.More
import HandS.Base
import HandS.Call
import HandS.MakeKwOnly
import PyProof.Rows.SortStr
import PyProof.EqAt
import PyProof.EqKinds
import PyProof.TupleCall
import PyProof.Rows.SortShell
import PyProof.Rows.SortWalk
import KE.KSortTup
import HandS.Dict
import HandS.SortOrd
import HandS.SortRule
import HandS.List
import HandS.NamedTupSort
import HandS.Text
import HandS.Deep
import PyProof.P3In
import HandS.DictComp
import HandS.Comp
import PyProof.Rows.InDataRows
import HandS.WideBits
import HandS.Steps
import PyProof.Rows.ReprShort
import PySem.Challenge.RW_layerpost_k19_rows_known_slot_by_slot
set_option Elab.async false
set_option linter.all false
set_option maxRecDepth 100000
set_option maxHeartbeats 8000000
namespace L2
open PySem PySem.Spec PyProof.Rows
/-! ### defs that are called where no repr runs (the law, and what it calls): FnG -/
def Qt (A : Around) : Prop := A.guards = some []
theorem Qt.deeper {A : Around} (h : Qt A) (env : Env) : Qt (A.deeper env) := h
structure FnG (P : Program) (w : World) (K : PySem.W.Frag) (mg : Str → Option Value) (base : Heap) (k : Nat) (f : Addr) (fd : FuncData) (ps : List Str) (sp : Sp) : Prop where
  len : ∀ vs H Q E, sp vs H Q E → vs.length = ps.length
  run : ∀ (A : Around) (outer : List Env) (s : Shared) (H : Hp) (args : Args) (us : List Value) (vs : List V) (Q : VK) (E : XK), Qt A → Room k A → Env0 P w K mg base A outer s H → BindsTo s fd args (ps.zip us) → Vals vs us → sp vs H Q E →
    codeAny (model P w) A (.call (.ref f) args) (CR CX0 outer P w H s Q E) s
/-- a def whose body is walked where no repr runs -/
theorem fnG_of {P : Program} {w : World} {K : PySem.W.Frag} {mg : Str → Option Value} {base : Heap} {k : Nat} {f : Addr} {fd : FuncData} {x qual : Str} {st : Stmt} {N ps : List Str} {sp : Sp} (F : Fun K x qual st f fd) (S : FnScope N ps (defScope st))
    (len : ∀ vs H Q E, sp vs H Q E → vs.length = ps.length)
    (hbody : ∀ (cdv : Value) (A : Around) (outer : List Env) (s : Shared) (H : Hp) (vs : List V) (Q : VK) (E : XK), Qt A → Room k (A.deeper (envOfC qual (defScope st) s.heap.objs.size f cdv)) → sp vs H Q E →
      ∃ t, PSs (cxOf CX0 P w K mg base N qual (defScope st) f cdv A outer s H E).nox (defBody st) t ∧ t { nx := fun _ H' => Q .non H', rt := Q } (start N vs) H) : FnG P w K mg base (k + 1) f fd ps sp := by
  obtain ⟨oc, od, kV, doc, pm, an, cdv, ct, osl, rfl, lk, hcd⟩ := F.ex
  refine ⟨len, fun A outer s H args us vs Q E gd room e0 bound rel hsp => ?_⟩
  obtain ⟨t, ht, hq⟩ := hbody cdv A outer s H vs Q E gd (room.deeper _) hsp
  have many := len _ _ _ _ hsp
  have inK : K.In s.heap := e0.mod.kin.keeps fun b o e => (e0.bs b o e).1
  have free : s.heap.NoLimit := e0.mod.nolimit.keeps fun b o e => (e0.bs b o e).1
  refine codeAny_call_function room.depth (inK _ _ lk) rfl S.co S.gen rfl (PySem.W.codeRec_of inK hcd) (bound _ _ _ _ ?_)
  have kinds : ∀ y ∈ ps.zip us, (defScope st).names.lookup y.1 = some .local ∨ ((defScope st).names.lookup y.1 = some .cell ∧ ((cellsFrom (s.heap.objs.size + 1) (defScope st).names []).lookup y.1).isSome = true) := by
    rintro ⟨n, v⟩ hy
    exact (S.par n (List.of_mem_zip hy).1).imp id fun q => ⟨q, PySem.W.cellsFrom_some _ _ _ (.inl q)⟩
  refine wpAny_newFunctionEnv_cells S.kind kinds fun env he s1 x => ?_
  cases he
  refine ⟨free.keeps x.toInCall.keep, codeAny_func ?_⟩
  refine wpAny_mono (ht.nox.run [] s1 (start N vs) H _ (inv_start S room.hd e0 many rel x) hq) (fun fl s' hs => ?_) fun e s' hs => hs
  cases fl with
  | ret u =>
    obtain ⟨v, σ', H', J, rv, q⟩ := hs
    exact ⟨v, H', J.os, J.bare, J.base, J.hok, rv, q⟩
  | next =>
    obtain ⟨σ', H', J, q⟩ := hs
    exact ⟨V.non, H', J.os, J.bare, J.base, J.hok, rfl, q⟩
  | brk => exact (hs.choose_spec.choose_spec.2).elim
  | cont => exact (hs.choose_spec.choose_spec.2).elim
section
variable {X : Cx} {k : Nat} {f : Addr} {fd : FuncData} {ps : List Str} {sp : Sp} {x : Str} {p pos : Pos} {e : Expr} {es : List Expr} {t : TA}
theorem pe_callG (F : FnG X.prog X.w X.K X.mg X.base k f fd ps sp) (gd : Qt X.A) (hr : Room k X.A) (hg : Gl X x) (hm : X.mg x = some (.ref f)) (hk : PySem.W.keepIn X.K (.ref f) = true) (hb : Binds X.K fd ps [])
    (ha : PA X (e :: es) t) (hdb : (x == ("__debug__" : Str)) = false := by decide) (he : starEach (e :: es) X.env = (false, eval e X.env) :: starEach es X.env := by rfl) (hpl : (backTo pos (starEach es X.env)).any (·.1) = false := by rfl) :
    PE X (.Call (.Name x p) (e :: es) [] pos) (tCall sp [] E0 t) := by
  refine ⟨fun pins s σ H Q I h => ?_⟩
  refine wpAny_Call_Name_kw (ld_glob I hg hm ?_ hdb)
  refine PySem.W.callWith_K (h₀ := X.base) I.ok.mod.kin hk (thn (ha.run pos pins s σ H _ I h) fun us s1 ⟨vs, H1, I1, r, q⟩ => ⟨I1.kIn, ?_⟩) he hpl
  have q0 : sp vs H1 Q E0 := by simpa using q
  have many : us.length = ps.length := r.length.symm.trans (F.len _ _ _ _ q0)
  have bd : BindsTo s1 fd ⟨us, []⟩ (ps.zip us) := by simpa using hb s1 us I1.kIn (by simpa using many)
  show wpAny _ _ (call (.ref f) us) _ _ _
  refine wpAny_call (codeAny_mono (F.run X.A X.stack s1 H1 ⟨us, []⟩ us vs Q E0 gd hr I1.env0 bd r q0) fun res s' hq => ?_)
  cases res with
  | error er => exact (show False from hq).elim
  | ok fl =>
    cases fl with
    | next => exact False.elim hq
    | brk => exact False.elim hq
    | cont => exact False.elim hq
    | ret u => exact I1.after hq
end

/-! ### repr of data -/
mutual
inductive Ds (K : PySem.W.Frag) (H : Hp) : V → PyData → Prop
  | non : Ds K H .non .none
  | bl (b : Bool) : Ds K H (.bl b) (.bool b)
  | int (i : Int) : Ds K H (.int i) (.int i)
  | str (x : Str) : Ds K H (.str x) (.str x)
  | lst {a : Addr} {xs : List V} {ds : List PyData} : SqL K H a xs → a ≠ sysModules → DsAll K H xs ds → Ds K H (.ref a) (.list ds)
  | tup {a : Addr} {xs : List V} {ds : List PyData} : SqT K H a xs → DsAll K H xs ds → Ds K H (.ref a) (.tuple ds)
  | one {a : Addr} {x : Str} {i : Int} : H a = some (.dK [(.inr x, .int i)]) → Ds K H (.ref a) (.dict [(.str x, .int i)])
  | emp {a : Addr} : H a = some (.dK []) → Ds K H (.ref a) (.dict [])
inductive DsAll (K : PySem.W.Frag) (H : Hp) : List V → List PyData → Prop
  | nil : DsAll K H [] []
  | cons {v : V} {vs : List V} {d : PyData} {ds : List PyData} : Ds K H v d → DsAll K H vs ds → DsAll K H (v :: vs) (d :: ds)
end
section
variable {X : Cx} {pins : List (Addr × Obj)} {σ : St} {H : Hp} {s : Shared}
theorem pairs_one {P : Program} {w : World} {x : Str} {i : Int} {es : List DictEntry} {vs : List (Key × Value)} (hp : Pairs (mixKind P w) es vs) (kv : KV [((Sum.inr x : Key), V.int i)] vs) (h : Heap) :
    ReadsAll h (es.map (·.key)) [.str x] [] ∧ ReadsAll h (es.map (·.val)) [.int i] [] := by
  cases kv with
  | cons k1 k2 =>
    cases k2
    rename_i q
    obtain ⟨k, u⟩ := q
    obtain ⟨e1, e2⟩ := k1
    simp only at e1 e2
    subst e1
    obtain ⟨t, rfl⟩ := e2
    cases hp with
    | cons i1 i2 i3 =>
      rename_i e es'
      cases i3
      rcases keyIs_shape (show keyIs (Sum.inr x) e.key = true from i1) with ⟨j, t', e3, e4⟩ | ⟨y, t', e3, e4⟩
      · cases e3
      · cases e3
        rw [List.map_cons, List.map_nil, e4, List.map_cons, List.map_nil, i2]
        exact ⟨ReadsAll.cons (as := []) (bs := []) (Reads.str x t') ReadsAll.nil, ReadsAll.cons (as := []) (bs := []) (Reads.int i t) ReadsAll.nil⟩
theorem pairs_nil {P : Program} {w : World} {es : List DictEntry} (hp : Pairs (mixKind P w) es ([] : List (Key × Value))) (h : Heap) : ReadsAll h (es.map (·.key)) [] [] ∧ ReadsAll h (es.map (·.val)) [] [] := by
  cases hp
  exact ⟨ReadsAll.nil, ReadsAll.nil⟩
mutual
theorem Ds.reads (I : Inv X pins σ H s) : ∀ (d : PyData) (v : V) (u : Value), Ds X.K H v d → RelV v u → ∃ as, Reads s.heap u d as ∧ sysModules ∉ as
  | .none, _, _, h, r => by
    cases h
    cases r
    exact ⟨_, Reads.none, by simp⟩
  | .bool b, _, _, h, r => by
    cases h
    cases r
    exact ⟨_, Reads.bool b, by simp⟩
  | .int i, _, _, h, r => by
    cases h
    obtain ⟨t, rfl⟩ := r
    exact ⟨_, Reads.int i t, by simp⟩
  | .str x, _, _, h, r => by
    cases h
    obtain ⟨t, rfl⟩ := r
    exact ⟨_, Reads.str x t, by simp⟩
  | .list ds, _, _, h, r => by
    cases h with
    | lst hs hne ha =>
      cases r
      obtain ⟨its, rv, ⟨o, n, ho, hc, _, hd⟩, _⟩ := I.list hs
      obtain ⟨as, hr, hq⟩ := Ds.readsAll I ds _ its ha rv
      exact ⟨_, Reads.list ho hc hd hr, by simp only [List.mem_cons, not_or]; exact ⟨Ne.symm hne, hq⟩⟩
  | .tuple ds, _, _, h, r => by
    cases h with
    | tup hs ha =>
      cases r
      obtain ⟨its, rv, ⟨o, ho, hc, n, hd⟩, _⟩ := I.tuple hs
      obtain ⟨as, hr, hq⟩ := Ds.readsAll I ds _ its ha rv
      exact ⟨_, Reads.tuple ho hc hd hr, hq⟩
  | .dict _, _, _, h, r => by
    cases h with
    | @one a x i h =>
      cases r
      obtain ⟨_, ns, vs, kv, o, es, ep, ho, hx, hd, _, hp, _⟩ := (show ObjOk X.prog X.w H s.heap a (.dK [(.inr x, .int i)]) from I.hok a _ h)
      obtain ⟨r1, r2⟩ := pairs_one hp kv s.heap
      exact ⟨_, Reads.dict ho hx.1 hd r1 r2, by
        simp only [List.append_nil, List.mem_cons, List.not_mem_nil, or_false]
        exact fun z => absurd (beq_iff_eq.mpr z.symm) (by rw [ns]; decide)⟩
    | @emp a h =>
      cases r
      obtain ⟨_, ns, vs, kv, o, es, ep, ho, hx, hd, _, hp, _⟩ := (show ObjOk X.prog X.w H s.heap a (.dK []) from I.hok a _ h)
      cases kv
      obtain ⟨r1, r2⟩ := pairs_nil hp s.heap
      exact ⟨_, Reads.dict ho hx.1 hd r1 r2, by
        simp only [List.append_nil, List.mem_cons, List.not_mem_nil, or_false]
        exact fun z => absurd (beq_iff_eq.mpr z.symm) (by rw [ns]; decide)⟩
theorem Ds.readsAll (I : Inv X pins σ H s) : ∀ (ds : List PyData) (vs : List V) (us : List Value), DsAll X.K H vs ds → Vals vs us → ∃ as, ReadsAll s.heap us ds as ∧ sysModules ∉ as
  | [], _, _, h, r => by
    cases h
    cases r
    exact ⟨_, ReadsAll.nil, by simp⟩
  | d :: ds, _, _, h, r => by
    cases h with
    | cons h1 h2 =>
      cases r with
      | cons r1 r2 =>
        obtain ⟨as, q1, n1⟩ := Ds.reads I d _ _ h1 r1
        obtain ⟨bs, q2, n2⟩ := Ds.readsAll I ds _ _ h2 r2
        exact ⟨_, ReadsAll.cons q1 q2, by rw [List.mem_append]; exact fun z => z.elim n1 n2⟩
end
end
/-- repr(x), x such data -/
def rRepr (K : PySem.W.Frag) : List V → Hp → VK → Prop := fun xs H Q => ∃ (x : V) (d : PyData), xs = [x] ∧ Ds K H x d ∧ d.showable = true ∧ d.depth ≤ 60 ∧ d.shown.length ≤ sizeLine ∧ Q (.str d.shown) H
theorem call_reprD {X : Cx} (gd : Qt X.A) (hu : X.A.units + 64 < cLine) : CallR X (.builtin "repr") (rRepr X.K) := by
  intro pins s σ H xs us Q I r h
  obtain ⟨x, d, rfl, hd, sh, dp, sz, q⟩ := h
  obtain ⟨u, rfl, ru⟩ := vals1 r
  obtain ⟨as, rd, ns⟩ := Ds.reads I d x u hd ru
  cases rd with
  | none => exact PySem.P.repr_of_none ⟨.str _, H, I.tok _, ⟨_, rfl⟩, q⟩
  | bool b => exact PySem.P.repr_of_bool ⟨.str _, H, I.tok _, ⟨_, rfl⟩, q⟩
  | int i t => exact PySem.P.repr_of_int (of_decide_eq_true sh) ⟨.str _, H, I.tok _, ⟨_, rfl⟩, q⟩
  | str z t => exact PySem.P.repr_of_str ⟨.str _, H, I.tok _, ⟨_, rfl⟩, q⟩ sz
  | list h1 h2 h3 h4 => exact repr_of_reads' (Reads.list h1 h2 h3 h4) sh (fun _ => ns) gd (by omega) (fun _ _ z => z) (fun h' u tk k => ⟨.str _, H, I.kept k, ⟨_, rfl⟩, q⟩) sz
  | tuple h1 h2 h3 h4 => exact repr_of_reads' (Reads.tuple h1 h2 h3 h4) sh (fun _ => ns) gd (by omega) (fun _ _ z => z) (fun h' u tk k => ⟨.str _, H, I.kept k, ⟨_, rfl⟩, q⟩) sz
  | dict h1 h2 h3 h4 h5 => exact repr_of_reads' (Reads.dict h1 h2 h3 h4 h5) sh (fun _ => ns) gd (by omega) (fun _ _ z => z) (fun h' u tk k => ⟨.str _, H, I.kept k, ⟨_, rfl⟩, q⟩) sz
/-- a list display, whose place is known not to be the table of modules -/
def tLstS (t : TA) : TE := fun σ H Q => t σ H fun xs H1 => xs.length ≤ sizeLine ∧ ∀ l, H1 l = none → l ≠ sysModules → Q (.ref l) (upd H1 l (.lst xs))
theorem pe_lstS {X : Cx} {es : List Expr} {t : TA} {pos : Pos} (h : PA X es t) : PE X (.List es pos) (tLstS t) := by
  refine ⟨fun pins s σ H Q I hq => ?_⟩
  refine wpAny_List_spliced (thn (h.run pos pins s σ H _ I hq) fun us s1 ⟨xs, H1, I1, r, z, q⟩ => ⟨by rw [← r.length]; exact z, ?_⟩)
  have far : s1.heap.objs.size ≠ sysModules := by
    have z1 : (3 : Nat) < X.base.objs.size := I1.mod.glob.lt
    have z2 := I1.ok.bsz
    have z3 := I1.sz
    show s1.heap.objs.size ≠ 1
    omega
  exact ⟨.ref s1.heap.objs.size, _, I1.laid (t' := s1.toks) (o := .lst xs) (fun b u e => Heap.get?_push_of_some _ e) (Nat.le_refl _) ⟨z, us, 0, r, Heap.get?_push_size _ rfl⟩, rfl, q _ (I1.hok.fresh (Nat.le_refl _)) far⟩
end L2
/-! enumerate over a text -/
namespace EnS
open PySem PySem.Spec PyProof.Rows L2
/-- the text, turn by turn: each sign with its place, in a new pair -/
def Itn (x : Str) : It where
  go i _ := i < x.cps.size
  yld i H v H' := ∃ T c, v = .ref T ∧ H T = none ∧ H' = upd H T (.tup [.int (i : Nat), .str ⟨#[c]⟩]) ∧ x.cps[i]? = some c
  stop i _ := i = x.cps.size
theorem turn_enumS {P : Program} {w : World} {K : PySem.W.Frag} {elts : List Expr} {kk : Nat} {tpos : Pos} (x : Str) (t : Tok) (e it : Addr) :
    Turn P w K (.Tuple elts kk tpos) (Itn x) [e, it] e (fun i h => (∃ old, IsEnum h e it ((i : Nat) : Int) old) ∧ h.IsStrIter it (strIterType x) x t i) where
  mem := List.mem_cons_self ..
  obj := fun i h ⟨⟨old, he⟩, o, ho, _, hd⟩ b hb => by
    rcases List.mem_cons.mp hb with rfl | hb
    · exact ⟨_, he, fun v q => nomatch q⟩
    · obtain rfl := List.mem_singleton.mp hb
      exact ⟨o, ho, fun v q => by rw [hd] at q; cases q⟩
  keep := fun i h h' ⟨⟨old, he⟩, o, ho, r⟩ k => ⟨⟨old, k e (List.mem_cons_self ..) _ he⟩, o, k it (by simp) o ho, r⟩
  item := by
    rintro X rfl rfl rfl hc i pins s σ H E I hf ⟨⟨old, he⟩, hit⟩ hi
    have ei : e ≠ it := fun z => by
      obtain ⟨o2, g2, c2, _⟩ := id hit
      have g1 : s.heap.get? e = _ := he
      rw [z, g2] at g1
      rw [Option.some.inj g1] at c2
      have c3 : Value.type "enumerate" = Value.type (strIterType x) := c2
      unfold strIterType at c3
      split at c3 <;> exact absurd c3 (by decide)
    refine wpAny_pyNext_enum_itemD (Draws.text (A := X.A.in1) (I.ok.hd hc) it x t) he hit hi ei (by simp [ei]) fun v h' tk hx ho hst hT sz1 hk => ?_
    obtain ⟨c, u, hcx, rfl⟩ := hx
    have hel : e < s.heap.objs.size := Heap.lt_size he
    have hil : it < s.heap.objs.size := by obtain ⟨_, q, _⟩ := hit; exact Heap.lt_size q
    refine ⟨_, rfl, wpAny_letOwnedTupleGo_enum (s := { s with heap := h', toks := tk + 1 }) ho fun h2 he2 sb => ?_⟩
    have pair : h2.get? s.heap.objs.size = some { cls := .type "tuple", data := .seq #[.int i tk, .str ⟨#[c]⟩ u] } := (sb.2 _ (Nat.ne_of_gt hel)).trans hT
    have new : ObjOk X.prog X.w (upd H s.heap.objs.size (.tup [.int (i : Nat), .str ⟨#[c]⟩])) h2 s.heap.objs.size (.tup [.int (i : Nat), .str ⟨#[c]⟩]) :=
      ⟨by show 2 ≤ sizeLine; decide, [.int i tk, .str ⟨#[c]⟩ u], .cons ⟨_, rfl⟩ (.cons ⟨u, rfl⟩ .nil), ⟨_, pair, rfl, _, rfl⟩⟩
    have J : Inv X pins σ (upd H s.heap.objs.size (.tup [.int (i : Nat), .str ⟨#[c]⟩])) { s with heap := h2, toks := tk + 1 } :=
      I.turnedNew (ch := [e, it]) (fun b o hb q => (sb.2 b fun z => hb (by simp [z])).trans (hk b o (fun z => hb (by simp [z])) (fun z => hb (by simp [z])) q)) hf (Nat.le_refl _) new
    refine ⟨.ref s.heap.objs.size, _, J, rfl, ⟨_, c, rfl, I.hok.fresh (Nat.le_refl _), rfl, hcx⟩, ⟨⟨.str ⟨#[c]⟩ u, ?_⟩, ?_⟩, fun b hb => ?_⟩
    · have e1 : ((i + 1 : Nat) : Int) = (i : Int) + 1 := rfl
      rw [e1]
      exact he2
    · obtain ⟨o, g, r⟩ := hst
      exact ⟨o, (sb.2 it (Ne.symm ei)).trans g, r⟩
    · have lt : b < s.heap.objs.size := by
        rcases List.mem_cons.mp hb with rfl | hb
        · exact hel
        · obtain rfl := List.mem_singleton.mp hb
          exact hil
      rw [upd_ne (Nat.ne_of_lt lt)]
      exact (hf b hb).1
  done := by
    rintro X rfl rfl rfl hc i pins s σ H E I hf ⟨⟨old, he⟩, hit⟩ hi
    obtain ⟨f0, f1, f2, f3, f4, f5⟩ := hf it (by simp)
    have hi' : i = x.cps.size := hi
    exact wpAny_pyNext_enum_endD (Draws.text (A := X.A.in1) (I.ok.hd hc) it x t) he (hi' ▸ hit) fun h' eb => ⟨rfl, I.turned (t' := s.toks) (fun b o hb z => eb b o hb z) f0 f1 f3 f4 f5⟩
  self := fun A i s Q E ⟨⟨_, he⟩, _⟩ h => wpAny_pyIter_enum he h
/-- enumerate(a text) -/
def iEnumS (ta : TA) : TI := fun σ H R => ta σ H fun vs H1 => ∃ x, vs = [.str x] ∧ R (Itn x) H1
theorem pi_enumS {X : Cx} {e : Expr} {ta : TA} {p pos tpos : Pos} {elts : List Expr} {kk : Nat} (hg : Gl X "enumerate") (hm : X.mg "enumerate" = none) (ha : PA X [e] ta)
    (one : starEach [e] X.env = [(false, eval e X.env)] := by rfl) : PI X (.Tuple elts kk tpos) (.Call (.Name "enumerate" p) [e] [] pos) (iEnumS ta) := by
  refine ⟨fun pins s σ H R I h => Call_ (ld_blt I hg hm boot_enumerate (PyProof.Rows.callWith_type1 (thn (ha.run pos pins s σ H _ I h) fun us s1 ⟨vs, H1, J, r1, x, ev, q⟩ => ?_) one rfl))⟩
  subst ev
  rcases r1 with _ | ⟨r, r0⟩
  cases r0
  obtain ⟨t, rfl⟩ := r
  refine call_enumerate_str fun h' he hit hz hk => wpAny_pyIter_enum he ?_
  refine ⟨s1.heap.objs.size + 1, [s1.heap.objs.size + 1, s1.heap.objs.size], _, _, H1, rfl, J.kept (t' := s1.toks) hk, turn_enumS x t _ _, ⟨⟨.none, he⟩, hit⟩, fun b hb => ?_, q⟩
  have le : s1.heap.objs.size ≤ b := by
    rcases List.mem_cons.mp hb with rfl | hb
    · exact Nat.le_succ _
    · exact Nat.le_of_eq (List.mem_singleton.mp hb).symm
  exact J.fpOk le (J.hok.fresh le)
theorem walk_enumS {x : Str} : Walk (Itn x) x.cps.size (fun _ => True) (YPair (fun i => some (.int (i : Nat))) (fun i => x.cps[i]?.map fun c => V.str ⟨#[c]⟩)) :=
  ⟨fun i _ hi _ => hi, fun _ _ => rfl, fun i H v H' _ _ ⟨T, c, h1, h2, h3, h4⟩ => ⟨T, .int (i : Nat), .str ⟨#[c]⟩, h1, h2, h3, rfl, by show x.cps[i]?.map _ = _; rw [h4]; rfl⟩⟩
end EnS
/-! sequences that come round: periods, borders of a row, the least period, the normal form of a growth -/
namespace Gr
/-! ### periods of a sequence -/
def Pd {α : Type} (d : Nat → α) (q : Nat) : Prop := ∀ k, d (k + q) = d k
section
variable {α : Type} {d : Nat → α} {p q n : Nat}
theorem Pd.zero : Pd d 0 := fun _ => rfl
theorem Pd.mul (h : Pd d q) : ∀ j k, d (k + j * q) = d k
  | 0, k => by rw [Nat.zero_mul, Nat.add_zero]
  | j + 1, k => by rw [Nat.succ_mul, ← Nat.add_assoc, h, Pd.mul h j]
theorem Pd.mod (h : Pd d q) (k : Nat) : d (k % q) = d k := by
  have e := Nat.mod_add_div k q
  rw [Nat.mul_comm] at e
  have := Pd.mul h (k / q) (k % q)
  rw [e] at this
  exact this.symm
theorem Pd.sub (hp : Pd d p) (hq : Pd d q) (h : p ≤ q) : Pd d (q - p) := fun k => by
  have e : k + (q - p) + p = k + q := by omega
  rw [← hp (k + (q - p)), e, hq]
theorem Pd.rem (hp : Pd d p) (hq : Pd d q) : Pd d (q % p) := fun k => by
  have e : k + q % p + q / p * p = k + q := by
    have := Nat.mod_add_div q p
    rw [Nat.mul_comm] at this
    omega
  rw [← Pd.mul hp (q / p) (k + q % p), e, hq]
theorem Pd.gcd : ∀ (p q : Nat), Pd d p → Pd d q → Pd d (Nat.gcd p q) := by
  intro p
  induction p using Nat.strongRecOn with
  | ind p ih =>
    intro q hp hq
    rcases Nat.eq_zero_or_pos p with h | h
    · rw [h, Nat.gcd_zero_left]
      exact hq
    · rw [Nat.gcd_rec]
      exact ih (q % p) (Nat.mod_lt _ h) p (hp.rem hq) hp
/-- the least one -/
structure Least (d : Nat → α) (p : Nat) : Prop where
  pos : 0 < p
  pd : Pd d p
  le : ∀ q, 0 < q → Pd d q → p ≤ q
end
/-! ### rows -/
def at' (g : List Int) (i : Nat) : Int := g.getD i 0
/-- the row, again and again -/
def dif (g : List Int) (k : Nat) : Int := at' g (k % g.length)
/-- within the row what stands p further on is the same -/
def Per (g : List Int) (p : Nat) : Prop := ∀ i, i + p < g.length → at' g (i + p) = at' g i
section
variable {g : List Int} {p q : Nat}
theorem dif_pd : Pd (dif g) g.length := fun k => by unfold dif; rw [Nat.add_mod_right]
theorem dif_lt {k : Nat} (h : k < g.length) : dif g k = at' g k := by unfold dif; rw [Nat.mod_eq_of_lt h]
theorem Pd.per (h : Pd (dif g) p) : Per g p := fun i hi => by
  have := h i
  rwa [dif_lt hi, dif_lt (by omega)] at this
theorem Per.mul (h : Per g p) : ∀ j i, i + j * p < g.length → at' g (i + j * p) = at' g i
  | 0, i, _ => by rw [Nat.zero_mul, Nat.add_zero]
  | j + 1, i, hi => by
    rw [Nat.succ_mul, ← Nat.add_assoc] at hi ⊢
    rw [h _ hi, Per.mul h j i (by omega)]
theorem Per.pd (h : Per g p) (hp : 0 < p) (hd : p ∣ g.length) (hn : 0 < g.length) : Pd (dif g) p := fun k => by
  obtain ⟨c, hc⟩ := hd
  have hr : k % g.length < g.length := Nat.mod_lt _ hn
  unfold dif
  rw [Nat.add_mod]
  generalize k % g.length = r at hr
  have hpn : p ≤ g.length := by
    rcases c with _ | c
    · rw [Nat.mul_zero] at hc; omega
    · rw [hc]; exact Nat.le_mul_of_pos_right p (Nat.succ_pos c)
  rcases Nat.lt_or_ge p g.length with h1 | h1
  · rw [Nat.mod_eq_of_lt h1]
    rcases Nat.lt_or_ge (r + p) g.length with h2 | h2
    · rw [Nat.mod_eq_of_lt h2]
      exact h r h2
    · rw [Nat.mod_eq_sub_mod h2, Nat.mod_eq_of_lt (by omega)]
      rcases c with _ | c
      · rw [Nat.mul_zero] at hc; omega
      have e : r + p - g.length + c * p = r := by
        have : p * (c + 1) = c * p + p := by rw [Nat.mul_comm, Nat.succ_mul]
        omega
      have z := h.mul c (r + p - g.length) (by rw [e]; exact hr)
      rw [e] at z
      exact z.symm
  · have e : p = g.length := Nat.le_antisymm hpn h1
    rw [e, Nat.mod_self, Nat.add_zero, Nat.mod_eq_of_lt hr]
end
/-! ### borders: the longest one of each beginning -/
/-- w signs at the end of the first m are the first w -/
def Bd (g : List Int) (m w : Nat) : Prop := w < m ∧ ∀ i, i < w → at' g (m - w + i) = at' g i
structure Lb (g : List Int) (m w : Nat) : Prop where
  bd : Bd g m w
  top : ∀ v, Bd g m v → v ≤ w
section
variable {g : List Int} {m w v : Nat}
theorem bd_zero (h : 0 < m) : Bd g m 0 := ⟨h, fun i hi => absurd hi (Nat.not_lt_zero i)⟩
theorem lb_one : Lb g 1 0 := ⟨bd_zero Nat.one_pos, fun v h => by have := h.1; omega⟩
theorem bd_succ : Bd g (m + 1) (v + 1) ↔ Bd g m v ∧ at' g m = at' g v := by
  constructor
  · rintro ⟨h, a⟩
    have hv : v < m := by omega
    refine ⟨⟨hv, fun i hi => ?_⟩, ?_⟩
    · have := a i (by omega)
      rwa [show m + 1 - (v + 1) + i = m - v + i by omega] at this
    · have := a v (by omega)
      rwa [show m + 1 - (v + 1) + v = m by omega] at this
  · rintro ⟨⟨h, a⟩, e⟩
    refine ⟨by omega, fun i hi => ?_⟩
    rw [show m + 1 - (v + 1) + i = m - v + i by omega]
    rcases Nat.lt_or_ge i v with h1 | h1
    · exact a i h1
    · have : i = v := by omega
      subst this
      rw [show m - i + i = m by omega]
      exact e
/-- a border of a border, and the other way round -/
theorem bd_trans (h : Bd g m w) (h2 : Bd g w v) : Bd g m v := by
  refine ⟨Nat.lt_trans h2.1 h.1, fun i hi => ?_⟩
  have := h.2 (w - v + i) (by have := h2.1; omega)
  rw [show m - w + (w - v + i) = m - v + i by have := h.1; have := h2.1; omega] at this
  rw [this]
  exact h2.2 i hi
theorem bd_down (h : Bd g m w) (h2 : Bd g m v) (hv : v < w) : Bd g w v := by
  refine ⟨hv, fun i hi => ?_⟩
  have a := h.2 (w - v + i) (by omega)
  rw [show m - w + (w - v + i) = m - v + i by have := h.1; omega] at a
  rw [← a]
  exact h2.2 i hi
/-- what the search for the next border keeps: a border, and none that goes on is longer -/
def Srch (g : List Int) (m w : Nat) : Prop := Bd g m w ∧ ∀ v, Bd g m v → at' g m = at' g v → v ≤ w
theorem srch_start (h : Lb g m w) : Srch g m w := ⟨h.bd, fun v b _ => h.top v b⟩
theorem srch_step (h : Srch g m w) (hw : 0 < w) (hne : at' g m ≠ at' g w) {w' : Nat} (b : Lb g w w') : Srch g m w' ∧ w' < w :=
  ⟨⟨bd_trans h.1 b.bd, fun v hv e => by
    have h1 := h.2 v hv e
    have h2 : v ≠ w := fun z => hne (z ▸ e)
    exact b.top v (bd_down h.1 hv (by omega))⟩, b.bd.1⟩
theorem srch_yes (h : Srch g m w) (e : at' g m = at' g w) : Lb g (m + 1) (w + 1) := by
  refine ⟨bd_succ.mpr ⟨h.1, e⟩, fun v hv => ?_⟩
  rcases v with _ | v
  · exact Nat.zero_le _
  · obtain ⟨a, b⟩ := bd_succ.mp hv
    exact Nat.succ_le_succ (h.2 v a b)
theorem srch_no (h : Srch g m 0) (e : at' g m ≠ at' g 0) : Lb g (m + 1) 0 := by
  refine ⟨bd_zero (Nat.succ_pos m), fun v hv => ?_⟩
  rcases v with _ | v
  · exact Nat.le_refl _
  · obtain ⟨a, b⟩ := bd_succ.mp hv
    have : v = 0 := Nat.le_zero.mp (h.2 v a b)
    subst this
    exact absurd b e
end
/-! ### the least period of a row, by its longest border -/
section
variable {g : List Int} {b : Nat}
theorem Per.bd {p : Nat} (h : Per g p) (hp : 0 < p) (hn : p ≤ g.length) : Bd g g.length (g.length - p) := by
  refine ⟨by omega, fun i hi => ?_⟩
  have := h i (by omega)
  rw [show g.length - (g.length - p) + i = i + p by omega]
  exact this
theorem Bd.per (h : Bd g g.length b) : Per g (g.length - b) := fun i hi => by
  have := h.2 i (by have := h.1; omega)
  rwa [Nat.add_comm] at this
theorem least_of (hn : 0 < g.length) (h : Lb g g.length b) : Least (dif g) (if g.length % (g.length - b) = 0 then g.length - b else g.length) := by
  have hb := h.bd.1
  have hq : 0 < g.length - b := by omega
  have per := h.bd.per
  have top : ∀ p, 0 < p → p ≤ g.length → Per g p → g.length - b ≤ p := fun p hp hpn pp => by
    have := h.top _ (pp.bd hp hpn)
    omega
  -- each period of the endless row has a divisor of the length below it that is one too
  have down : ∀ q, 0 < q → Pd (dif g) q → ∃ c, 0 < c ∧ c ∣ g.length ∧ c ≤ q ∧ c ≤ g.length ∧ Pd (dif g) c := fun q hq0 hqd =>
    ⟨Nat.gcd q g.length, Nat.gcd_pos_of_pos_left _ hq0, Nat.gcd_dvd_right _ _, Nat.gcd_le_left _ hq0, Nat.gcd_le_right _ hn, Pd.gcd q g.length hqd dif_pd⟩
  by_cases e : g.length % (g.length - b) = 0
  · rw [if_pos e]
    refine ⟨hq, per.pd hq (Nat.dvd_of_mod_eq_zero e) hn, fun q hq0 hqd => ?_⟩
    obtain ⟨c, c0, _, cq, cn, cd⟩ := down q hq0 hqd
    exact Nat.le_trans (top c c0 cn cd.per) cq
  · rw [if_neg e]
    refine ⟨hn, dif_pd, fun q hq0 hqd => ?_⟩
    obtain ⟨c, c0, cv, cq, cn, cd⟩ := down q hq0 hqd
    rcases Nat.lt_or_ge c g.length with h1 | h1
    · exfalso
      have h2 : g.length - b ≤ c := top c c0 cn cd.per
      obtain ⟨z, hz⟩ := cv
      have h3 : c + c ≤ g.length := by
        rcases z with _ | _ | z
        · rw [Nat.mul_zero] at hz; omega
        · rw [Nat.mul_one] at hz; omega
        · rw [hz, show z + 1 + 1 = z + 2 from rfl, Nat.mul_add, Nat.mul_two]; omega
      have pd : Pd (dif g) (g.length - b) := fun k => by
        have r : k % c < c := Nat.mod_lt _ c0
        have a : dif g (k % c) = dif g k := cd.mod k
        have a2 : dif g (k + (g.length - b)) = dif g (k % c + (g.length - b)) := by
          have e1 := Nat.mod_add_div k c
          rw [Nat.mul_comm] at e1
          have := cd.mul (k / c) (k % c + (g.length - b))
          rw [show k % c + (g.length - b) + k / c * c = k + (g.length - b) by omega] at this
          exact this
        rw [a2, ← a, dif_lt (by omega), dif_lt (by omega)]
        exact per _ (by omega)
      have q2 := Pd.gcd (g.length - b) g.length pd dif_pd
      have g0 : 0 < Nat.gcd (g.length - b) g.length := Nat.gcd_pos_of_pos_left _ hq
      have l1 := top _ g0 (Nat.gcd_le_right _ hn) q2.per
      have l2 := Nat.gcd_le_left (g.length) hq
      have e2 : Nat.gcd (g.length - b) g.length = g.length - b := Nat.le_antisymm l2 l1
      exact e (Nat.mod_eq_zero_of_dvd (e2 ▸ Nat.gcd_dvd_right (g.length - b) g.length))
    · exact Nat.le_trans h1 cq
end
end Gr
namespace Gr
/-! ### sums of beginnings -/
def acc (d : Nat → Int) : Nat → Int
  | 0 => 0
  | n + 1 => acc d n + d n
theorem acc_add (d : Nat → Int) (m : Nat) : ∀ n, acc d (m + n) = acc d m + acc (fun k => d (m + k)) n
  | 0 => by rw [Nat.add_zero]; exact (Int.add_zero _).symm
  | n + 1 => by
    rw [← Nat.add_assoc]
    show acc d (m + n) + d (m + n) = acc d m + (acc _ n + d (m + n))
    rw [acc_add d m n, Int.add_assoc]
theorem acc_congr {d e : Nat → Int} : ∀ n, (∀ k, k < n → d k = e k) → acc d n = acc e n
  | 0, _ => rfl
  | n + 1, h => by
    show acc d n + d n = acc e n + e n
    rw [acc_congr n fun k hk => h k (by omega), h n (Nat.lt_succ_self n)]
theorem acc_mul {d : Nat → Int} {p : Nat} (h : Pd d p) : ∀ j r, acc d (j * p + r) = j * acc d p + acc d r
  | 0, r => by rw [Nat.zero_mul, Nat.zero_add]; show acc d r = ((0 : Nat) : Int) * _ + _; rw [Int.natCast_zero, Int.zero_mul, Int.zero_add]
  | j + 1, r => by
    rw [Nat.succ_mul, show j * p + p + r = p + (j * p + r) by omega, acc_add]
    rw [acc_congr (e := d) (j * p + r) fun k _ => by rw [Nat.add_comm p k]; exact h k]
    rw [acc_mul h j r]
    rw [show ((j + 1 : Nat) : Int) = (j : Int) + 1 from rfl, Int.add_mul, Int.one_mul]
    omega
/-! ### growths -/
/-- the last one of a row -/
def lst (t : List Int) : Int := at' t (t.length - 1)
/-- the value at a number, by told values and gains -/
def val (t g : List Int) (n : Nat) : Int := if n < t.length then at' t n else lst t + acc (dif g) (n - t.length + 1)
section
variable {t t' g g' : List Int} {n : Nat}
theorem val_lt (h : n < t.length) : val t g n = at' t n := if_pos h
/-- from the last told value on -/
theorem val_ge (h0 : 0 < t.length) (k : Nat) : val t g (t.length - 1 + k) = lst t + acc (dif g) k := by
  unfold val
  rcases Nat.eq_zero_or_pos k with h | h
  · subst h
    rw [if_pos (by omega)]
    show at' t (t.length - 1 + 0) = lst t + 0
    rw [Int.add_zero]
    rfl
  · rw [if_neg (by omega), show t.length - 1 + k - t.length + 1 = k by omega]
theorem val_step (h0 : 0 < t.length) (k : Nat) : val t g (t.length - 1 + k + 1) - val t g (t.length - 1 + k) = dif g k := by
  rw [Nat.add_assoc, val_ge h0, val_ge h0]
  show lst t + (acc (dif g) k + dif g k) - (lst t + acc (dif g) k) = dif g k
  omega
/-- the rounds taken at once -/
theorem val_far (h0 : 0 < t.length) (hn : t.length ≤ n) : val t g n = lst t + ((n - t.length + 1) / g.length : Nat) * acc (dif g) g.length + acc (dif g) ((n - t.length + 1) % g.length) := by
  unfold val
  rw [if_neg (by omega)]
  have e := Nat.mod_add_div (n - t.length + 1) g.length
  rw [Nat.mul_comm, Nat.add_comm] at e
  rw [← e, acc_mul dif_pd, e, Int.add_assoc]
/-- the normal form -/
structure NF (t g : List Int) : Prop where
  told : 0 < t.length
  gains : 0 < g.length
  least : Least (dif g) g.length
  few : t.length = 1 ∨ at' t (t.length - 1) - at' t (t.length - 2) ≠ lst g
/-- by how much the values rise -/
def rise (t g : List Int) (n : Nat) : Int := val t g (n + 1) - val t g n
theorem rise_ge (h0 : 0 < t.length) (h : t.length - 1 ≤ n) : rise t g n = dif g (n - (t.length - 1)) := by
  have := val_step (g := g) h0 (n - (t.length - 1))
  rwa [show t.length - 1 + (n - (t.length - 1)) = n by omega] at this
/-- the number of gains is the least number by which the rises come round at last -/
theorem least_end (h : NF t g) {q : Nat} (hq : 0 < q) {m : Nat} (hm : ∀ n, m ≤ n → rise t g (n + q) = rise t g n) : g.length ≤ q := by
  refine h.least.le q hq fun k => ?_
  have a := hm (t.length - 1 + (k + m * g.length)) (by have : m ≤ m * g.length := Nat.le_mul_of_pos_right m h.gains; omega)
  rw [rise_ge h.told (by omega), rise_ge h.told (by omega)] at a
  rw [show t.length - 1 + (k + m * g.length) + q - (t.length - 1) = k + q + m * g.length by omega, show t.length - 1 + (k + m * g.length) - (t.length - 1) = k + m * g.length by omega] at a
  rwa [dif_pd.mul, dif_pd.mul] at a
theorem end_pd (h : NF t g) (n : Nat) (hn : t.length - 1 ≤ n) : rise t g (n + g.length) = rise t g n := by
  rw [rise_ge h.told (by omega), rise_ge h.told hn, show n + g.length - (t.length - 1) = n - (t.length - 1) + g.length by omega]
  exact dif_pd _
theorem at_eq_of {a b : List Int} (hl : a.length = b.length) (h : ∀ i, i < a.length → at' a i = at' b i) : a = b := by
  refine List.ext_getElem? fun i => ?_
  rcases Nat.lt_or_ge i a.length with h1 | h1
  · have := h i h1
    unfold at' at this
    rw [List.getD_eq_getElem?_getD, List.getD_eq_getElem?_getD] at this
    rw [List.getElem?_eq_getElem h1, List.getElem?_eq_getElem (hl ▸ h1)] at this ⊢
    exact congrArg some this
  · rw [List.getElem?_eq_none h1, List.getElem?_eq_none (hl ▸ h1)]
theorem told_le (h : NF t g) (h' : NF t' g') (e : ∀ n, val t g n = val t' g' n) (eg : g.length = g'.length) : t'.length ≤ t.length := by
  rcases Nat.lt_or_ge t.length t'.length with hl | hl
  · exfalso
    have re : ∀ n, rise t g n = rise t' g' n := fun n => by unfold rise; rw [e, e]
    rcases h'.few with z | z
    · have := h.told; omega
    · apply z
      have t0 := h.told
      have a : rise t' g' (t'.length - 2) = at' t' (t'.length - 1) - at' t' (t'.length - 2) := by
        unfold rise
        rw [show t'.length - 2 + 1 = t'.length - 1 by omega, val_lt (by omega), val_lt (by omega)]
      have b : rise t' g' (t'.length - 2 + g.length) = lst g' := by
        have g0 := h.gains
        rw [rise_ge h'.told (by omega), show t'.length - 2 + g.length - (t'.length - 1) = g'.length - 1 by omega, dif_lt (by omega)]
        rfl
      rw [← a, ← b, ← re, ← re]
      exact (end_pd h _ (by omega)).symm
  · exact hl
/-- one normal form -/
theorem nf_one (h : NF t g) (h' : NF t' g') (e : ∀ n, val t g n = val t' g' n) : t = t' ∧ g = g' := by
  have re : ∀ n, rise t g n = rise t' g' n := fun n => by unfold rise; rw [e, e]
  have l1 : g.length ≤ g'.length := least_end h h'.gains (m := t'.length - 1) fun n hn => by rw [re, re]; exact end_pd h' n hn
  have l2 : g'.length ≤ g.length := least_end h' h.gains (m := t.length - 1) fun n hn => by rw [← re, ← re]; exact end_pd h n hn
  have eg : g.length = g'.length := Nat.le_antisymm l1 l2
  have et : t.length = t'.length := Nat.le_antisymm (told_le h' h (fun n => (e n).symm) eg.symm) (told_le h h' e eg)
  refine ⟨at_eq_of et fun i hi => ?_, at_eq_of eg fun i hi => ?_⟩
  · have := e i
    rwa [val_lt hi, val_lt (et ▸ hi)] at this
  · have a := rise_ge (g := g) h.told (n := t.length - 1 + i) (by omega)
    have b := rise_ge (g := g') h'.told (n := t.length - 1 + i) (by omega)
    rw [re, b, show t.length - 1 + i - (t.length - 1) = i by omega, show t.length - 1 + i - (t'.length - 1) = i by omega, dif_lt hi, dif_lt (eg ▸ hi)] at a
    exact a.symm
end
/-! ### told values that the gains give anyway -/
section
variable {t g : List Int} {s : Nat}
/-- the gain that would be i steps ahead of the first one -/
def back (g : List Int) (s : Nat) : Int := at' g (g.length - 1 - s % g.length)
/-- the last s told values are those that the gains give -/
def Spr (t g : List Int) (s : Nat) : Prop := s < t.length ∧ ∀ i, i < s → at' t (t.length - 1 - i) - at' t (t.length - 1 - i - 1) = back g i
theorem spr_zero (h : 0 < t.length) : Spr t g 0 := ⟨h, fun i hi => absurd hi (Nat.not_lt_zero i)⟩
theorem spr_step (h : Spr t g s) (hs : s < t.length - 1) (e : at' t (t.length - 1 - s) - at' t (t.length - 1 - s - 1) = back g s) : Spr t g (s + 1) :=
  ⟨by omega, fun i hi => by
    rcases Nat.lt_or_ge i s with z | z
    · exact h.2 i z
    · rw [show i = s by omega]
      exact e⟩
/-- told values and gains without the last s told values -/
def cutT (t : List Int) (s : Nat) : List Int := t.take (t.length - s)
def cutG (g : List Int) (s : Nat) : List Int := g.drop (g.length - s % g.length) ++ g.take (g.length - s % g.length)
theorem cutT_len (hs : s < t.length) : (cutT t s).length = t.length - s := by
  unfold cutT
  rw [List.length_take]
  omega
theorem cutG_len : (cutG g s).length = g.length := by
  unfold cutG
  rw [List.length_append, List.length_drop, List.length_take]
  omega
theorem at_take {l : List Int} {n i : Nat} (h : i < n) : at' (l.take n) i = at' l i := by
  unfold at'
  rw [List.getD_eq_getElem?_getD, List.getD_eq_getElem?_getD, List.getElem?_take_of_lt h]
theorem at_drop {l : List Int} {n i : Nat} : at' (l.drop n) i = at' l (n + i) := by
  unfold at'
  rw [List.getD_eq_getElem?_getD, List.getD_eq_getElem?_getD, List.getElem?_drop]
theorem at_app {a b : List Int} {i : Nat} : at' (a ++ b) i = if i < a.length then at' a i else at' b (i - a.length) := by
  unfold at'
  rw [List.getD_eq_getElem?_getD, List.getD_eq_getElem?_getD, List.getD_eq_getElem?_getD]
  by_cases h : i < a.length
  · rw [if_pos h, List.getElem?_append_left h]
  · rw [if_neg h, List.getElem?_append_right (by omega)]
/-- the gains turned: each one s places later -/
theorem dif_cut (hg : 0 < g.length) (k : Nat) : dif (cutG g s) (k + s) = dif g k := by
  have hr : s % g.length < g.length := Nat.mod_lt _ hg
  have hk : k % g.length < g.length := Nat.mod_lt _ hg
  unfold dif
  rw [cutG_len, Nat.add_mod]
  unfold cutG
  generalize s % g.length = r at hr ⊢
  generalize k % g.length = q at hk ⊢
  rw [at_app, List.length_drop, show g.length - (g.length - r) = r by omega]
  rcases Nat.lt_or_ge (q + r) g.length with h | h
  · rw [Nat.mod_eq_of_lt h, if_neg (by omega), at_take (by omega), show q + r - r = q by omega]
  · rw [Nat.mod_eq_sub_mod h, Nat.mod_eq_of_lt (by omega), if_pos (by omega), at_drop, show g.length - r + (q + r - g.length) = q by omega]
theorem dif_cut' (hg : 0 < g.length) {k : Nat} (h : s ≤ k) : dif (cutG g s) k = dif g (k - s) := by
  have := dif_cut (s := s) hg (k - s)
  rwa [show k - s + s = k by omega] at this
/-- the gain i places ahead of the first one, told of the turned ones -/
theorem back_cut (hg : 0 < g.length) {i : Nat} (hi : i < s) : dif (cutG g s) (s - 1 - i) = back g i := by
  have p := (dif_pd (g := cutG g s)).mul (i + 1) (s - 1 - i)
  rw [cutG_len] at p
  rw [← p, dif_cut' hg (by have : i + 1 ≤ (i + 1) * g.length := Nat.le_mul_of_pos_right _ hg; omega)]
  unfold dif back
  congr 1
  have hr : i % g.length < g.length := Nat.mod_lt _ hg
  have e := Nat.mod_add_div i g.length
  generalize i % g.length = r at hr e ⊢
  generalize i / g.length = c at e
  have e3 : (i + 1) * g.length = i * g.length + g.length := by rw [Nat.add_mul, Nat.one_mul]
  have e5 : c * g.length = g.length * c := Nat.mul_comm _ _
  have i0 : i ≤ i * g.length := Nat.le_mul_of_pos_right _ hg
  have cl : c ≤ i := by
    have := Nat.le_mul_of_pos_left c hg
    omega
  -- the number of whole rounds left
  have e4 : s - 1 - i + (i + 1) * g.length - s = g.length - 1 - r + (i - c) * g.length := by
    have : (i - c) * g.length = i * g.length - c * g.length := Nat.sub_mul _ _ _
    have le2 : c * g.length ≤ i * g.length := Nat.mul_le_mul_right _ cl
    omega
  rw [e4, Nat.add_mul_mod_self_right, Nat.mod_eq_of_lt (by omega)]
theorem back_zero (hg : 0 < g.length) : back g 0 = lst g := by
  unfold back lst
  rw [Nat.zero_mod, Nat.sub_zero]
/-- what stands s places ahead of the last told value, by the gains -/
theorem spr_told (h : Spr t g s) : ∀ i, i ≤ s → at' t (t.length - 1 - s + i) = lst (cutT t s) + acc (fun k => back g (s - 1 - k)) i
  | 0, _ => by
    have := h.1
    show _ = lst (cutT t s) + 0
    unfold lst
    rw [cutT_len h.1, Int.add_zero]
    unfold cutT
    rw [at_take (by omega), Nat.add_zero, show t.length - s - 1 = t.length - 1 - s by omega]
  | i + 1, hi => by
    have h1 := h.1
    have a := spr_told h i (by omega)
    have b := h.2 (s - 1 - i) (by omega)
    rw [show t.length - 1 - (s - 1 - i) = t.length - 1 - s + (i + 1) by omega, show t.length - 1 - s + (i + 1) - 1 = t.length - 1 - s + i by omega, a] at b
    show _ = lst (cutT t s) + (acc _ i + back g (s - 1 - i))
    omega
/-- the same values -/
theorem val_cut (hg : 0 < g.length) (h : Spr t g s) (n : Nat) : val (cutT t s) (cutG g s) n = val t g n := by
  have h1 := h.1
  have len := cutT_len (t := t) h1
  rcases Nat.lt_or_ge n (t.length - s) with a | a
  · rw [val_lt (by omega), val_lt (by omega)]
    unfold cutT
    rw [at_take a]
  · obtain ⟨k, rfl⟩ : ∃ k, n = t.length - s - 1 + k := ⟨n - (t.length - s - 1), by omega⟩
    have v := val_ge (g := cutG g s) (t := cutT t s) (by omega) k
    rw [len] at v
    rw [v]
    have b : ∀ i, i < s → dif (cutG g s) i = back g (s - 1 - i) := fun i hi => by
      have := back_cut (g := g) (s := s) hg (i := s - 1 - i) (by omega)
      rwa [show s - 1 - (s - 1 - i) = i by omega] at this
    rcases Nat.lt_or_ge k (s + 1) with c | c
    · rw [val_lt (by omega), show t.length - s - 1 + k = t.length - 1 - s + k by omega, spr_told h k (by omega), acc_congr k fun i hi => b i (by omega)]
    · obtain ⟨j, rfl⟩ : ∃ j, k = s + j := ⟨k - s, by omega⟩
      rw [acc_add, acc_congr s b, acc_congr (e := dif g) j fun i _ => by rw [Nat.add_comm s i]; exact dif_cut hg i]
      have l := spr_told h s (Nat.le_refl s)
      rw [show t.length - 1 - s + s = t.length - 1 by omega] at l
      rw [show t.length - s - 1 + (s + j) = t.length - 1 + j by omega, val_ge (by omega)]
      unfold lst at l ⊢
      rw [l]
      omega
theorem least_cut (hg : 0 < g.length) (h : Least (dif g) g.length) : Least (dif (cutG g s)) (cutG g s).length := by
  refine ⟨by rw [cutG_len]; exact hg, dif_pd, fun q hq hp => ?_⟩
  rw [cutG_len]
  refine h.le q hq fun k => ?_
  have := hp (k + s)
  rw [show k + s + q = k + q + s by omega, dif_cut hg, dif_cut hg] at this
  exact this
/-- the search of told values has come to its end: the normal form -/
theorem nf_cut (hg : 0 < g.length) (l : Least (dif g) g.length) (h : Spr t g s) (e : s = t.length - 1 ∨ at' t (t.length - 1 - s) - at' t (t.length - 1 - s - 1) ≠ back g s) : NF (cutT t s) (cutG g s) := by
  have h1 := h.1
  have len := cutT_len (t := t) h1
  refine ⟨by omega, by rw [cutG_len]; exact hg, least_cut hg l, ?_⟩
  rcases e with e | e
  · left
    omega
  · by_cases z : t.length - s = 1
    · left
      omega
    · right
      rw [len]
      unfold cutT
      rw [at_take (by omega), at_take (by omega), show t.length - s - 1 = t.length - 1 - s by omega, show t.length - s - 2 = t.length - 1 - s - 1 by omega]
      have q : lst (cutG g s) = back g s := by
        have a := back_cut (g := g) (s := s + 1) hg (i := s) (Nat.lt_succ_self s)
        have r : dif (cutG g (s + 1)) (s + 1 - 1 - s) = dif (cutG g s) (g.length - 1) := by
          rw [show s + 1 - 1 - s = 0 by omega]
          have p := (dif_pd (g := cutG g (s + 1))).mul (s + 1) 0
          rw [cutG_len] at p
          have m : s + 1 ≤ (s + 1) * g.length := Nat.le_mul_of_pos_right _ hg
          rw [← p, dif_cut' hg (by omega)]
          have p2 := (dif_pd (g := cutG g s)).mul s (g.length - 1)
          rw [cutG_len] at p2
          have m2 : s ≤ s * g.length := Nat.le_mul_of_pos_right _ hg
          have e3 : (s + 1) * g.length = s * g.length + g.length := by rw [Nat.add_mul, Nat.one_mul]
          rw [← p2, dif_cut' hg (by omega)]
          congr 1
          omega
        rw [r, dif_lt (by rw [cutG_len]; omega)] at a
        unfold lst
        rw [cutG_len]
        exact a
      rw [q]
      exact e
end
end Gr
namespace Gr
/-! ### told values and gains of a sequence that rises in rounds at last -/
section
variable {f : Nat → Int} {b l : Nat}
def pT (f : Nat → Int) (b : Nat) : List Int := (List.range b).map f
def pG (f : Nat → Int) (b l : Nat) : List Int := (List.range l).map fun k => f (b + k) - f (b + k - 1)
theorem pT_len : (pT f b).length = b := by unfold pT; rw [List.length_map, List.length_range]
theorem pG_len : (pG f b l).length = l := by unfold pG; rw [List.length_map, List.length_range]
theorem at_map_range {h : Nat → Int} {n i : Nat} (hi : i < n) : at' ((List.range n).map h) i = h i := by
  unfold at'
  rw [List.getD_eq_getElem?_getD, List.getElem?_map, List.getElem?_range hi]
  rfl
theorem val_parted (hb : 0 < b) (hl : 0 < l) (h : ∀ n, b - 1 ≤ n → f (n + l + 1) - f (n + l) = f (n + 1) - f n) (n : Nat) : val (pT f b) (pG f b l) n = f n := by
  have lt := pT_len (f := f) (b := b)
  have lg := pG_len (f := f) (b := b) (l := l)
  rcases Nat.lt_or_ge n b with a | a
  · rw [val_lt (by omega)]
    exact at_map_range a
  · obtain ⟨k, rfl⟩ : ∃ k, n = b - 1 + k := ⟨n - (b - 1), by omega⟩
    have v := val_ge (t := pT f b) (g := pG f b l) (by omega) k
    rw [lt] at v
    rw [v]
    have d : ∀ i, dif (pG f b l) i = f (b - 1 + i + 1) - f (b - 1 + i) := fun i => by
      unfold dif
      rw [lg]
      have hi : i % l < l := Nat.mod_lt _ hl
      have e : at' (pG f b l) (i % l) = f (b + i % l) - f (b + i % l - 1) := at_map_range hi
      rw [e, show b + i % l = b - 1 + i % l + 1 by omega, Nat.add_sub_cancel]
      have p : Pd (fun i => f (b - 1 + i + 1) - f (b - 1 + i)) l := fun i => by
        have := h (b - 1 + i) (by omega)
        rw [show b - 1 + i + l = b - 1 + (i + l) by omega] at this
        exact this
      exact p.mod i
    have la : lst (pT f b) = f (b - 1) := by
      unfold lst
      rw [lt]
      exact at_map_range (by omega)
    rw [la]
    clear v
    induction k with
    | zero => show f (b - 1) + 0 = f (b - 1 + 0); rw [Int.add_zero, Nat.add_zero]
    | succ k ih =>
      show f (b - 1) + (acc _ k + dif (pG f b l) k) = f (b - 1 + (k + 1))
      have ih' : f (b - 1) + acc (dif (pG f b l)) k = f (b - 1 + k) := by
        rcases Nat.lt_or_ge (b - 1 + k) b with c | c
        · have : k = 0 := by omega
          subst this
          show f (b - 1) + 0 = f (b - 1 + 0)
          rw [Int.add_zero, Nat.add_zero]
        · exact ih c
      rw [d k, ← Int.add_assoc, ih', ← Nat.add_assoc]
      omega
end
/-! ### sums -/
section
variable {t g t' g' : List Int}
/-- rises of a growth come round behind its told values, by each number of which its gains are a divisor -/
theorem rise_pd (h0 : 0 < t.length) {l n : Nat} (hd : g.length ∣ l) (hn : t.length - 1 ≤ n) : val t g (n + l + 1) - val t g (n + l) = val t g (n + 1) - val t g n := by
  have a := rise_ge (g := g) h0 (n := n + l) (by omega)
  have b := rise_ge (g := g) h0 hn
  unfold rise at a b
  rw [a, b, show n + l - (t.length - 1) = n - (t.length - 1) + l by omega]
  obtain ⟨c, rfl⟩ := hd
  rw [Nat.mul_comm]
  exact dif_pd.mul c _
theorem val_sum (h0 : 0 < t.length) (h0' : 0 < t'.length) {b l : Nat} (hb : t.length ≤ b) (hb' : t'.length ≤ b) (hl : 0 < l) (hd : g.length ∣ l) (hd' : g'.length ∣ l) (n : Nat) :
    val (pT (fun n => val t g n + val t' g' n) b) (pG (fun n => val t g n + val t' g' n) b l) n = val t g n + val t' g' n := by
  refine val_parted (by omega) hl (fun n hn => ?_) n
  have a := rise_pd (g := g) h0 (l := l) (n := n) hd (by omega)
  have c := rise_pd (g := g') h0' (l := l) (n := n) hd' (by omega)
  omega
/-! ### each value so many times -/
def sc (k : Int) (l : List Int) : List Int := l.map fun x => k * x
theorem sc_len {k : Int} {l : List Int} : (sc k l).length = l.length := List.length_map _
theorem sc_at {k : Int} {l : List Int} {i : Nat} : at' (sc k l) i = k * at' l i := by
  unfold at' sc
  rw [List.getD_eq_getElem?_getD, List.getD_eq_getElem?_getD, List.getElem?_map]
  cases l[i]? with
  | none => show (0 : Int) = k * 0; rw [Int.mul_zero]
  | some x => rfl
theorem acc_sc {k : Int} {d : Nat → Int} : ∀ n, acc (fun i => k * d i) n = k * acc d n
  | 0 => (Int.mul_zero k).symm
  | n + 1 => by
    show acc _ n + k * d n = k * (acc d n + d n)
    rw [acc_sc n, Int.mul_add]
theorem val_sc {k : Int} {n : Nat} : val (sc k t) (sc k g) n = k * val t g n := by
  have d : dif (sc k g) = fun i => k * dif g i := funext fun i => by unfold dif; rw [sc_len, sc_at]
  unfold val
  rw [sc_len]
  by_cases h : n < t.length
  · rw [if_pos h, if_pos h, sc_at]
  · rw [if_neg h, if_neg h, d, acc_sc, Int.mul_add]
    unfold lst
    rw [sc_len, sc_at]
/-! ### begun later -/
/-- the gains turned the other way -/
def rot (g : List Int) (r : Nat) : List Int := g.drop r ++ g.take r
theorem rot_len {r : Nat} (h : r ≤ g.length) : (rot g r).length = g.length := by
  unfold rot
  rw [List.length_append, List.length_drop, List.length_take]
  omega
theorem dif_rot {r : Nat} (h : r < g.length) (k : Nat) : dif (rot g r) k = dif g (k + r) := by
  unfold dif
  rw [rot_len (Nat.le_of_lt h), Nat.add_mod, Nat.mod_eq_of_lt h]
  have hk : k % g.length < g.length := Nat.mod_lt _ (by omega)
  generalize k % g.length = q at hk ⊢
  unfold rot
  rw [at_app, List.length_drop]
  rcases Nat.lt_or_ge (q + r) g.length with c | c
  · rw [Nat.mod_eq_of_lt c, if_pos (by omega), at_drop, Nat.add_comm]
  · rw [Nat.mod_eq_sub_mod c, Nat.mod_eq_of_lt (by omega), if_neg (by omega), at_take (by omega)]
    congr 1
    omega
/-- still within the told values -/
theorem val_shift1 {m : Nat} (hm : m < t.length) (n : Nat) : val (t.drop m) g n = val t g (n + m) := by
  have l : (t.drop m).length = t.length - m := List.length_drop
  rcases Nat.lt_or_ge n (t.length - m) with a | a
  · rw [val_lt (by omega), val_lt (by omega), at_drop, Nat.add_comm]
  · obtain ⟨k, rfl⟩ : ∃ k, n = t.length - m - 1 + k := ⟨n - (t.length - m - 1), by omega⟩
    have v := val_ge (t := t.drop m) (g := g) (by omega) k
    rw [l] at v
    rw [v, show t.length - m - 1 + k + m = t.length - 1 + k by omega, val_ge (by omega)]
    unfold lst
    rw [l, at_drop, show m + (t.length - m - 1) = t.length - 1 by omega]
/-- behind them -/
theorem val_shift2 {m : Nat} (h0 : 0 < t.length) (hg : 0 < g.length) (hm : t.length ≤ m) (n : Nat) : val [val t g m] (rot g ((m - t.length + 1) % g.length)) n = val t g (n + m) := by
  have hr : (m - t.length + 1) % g.length < g.length := Nat.mod_lt _ hg
  have v := val_ge (t := [val t g m]) (g := rot g ((m - t.length + 1) % g.length)) Nat.one_pos n
  rw [show [val t g m].length - 1 + n = n from Nat.zero_add n] at v
  rw [v, show n + m = t.length - 1 + (m - t.length + 1 + n) by omega, val_ge h0, acc_add]
  have e : lst [val t g m] = lst t + acc (dif g) (m - t.length + 1) := by
    show val t g m = _
    have := val_ge (g := g) h0 (m - t.length + 1)
    rwa [show t.length - 1 + (m - t.length + 1) = m by omega] at this
  rw [e, Int.add_assoc]
  congr 2
  refine acc_congr n fun k _ => ?_
  rw [dif_rot hr]
  have p := (dif_pd (g := g)).mul ((m - t.length + 1) / g.length) (k + (m - t.length + 1) % g.length)
  have q := Nat.mod_add_div (m - t.length + 1) g.length
  rw [Nat.mul_comm] at q
  rw [← p]
  congr 1
  omega
end
end Gr
namespace K19
open PySem L2 Evl
def top (i : Nat) : Stmt := PySem.Challenge.pw_layerpost_k19_rows_known_slot_by_slot.main.body.getD i (.Pass ⟨0, 0, 0, 0⟩)
abbrev sPen : Stmt := top 36
abbrev sDraw : Stmt := top 37
abbrev sPick : Stmt := top 38
/-! ### the pen: a list of the cells, the place, the rest -/
def PenAt (H : Hp) (p l : Addr) (cells : List Int) (m : Nat) : Prop :=
  ∃ (k : Nat) (r : Int), H p = some (.lst [.ref l, .int (k : Int), .int r]) ∧ H l = some (.lst (cells.map V.int)) ∧ k ≤ m
/-- all but p is as it was -/
def Keep (p : Addr) (H H' : Hp) : Prop := ∀ b o, H b = some o → b ≠ p → H' b = some o
theorem Keep.of_ex {p : Addr} {H H' : Hp} (e : Ex H H') : Keep p H H' := fun b o h _ => e b o h
theorem Keep.trans {p : Addr} {H H1 H2 : Hp} (a : Keep p H H1) (b : Keep p H1 H2) : Keep p H H2 := fun c o h n => b c o (a c o h n) n
theorem Keep.upd {p : Addr} {H : Hp} {o : HO} : Keep p H (upd H p o) := fun b u h n => by rw [upd_ne n]; exact h
theorem PenAt.mono {H H' : Hp} {p l : Addr} {cells : List Int} {m n : Nat} (h : PenAt H p l cells m) (e : Ex H H') (hm : m ≤ n) : PenAt H' p l cells n := by
  obtain ⟨k, r, h1, h2, h3⟩ := h
  exact ⟨k, r, e _ _ h1, e _ _ h2, by omega⟩
theorem PenAt.ne {H : Hp} {p l : Addr} {cells : List Int} {m : Nat} (h : PenAt H p l cells m) : l ≠ p := by
  obtain ⟨k, r, h1, h2, _⟩ := h
  refine ne_of h2 h1 ?_
  intro z
  have z2 := HO.lst.inj z
  cases cells with
  | nil => exact absurd z2 (by simp)
  | cons c cs => exact absurd (List.cons.inj z2).1 (by intro q; cases q)
structure Glb (mg : Str → Option Value) : Prop where
  int : mg "int" = none
  abs : mg "abs" = none
  len : mg "len" = none
  list : mg "list" = none
def spDraw : Sp := fun vs H Q _ => ∃ (p l : Addr) (cells : List Int) (m : Nat) (many : Int), vs = [.ref p, .int many] ∧ PenAt H p l cells m ∧ m ≤ 50000 ∧ cells.length ≤ 63 ∧ 0 < many ∧ many ≤ 1000000000 ∧
  ∀ d H', 0 ≤ d → d < many → PenAt H' p l cells (m + 1) → Keep p H H' → Q (.int d) H'
theorem scDraw : FnScope ["_law_pen_here", "_law_top_so", "_law_digit", "_law_at", "_law_cell", "_law_great", "_law_mixed"] ["_law_pen_here", "_law_top_so"] (defScope sDraw) := ⟨rfl, rfl, rfl, by decide +kernel, rfl, by decide +kernel, by decide +kernel⟩
theorem rc_int {i : Int} {H : Hp} : RC (fun xs H Q => (∃ i, xs = [V.int i] ∧ Q (.int i) H) ∨ ∃ k, xs = [V.bl k] ∧ Q (.int (if k then 1 else 0)) H) [.int i] H (.int i) := fun H1 _ _ q => .inl ⟨i, rfl, q H1 (Ex.refl H1)⟩
theorem rc_intB {b : Bool} {H : Hp} : RC (fun xs H Q => (∃ i, xs = [V.int i] ∧ Q (.int i) H) ∨ ∃ k, xs = [V.bl k] ∧ Q (.int (if k then 1 else 0)) H) [.bl b] H (.int (if b then 1 else 0)) := fun H1 _ _ q => .inr ⟨b, rfl, q H1 (Ex.refl H1)⟩
theorem rc_abs {i : Int} {H : Hp} : RC (fun xs H Q => ∃ i, xs = [V.int i] ∧ Q (.int (if i < 0 then -i else i)) H) [.int i] H (.int (if i < 0 then -i else i)) := fun H1 _ _ q => ⟨i, rfl, q H1 (Ex.refl H1)⟩
theorem rc_len {K : PySem.W.Frag} {p : Addr} {xs : List V} {H : Hp} (h : SqL K H p xs) : RC (fun xs H Q => ∃ p ys, xs = [V.ref p] ∧ (SqL K H p ys ∨ SqT K H p ys) ∧ Q (.int ys.length) H) [.ref p] H (.int (xs.length : Int)) := fun H1 e _ q => ⟨p, xs, rfl, .inl (ex_l e h), q H1 (Ex.refl H1)⟩
theorem dpAll_ints {K : PySem.W.Frag} {H : Hp} : ∀ (ns : List Int), DpAll K H (ns.map V.int) (ns.map PyData.int)
  | [] => .nil
  | n :: ns => .cons (.int n) (dpAll_ints ns)
section
variable {P : Program} {w : World} {K : PySem.W.Frag} {mg : Str → Option Value} {base : Heap}
theorem shaped_nil : SeqAt.shaped (.list []) = true := by decide +kernel
theorem canLay_ints : ∀ (ns : List Int), PyData.canLayAll0 (ns.map PyData.int) = true
  | [] => by simp [PyData.canLayAll0]
  | n :: ns => by simp [PyData.canLayAll0, PyData.canLay0, canLay_ints ns]
theorem depth_ints : ∀ (ns : List Int), PyData.depthAll (ns.map PyData.int) = 0
  | [] => rfl
  | n :: ns => by simp [PyData.depthAll, PyData.depth, depth_ints ns]
theorem shaped_ints (ns : List Int) : SeqAt.shaped (.list (ns.map PyData.int)) = true := by
  unfold SeqAt.shaped
  simp [PyData.canLay0, canLay_ints, PyData.depth, depth_ints]
/-- xs != [], xs a list of ints -/
theorem ev_neNil {σ : L2.St} {H : Hp} {ta : TE} {l : Addr} {cells : List Int} (ha : Ev ta σ H (.ref l)) (h : SqL K H l (cells.map V.int)) :
    ∃ b : Bool, Ev (tOp (rNeD K) ta (tLst tNil)) σ H (.bl b) ∧ (b = true → cells ≠ []) := by
  refine ⟨!(PyData.eqv (.list (cells.map PyData.int)) (.list [])), ev_opL (xs := []) ha (el_lst ea_nil (by decide)) (fun p H1 h1 e => ?_), ?_⟩
  · exact fun H2 e2 Q q => ⟨_, _, .lst (ex_l (e.trans e2) h) (dpAll_ints cells), .lst (sq_of (e2 _ _ h1)) .nil, shaped_ints cells, shaped_nil, q H2 (Ex.refl H2)⟩
  · intro hb hc
    subst hc
    exact absurd hb (by decide +kernel)
end
end K19
namespace K19
open PySem L2 Evl
section
variable {P : Program} {w : World} {K : PySem.W.Frag} {mg : Str → Option Value} {base : Heap}
theorem emod_bd (a b : Int) (h : 0 < b) : 0 ≤ a % b ∧ a % b < b := ⟨Int.emod_nonneg a (by omega), Int.emod_lt_of_pos a h⟩
theorem mul_bd {a b A B : Int} (a0 : 0 ≤ a) (aA : a ≤ A) (b0 : 0 ≤ b) (bB : b ≤ B) : 0 ≤ a * b ∧ a * b ≤ A * B := ⟨Int.mul_nonneg a0 b0, Int.mul_le_mul aA bB b0 (by omega)⟩
/-- the last part of a draw: the mixing -/
theorem ok_draw {f : Addr} {fd : FuncData} (F : Fun K "_law_draw" "_law_draw" sDraw f fd) (T : Glb mg) : FnOk P w K mg base CX0 1 f fd ["_law_pen_here", "_law_top_so"] spDraw := by
  refine F.ok scDraw (fun vs H Q E h => ?_) (fun cdv A outer s H vs Q E hr h => ?_)
  · obtain ⟨p, l, cells, m, many, rfl, _⟩ := h
    rfl
  · obtain ⟨p, l, cells, m, many, rfl, hp, hm, h63, hm0, hm1, k⟩ := h
    refine ⟨_, pss_cons (ps_if (pt_cmpR op_gt (pe_ix ix_list (pv 0) pe_int (fun _ _ => rfl)) pe_int (nomark _)) (pss_cons (ps_set (i := 2) scDraw.nd rfl (.inl rfl) (pe_op op_mod (pe_callTy call_int1 (by rfl) T.int (by decide +kernel) (pa_cons (pe_ix ix_list (pv 0) pe_int (fun _ _ => rfl)) pa_nil)) (pv 1)))
      (pss_cons (ps_asg (pe_op op_fdiv (pe_callTy call_int1 (by rfl) T.int (by decide +kernel) (pa_cons (pe_ix ix_list (pv 0) pe_int (fun _ _ => rfl)) pa_nil)) (pv 1)) (pg_sub (pv 0) pe_int set_list))
      (pss_one (ps_ret (pv 2))))) pss_nil)
      (pss_cons (ps_set (i := 3) scDraw.nd rfl (.inl rfl) (pe_ix ix_list (pv 0) pe_int (fun _ _ => rfl)))
      (pss_cons (ps_asg (pe_op op_add (pv 3) pe_int) (pg_sub (pv 0) pe_int set_list))
      (pss_cons (ps_set (i := 4) scDraw.nd rfl (.inl rfl) (pe_op op_add (pe_op op_mul pe_int (pv 3)) pe_int))
      (pss_cut (ps_if (pt_cmpR (op_neD hr.units) (pe_ix ix_list (pv 0) pe_int (fun _ _ => rfl)) (pe_lst pa_nil) (nomark _)) (pss_one (ps_set (i := 4) scDraw.nd rfl (.inl rfl) (pe_ix ix_list (pe_ix ix_list (pv 0) pe_int (fun _ _ => rfl)) (pe_op op_mod (pe_callTy call_int1 (by rfl) T.int (by decide +kernel) (pa_cons (pv 3) pa_nil)) (pe_callB call_len_seq (by rfl) T.len PySem.boot_len (pa_cons (pe_ix ix_list (pv 0) pe_int (fun _ _ => rfl)) pa_nil))) (fun _ _ => rfl)))) pss_nil)
      (pss_cons (ps_if (PW.pt (pw_and (pt_cmpR op_lt (pv 3) (pe_callB call_len_seq (by rfl) T.len PySem.boot_len (pa_cons (pe_ix ix_list (pv 0) pe_int (fun _ _ => rfl)) pa_nil)) (nomark _)) (pw_and1 (pt_cmpR op_ge (pe_callB call_abs (by rfl) T.abs (by decide +kernel) (pa_cons (pv 4) pa_nil)) (pe_op op_pow pe_int pe_int) (nomark _))))) (pss_cons (ps_set (i := 5) scDraw.nd rfl (.inl rfl) (pe_op op_add (pe_op op_mul pe_int (pe_op op_sub (pe_callB call_abs (by rfl) T.abs (by decide +kernel) (pa_cons (pv 4) pa_nil)) (pe_op op_pow pe_int pe_int))) (pe_callTy call_int1 (by rfl) T.int (by decide +kernel) (pa_cons (pe_cmpR op_lt (pv 4) pe_int (nomark _)) pa_nil))))
      (pss_cons (ps_asg (pe_op op_fdiv (pe_callTy call_int1 (by rfl) T.int (by decide +kernel) (pa_cons (pv 5) pa_nil)) (pv 1)) (pg_sub (pv 0) pe_int set_list))
      (pss_one (ps_ret (pe_op op_mod (pe_callTy call_int1 (by rfl) T.int (by decide +kernel) (pa_cons (pv 5) pa_nil)) (pv 1)))))) pss_nil)
      (pss_cons (ps_set (i := 6) scDraw.nd rfl (.inl rfl) (pe_op op_mod (pe_callTy call_int1 (by rfl) T.int (by decide +kernel) (pa_cons (pe_op op_pow (pe_op op_add (pe_op op_add (pe_op op_mod (pe_callTy call_int1 (by rfl) T.int (by decide +kernel) (pa_cons (pv 4) pa_nil)) pe_int) (pe_op op_mul pe_int (pv 3))) pe_int) pe_int) pa_nil)) pe_int))
      (pss_cons (ps_set (i := 6) scDraw.nd rfl (.inl rfl) (pe_op op_mod (pe_callTy call_int1 (by rfl) T.int (by decide +kernel) (pa_cons (pe_op op_pow (pe_op op_add (pe_op op_add (pe_op op_mul (pv 6) (pe_op op_add (pe_op op_mul pe_int (pv 3)) pe_int)) (pe_op op_mul (pe_op op_mul pe_int (pv 3)) (pv 3))) pe_int) pe_int) pa_nil)) pe_int))
      (pss_one (ps_ret (pe_op op_mod (pe_callTy call_int1 (by rfl) T.int (by decide +kernel) (pa_cons (pe_op op_fdiv (pv 6) pe_int) pa_nil)) (pv 1))))))))))), ?_⟩
    have hpl := hp.ne
    obtain ⟨n, r, h1, h2, hn⟩ := hp
    have many1 : many < 1073741824 := by omega
    refine q_when (et_test (ev_op (ev_op (ev_var rfl) ev_c (rv_ixL (sq_of h1) (atI_nat (j := 2) rfl))) ev_c rv_I0)) (fun hb H1 e1 => ?_) (fun hb H1 e1 => ?_)
    · -- the rest gives a digit
      have r0 : 0 < r := of_decide_eq_true hb
      have g1 := e1 _ _ h1
      refine q_asg (ev_op (ev_cb (ea_cons (ev_op (ev_var rfl) ev_c (rv_ixL (sq_of g1) (atI_nat (j := 2) rfl))) ea_nil) rc_int) (ev_var rfl) (rv_I hm0)) fun H2 e2 => ?_
      have g2 := e2 _ _ g1
      refine q_setL (j := 2) g2 (ev_op (ev_cb (ea_cons (ev_op (ev_var rfl) ev_c (rv_ixL (sq_of g2) (atI_nat (j := 2) rfl))) ea_nil) rc_int) (ev_var rfl) (rv_I ⟨hm0, many1⟩)) (ev_var rfl) ev_c (by show 2 < 3; decide) fun H3 e3 => ?_
      refine s_ret (ev_var rfl) fun H4 e4 => ?_
      have key : ∀ b o, H b = some o → b ≠ p → H4 b = some o := fun b o hb hbp => e4 b o (by rw [upd_ne hbp]; exact e3 _ _ (e2 _ _ (e1 _ _ hb)))
      exact k _ H4 (emod_bd _ _ hm0).1 (emod_bd _ _ hm0).2 ⟨n, _, e4 _ _ upd_same, key _ _ h2 hpl, by omega⟩ key
    · -- at = pen[1]; pen[1] = at + 1
      have g1 := e1 _ _ h1
      refine q_asg (ev_op (ev_var rfl) ev_c (rv_ixL (sq_of g1) (atI_nat (j := 1) rfl))) fun H2 e2 => ?_
      have g2 := e2 _ _ g1
      refine q_setL (j := 1) g2 (ev_op (ev_var rfl) ev_c rv_I0) (ev_var rfl) ev_c (by show 1 < 3; decide) fun H3 e3 => ?_
      have g3 := e3 _ _ g2
      have hl3 : H3 l = some (.lst (cells.map V.int)) := e3 _ _ (e2 _ _ (e1 _ _ h2))
      have kp3 : ∀ b o, H b = some o → b ≠ p → (upd H3 p (.lst ([V.ref l, V.int (n : Int), V.int r].set 1 (V.int ((n : Int) + 1))))) b = some o := fun b o hb hbp => by
        rw [upd_ne hbp]; exact e3 _ _ (e2 _ _ (e1 _ _ hb))
      generalize hH : upd H3 p (.lst ([V.ref l, V.int (n : Int), V.int r].set 1 (V.int ((n : Int) + 1)))) = J at kp3
      have j1 : J p = some (.lst [V.ref l, V.int ((n + 1 : Nat) : Int), V.int r]) := by
        rw [← hH, upd_same]
        rfl
      have j2 : J l = some (.lst (cells.map V.int)) := kp3 _ _ h2 hpl
      have hn0 : (0 : Int) ≤ (n : Int) ∧ (n : Int) ≤ 50000 := ⟨by omega, by omega⟩
      -- cell = 53834 * at + 4342
      refine q_asg (ev_op (ev_op ev_c (ev_var rfl) (rv_I (.inl ⟨by decide, by decide⟩))) ev_c rv_I0) fun H4 e4 => ?_
      have j41 := e4 _ _ j1
      have j42 := e4 _ _ j2
      -- if pen[0] != []: cell = ..
      obtain ⟨bn, evn, hne⟩ := ev_neNil (K := K) (σ := [some (V.ref p), some (V.int many), none, some (V.int (n : Int)), some (V.int (53834 * (n : Int) + 4342)), none, none]) (H := H4) (cells := cells) (l := l)
        (ta := tOp (rIxL K) (tVar 0) (tC (V.int 0))) (ev_op (ev_var rfl) ev_c (rv_ixL (sq_of j41) (atI_nat (j := 0) rfl))) (sq_of j42)
      refine q_cut (M := fun σ' H' => ∃ c : Int, σ' = [some (V.ref p), some (V.int many), none, some (V.int (n : Int)), some (V.int c), none, none] ∧ Ex H4 H') (s_when (et_test evn) (fun hb H5 e5 => ?_) (fun hb H5 e5 => ⟨_, rfl, e5⟩)) ?_
      · have hlen : 0 < cells.length := List.length_pos_iff.mpr (hne hb)
        have hi : 0 ≤ (n : Int) % (cells.length : Int) ∧ (n : Int) % (cells.length : Int) < (cells.length : Int) := emod_bd _ _ (by omega)
        obtain ⟨i, ei⟩ := Int.eq_ofNat_of_zero_le hi.1
        have il : i < cells.length := by have := hi.2; omega
        have lm : ((cells.map V.int).length : Int) = (cells.length : Int) := by rw [List.length_map]
        refine s_asg (v := V.int (cells[i])) (ev_op (y := V.int (i : Int)) (ev_op (ev_var rfl) ev_c (rv_ixL (sq_of (e5 _ _ j41)) (atI_nat (j := 0) rfl)))
          (ev_is (ev_op (ev_cb (ea_cons (ev_var rfl) ea_nil) rc_int) (ev_cb (ea_cons (ev_op (ev_var rfl) ev_c (rv_ixL (sq_of (e5 _ _ j41)) (atI_nat (j := 0) rfl))) ea_nil) (rc_len (sq_of (e5 _ _ j42)))) (rv_I (by rw [lm]; omega))) (by show V.int ((n : Int) % ((cells.map V.int).length : Int)) = _; rw [lm, ei]))
          (rv_ixL (sq_of (e5 _ _ j42)) (atI_nat (by rw [List.getElem?_map, List.getElem?_eq_getElem il]; rfl)))) fun H6 e6 => ⟨_, rfl, e5.trans e6⟩
      rintro σ' H5 ⟨c, rfl, e5⟩
      have k1 := e5 _ _ j41
      have k2 := e5 _ _ j42
      have kp5 : ∀ b o, H b = some o → b ≠ p → H5 b = some o := fun b o hb hbp => e5 _ _ (e4 _ _ (kp3 _ _ hb hbp))
      have lm : ((cells.map V.int).length : Int) = (cells.length : Int) := by rw [List.length_map]
      refine q_when (et_and (et_test (ev_op (ev_var rfl) (ev_cb (ea_cons (ev_op (ev_var rfl) ev_c (rv_ixL (sq_of k1) (atI_nat (j := 0) rfl))) ea_nil) (rc_len (sq_of k2))) rv_I0))
        (fun _ => et_test (ev_op (ev_cb (ea_cons (ev_var rfl) ea_nil) rc_abs) (ev_op ev_c ev_c (rv_I ⟨by decide, by decide, by decide⟩)) rv_I0))) (fun hb H6 e6 => ?_) (fun hb H6 e6 => ?_)
      · -- a great cell
        refine q_asg (ev_op (ev_op ev_c (ev_op (ev_cb (ea_cons (ev_var rfl) ea_nil) rc_abs) (ev_op ev_c ev_c (rv_I ⟨by decide, by decide, by decide⟩)) rv_I0) (rv_I (.inl ⟨by decide, by decide⟩))) (ev_cb (ea_cons (ev_op (ev_var rfl) ev_c rv_I0) ea_nil) rc_intB) rv_I0) fun H7 e7 => ?_
        have k7 := e7 _ _ (e6 _ _ k1)
        refine q_setL (j := 2) k7 (ev_op (ev_cb (ea_cons (ev_var rfl) ea_nil) rc_int) (ev_var rfl) (rv_I ⟨hm0, many1⟩)) (ev_var rfl) ev_c (by show 2 < 3; decide) fun H8 e8 => ?_
        refine s_ret (ev_op (ev_cb (ea_cons (ev_var rfl) ea_nil) rc_int) (ev_var rfl) (rv_I hm0)) fun H9 e9 => ?_
        have key : ∀ b o, H b = some o → b ≠ p → H9 b = some o := fun b o hb hbp => e9 _ _ (by rw [upd_ne hbp]; exact e8 _ _ (e7 _ _ (e6 _ _ (kp5 _ _ hb hbp))))
        exact k _ H9 (emod_bd _ _ hm0).1 (emod_bd _ _ hm0).2 ⟨n + 1, _, e9 _ _ upd_same, key _ _ h2 hpl, by omega⟩ key
      · -- mixed
        have b1 := emod_bd c 2147483497 (by decide)
        refine q_asg (ev_op (ev_cb (ea_cons (ev_op (ev_op (ev_op (ev_op (ev_cb (ea_cons (ev_var rfl) ea_nil) rc_int) ev_c (rv_I (by decide))) (ev_op ev_c (ev_var rfl) (rv_I (.inl ⟨by decide, by decide⟩))) rv_I0) ev_c rv_I0) ev_c
          (rv_I ⟨by decide, by decide, by omega⟩)) ea_nil) rc_int) ev_c (rv_I (by decide))) fun H7 e7 => ?_
        generalize hx : (c % 2147483497 + 53811 * (n : Int) + 4353) ^ (5 : Int).toNat % 2147483629 = x
        have b2 : 0 ≤ x ∧ x < 2147483629 := by rw [← hx]; exact emod_bd _ _ (by decide)
        have b3 := mul_bd b2.1 (by omega : x ≤ 2147483629) (by omega : 0 ≤ 2 * (n : Int) + 155) (by omega : 2 * (n : Int) + 155 ≤ 100155)
        have b4 := mul_bd (by omega : 0 ≤ 40468 * (n : Int)) (by omega : 40468 * (n : Int) ≤ 2023400000) hn0.1 hn0.2
        refine q_asg (ev_op (ev_cb (ea_cons (ev_op (ev_op (ev_op (ev_op (ev_var rfl) (ev_op (ev_op ev_c (ev_var rfl) (rv_I (.inl ⟨by decide, by decide⟩))) ev_c rv_I0) (rv_I (.inl ⟨by omega, by omega⟩)))
            (ev_op (ev_op ev_c (ev_var rfl) (rv_I (.inl ⟨by decide, by decide⟩))) (ev_var rfl) (rv_I (.inl ⟨by omega, by omega⟩))) rv_I0) ev_c rv_I0) ev_c (rv_I ⟨by decide, by decide, by omega⟩)) ea_nil) rc_int) ev_c (rv_I (by decide))) fun H8 e8 => ?_
        refine s_ret (ev_op (ev_cb (ea_cons (ev_op (ev_var rfl) ev_c (rv_I ⟨by decide, by decide⟩)) ea_nil) rc_int) (ev_var rfl) (rv_I hm0)) fun H9 e9 => ?_
        have k9 := e9 _ _ (e8 _ _ (e7 _ _ (e6 _ _ k1)))
        have key : ∀ b o, H b = some o → b ≠ p → H9 b = some o := fun b o hb hbp => e9 _ _ (e8 _ _ (e7 _ _ (e6 _ _ (kp5 _ _ hb hbp))))
        exact k _ H9 (emod_bd _ _ hm0).1 (emod_bd _ _ hm0).2 ⟨n + 1, _, k9, key _ _ h2 hpl, by omega⟩ key
end
end K19
namespace K19
open PySem L2 Evl
section
variable {P : Program} {w : World} {K : PySem.W.Frag} {mg : Str → Option Value} {base : Heap}
/-! ### _law_pen -/
def spPen (K : PySem.W.Frag) : Sp := fun vs H Q _ => ∃ (a : Addr) (ns : List Int), vs = [.ref a] ∧ SqL K H a (ns.map V.int) ∧ ns.length ≤ 63 ∧
  ∀ p l H', H p = none → H l = none → Ex H H' → PenAt H' p l ns 0 → Q (.ref p) H'
theorem scPen : FnScope ["_law_script"] ["_law_script"] (defScope sPen) := ⟨rfl, rfl, rfl, by decide +kernel, rfl, by decide +kernel, by decide +kernel⟩
theorem cut63 (xs : List V) (h : xs.length ≤ 63) : cutV xs none (some 63) = xs := by
  have e1 : HT.sIx xs.length 0 none = 0 := rfl
  have e2 : HT.sIx xs.length xs.length (some 63) = min 63 xs.length := rfl
  unfold cutV
  rw [e1, e2, List.drop_zero, Nat.sub_zero, Nat.min_eq_right h, List.take_length]
theorem ok_pen {f : Addr} {fd : FuncData} (F : Fun K "_law_pen" "_law_pen" sPen f fd) (T : Glb mg) : FnOk P w K mg base CX0 1 f fd ["_law_script"] (spPen K) := by
  refine F.ok scPen (fun vs H Q E h => ?_) (fun cdv A outer s H vs Q E hr h => ?_)
  · obtain ⟨a, ns, rfl, _⟩ := h
    rfl
  · obtain ⟨a, ns, rfl, hS, hl, k⟩ := h
    refine ⟨_, pss_one (ps_ret (pe_lst (pa_cons (pe_callTy call_list_of (by rfl) T.list (by decide +kernel) (pa_cons (pe_slice sl_list (pv 0) po_none (po_some pe_int)) pa_nil)) (pa_cons pe_int (pa_cons pe_int pa_nil))))), ?_⟩
    have ev := el_sl (K := K) (σ := [some (V.ref a)]) (H := H) (tl := tNoPart) (th := tPart (tC (.int 63))) (ev_var (i := 0) rfl) eo_none (eo_some ev_c) hS
    rw [cut63 _ (by rw [List.length_map]; exact hl)] at ev
    refine ev H (Ex.refl H) _ fun q H1 hq e1 h1 => ?_
    refine ⟨q, _, rfl, .inl (sq_of h1), fun l hl1 => ?_⟩
    refine ⟨by show 3 ≤ sizeLine; decide, fun p hp => ?_⟩
    have hp1 : p ≠ l := fun z => by
      rw [z, upd_same] at hp
      cases hp
    have hpn : H1 p = none := by rw [upd_ne hp1] at hp; exact hp
    exact k p l _ (fresh_back e1 hpn) (fresh_back e1 hl1) ((e1.trans (Ex.new hl1)).trans (Ex.new hp)) ⟨0, 0, upd_same, by rw [upd_ne hp1.symm, upd_same], Nat.le_refl _⟩
/-! ### _law_pick -/
def spPick : Sp := fun vs H Q _ => ∃ (p l a : Addr) (cells : List Int) (m : Nat) (xs : List V), vs = [.ref p, .ref a] ∧ PenAt H p l cells m ∧ m ≤ 50000 ∧ cells.length ≤ 63 ∧ H a = some (.lst xs) ∧ a ≠ p ∧ 0 < xs.length ∧ xs.length ≤ 1000000 ∧
  ∀ (i : Nat) x H', xs[i]? = some x → PenAt H' p l cells (m + 1) → Keep p H H' → Q x H'
theorem scPick : FnScope ["_law_pen_here", "_law_some"] ["_law_pen_here", "_law_some"] (defScope sPick) := ⟨rfl, rfl, rfl, by decide +kernel, rfl, by decide +kernel, by decide +kernel⟩
theorem ok_pick {f fD : Addr} {fd fdD : FuncData} (F : Fun K "_law_pick" "_law_pick" sPick f fd) (T : Glb mg) (FD : Fun K "_law_draw" "_law_draw" sDraw fD fdD) (bD : Binds K fdD ["_law_pen_here", "_law_top_so"] []) (gD : mg "_law_draw" = some (.ref fD)) :
    FnOk P w K mg base CX0 2 f fd ["_law_pen_here", "_law_some"] spPick := by
  have GD : FnOk P w K mg base CX0 1 fD fdD ["_law_pen_here", "_law_top_so"] spDraw := ok_draw FD T
  refine F.ok scPick (fun vs H Q E h => ?_) (fun cdv A outer s H vs Q E hr h => ?_)
  · obtain ⟨p, l, a, cells, m, xs, rfl, _⟩ := h
    rfl
  · obtain ⟨p, l, a, cells, m, xs, rfl, hp, hm, h63, ha, hap, hx0, hx1, k⟩ := h
    refine ⟨_, pss_one (ps_ret (pe_ix ix_list (pv 1) (pe_call GD hr (by rfl) gD FD.kp bD .nil pass0 (pa_cons (pv 0) (pa_cons (pe_callB call_len_seq (by rfl) T.len PySem.boot_len (pa_cons (pv 1) pa_nil)) pa_nil))) (fun _ _ => rfl))), ?_⟩
    refine ⟨_, rfl, _, rfl, _, rfl, a, xs, rfl, .inl (sq_of ha), p, l, cells, m, (xs.length : Int), rfl, hp, hm, h63, by omega, by omega, fun d H' d0 d1 hp' kp => ?_⟩
    obtain ⟨i, rfl⟩ := Int.eq_ofNat_of_zero_le d0
    have hi : i < xs.length := by omega
    have ei : xs[i]? = some xs[i] := List.getElem?_eq_getElem hi
    exact ⟨a, xs, (i : Int), xs[i], rfl, rfl, sq_of (kp _ _ ha hap), atI_nat ei, k i _ H' ei hp' kp⟩
end
end K19
namespace L2
open PySem PySem.Spec PyProof.Rows
section
variable {X : Cx} {k : Nat} {f : Addr} {fd : FuncData} {ps ks : List Str} {sp : Sp} {x : Str} {p pos : Pos} {kws : List Keyword} {tk : TA} {g : List Value → List Value → List Value} {gV : List V → List V → List V}
/-- f(k = v, ..), keywords alone -/
theorem pe_callK0 (F : FnOk X.prog X.w X.K X.mg X.base CX0 k f fd ps sp) (hr : Room k X.A) (hg : Gl X x) (hm : X.mg x = some (.ref f)) (hk : PySem.W.keepIn X.K (.ref f) = true) (hb : KBn X.K fd ps 0 ks g gV) (hkw : PK X kws tk)
    (hall : (backToKw pos (keywordEach kws X.env)).all (·.1.isSome) = true := by rfl) (hks : (backToKw pos (keywordEach kws X.env)).filterMap (·.1) = ks := by rfl) (hdb : (x == ("__debug__" : Str)) = false := by decide)
    (hpl : ((backTo pos (starEach [] X.env)).any (·.1) || (backToKw pos (keywordEach kws X.env)).any (·.1.isNone)) = false := by rfl) :
    PE X (.Call (.Name x p) [] kws pos) (tCallN 0 ks.length sp gV E0 tNil tk) := by
  refine ⟨fun pins s σ H Q I h => ?_⟩
  refine wpAny_Call_Name_kw (ld_glob I hg hm ?_ hdb)
  refine PySem.W.callWith_KW0 (h₀ := X.base) I.ok.mod.kin hk hall ?_ hpl
  refine thn (hkw.run pos pins s σ H _ I h) fun ws s2 ⟨zs, H2, I2, rz, l1, l2, q2⟩ => ⟨I2.kIn, ?_⟩
  rw [hks]
  exact run_fnN (us := []) (vs := []) F hr hb pass0 I2 .nil rz rfl l2 q2
/-- how a def without defaults binds keywords alone -/
theorem Fun.kb {K : PySem.W.Frag} {x qual : Str} {st : Stmt} {f : Addr} {fd : FuncData} {ps ks : List Str} (F : Fun K x qual st f fd) (n : Nat) (g : {α : Type} → List α → List α → List α)
    (hrel : ∀ {vs zs : List V} {us ws : List Value}, Vals vs us → Vals zs ws → Vals (g vs zs) (g us ws))
    (h : ∀ (kV doc pm : Value) (an : Option Addr) (cdv ct : Value) (us ws : List Value), us.length = n → ws.length = ks.length → bindArgs (PySem.W.fnOf x qual (defArgs st) (defBody st) (defScope st) .none kV doc pm an cdv ct) ⟨us, ks.zip ws⟩ = pure (ps.zip (g us ws))) :
    KBn K fd ps n ks (fun us ws => g us ws) (fun vs zs => g vs zs) := by
  obtain ⟨oc, od, kV, doc, pm, an, cdv, ct, osl, rfl, lk, hcd⟩ := F.ex
  exact ⟨fun s us ws _ l1 l2 => .of_eq (h kV doc pm an cdv ct us ws l1 l2), fun r1 r2 => hrel r1 r2⟩
end
end L2
namespace K19
open PySem L2 Evl
abbrev sIsInt : Stmt := top 1
abbrev sWithin : Stmt := top 2
structure GlbT (mg : Str → Option Value) : Prop where
  inst : mg "isinstance" = none
  int : mg "int" = none
  bool : mg "bool" = none
  str : mg "str" = none
  len : mg "len" = none
theorem tyx_mono {K : PySem.W.Frag} {H H' : Hp} {x : V} {t : Value} (e : Ex H H') (h : TyX K H x t) : TyX K H' x t := by
  cases h with
  | base b =>
    refine .base ?_
    cases b with
    | non => exact .non
    | bl b => exact .bl b
    | int i => exact .int i
    | str x => exact .str x
    | flt x => exact .flt x
    | lst q => exact .lst (e _ _ q)
    | frz q => exact .frz (e _ _ q)
    | tup q => exact .tup (e _ _ q)
    | dK q => exact .dK (e _ _ q)
    | dT q => exact .dT (e _ _ q)
    | ins q a b c d f => exact .ins (e _ _ q) a b c d f
  | byt b => exact .byt b
  | set q => exact .set (e _ _ q)
  | kList q c => exact .kList q c
  | kTuple q c => exact .kTuple q c
  | kDict q c => exact .kDict q c
  | fTuple q => exact .fTuple (e _ _ q)
  | fDict q => exact .fDict (e _ _ q)
theorem rc_isi {K : PySem.W.Frag} {H : Hp} {x : V} {a b : String} {r : Bool} (h : TyX K H x (.type a)) (hk : kitB a b = some r) : RC (rIsi K) [x, .ty b] H (.bl r) := fun H1 e _ q => ⟨x, .ty b, .type a, .type b, r, rfl, .ty b, tyx_mono e h, kit_ty hk, q H1 (Ex.refl H1)⟩
section
variable {P : Program} {w : World} {K : PySem.W.Frag} {mg : Str → Option Value} {base : Heap}
/-! ### is_integer -/
def spIsInt (K : PySem.W.Frag) : Sp := fun vs H Q _ => ∃ (x : V) (T : String) (a b : Bool), vs = [x] ∧ TyX K H x (.type T) ∧ kitB T "int" = some a ∧ kitB T "bool" = some b ∧ RetV (.bl (a && !b)) H Q
theorem scIsInt : FnScope ["value"] ["value"] (defScope sIsInt) := ⟨rfl, rfl, rfl, by decide +kernel, rfl, by decide +kernel, by decide +kernel⟩
theorem ok_isInt {f : Addr} {fd : FuncData} (F : Fun K "is_integer" "is_integer" sIsInt f fd) (T : GlbT mg) : FnOk P w K mg base CX0 1 f fd ["value"] (spIsInt K) := by
  refine F.ok scIsInt (fun vs H Q E h => ?_) (fun cdv A outer s H vs Q E hr h => ?_)
  · obtain ⟨x, t, a, b, rfl, _⟩ := h
    rfl
  · obtain ⟨x, t, a, b, rfl, ht, ha, hb, k⟩ := h
    refine ⟨_, pss_one (ps_ret (pe_and (pe_callB call_isi (by rfl) T.inst (by decide +kernel) (pa_cons (pv 0) (pa_cons (pe_bltn (v := .ty "int") (by rfl) T.int (by decide +kernel) rfl) pa_nil)))
      (pe_one (pe_not (pe_callB call_isi (by rfl) T.inst (by decide +kernel) (pa_cons (pv 0) (pa_cons (pe_bltn (v := .ty "bool") (by rfl) T.bool (by decide +kernel) rfl) pa_nil))))))), ?_⟩
    exact s_ret (ev_andV (ev_cb (ea_cons (ev_var rfl) (ea_cons ev_c ea_nil)) (rc_isi ht ha)) fun _ => ev_notV (ev_cb (ea_cons (ev_var rfl) (ea_cons ev_c ea_nil)) (rc_isi ht hb))) k
/-! ### is_within -/
def spWithin (K : PySem.W.Frag) : Sp := fun vs H Q _ => (∃ i lo hi : Int, vs = [.int i, .int lo, .int hi] ∧ RetV (.bl (decide (lo ≤ i) && decide (i ≤ hi))) H Q) ∨
  ∃ (x y z : V) (T : String) (a b : Bool), vs = [x, y, z] ∧ TyX K H x (.type T) ∧ kitB T "int" = some a ∧ kitB T "bool" = some b ∧ (a && !b) = false ∧ RetV (.bl false) H Q
theorem scWithin : FnScope ["value", "least", "most"] ["value", "least", "most"] (defScope sWithin) := ⟨rfl, rfl, rfl, by decide +kernel, rfl, by decide +kernel, by decide +kernel⟩
theorem spv_isInt {H : Hp} {x : V} {t : String} {a b : Bool} (ht : TyX K H x (.type t)) (ha : kitB t "int" = some a) (hb : kitB t "bool" = some b) : SpV (spIsInt K) [x] H (.bl (a && !b)) := fun H1 e Q q E => ⟨x, t, a, b, rfl, tyx_mono e ht, ha, hb, q⟩
theorem kit_int_int : kitB "int" "int" = some true := by decide +kernel
theorem kit_int_bool : kitB "int" "bool" = some false := by decide +kernel
theorem ev_chain {σ : L2.St} {H : Hp} {ta tb tc : TE} {i j l : Int} {f g : Int → Int → Bool} (ha : Ev ta σ H (.int i)) (hb : Ev tb σ H (.int j)) (hc : Ev tc σ H (.int l)) :
    Ev (tChain (rI0 fun i j => .bl (f i j)) (rI0 fun i j => .bl (g i j)) ta tb tc) σ H (.bl (f i j && g j l)) := fun H1 e Q q =>
  ha H1 e _ fun H2 e2 => hb H2 (e.trans e2) _ fun H3 e3 => ⟨i, j, rfl, rfl, f i j, rfl, by
    cases h : f i j with
    | true =>
      simp only [h, Bool.true_and] at q
      exact hc H3 ((e.trans e2).trans e3) _ fun H4 e4 => ⟨j, l, rfl, rfl, q H4 ((e2.trans e3).trans e4)⟩
    | false =>
      simp only [h, Bool.false_and] at q
      exact q H3 (e2.trans e3)⟩
theorem ok_within {f fI : Addr} {fd fdI : FuncData} (F : Fun K "is_within" "is_within" sWithin f fd) (T : GlbT mg) (FI : Fun K "is_integer" "is_integer" sIsInt fI fdI) (bI : Binds K fdI ["value"] []) (gI : mg "is_integer" = some (.ref fI)) :
    FnOk P w K mg base CX0 2 f fd ["value", "least", "most"] (spWithin K) := by
  have GI : FnOk P w K mg base CX0 1 fI fdI ["value"] (spIsInt K) := ok_isInt FI T
  refine F.ok scWithin (fun vs H Q E h => ?_) (fun cdv A outer s H vs Q E hr h => ?_)
  · rcases h with ⟨i, lo, hi, rfl, _⟩ | ⟨x, y, z, t, a, b, rfl, _⟩ <;> rfl
  · have body : ∀ {x y z : V}, vs = [x, y, z] → ∀ {r : Bool}, Ev (tAndV (tCall (spIsInt K) [] E0 (tCons (tVar 0) tNil)) (tChain (rI0 fun i j => .bl (decide (i ≤ j))) (rI0 fun i j => .bl (decide (i ≤ j))) (tVar 1) (tVar 0) (tVar 2))) [some x, some y, some z] H (.bl r) → RetV (.bl r) H Q →
        ∃ t, PSs (cxOf CX0 P w K mg base ["value", "least", "most"] "is_within" (defScope sWithin) f cdv A outer s H E).nox (defBody sWithin) t ∧ t { nx := fun _ H' => Q .non H', rt := Q } (start ["value", "least", "most"] vs) H := by
      rintro x y z rfl r ev k
      exact ⟨_, pss_one (ps_ret (pe_and (pe_call GI hr (by rfl) gI FI.kp bI .nil pass0 (pa_cons (pv 0) pa_nil)) (pe_one (pe_chain op_le op_le (pv 1) (pv 0) (pv 2))))), s_ret ev k⟩
    rcases h with ⟨i, lo, hi, rfl, k⟩ | ⟨x, y, z, t, a, b, rfl, ht, ha, hb, hn, k⟩
    · refine body rfl (ev_andV (a := true) (ev_call (z := .bl true) (ea_cons (ev_var rfl) ea_nil) (spv_isInt (.base (.int i)) kit_int_int kit_int_bool)) fun _ => ev_chain (ev_var rfl) (ev_var rfl) (ev_var rfl)) k
    · refine body rfl (r := false) (ev_andV (a := false) (b := false) (ev_call (ea_cons (ev_var rfl) ea_nil) (by have q := spv_isInt ht ha hb; rw [hn] at q; exact q)) fun z => absurd z (by decide)) k
end
end K19
namespace L2
open PySem PySem.Spec PyProof.Rows
section
variable {X : Cx}
def tNo : TS := fun _ _ _ => False
theorem ps_no {st : Stmt} : PS X st tNo := ⟨fun _ _ _ _ _ _ h => h.elim⟩
end
theorem PI.or {X : Cx} {tg e : Expr} {w1 w2 : TI} (h1 : PI X tg e w1) (h2 : PI X tg e w2) : PI X tg e (fun σ H R => w1 σ H R ∨ w2 σ H R) := ⟨fun pins s σ H R I h => h.elim (h1.run pins s σ H R I) (h2.run pins s σ H R I)⟩
end L2
namespace K19
open PySem L2 Evl Gr
def Sq (K : PySem.W.Frag) (H : Hp) (a : Addr) (xs : List V) : Prop := SqL K H a xs ∨ SqT K H a xs
theorem Sq.mono {K : PySem.W.Frag} {H H' : Hp} {a : Addr} {xs : List V} (e : Ex H H') (h : Sq K H a xs) : Sq K H' a xs := h.elim (fun h => .inl (ex_l e h)) fun h => .inr (ex_t e h)
def vI (g : List Int) : List V := g.map V.int
theorem vI_len {g : List Int} : (vI g).length = g.length := List.length_map _
theorem vI_get {g : List Int} {i : Nat} (h : i < g.length) : (vI g)[i]? = some (V.int (at' g i)) := by
  unfold vI at'
  rw [List.getElem?_map, List.getD_eq_getElem?_getD, List.getElem?_eq_getElem h]
  rfl
theorem rv_ix {K : PySem.W.Frag} {H : Hp} {p : Addr} {xs : List V} {i : Int} {v : V} (h : Sq K H p xs) (ha : atI xs i = some v) : RV (rIx K) (.ref p) (.int i) H v := fun H1 e Q q => by
  rcases h with h | h
  · exact .inl ⟨p, xs, i, v, rfl, rfl, ex_l e h, ha, q H1 (Ex.refl H1)⟩
  · exact .inr (.inl ⟨p, xs, i, v, rfl, rfl, ex_t e h, ha, q H1 (Ex.refl H1)⟩)
theorem rc_lenQ {K : PySem.W.Frag} {p : Addr} {xs : List V} {H : Hp} (h : Sq K H p xs) : RC (fun xs H Q => ∃ p ys, xs = [V.ref p] ∧ (SqL K H p ys ∨ SqT K H p ys) ∧ Q (.int ys.length) H) [.ref p] H (.int (xs.length : Int)) := fun H1 e _ q => ⟨p, xs, rfl, h.mono e, q H1 (Ex.refl H1)⟩
theorem st_asI {K : PySem.W.Frag} {H : Hp} {a : Addr} {g : List Int} (h : H a = some (.lst (vI g))) : Sq K H a (vI g) := .inl (sq_of h)
theorem atI_vI {g : List Int} {i : Nat} (h : i < g.length) : atI (vI g) (i : Int) = some (V.int (at' g i)) := atI_nat (vI_get h)
theorem atI_vlast {g : List Int} (h : 0 < g.length) : atI (vI g) (-1) = some (V.int (at' g (g.length - 1))) := by
  have e : ixN (vI g).length (-1) = some (g.length - 1) := by
    unfold ixN
    rw [vI_len, if_neg (by decide), if_pos (by omega)]
    congr 1
    omega
  unfold atI
  rw [e]
  exact vI_get (by omega)
theorem vI_app {g : List Int} {x : Int} : vI g ++ [V.int x] = vI (g ++ [x]) := by unfold vI; rw [List.map_append]; rfl
theorem vint_inj {x y : Int} : decide (V.int x = V.int y) = decide (x = y) := by
  by_cases h : x = y
  · rw [decide_eq_true h, decide_eq_true (congrArg V.int h)]
  · rw [decide_eq_false h, decide_eq_false fun z => h (V.int.inj z)]
structure GlbS (mg : Str → Option Value) : Prop where
  len : mg "len" = none
  range : mg "range" = none
  tuple : mg "tuple" = none
  list : mg "list" = none
def EvTu (K : PySem.W.Frag) (te : TE) (σ : L2.St) (H : Hp) (xs : List V) : Prop := ∀ H1, Ex H H1 → ∀ Q : VK, (∀ p H2, Ex H1 H2 → SqT K H2 p xs → Q (.ref p) H2) → te σ H1 Q
def rSlQ (K : PySem.W.Frag) : V → Option Int → Option Int → Hp → VK → Prop := fun x lo hi H Q => rSlL K x lo hi H Q ∨ rSlA K x lo hi H Q
theorem sl_seq {X : Cx} : SlR X (rSlQ X.K) := sl_list.or sl_tupA
section
variable {K : PySem.W.Frag} {σ : L2.St} {H : Hp} {te ta tb : TE} {tl th : TO} {a : Addr} {xs ys : List V} {lo hi : Option Int}
theorem cutV_all {n : Nat} (h1 : HT.sIx xs.length 0 lo = 0) (h2 : HT.sIx xs.length xs.length hi = xs.length) : cutV xs lo hi = xs := by
  unfold cutV
  rw [h1, h2, List.drop_zero, Nat.sub_zero, List.take_length]
theorem etu_cut (h : Ev te σ H (.ref a)) (h1 : EvO tl σ H lo) (h2 : EvO th σ H hi) (hs : SqT K H a xs) : EvTu K (tSl (rSlA K) te tl th) σ H (cutV xs lo hi) := fun H1 e Q q =>
  h H1 e _ fun H2 e2 => h1 H2 (e.trans e2) _ fun H3 e3 => h2 H3 ((e.trans e2).trans e3) _ fun H4 e4 =>
    ⟨a, xs, rfl, ex_t (((e.trans e2).trans e3).trans e4) hs, fun z => q a H4 ((e2.trans e3).trans e4) (by rw [cutV_all (n := 0) z.1 z.2]; exact ex_t (((e.trans e2).trans e3).trans e4) hs),
      fun _ p hp => q p _ (((e2.trans e3).trans e4).trans (Ex.new hp)) (st_of upd_same)⟩
theorem etu_cat (h1 : EvTu K ta σ H xs) (h2 : EvTu K tb σ H ys) (hz : xs.length + ys.length ≤ 100000) : EvTu K (tOp (rCatA K) ta tb) σ H (xs ++ ys) := fun H1 e Q q =>
  h1 H1 e _ fun p H2 e2 hp => h2 H2 (e.trans e2) _ fun r H3 e3 hr =>
    ⟨p, r, xs, ys, rfl, rfl, ex_t e3 hp, hr, sz_of hz, fun z => q r H3 (e2.trans e3) (by rw [z]; exact hr), fun _ z => q p H3 (e2.trans e3) (by rw [z, List.append_nil]; exact ex_t e3 hp),
      fun _ _ b hb => q b _ ((e2.trans e3).trans (Ex.new hb)) (st_of upd_same)⟩
theorem etu_of (h : Ev te σ H (.ref a)) (h1 : EvO tl σ H lo) (h2 : EvO th σ H hi) (hs : Sq K H a xs) : EvTu K (tThen (tSl (rSlQ K) te tl th) (kTup K)) σ H (cutV xs lo hi) := fun H1 e Q q =>
  h H1 e _ fun H2 e2 => h1 H2 (e.trans e2) _ fun H3 e3 => h2 H3 ((e.trans e2).trans e3) _ fun H4 e4 => by
    have E := ((e.trans e2).trans e3).trans e4
    have E1 := (e2.trans e3).trans e4
    rcases hs.mono E with z | z
    · exact .inl ⟨a, xs, rfl, z, fun p hp => .inl ⟨p, _, rfl, sq_of upd_same, fun r hr => q r _ ((E1.trans (Ex.new hp)).trans (Ex.new hr)) (st_of upd_same)⟩⟩
    · exact .inr ⟨a, xs, rfl, z, fun c => .inr ⟨a, _, rfl, z, q a H4 E1 (by rw [cutV_all (n := 0) c.1 c.2]; exact z)⟩, fun _ p hp => .inr ⟨p, _, rfl, st_of upd_same, q p _ (E1.trans (Ex.new hp)) (st_of upd_same)⟩⟩
theorem q_asgT {i : Nat} {tz : TS} {D : Ends} (h : EvTu K te σ H xs) (k : ∀ p H1, Ex H H1 → SqT K H1 p xs → tz D (σ.set i (some (.ref p))) H1) : tSeq (tAsg te (gName i)) tz D σ H := h H (Ex.refl H) _ fun p H1 e s => k p H1 e s
end
theorem cut_take {g : List Int} {n : Nat} (h : n ≤ g.length) : cutV (vI g) none (some (n : Int)) = vI (g.take n) := by
  unfold cutV vI
  rw [show HT.sIx (g.map V.int).length 0 none = 0 from rfl, HT.sIx_nat, List.drop_zero, Nat.sub_zero, List.length_map, Nat.min_eq_left h, List.map_take]
theorem cut_drop {g : List Int} {n : Nat} (h : n ≤ g.length) : cutV (vI g) (some (n : Int)) none = vI (g.drop n) := by
  unfold cutV vI
  rw [HT.sIx_none, HT.sIx_nat, List.length_map, Nat.min_eq_left h, List.take_of_length_le (by rw [List.length_drop, List.length_map]; exact Nat.le_refl _), List.map_drop]
theorem ev_fld {K : PySem.W.Frag} {σ : L2.St} {H : Hp} {ta : TE} {o C dx : Addr} {fs : List (Str × V)} {v : V} {f : Str} (ha : Ev ta σ H (.ref o)) (ho : H o = some (.ins C dx fs)) (c : Cls K C) (n : NoAttr K C f) (hf : fs.lookup f = some v) :
    Ev (tFld K ta f) σ H v := fun H1 e Q q => ha H1 e _ fun H2 e2 => ⟨o, C, dx, fs, v, rfl, e2 _ _ (e _ _ ho), c, n, hf, q H2 e2⟩
section
variable {K : PySem.W.Frag} {σ : L2.St} {H H' : Hp} {te ta tb tl : TE} {t : TT} {xs : List V} {p l : Addr} {cells : List Int} {m : Nat} {i : Nat} {D : Ends}
theorem el_ofT (h : EvTu K te σ H xs) : EvL (tCB (rListS K) (tCons te tNil)) σ H xs := fun H1 e Q q =>
  h H1 e _ fun p H2 e2 hp => ⟨p, xs, rfl, .inr hp, fun l hl => q l _ (fresh_back e2 hl) (e2.trans (Ex.new hl)) upd_same⟩
theorem el_lcR2 {ta : TA} {j : Nat} {vs : List Nat} {lo n : Int} (f : Nat → Bool) (v : Nat → V) (h : EvA ta σ H [.int lo, .int n]) (hn : 0 ≤ lo ∧ lo ≤ n ∧ n ≤ 40000) (hw : ∀ x, wipe ((wipe σ vs).set j (some x)) vs = wipe σ vs)
    (ht : ∀ (i : Nat) H1, Ex H H1 → lo + (i : Int) < n → EvT t ((wipe σ vs).set j (some (.int (lo + (i : Int))))) H1 (f i)) (he : ∀ (i : Nat) H1, Ex H H1 → lo + (i : Int) < n → f i = true → Ev te ((wipe σ vs).set j (some (.int (lo + (i : Int))))) H1 (v i)) :
    EvL (tLc (iRng2 ta) (gName j) t te vs) σ H (given (n - lo).toNat f v) := fun H0 e Q q => h H0 e _ fun H1 e1 => ⟨lo, n, rfl, ⟨by omega, by omega, by omega, by omega⟩, fun Dl hD =>
  lc_range (lo := lo) (n := (n - lo).toNat) (Cw H1 f v Dl) ⟨hD, Ex.new hD, upd_same⟩ (fun i H' hi p =>
    ⟨hw _, cw_turn p (by omega) (ht i H1 (e.trans e1) (by omega)) (fun hf => he i H1 (e.trans e1) (by omega) hf)⟩) (fun H' p => q Dl H' (fresh_back e1 p.1) (e1.trans p.2.1) p.2.2)⟩
theorem given_all {n : Nat} {v : Nat → V} : given n (fun _ => true) v = (List.range n).map v := by
  unfold given
  rw [List.filter_eq_self.mpr fun _ _ => rfl]
theorem et_none : EvT (fun σ H Q => Q true H) σ H true := fun H1 _ _ q => q H1 (Ex.refl H1)
def iQ (K : PySem.W.Frag) (tl : TE) : TI := fun σ H R => iList K tl σ H R ∨ iTup K tl σ H R
theorem pi_seq {X : Cx} {tg e : Expr} {tl : TE} (h : PE X e tl) : PI X tg e (iQ X.K tl) := (pi_list h).or (pi_tup h)
theorem el_lcQ {a : Addr} {xs : List V} {tl : TE} {j : Nat} {vs : List Nat} (v : Nat → V) (h : Ev tl σ H (.ref a)) (hx : Sq K H a xs) (hz : xs.length ≤ 40000) (hw : ∀ x, wipe ((wipe σ vs).set j (some x)) vs = wipe σ vs)
    (he : ∀ (i : Nat) (x : V) H1, Ex H H1 → xs[i]? = some x → Ev te ((wipe σ vs).set j (some x)) H1 (v i)) : EvL (tLc (iQ K tl) (gName j) tYes te vs) σ H ((List.range xs.length).map v) := fun H0 e Q q => by
  rcases hx with hx | hx
  · exact .inl (h H0 e _ fun H1 e1 => ⟨a, rfl, ⟨xs, ex_l (e.trans e1) hx⟩, fun Dl hD => lc_it (n := xs.length) (walk_list (xs := xs)) (Cw H1 (fun _ => true) v Dl) ⟨hD, Ex.new hD, upd_same⟩ (fun _ H' _ p => ex_l ((e.trans e1).trans p.2.1) hx)
      (fun k x H' H'' hk p y => by
        obtain ⟨rfl, hx'⟩ := y
        exact ⟨hw _, cw_turn p (by omega) et_none (fun _ => he k x H1 (e.trans e1) hx')⟩)
      (fun H' p => q Dl H' (fresh_back e1 p.1) (e1.trans p.2.1) (by rw [← given_all]; exact p.2.2))⟩)
  · exact .inr (h H0 e _ fun H1 e1 => ⟨a, rfl, ⟨xs, ex_t (e.trans e1) hx⟩, fun Dl hD => lc_it (n := xs.length) (walk_tup (xs := xs)) (Cw H1 (fun _ => true) v Dl) ⟨hD, Ex.new hD, upd_same⟩ (fun _ H' _ p => ex_t ((e.trans e1).trans p.2.1) hx)
      (fun k x H' H'' hk p y => by
        obtain ⟨rfl, hx'⟩ := y
        exact ⟨hw _, cw_turn p (by omega) et_none (fun _ => he k x H1 (e.trans e1) hx')⟩)
      (fun H' p => q Dl H' (fresh_back e1 p.1) (e1.trans p.2.1) (by rw [← given_all]; exact p.2.2))⟩)
theorem sq_ty {a : Addr} {xs : List V} (h : Sq K H a xs) : ∃ T : String, TyX K H (.ref a) (.type T) ∧ (T = "list" ∨ T = "tuple") := by
  rcases h with (h | h) | (h | h)
  · rcases h with h | ⟨o, h⟩
    · exact ⟨"list", .base (.lst h), .inl rfl⟩
    · exact ⟨"list", .base (.frz h), .inl rfl⟩
  · obtain ⟨o, its, n, lk, hc, _⟩ := h
    exact ⟨"list", .kList lk hc, .inl rfl⟩
  · rcases h with h | ⟨o, h⟩
    · exact ⟨"tuple", .base (.tup h), .inr rfl⟩
    · exact ⟨"tuple", .fTuple h, .inr rfl⟩
  · obtain ⟨o, its, n, lk, hc, _⟩ := h
    exact ⟨"tuple", .kTuple lk hc, .inr rfl⟩
theorem sqT_upd {K : PySem.W.Frag} {H : Hp} {o p C dx : Addr} {fs : List (Str × V)} {u : HO} {xs : List V} (h : SqT K H p xs) (ho : H o = some (.ins C dx fs)) : SqT K (upd H o u) p xs := by
  rcases h with (h | ⟨o', h⟩) | h
  · exact .inl (.inl (by rw [upd_ne (fun z => by rw [z, ho] at h; cases h)]; exact h))
  · exact .inl (.inr ⟨o', by rw [upd_ne (fun z => by rw [z, ho] at h; cases h)]; exact h⟩)
  · exact .inr h
theorem eqv_ints : ∀ xs ys : List Int, PyData.eqvAll (xs.map PyData.int) (ys.map PyData.int) = decide (xs = ys)
  | [], [] => by simp [PyData.eqvAll]
  | [], y :: ys => by simp [PyData.eqvAll]
  | x :: xs, [] => by simp [PyData.eqvAll]
  | x :: xs, y :: ys => by
    have ih := eqv_ints xs ys
    simp only [List.map_cons, PyData.eqvAll, PyData.eqv, ih]
    by_cases h : x = y <;> by_cases h2 : xs = ys <;> simp [h, h2]
theorem shaped_tup (ns : List Int) : SeqAt.shaped (.tuple (ns.map PyData.int)) = true := by
  unfold SeqAt.shaped
  simp [PyData.canLay0, canLay_ints, PyData.depth, depth_ints]
theorem ev_eqT {p q : Addr} {xs ys : List Int} (ha : Ev ta σ H (.ref p)) (hb : Ev tb σ H (.ref q)) (hp : SqT K H p (vI xs)) (hq : SqT K H q (vI ys)) : Ev (tOp (rEqD K) ta tb) σ H (.bl (decide (xs = ys))) :=
  ev_op ha hb fun H1 e Q q' => ⟨.tuple (xs.map PyData.int), .tuple (ys.map PyData.int), .tup (ex_t e hp) (dpAll_ints xs), .tup (ex_t e hq) (dpAll_ints ys), shaped_tup xs, shaped_tup ys, by
    have e2 : PyData.eqv (.tuple (xs.map PyData.int)) (.tuple (ys.map PyData.int)) = decide (xs = ys) := by
      rw [← eqv_ints]
      simp [PyData.eqv]
    rw [e2]
    exact q' H1 (Ex.refl H1)⟩
def EvW (p l : Addr) (cells : List Int) (n : Nat) (te : TE) (σ : L2.St) (H : Hp) (R : V → Prop) : Prop := ∀ m H1, Keep p H H1 → PenAt H1 p l cells m → m + n ≤ 50000 → ∀ Q : VK, (∀ v H2, R v → PenAt H2 p l cells (m + n) → Keep p H1 H2 → Q v H2) → te σ H1 Q
theorem w_draw {i : Nat} {tb : TE} {many : Int} (hi : σ[i]? = some (some (.ref p))) (hb : ∀ H1, Keep p H H1 → Ev tb σ H1 (.int many)) (h0 : 0 < many) (h1 : many ≤ 1000000000) (h63 : cells.length ≤ 63) :
    EvW p l cells 1 (tCall spDraw [] E0 (tCons (tVar i) (tCons tb tNil))) σ H (fun v => ∃ d : Nat, v = .int (d : Int) ∧ (d : Int) < many) := fun m H1 kp hP hm Q q =>
  ⟨_, hi, hb H1 kp H1 (Ex.refl H1) _ fun H2 e2 => ⟨p, l, cells, m, many, rfl, hP.mono e2 (Nat.le_refl m), by omega, h63, h0, h1, fun d H3 d0 d1 hP3 k3 => by
    obtain ⟨n, rfl⟩ := Int.eq_ofNat_of_zero_le d0
    exact q _ H3 ⟨n, rfl, d1⟩ hP3 ((Keep.of_ex e2).trans k3)⟩⟩
theorem PenAt.upd' {H : Hp} {p l a : Addr} {cells : List Int} {m : Nat} {o : HO} (h : PenAt H p l cells m) (h1 : a ≠ p) (h2 : a ≠ l) : PenAt (upd H a o) p l cells m := by
  obtain ⟨k, r, q1, q2, q3⟩ := h
  exact ⟨k, r, by rw [upd_ne h1.symm]; exact q1, by rw [upd_ne h2.symm]; exact q2, q3⟩
theorem PenAt.le {H : Hp} {p l : Addr} {cells : List Int} {m n : Nat} (h : PenAt H p l cells m) (hm : m ≤ n) : PenAt H p l cells n := h.mono (Ex.refl H) hm
theorem Keep.mut {p a : Addr} {H H' : Hp} {o : HO} (h : Keep p H H') (ha : H a = none) : Keep p H (L2.upd H' a o) := fun b u hb hn => by
  have : b ≠ a := fun z => by rw [z, ha] at hb; cases hb
  rw [upd_ne this]
  exact h b u hb hn
theorem q_asgR {σ : L2.St} {H : Hp} {te : TE} {i : Nat} {tz : TS} {D : Ends} (h : te σ H fun x H1 => tz D (σ.set i (some x)) H1) : tSeq (tAsg te (gName i)) tz D σ H := h
theorem q_call {σ : L2.St} {H : Hp} {sp : Sp} {dvs vs : List V} {E : XK} {ta : TA} {i : Nat} {tz : TS} {D : Ends} (h : EvA ta σ H vs) (k : ∀ H1, Ex H H1 → sp (vs ++ dvs) H1 (fun v H2 => tz D (σ.set i (some v)) H2) E) :
    tSeq (tAsg (tCall sp dvs E ta) (gName i)) tz D σ H := h H (Ex.refl H) _ k
theorem lst_i {t : TA} {Q : VK} {σ : L2.St} {H : Hp} (h : t σ H fun xs H1 => xs.length ≤ sizeLine ∧ ∀ l, H1 l = none → Q (.ref l) (upd H1 l (.lst xs))) : tLst t σ H Q := h
theorem cons_i {te : TE} {tr : TA} {σ : L2.St} {H : Hp} {Q : List V → Hp → Prop} (h : te σ H fun x H1 => tr σ H1 fun xs H2 => Q (x :: xs) H2) : tCons te tr σ H Q := h
theorem op_i {r : R2} {ta tb : TE} {σ : L2.St} {H : Hp} {Q : VK} (h : ta σ H fun x H1 => tb σ H1 fun y H2 => r x y H2 Q) : tOp r ta tb σ H Q := h
theorem fnR0 {P : Program} {w : World} {K : PySem.W.Frag} {mg : Str → Option Value} {base : Heap} {CX : CXT} {k : Nat} {f : Addr} {fd : FuncData} {ps : List Str} {sp : Sp} (F : FnOk P w K mg base CX k f fd ps sp) (b : Binds K fd ps []) : FnR P w K mg base CX k f sp :=
  (F.raw b .nil).imp fun vs H Q E h => by rw [List.append_nil]; exact h
theorem c_i {x : V} {Q : VK} (h : Q x H) : tC x σ H Q := h
theorem q_par {ta : TA} {i j : Nat} {tz : TS} {D : Ends} (h : ta σ H fun vs H1 => ∃ u v, vs = [u, v] ∧ tz D ((σ.set i (some u)).set j (some v)) H1) : tSeq (tPar i j ta) tz D σ H := h
theorem etu_tuple {K : PySem.W.Frag} {te : TE} {xs : List V} (h : EvL te σ H xs) : EvTu K (tThen te (kTup K)) σ H xs := fun H1 e Q q =>
  h H1 e _ fun p H2 _ e2 h2 => .inl ⟨p, xs, rfl, sq_of h2, fun r hr => q r _ (e2.trans (Ex.new hr)) (st_of upd_same)⟩
def Gfn (P : Program) (w : World) (K : PySem.W.Frag) (mg : Str → Option Value) (base : Heap) (k : Nat) (name : Str) (ps : List Str) (sp : Sp) : Prop :=
  ∃ f fd, FnOk P w K mg base CX0 k f fd ps sp ∧ PySem.W.keepIn K (.ref f) = true ∧ Binds K fd ps [] ∧ mg name = some (.ref f)
theorem sqt_keep {q : Addr} {xs : List V} (hP : PenAt H p l cells m) (kp : Keep p H H') (h : SqT K H q xs) : SqT K H' q xs := by
  obtain ⟨_, _, hp, _⟩ := hP
  rcases h with (h | ⟨o, h⟩) | h
  · exact .inl (.inl (kp _ _ h fun z => by rw [z, hp] at h; cases h))
  · exact .inl (.inr ⟨o, kp _ _ h fun z => by rw [z, hp] at h; cases h⟩)
  · exact .inr h
theorem sql_keep {q : Addr} {xs : List Int} (hP : PenAt H p l cells m) (kp : Keep p H H') (h : SqL K H q (vI xs)) : SqL K H' q (vI xs) := by
  obtain ⟨_, _, hp, _⟩ := hP
  have no : ∀ {k r : Int}, ¬ [V.ref l, V.int k, V.int r] = vI xs := fun e => by
    cases xs with
    | nil => cases e
    | cons x xs => cases e
  rcases h with (h | ⟨o, h⟩) | h
  · exact .inl (.inl (kp _ _ h fun z => by rw [z, hp] at h; exact no (HO.lst.inj (Option.some.inj h))))
  · exact .inl (.inr ⟨o, kp _ _ h fun z => by rw [z, hp] at h; cases h⟩)
  · exact .inr h
theorem yes_i {σ : L2.St} {H : Hp} {A B : Hp → Prop} (h : A H) : tYes σ H (fun b H3 => if b = true then A H3 else B H3) := iteT (A := A H) (B := B H) h
theorem given_none {n : Nat} {v : Nat → V} : given n (fun _ => false) v = vI [] := by
  unfold given
  have f : ∀ l : List Nat, l.filter (fun _ => false) = [] := fun l => by induction l with | nil => rfl | cons a l ih => exact ih
  rw [f]
  rfl
theorem el_noneN {t : TT} {j : Nat} {xs : List V} (hl : EvL tl σ H xs) (h4 : xs.length ≤ 40000) (hw : ∀ x, wipe ((wipe σ [j]).set j (some x)) [j] = wipe σ [j])
    (ht : ∀ (i : Nat) (x : V) H1, Ex H H1 → xs[i]? = some x → EvT t ((wipe σ [j]).set j (some x)) H1 false) : EvL (tLc (iList K tl) (gName j) t (tVar j) [j]) σ H (vI []) := by
  have c := el_lcNL (K := K) (σ := σ) (H := H) (t := t) (te := tVar j) (j := j) (vs := [j]) (fun _ => false) (fun _ => V.non) hl h4 hw ht (fun i x H1 e hi hf => by cases hf)
  rw [given_none] at c
  exact c
theorem el_nil : EvL (tLst tNil) σ H (vI []) := el_lst ea_nil (by decide)
theorem eqv_lists (xs ys : List Int) : PyData.eqv (.list (xs.map PyData.int)) (.list (ys.map PyData.int)) = decide (xs = ys) := by
  have := eqv_ints xs ys
  simpa [PyData.eqv] using this
theorem ev_eqL {xs ys : List Int} (ha : EvL ta σ H (vI xs)) (hb : EvL tb σ H (vI ys)) : Ev (tOp (rEqD K) ta tb) σ H (.bl (decide (xs = ys))) := fun H1 e Q q =>
  ha H1 e _ fun p H2 _ e2 hp => hb H2 (e.trans e2) _ fun r H3 _ e3 hr => ⟨.list (xs.map PyData.int), .list (ys.map PyData.int), .lst (sq_of (e3 _ _ hp)) (dpAll_ints xs), .lst (sq_of hr) (dpAll_ints ys), shaped_ints xs, shaped_ints ys, by rw [eqv_lists]; exact q H3 (e2.trans e3)⟩
theorem eqv_tups (xs ys : List Int) : PyData.eqv (.tuple (xs.map PyData.int)) (.tuple (ys.map PyData.int)) = decide (xs = ys) := by
  have := eqv_ints xs ys
  simpa [PyData.eqv] using this
theorem ev_neTu {xs ys : List Int} (ha : EvTu K ta σ H (vI xs)) (hb : EvTu K tb σ H (vI ys)) : Ev (tOp (rNeD K) ta tb) σ H (.bl (!decide (xs = ys))) := fun H1 e Q q =>
  ha H1 e _ fun p H2 e2 hp => hb H2 (e.trans e2) _ fun r H3 e3 hr => ⟨.tuple (xs.map PyData.int), .tuple (ys.map PyData.int), .tup (ex_t e3 hp) (dpAll_ints xs), .tup hr (dpAll_ints ys), shaped_tup xs, shaped_tup ys, by rw [eqv_tups]; exact q H3 (e2.trans e3)⟩
theorem ev_eqTuG {xs ys : List Int} (ha : EvTu K ta σ H (vI xs)) (hb : EvTu K tb σ H (vI ys)) : Ev (tOp (rEqD K) ta tb) σ H (.bl (decide (xs = ys))) := fun H1 e Q q =>
  ha H1 e _ fun p H2 e2 hp => hb H2 (e.trans e2) _ fun r H3 e3 hr => ⟨.tuple (xs.map PyData.int), .tuple (ys.map PyData.int), .tup (ex_t e3 hp) (dpAll_ints xs), .tup hr (dpAll_ints ys), shaped_tup xs, shaped_tup ys, by rw [eqv_tups]; exact q H3 (e2.trans e3)⟩
theorem ev_lenL {p : Addr} {g : List Int} (h : Ev ta σ H (.ref p)) (hs : SqL K H p (vI g)) : Ev (tCB (fun xs H Q => ∃ p ys, xs = [V.ref p] ∧ (SqL K H p ys ∨ SqT K H p ys) ∧ Q (.int ys.length) H) (tCons ta tNil)) σ H (.int (g.length : Int)) := ev_is (ev_cb (ea_cons h ea_nil) (rc_lenQ (.inl hs))) (by rw [vI_len])
theorem el_listL {p : Addr} {xs : List V} (h : Ev te σ H (.ref p)) (hs : SqL K H p xs) : EvL (tCB (rListS K) (tCons te tNil)) σ H xs := fun H1 e Q q =>
  h H1 e _ fun H2 e2 => ⟨p, xs, rfl, .inl (ex_l (e.trans e2) hs), fun l hl => q l _ (fresh_back e2 hl) (e2.trans (Ex.new hl)) upd_same⟩
theorem etu_tupleP {p : Addr} {xs : List V} (h : Ev te σ H (.ref p)) (hs : SqL K H p xs) : EvTu K (tThen te (kTup K)) σ H xs := fun H1 e Q q =>
  h H1 e _ fun H2 e2 => .inl ⟨p, xs, rfl, ex_l (e.trans e2) hs, fun r hr => q r _ (e2.trans (Ex.new hr)) (st_of upd_same)⟩
theorem el_catN {xs ys : List Int} (ha : EvL ta σ H (vI xs)) (hb : EvL tb σ H (vI ys)) (hz : xs.length + ys.length ≤ 100000) : EvL (tOp rCat ta tb) σ H (vI (xs ++ ys)) := fun H1 e Q k =>
  ha H1 e _ fun p H2 _ e2 hp => hb H2 (e.trans e2) _ fun r H3 _ e3 hr => ⟨p, r, vI xs, vI ys, rfl, rfl, e3 _ _ hp, hr, by rw [vI_len, vI_len]; exact sz_of hz, fun a ha => k a _ (fresh_back (e2.trans e3) ha) ((e2.trans e3).trans (Ex.new ha)) (by rw [upd_same]; unfold vI; rw [List.map_append])⟩
theorem ev_eqLP {p : Addr} {xs ys : List Int} (ha : EvL ta σ H (vI xs)) (hb : Ev tb σ H (.ref p)) (hp : SqL K H p (vI ys)) : Ev (tOp (rEqD K) ta tb) σ H (.bl (decide (xs = ys))) := fun H1 e Q q =>
  ha H1 e _ fun r H2 _ e2 hr => hb H2 (e.trans e2) _ fun H3 e3 => ⟨.list (xs.map PyData.int), .list (ys.map PyData.int), .lst (sq_of (e3 _ _ hr)) (dpAll_ints xs), .lst (ex_l (e.trans (e2.trans e3)) hp) (dpAll_ints ys), shaped_ints xs, shaped_ints ys, by rw [eqv_lists]; exact q H3 (e2.trans e3)⟩
theorem lst_keep {p l q : Addr} {cells : List Int} {m : Nat} {H' : Hp} {xs : List Int} (hP : PenAt H p l cells m) (kp : Keep p H H') (h : H q = some (.lst (vI xs))) : H' q = some (.lst (vI xs)) := by
  obtain ⟨_, _, hp, _⟩ := hP
  have no : ∀ {k r : Int}, ¬ [V.ref l, V.int k, V.int r] = vI xs := fun {k r} e => by
    cases xs with
    | nil => cases e
    | cons x xs => cases e
  exact kp _ _ h fun z => by rw [z, hp] at h; exact no (HO.lst.inj (Option.some.inj h))
theorem tup_keep {p l q : Addr} {cells : List Int} {m : Nat} {H' : Hp} {xs : List V} (hP : PenAt H p l cells m) (kp : Keep p H H') (h : H q = some (.tup xs)) : H' q = some (.tup xs) := by
  obtain ⟨_, _, hp, _⟩ := hP
  exact kp _ _ h fun z => by rw [z, hp] at h; cases h
theorem tup_i {t : TA} {Q : VK} (h : t σ H fun xs H1 => xs.length ≤ sizeLine ∧ ∀ l, H1 l = none → Q (.ref l) (upd H1 l (.tup xs))) : tTup t σ H Q := h
theorem el_catPL {q : Addr} {xs ys : List Int} (ha : Ev ta σ H (.ref q)) (hq : H q = some (.lst (vI xs))) (hb : EvL tb σ H (vI ys)) (hz : xs.length + ys.length ≤ 100000) : EvL (tOp rCat ta tb) σ H (vI (xs ++ ys)) := fun H1 e Q k =>
  ha H1 e _ fun H2 e2 => hb H2 (e.trans e2) _ fun r H3 _ e3 hr => ⟨q, r, vI xs, vI ys, rfl, rfl, (e.trans (e2.trans e3)) _ _ hq, hr, by rw [vI_len, vI_len]; exact sz_of hz, fun a ha => k a _ (fresh_back (e2.trans e3) ha) ((e2.trans e3).trans (Ex.new ha)) (by rw [upd_same]; unfold vI; rw [List.map_append])⟩
theorem etu_fld {o p C dx : Addr} {fs : List (Str × V)} {f : Str} {xs : List V} (ha : Ev ta σ H (.ref o)) (ho : H o = some (.ins C dx fs)) (c : Cls K C) (n : NoAttr K C f) (hf : fs.lookup f = some (.ref p)) (hp : SqT K H p xs) : EvTu K (tFld K ta f) σ H xs := fun H1 e Q q =>
  ev_fld ha ho c n hf H1 e _ fun H2 e2 => q p H2 e2 (ex_t (e.trans e2) hp)
theorem ev_nePP {p q : Addr} {xs ys : List Int} (ha : Ev ta σ H (.ref p)) (hp : SqL K H p (vI xs)) (hb : Ev tb σ H (.ref q)) (hq : SqL K H q (vI ys)) : Ev (tOp (rNeD K) ta tb) σ H (.bl (!decide (xs = ys))) := fun H1 e Q k =>
  ha H1 e _ fun H2 e2 => hb H2 (e.trans e2) _ fun H3 e3 => ⟨.list (xs.map PyData.int), .list (ys.map PyData.int), .lst (ex_l (e.trans (e2.trans e3)) hp) (dpAll_ints xs), .lst (ex_l (e.trans (e2.trans e3)) hq) (dpAll_ints ys), shaped_ints xs, shaped_ints ys, by rw [eqv_lists]; exact k H3 (e2.trans e3)⟩
theorem etu_var {i : Nat} {p : Addr} {xs : List V} (h0 : σ[i]? = some (some (.ref p))) (hs : SqT K H p xs) : EvTu K (tVar i) σ H xs := fun H1 e Q q => ⟨_, h0, q p H1 (Ex.refl H1) (ex_t e hs)⟩
theorem sqt_updL {q Dl : Addr} {xs ys : List V} {u : HO} (s : SqT K H q ys) (hD : H Dl = some (.lst xs)) : SqT K (upd H Dl u) q ys := by
  rcases s with (s | ⟨w, s⟩) | s
  · exact .inl (.inl (by rw [upd_ne (fun e => by rw [e, hD] at s; cases s)]; exact s))
  · exact .inl (.inr ⟨w, by rw [upd_ne (fun e => by rw [e, hD] at s; cases s)]; exact s⟩)
  · exact .inr s
theorem etu_nil : EvTu K (tTup tNil) σ H (vI []) := fun H1 e Q q => ⟨by show 0 ≤ sizeLine; decide, fun p hp => q p _ (Ex.new hp) (st_of upd_same)⟩
theorem for_i {tl : TE} {g : TG} {tu tz : TS} {D : Ends} (h : tl σ H fun x H1 => ∃ a, x = .ref a ∧ (∃ xs, SqL K H1 a xs) ∧ tFor (fun _ _ R => R (Itl K a) H1) g tu { D with nx := tz D } σ H1) : tSeq (tFor (iList K tl) g tu) tz D σ H := h
theorem s_retR {D : Ends} (h : te σ H D.rt) : tRet te D σ H := h
theorem ev_lenT {p : Addr} {g : List Int} (h : Ev ta σ H (.ref p)) (hs : SqT K H p (vI g)) : Ev (tCB (fun xs H Q => ∃ p ys, xs = [V.ref p] ∧ (SqL K H p ys ∨ SqT K H p ys) ∧ Q (.int ys.length) H) (tCons ta tNil)) σ H (.int (g.length : Int)) := ev_is (ev_cb (ea_cons h ea_nil) (rc_lenQ (.inr hs))) (by rw [vI_len])
theorem etu_disp {t : TA} {xs : List V} (h : EvA t σ H xs) (hl : xs.length ≤ 100000) : EvTu K (tTup t) σ H xs := fun H1 e Q q => eu_tup h hl H1 e _ fun p H2 _ e2 h2 => q p H2 e2 (st_of h2)
end
end K19
namespace L2
open PySem PySem.Spec PyProof.Rows
/-! ### set(xs), xs a list of ints -/
namespace SL
/-- a set as it is laid, without members -/
abbrev bare (w : World) : Obj := { cls := .type "set", dict := none, data := .set #[] 0 (.fresh 0 0 (!w.params.followText "set-order")) }
section
variable {P : Program} {w : World} {A : Around} {E : Value → Shared → Prop} {s : Shared}
/-- what the filling leaves: a set of these ints at the place, all else as it was -/
def Filled (w : World) (s : Shared) (ns : List Int) (s2 : Shared) : Prop :=
  ∃ hp tk c, s2 = { s with heap := hp, toks := tk } ∧ SetR w hp s.heap.objs.size (fun j => decide (j ∈ ns)) c ∧ c ≤ ns.length ∧ ∀ b u, s.heap.get? b = some u → hp.get? b = some u
theorem bare_at : (s.heap.push (bare w)).get? s.heap.objs.size = some (bare w) := Heap.get?_push_size _ rfl
/-- the loop over the list's iterator, which lies behind the set -/
theorem fill_loop {l : Addr} {its : Array Value} {ns : List Int} (quiet : A.in1.handled = none) (here : s.heap.IsList l its) (are : IntsAre its.toList ns) (few : ns.length + 1 < scanBound) {R : Result → Shared → Prop}
    (out : ∀ s2, Filled w s ns s2 → R (.ok (.ret .none)) s2) :
    codeAny (model P w) A (.builtin "set.update.loop" ⟨[.ref s.heap.objs.size, .ref (s.heap.objs.size + 1)], []⟩) R
      { s with heap := (s.heap.push (bare w)).push { cls := .type "list_iterator", data := .fields #[.ref l, .int 0 0] } } := by
  have low : l < s.heap.objs.size := by
    obtain ⟨u, hu, _⟩ := here
    exact Heap.lt_size hu
  have many : its.size = ns.length := (Array.length_toList ..).symm.trans are.length
  have wide : (s.heap.push (bare w)).objs.size = s.heap.objs.size + 1 := Heap.size_push ..
  have far : l ≠ s.heap.objs.size + 1 := Nat.ne_of_lt (Nat.lt_succ_of_lt low)
  have apart : s.heap.objs.size ∉ [s.heap.objs.size + 1, l] := by
    intro z
    rcases List.mem_cons.mp z with z | z
    · exact absurd z (Nat.ne_of_lt (Nat.lt_succ_self _))
    · exact absurd (List.mem_singleton.mp z) (Nat.ne_of_gt low)
  have tells : ∀ (i : Nat) (v : Value), its[i]? = some v → ∃ k t, ns[i]? = some k ∧ v = .int k t := by
    intro i v hv
    have lt : i < ns.length := many ▸ (Array.getElem?_eq_some_iff.mp hv).1
    obtain ⟨t, e⟩ := are.int_at i v (by rw [Array.getElem?_toList, hv])
    refine ⟨ns[i], t, List.getElem?_eq_getElem lt, e.trans ?_⟩
    rw [List.getD_eq_getElem?_getD, List.getElem?_eq_getElem lt]
    rfl
  have old : ∀ b u, s.heap.get? b = some u → ((s.heap.push (bare w)).push { cls := .type "list_iterator", data := .fields #[.ref l, .int 0 0] }).get? b = some u := fun b u e => Heap.get?_push_of_some _ (Heap.get?_push_of_some _ e)
  have W := (Walks.list (prog := P) (w := w) quiet (s.heap.objs.size + 1) l far its).toS
  have listed : ((s.heap.push (bare w)).push { cls := .type "list_iterator", data := .fields #[.ref l, .int 0 0] }).IsList l its := (here.push _).push _
  have iter : ((s.heap.push (bare w)).push { cls := .type "list_iterator", data := .fields #[.ref l, .int 0 0] }).get? (s.heap.objs.size + 1) = some { cls := .type "list_iterator", data := .fields #[.ref l, .int 0 0] } := by
    rw [← wide]
    exact Heap.get?_push_size _ rfl
  refine set_update_ints W s.heap.objs.size apart ns many few tells its.size 0 _ rfl (Nat.zero_le _) ⟨⟨_, iter, rfl, rfl⟩, listed⟩ ⟨0, Nat.le_refl 0, setR_new_at (Heap.get?_push_of_some _ bare_at)⟩ ?_
  intro s2 c moved le R2
  rw [many] at le
  refine out s2 ⟨s2.heap, s2.toks, c, ?_, R2, le, fun b u e => moved.heap b u (fun z => ?_) (old b u e)⟩
  · have a1 := moved.gens
    have a2 := moved.drawn
    have a3 := moved.os
    obtain ⟨hp, gs, dr, tk, os⟩ := s2
    obtain ⟨hp', gs', dr', tk', os'⟩ := s
    simp only at a1 a2 a3
    subst a1 a2 a3
    rfl
  · have lt := Heap.lt_size e
    rcases List.mem_cons.mp z with z | z
    · exact absurd z (Nat.ne_of_lt lt)
    · exact absurd (List.mem_singleton.mp z) (Nat.ne_of_lt (Nat.lt_succ_of_lt lt))
/-- set.__init__(a new set, a list) -/
theorem fill {l : Addr} {its : Array Value} {ns : List Int} (quiet : A.handled = none) (here : s.heap.IsList l its) (are : IntsAre its.toList ns) (few : ns.length + 1 < scanBound) {B : Around} {R : Result → Shared → Prop}
    (out : ∀ s2, Filled w s ns s2 → R (.ok (.ret .none)) s2) :
    wpAny (model P w) A (Builtin.«set.__init__» ⟨[.ref s.heap.objs.size, .ref l], []⟩) (fun fin s2 => match fin with | .done f => R (.ok f) s2 | .again c => c.quiet = true ∧ codeAny (model P w) B c R s2) E { s with heap := s.heap.push (bare w) } := by
  have listed : (s.heap.push (bare w)).IsList l its := here.push _
  obtain ⟨u, hu, hc, k, hd⟩ := listed
  obtain ⟨ucls, udict, udata, uslots⟩ := u
  simp only at hc hd
  subst hc hd
  have notSet := F.sub_list_set
  have notFrozen := F.sub_list_frozenset
  have notDict : (Value.type "list" == Value.type "dict") = false := by decide
  have place := bare_at (w := w) (s := s)
  unfold Builtin.«set.__init__» noKeywords Builtin.Frozenset.updateFrom
  generalize iter : pyIter = walk
  wp_walk
  subst iter
  refine wpAny_pyIter_list (here.push _) ?_
  refine wpAny_bind (wpAny_runValue ?_)
  have wide : (s.heap.push (bare w)).objs.size = s.heap.objs.size + 1 := Heap.size_push ..
  rw [wide]
  refine fill_loop (by simp [quiet]) here are few fun s2 filled => ?_
  refine wpAny_pure ?_
  exact wpAny_pure (out s2 filled)
/-- set(xs) -/
theorem made {l : Addr} {its : Array Value} {ns : List Int} {Q : Value → Shared → Prop} (quiet : A.handled = none) (here : s.heap.IsList l its) (are : IntsAre its.toList ns) (few : ns.length + 1 < scanBound)
    (out : ∀ s2, Filled w s ns s2 → Q (.ref s.heap.objs.size) s2) : wpAny (model P w) A (call (.type "set") [.ref l]) Q E s := by
  have known := F.called_set
  obtain ⟨top, rest, order⟩ := known.mro
  have m1 := known.made
  have m2 := known.sub
  have m3 := known.notType
  have m4 := known.canCreate
  have m5 := F.typeCall_set_1 (.ref l)
  refine wpAny_call (codeAny_of_tree ?_)
  show wpAny _ _ (callAny (.type "set") ⟨[.ref l], []⟩) _ _ _
  refine wpAny_pure ⟨Code.quiet_builtin _ (by decide +kernel), codeAny_builtin F.entry_type_call ?_⟩
  rw [Around.under_plain (weight_type_call_type "set" [.ref l] []) rfl]
  repeat (any_goals (first | assumption | wp_step))
  refine codeAny_mono (code_set_led1 (.ref l) (E := E) (Q₁ := fun v s1 => v = .ref s.heap.objs.size ∧ s1 = { s with heap := s.heap.push (bare w) }) ⟨rfl, rfl⟩) ?_
  rintro (e | f) s1 h1
  · exact h1
  cases f with
  | ret v =>
    obtain ⟨rfl, rfl⟩ := h1
    have place := bare_at (w := w) (s := s)
    have kind : Shared.TypeIs { s with heap := s.heap.push (bare w) } (.ref s.heap.objs.size) "set" := ⟨_, place, rfl⟩
    have n1 := known.init.lookup
    have n2 := known.init.bind (.ref s.heap.objs.size)
    repeat (any_goals (first | assumption | wp_step))
    refine codeAny_mono (codeAny_call_builtin (R := wants (fun v s2 => v = .none ∧ Filled w s ns s2) E) known.init.plain F.entry_set_init (check_set_init_1 kind (fill (by simp [quiet]) here are few fun s2 z => ⟨rfl, z⟩))) ?_
    rintro (e | f) s2 h2
    · exact h2
    cases f with
    | ret v =>
      obtain ⟨rfl, z⟩ := h2
      repeat (any_goals (first | assumption | wp_step))
      exact out s2 z
    | _ => exact h2.elim
  | _ => exact h1.elim
end
end SL
section
variable {X : Cx}
/-- set(xs), xs a list of ints -/
def rSetI (K : PySem.W.Frag) (w : World) : List V → Hp → VK → Prop := fun xs H Q => ∃ (l : Addr) (ns : List Int), xs = [V.ref l] ∧ SqL K H l (ns.map V.int) ∧ ns.length < 1000 ∧
  ∀ a c, H a = none → c ≤ ns.length → Q (.ref a) (upd H a (SetO w a (fun j => decide (j ∈ ns)) c))
theorem cr_setI (hc : X.calm = true) : CallR X (.type "set") (rSetI X.K X.w) := by
  intro pins s σ H xs us Q I r h
  obtain ⟨l, ns, rfl, hl, hz, q⟩ := h
  rw [Vals.ref1 r]
  obtain ⟨its, rv, here, _⟩ := I.list hl
  have new : H s.heap.objs.size = none := I.hok.fresh (Nat.le_refl _)
  refine SL.made (I.ok.hd hc) here.isList (ns := ns) (by simpa using rv.ints) (by unfold scanBound; omega) fun s2 z => ?_
  obtain ⟨hp, tk, c, rfl, R, le, keeps⟩ := z
  exact ⟨.ref s.heap.objs.size, upd H s.heap.objs.size (SetO X.w s.heap.objs.size (fun j => decide (j ∈ ns)) c), I.laid (t' := tk) keeps (Nat.le_refl _) (setO_new R), rfl, q _ c new le⟩
/-! ### any(xs), xs a list of ints -/
def rAnyI (K : PySem.W.Frag) : List V → Hp → VK → Prop := fun vs H Q => ∃ (a : Addr) (ns : List Int), vs = [V.ref a] ∧ SqL K H a (ns.map V.int) ∧ Q (.bl (ns.any fun i => i != 0)) H
theorem cr_anyI (hc : X.calm = true) : CallR X (.builtin "any") (rAnyI X.K) := by
  intro pins s σ H vs us Q I r h
  obtain ⟨a, ns, rfl, hs, q⟩ := h
  obtain ⟨its, rv, here, _⟩ := I.list hs
  rw [Vals.ref1 r]
  have are : IntsAre its ns := by simpa using rv.ints
  have tr : TruthOf X.prog X.w X.A.in1 (fun i v => its.toArray[i]? = some v) (fun i => ns.getD i 0 != 0) := fun i v s2 Q2 E2 hv q2 => by
    obtain ⟨t, e⟩ := are.int_at i v (by simpa using hv)
    subst e
    exact PyProof.Rows.truthy_int q2
  refine call_any_walk (iter_any here.isList fun s2 e st ne => ?_)
  subst e
  refine ⟨_, _, _, _, _, _, _, rfl, Walks.list (A := X.A.in1) (I.ok.hd hc) _ a ne its.toArray, st, tr, fun h2 tk keeps => ?_⟩
  have same : (List.range its.toArray.size).any (fun i => ns.getD i 0 != 0) = ns.any fun i => i != 0 := by
    have : its.toArray.size = ns.length := by rw [List.size_toArray]; exact are.length
    rw [this, Bool.eq_iff_iff, List.any_eq_true, List.any_eq_true]
    constructor
    · rintro ⟨i, hi, z⟩
      have lt := List.mem_range.mp hi
      refine ⟨ns[i], List.getElem_mem lt, ?_⟩
      rwa [List.getD_eq_getElem?_getD, List.getElem?_eq_getElem lt] at z
    · rintro ⟨x, hx, z⟩
      obtain ⟨i, lt, e⟩ := List.mem_iff_getElem.mp hx
      refine ⟨i, List.mem_range.mpr lt, ?_⟩
      rw [List.getD_eq_getElem?_getD, List.getElem?_eq_getElem lt, e]
      exact z
  rw [same]
  refine ⟨.bl _, H, I.kept fun b u eu => keeps b u (fun z => ?_) (Heap.get?_push_of_some _ eu), rfl, q⟩
  exact absurd (List.mem_singleton.mp z) (Nat.ne_of_lt (Heap.lt_size eu))
end
end L2
namespace K19
/-! ### spans of whole numbers by xor -/
def Spn : List Nat → Nat → Prop
  | [], x => x = 0
  | v :: vs, x => Spn vs x ∨ Spn vs (x ^^^ v)
def Lin (P : Nat → Prop) : Prop := P 0 ∧ ∀ x y, P x → P y → P (x ^^^ y)
theorem xx_cancel (x v : Nat) : x ^^^ v ^^^ v = x := by rw [Nat.xor_assoc, Nat.xor_self, Nat.xor_zero]
theorem x_swap (x y v : Nat) : x ^^^ y ^^^ v = x ^^^ v ^^^ y := by rw [Nat.xor_assoc, Nat.xor_comm y v, ← Nat.xor_assoc]
theorem sp_zero : ∀ vs, Spn vs 0
  | [] => rfl
  | _ :: vs => .inl (sp_zero vs)
theorem sp_xor : ∀ vs x y, Spn vs x → Spn vs y → Spn vs (x ^^^ y)
  | [], x, y, hx, hy => by cases hx; cases hy; rfl
  | v :: vs, x, y, hx, hy => by
    rcases hx with hx | hx <;> rcases hy with hy | hy
    · exact .inl (sp_xor vs x y hx hy)
    · exact .inr (by rw [Nat.xor_assoc]; exact sp_xor vs x _ hx hy)
    · exact .inr (by rw [x_swap]; exact sp_xor vs _ y hx hy)
    · exact .inl (by
        have h := sp_xor vs _ _ hx hy
        rwa [← Nat.xor_assoc, x_swap x v y, xx_cancel] at h)
theorem sp_lin (vs : List Nat) : Lin (Spn vs) := ⟨sp_zero vs, sp_xor vs⟩
theorem sp_mem : ∀ {vs : List Nat} {v : Nat}, v ∈ vs → Spn vs v
  | u :: vs, v, h => by
    rcases List.mem_cons.mp h with e | h
    · subst e
      exact .inr (by rw [Nat.xor_self]; exact sp_zero vs)
    · exact .inl (sp_mem h)
theorem sp_least {P : Nat → Prop} (L : Lin P) : ∀ {vs : List Nat} {x : Nat}, (∀ v ∈ vs, P v) → Spn vs x → P x
  | [], x, _, h => by cases h; exact L.1
  | v :: vs, x, hv, h => by
    rcases h with h | h
    · exact sp_least L (fun u hu => hv u (List.mem_cons_of_mem _ hu)) h
    · have h1 := L.2 _ _ (sp_least L (fun u hu => hv u (List.mem_cons_of_mem _ hu)) h) (hv v List.mem_cons_self)
      rwa [xx_cancel] at h1
theorem sp_sub {vs ws : List Nat} (h : ∀ v ∈ vs, Spn ws v) {x : Nat} (hx : Spn vs x) : Spn ws x := sp_least (sp_lin ws) h hx
theorem sp_lt {n : Nat} {vs : List Nat} (h : ∀ v ∈ vs, v < 2 ^ n) {x : Nat} (hx : Spn vs x) : x < 2 ^ n :=
  sp_least (P := fun x => x < 2 ^ n) ⟨Nat.two_pow_pos n, fun _ _ => Nat.xor_lt_two_pow⟩ h hx
theorem sp_snoc (l : List Nat) (v x : Nat) : Spn (l ++ [v]) x ↔ Spn l x ∨ Spn l (x ^^^ v) := by
  have e1 : ∀ y, Spn (v :: l) y → Spn (l ++ [v]) y := fun y => sp_sub fun u hu => sp_mem (by simpa [or_comm] using hu)
  have e2 : ∀ y, Spn (l ++ [v]) y → Spn (v :: l) y := fun y => sp_sub fun u hu => sp_mem (by simpa [or_comm] using hu)
  exact ⟨e2 x, e1 x⟩
/-! ### reduced rows -/
structure Red (B : List Nat) : Prop where
  desc : B.Pairwise (· > ·)
  pos : ∀ b ∈ B, b ≠ 0
  red : ∀ b ∈ B, ∀ c ∈ B, b ≠ c → c.testBit b.log2 = false
theorem top_on {b : Nat} (h : b ≠ 0) : b.testBit b.log2 = true := Nat.testBit_log2 h
theorem Red.tops {B : List Nat} (R : Red B) {b c : Nat} (hb : b ∈ B) (hc : c ∈ B) (h : b.log2 = c.log2) : b = c := by
  refine Classical.byContradiction fun n => ?_
  have h1 := R.red b hb c hc n
  rw [h, top_on (R.pos c hc)] at h1
  cases h1
theorem xor_ne {x y : Nat} (h : x ≠ y) : x ^^^ y ≠ 0 := fun e => h (by
  have h1 := xx_cancel x y
  rw [e, Nat.zero_xor] at h1
  exact h1.symm)
theorem log2_of {x t : Nat} (h1 : x.testBit t = true) (h2 : x < 2 ^ (t + 1)) : x.log2 = t := by
  have h3 : 2 ^ t ≤ x := Nat.ge_two_pow_of_testBit h1
  have h0 : x ≠ 0 := by
    intro e
    subst e
    simp at h1
  exact (Nat.log2_eq_iff h0).mpr ⟨h3, h2⟩
/-- the top of what lies in the span is the top of a row -/
theorem red_top : ∀ {B : List Nat}, Red B → ∀ {y : Nat}, Spn B y → y ≠ 0 → ∃ b ∈ B, b.log2 = y.log2
  | [], _, y, h, h0 => absurd h h0
  | b :: B, R, y, h, h0 => by
    have R' : Red B := ⟨(List.pairwise_cons.mp R.desc).2, fun c hc => R.pos c (List.mem_cons_of_mem _ hc), fun c hc d hd => R.red c (List.mem_cons_of_mem _ hc) d (List.mem_cons_of_mem _ hd)⟩
    rcases h with h | h
    · obtain ⟨c, hc, e⟩ := red_top R' h h0
      exact ⟨c, List.mem_cons_of_mem _ hc, e⟩
    · refine ⟨b, List.mem_cons_self, ?_⟩
      have hb0 : b ≠ 0 := R.pos b List.mem_cons_self
      by_cases z : y = b
      · rw [z]
      · obtain ⟨c, hc, e⟩ := red_top R' h (xor_ne z)
        have hcb : c < b := (List.pairwise_cons.mp R.desc).1 c hc
        have hne : b.log2 ≠ c.log2 := fun e' => Nat.lt_irrefl _ (by
          have := R.tops List.mem_cons_self (List.mem_cons_of_mem _ hc) e'
          rw [this] at hcb
          exact hcb)
        have hc0 : c ≠ 0 := R'.pos c hc
        have hlt : c.log2 < b.log2 := by
          have : c.log2 ≤ b.log2 := (Nat.le_log2 hb0).mpr (Nat.le_trans (Nat.log2_self_le hc0) (Nat.le_of_lt hcb))
          omega
        have hz : y ^^^ b < 2 ^ b.log2 := by
          have : y ^^^ b < 2 ^ ((y ^^^ b).log2 + 1) := Nat.lt_log2_self
          refine Nat.lt_of_lt_of_le this (Nat.pow_le_pow_right (by decide) ?_)
          omega
        have hy : y = (y ^^^ b) ^^^ b := (xx_cancel y b).symm
        have hbit : y.testBit b.log2 = true := by
          rw [hy, Nat.testBit_xor, Nat.testBit_lt_two_pow hz, top_on hb0]
          rfl
        have hlt2 : y < 2 ^ (b.log2 + 1) := by
          rw [hy]
          exact Nat.xor_lt_two_pow (Nat.lt_trans hz (Nat.pow_lt_pow_right (by decide) (by omega))) Nat.lt_log2_self
        exact (log2_of hbit hlt2).symm
theorem red_sub {B D : List Nat} (R : Red B) (S : Red D) (h : ∀ x, Spn B x ↔ Spn D x) {x : Nat} (hx : x ∈ B) : x ∈ D := by
  obtain ⟨d, hd, e⟩ := red_top S ((h x).mp (sp_mem hx)) (R.pos x hx)
  by_cases z : x = d
  · rw [z]; exact hd
  · exfalso
    have hs : Spn B (x ^^^ d) := sp_xor B _ _ (sp_mem hx) ((h d).mpr (sp_mem hd))
    obtain ⟨b, hb, e2⟩ := red_top R hs (xor_ne z)
    have ht := top_on (xor_ne z)
    rw [← e2, Nat.testBit_xor] at ht
    by_cases zb : b = x
    · rw [zb, top_on (R.pos x hx), ← e, top_on (S.pos d hd)] at ht
      cases ht
    · rw [R.red b hb x hx zb] at ht
      obtain ⟨f, hf, e3⟩ := red_top S ((h b).mp (sp_mem hb)) (R.pos b hb)
      by_cases zf : f = d
      · have : b.log2 = x.log2 := by rw [← e3, zf, e]
        exact zb (R.tops hb hx this)
      · rw [← e3, S.red f hf d hd zf] at ht
        cases ht
theorem desc_ext {B D : List Nat} (hb : B.Pairwise (· > ·)) (hd : D.Pairwise (· > ·)) (h : ∀ x, x ∈ B ↔ x ∈ D) : B = D := by
  have n1 : B.Nodup := hb.imp fun h => Nat.ne_of_gt h
  have n2 : D.Nodup := hd.imp fun h => Nat.ne_of_gt h
  exact List.Perm.eq_of_pairwise (le := (· > ·)) (fun a b _ _ h1 h2 => by omega) hb hd ((List.perm_ext_iff_of_nodup n1 n2).mpr h)
theorem asc_ext {B D : List Nat} (hb : B.Pairwise (· < ·)) (hd : D.Pairwise (· < ·)) (h : ∀ x, x ∈ B ↔ x ∈ D) : B = D := by
  have n1 : B.Nodup := hb.imp fun h => Nat.ne_of_lt h
  have n2 : D.Nodup := hd.imp fun h => Nat.ne_of_lt h
  exact List.Perm.eq_of_pairwise (le := (· < ·)) (fun a b _ _ h1 h2 => by omega) hb hd ((List.perm_ext_iff_of_nodup n1 n2).mpr h)
theorem red_unique {B D : List Nat} (R : Red B) (S : Red D) (h : ∀ x, Spn B x ↔ Spn D x) : B = D :=
  desc_ext R.desc S.desc fun _ => ⟨red_sub R S h, red_sub S R fun x => (h x).symm⟩
/-! ### one row more -/
def low (x r : Nat) : Nat := if x ^^^ r < x then x ^^^ r else x
theorem low_or (x r : Nat) : low x r = x ∨ low x r = x ^^^ r := by
  unfold low
  split
  · exact .inr rfl
  · exact .inl rfl
theorem low_le (x r : Nat) : low x r ≤ x := by
  unfold low
  split <;> omega
theorem low_lt {x r n : Nat} (h : x < n) : low x r < n := Nat.lt_of_le_of_lt (low_le x r) h
theorem low_bit {x r : Nat} (h0 : r ≠ 0) : (low x r).testBit r.log2 = false := by
  -- by the numbers above the top
  have hs : (x ^^^ r) >>> r.log2 = (x >>> r.log2) ^^^ 1 := by
    rw [Nat.shiftRight_xor_distrib]
    congr 1
    rw [Nat.shiftRight_eq_div_pow]
    have h1 := Nat.log2_self_le h0
    have h2 : r < 2 ^ (r.log2 + 1) := Nat.lt_log2_self
    rw [Nat.pow_succ] at h2
    exact Nat.div_eq_of_lt_le (by omega) (by omega)
  have hb : ∀ y : Nat, y.testBit r.log2 = decide ((y >>> r.log2) % 2 = 1) := fun y => by
    rw [Nat.shiftRight_eq_div_pow, Nat.testBit_eq_decide_div_mod_eq]
  have hx1 : ∀ q : Nat, q ^^^ 1 = if q % 2 = 1 then q - 1 else q + 1 := fun q => by
    refine Nat.eq_of_testBit_eq fun i => ?_
    rw [Nat.testBit_xor]
    cases i with
    | zero =>
      rw [Nat.testBit_zero, Nat.testBit_zero, Nat.testBit_zero]
      have h1 : (decide (1 % 2 = 1)) = true := rfl
      rw [h1]
      by_cases z : q % 2 = 1
      · rw [if_pos z, decide_eq_true z, decide_eq_false (show ¬ (q - 1) % 2 = 1 by omega)]; rfl
      · rw [if_neg z, decide_eq_false z, decide_eq_true (show (q + 1) % 2 = 1 by omega)]; rfl
    | succ i =>
      rw [Nat.testBit_succ, Nat.testBit_succ, Nat.testBit_succ]
      have : (1 : Nat) / 2 = 0 := rfl
      rw [this, Nat.zero_testBit]
      have e : (if q % 2 = 1 then q - 1 else q + 1) / 2 = q / 2 := by split <;> omega
      rw [e]
      simp
  unfold low
  by_cases z : (x >>> r.log2) % 2 = 1
  · have hlt : x ^^^ r < x := by
      refine Classical.byContradiction fun n => ?_
      have h1 : x >>> r.log2 ≤ (x ^^^ r) >>> r.log2 := by
        rw [Nat.shiftRight_eq_div_pow, Nat.shiftRight_eq_div_pow]
        exact Nat.div_le_div_right (by omega)
      rw [hs, hx1, if_pos z] at h1
      revert z h1
      generalize x >>> r.log2 = q
      intro z h1
      omega
    rw [if_pos hlt, hb, hs, hx1, if_pos z]
    refine decide_eq_false ?_
    revert z
    generalize x >>> r.log2 = q
    intro z
    omega
  · have hlt : ¬ x ^^^ r < x := fun n => by
      have h1 : (x ^^^ r) >>> r.log2 ≤ x >>> r.log2 := by
        rw [Nat.shiftRight_eq_div_pow, Nat.shiftRight_eq_div_pow]
        exact Nat.div_le_div_right (by omega)
      rw [hs, hx1, if_neg z] at h1
      exact Nat.not_succ_le_self _ h1
    rw [if_neg hlt, hb]
    exact decide_eq_false z
def red (B : List Nat) (v : Nat) : Nat := B.foldl low v
theorem low_keeps {x r i : Nat} (hx : x.testBit i = false) (hr : r.testBit i = false) : (low x r).testBit i = false := by
  rcases low_or x r with e | e
  · rw [e, hx]
  · rw [e, Nat.testBit_xor, hx, hr]; rfl
theorem red_lt : ∀ (B : List Nat) {v n : Nat}, v < n → red B v < n
  | [], _, _, h => h
  | r :: B, v, n, h => red_lt B (low_lt (r := r) h)
theorem red_keeps : ∀ (B : List Nat) (v i : Nat), v.testBit i = false → (∀ b ∈ B, b.testBit i = false) → (red B v).testBit i = false
  | [], _, _, h, _ => h
  | r :: B, v, i, h, hb => red_keeps B (low v r) i (low_keeps h (hb r List.mem_cons_self)) fun b h => hb b (List.mem_cons_of_mem _ h)
theorem red_sp : ∀ (B : List Nat) (v : Nat), Spn B (v ^^^ red B v)
  | [], v => Nat.xor_self v
  | r :: B, v => by
    have h := red_sp B (low v r)
    rcases low_or v r with e | e
    · refine .inl ?_
      show Spn B (v ^^^ red B (low v r))
      rw [e] at h ⊢
      exact h
    · refine .inr ?_
      show Spn B (v ^^^ red B (low v r) ^^^ r)
      rw [e] at h ⊢
      rwa [x_swap]
theorem red_clear : ∀ {B : List Nat}, Red B → ∀ (v : Nat), ∀ b ∈ B, (red B v).testBit b.log2 = false
  | [], _, _, b, h => absurd h (by simp)
  | r :: B, R, v, b, h => by
    have R' : Red B := ⟨(List.pairwise_cons.mp R.desc).2, fun c hc => R.pos c (List.mem_cons_of_mem _ hc), fun c hc d hd => R.red c (List.mem_cons_of_mem _ hc) d (List.mem_cons_of_mem _ hd)⟩
    rcases List.mem_cons.mp h with e | h
    · subst e
      refine red_keeps B _ _ (low_bit (R.pos b List.mem_cons_self)) fun c hc => R.red b List.mem_cons_self c (List.mem_cons_of_mem _ hc) fun e => ?_
      have := (List.pairwise_cons.mp R.desc).1 c hc
      omega
    · exact red_clear R' _ b h
theorem red_new {B : List Nat} (R : Red B) {r : Nat} (h0 : r ≠ 0) (hr : ∀ b ∈ B, r.testBit b.log2 = false) {D : List Nat} (hp : D.Perm (r :: B.map (low · r))) (hd : D.Pairwise (· ≥ ·)) :
    Red D ∧ ∀ x, Spn D x ↔ Spn (r :: B) x := by
  have hm : ∀ x, x ∈ D ↔ x = r ∨ ∃ b ∈ B, low b r = x := fun x => by
    rw [hp.mem_iff, List.mem_cons, List.mem_map]
  have hbit : ∀ b ∈ B, (low b r).testBit b.log2 = true := fun b hb => by
    rcases low_or b r with e | e
    · rw [e, top_on (R.pos b hb)]
    · rw [e, Nat.testBit_xor, hr b hb, top_on (R.pos b hb)]; rfl
  have hoff : ∀ b ∈ B, ∀ c ∈ B, b ≠ c → (low c r).testBit b.log2 = false := fun b hb c hc n => low_keeps (R.red b hb c hc n) (hr b hb)
  have hlog : ∀ b ∈ B, (low b r).log2 = b.log2 := fun b hb => log2_of (hbit b hb) (Nat.lt_of_le_of_lt (low_le b r) Nat.lt_log2_self)
  have nd : D.Nodup := by
    rw [hp.nodup_iff, List.nodup_cons]
    constructor
    · intro h
      obtain ⟨b, hb, e⟩ := List.mem_map.mp h
      have h1 := hr b hb
      rw [← e, hbit b hb] at h1
      cases h1
    · have nb : B.Nodup := R.desc.imp fun h => Nat.ne_of_gt h
      rw [List.Nodup, List.pairwise_map]
      refine List.Pairwise.imp_of_mem ?_ nb
      intro a b ha hb n e
      have h1 := hoff a ha b hb n
      rw [← e, hbit a ha] at h1
      cases h1
  refine ⟨⟨?_, ?_, ?_⟩, fun x => ⟨fun h => ?_, fun h => ?_⟩⟩
  · have : D.Pairwise fun a b => a ≥ b ∧ a ≠ b := hd.and nd
    exact this.imp fun h => by omega
  · intro x hx
    rcases (hm x).mp hx with e | ⟨b, hb, e⟩
    · rw [e]; exact h0
    · intro z
      have h1 := hbit b hb
      rw [e, z] at h1
      simp at h1
  · intro x hx y hy n
    rcases (hm x).mp hx with e | ⟨b, hb, e⟩ <;> rcases (hm y).mp hy with e' | ⟨c, hc, e'⟩
    · exact absurd (e.trans e'.symm) n
    · rw [e, ← e']; exact low_bit h0
    · rw [e', ← e, hlog b hb]; exact hr b hb
    · rw [← e, ← e', hlog b hb]
      exact hoff b hb c hc fun z => n (by rw [← e, ← e', z])
  · refine sp_sub (fun v hv => ?_) h
    rcases (hm v).mp hv with e | ⟨b, hb, e⟩
    · rw [e]; exact sp_mem List.mem_cons_self
    · rw [← e]
      rcases low_or b r with z | z
      · rw [z]; exact sp_mem (List.mem_cons_of_mem _ hb)
      · rw [z]; exact sp_xor _ _ _ (sp_mem (List.mem_cons_of_mem _ hb)) (sp_mem List.mem_cons_self)
  · refine sp_sub (fun v hv => ?_) h
    have hrD : Spn D r := sp_mem ((hm r).mpr (.inl rfl))
    rcases List.mem_cons.mp hv with e | hb
    · rw [e]; exact hrD
    · have h1 : Spn D (low v r) := sp_mem ((hm _).mpr (.inr ⟨v, hb, rfl⟩))
      rcases low_or v r with z | z
      · rwa [z] at h1
      · rw [z] at h1
        have h2 := sp_xor _ _ _ h1 hrD
        rwa [xx_cancel] at h2
theorem red_nil : Red [] := ⟨List.Pairwise.nil, fun _ h => absurd h (by simp), fun _ h => absurd h (by simp)⟩
/-! ### rows heard: the even ones -/
structure Par (od : Nat → Bool) : Prop where
  zero : od 0 = false
  xor : ∀ x y, od (x ^^^ y) = (od x ^^ od y)
theorem par_mask {od : Nat → Bool} (p : Par od) (m : Nat) : Par fun x => od (x &&& m) :=
  ⟨by show od (0 &&& m) = false; rw [Nat.zero_and]; exact p.zero, fun x y => by show od ((x ^^^ y) &&& m) = _; rw [Nat.and_xor_distrib_right]; exact p.xor _ _⟩
theorem heard_sp {od : Nat → Bool} (p : Par od) (vs : List Nat) (x : Nat) :
    Spn (vs.filter (fun v => !od v) ++ ((vs.filter fun v => od v).drop 1).map (· ^^^ ((vs.filter fun v => od v).headD 0))) x ↔ Spn vs x ∧ od x = false := by
  generalize hR : vs.filter (fun v => !od v) ++ ((vs.filter fun v => od v).drop 1).map (· ^^^ ((vs.filter fun v => od v).headD 0)) = R
  have hmem : ∀ u, u ∈ vs.filter (fun v => od v) → u ∈ vs ∧ od u = true := fun u hu => List.mem_filter.mp hu
  constructor
  · have hL : Lin fun x => Spn vs x ∧ od x = false := ⟨⟨sp_zero vs, p.zero⟩, fun a b ha hb => ⟨sp_xor vs _ _ ha.1 hb.1, by rw [p.xor, ha.2, hb.2]; rfl⟩⟩
    refine sp_least hL fun v hv => ?_
    rw [← hR] at hv
    rcases List.mem_append.mp hv with h | h
    · have h1 := List.mem_filter.mp h
      exact ⟨sp_mem h1.1, by simpa using h1.2⟩
    · obtain ⟨u, hu, e⟩ := List.mem_map.mp h
      have hu1 := hmem u (List.mem_of_mem_drop hu)
      have ho : (vs.filter fun v => od v).headD 0 ∈ vs.filter fun v => od v := by
        cases hf : vs.filter fun v => od v with
        | nil => rw [hf] at hu; exact absurd hu (by simp)
        | cons a l => exact List.mem_cons_self
      have ho1 := hmem _ ho
      rw [← e]
      exact ⟨sp_xor vs _ _ (sp_mem hu1.1) (sp_mem ho1.1), by rw [p.xor, hu1.2, ho1.2]; rfl⟩
  · intro ⟨hx, hod⟩
    cases hf : vs.filter fun v => od v with
    | nil =>
      refine sp_sub (fun v hv => ?_) hx
      refine sp_mem ?_
      rw [← hR]
      refine List.mem_append.mpr (.inl (List.mem_filter.mpr ⟨hv, ?_⟩))
      cases z : od v with
      | false => rfl
      | true =>
        have : v ∈ vs.filter fun v => od v := List.mem_filter.mpr ⟨hv, z⟩
        rw [hf] at this
        exact absurd this (by simp)
    | cons o l =>
      have hL : Lin fun x => Spn R (if od x then x ^^^ o else x) := by
        refine ⟨?_, fun a b ha hb => ?_⟩
        · show Spn R (if od 0 then 0 ^^^ o else 0)
          rw [p.zero]
          exact sp_zero R
        · show Spn R (if od (a ^^^ b) then a ^^^ b ^^^ o else a ^^^ b)
          rw [p.xor]
          cases za : od a <;> cases zb : od b <;> simp only [za, zb, if_true, if_false, Bool.false_eq_true, Bool.xor_false, Bool.false_xor, Bool.xor_true, Bool.true_xor, Bool.not_true, Bool.not_false, Bool.xor_self] at ha hb ⊢
          · exact sp_xor R _ _ ha hb
          · have := sp_xor R _ _ ha hb
            rwa [← Nat.xor_assoc] at this
          · have := sp_xor R _ _ ha hb
            rwa [x_swap] at this
          · have := sp_xor R _ _ ha hb
            rwa [← Nat.xor_assoc, x_swap a o b, xx_cancel] at this
      have h1 := sp_least hL (vs := vs) (x := x) (fun v hv => ?_) hx
      · rwa [hod, if_neg (by decide)] at h1
      · show Spn R (if od v then v ^^^ o else v)
        cases z : od v with
        | false =>
          rw [if_neg (by decide)]
          refine sp_mem ?_
          rw [← hR]
          exact List.mem_append.mpr (.inl (List.mem_filter.mpr ⟨hv, by rw [z]; rfl⟩))
        | true =>
          rw [if_pos rfl]
          have hm : v ∈ vs.filter fun v => od v := List.mem_filter.mpr ⟨hv, z⟩
          rw [hf] at hm hR
          rcases List.mem_cons.mp hm with e | h
          · rw [e, Nat.xor_self]; exact sp_zero R
          · refine sp_mem ?_
            rw [← hR]
            exact List.mem_append.mpr (.inr (List.mem_map.mpr ⟨v, h, rfl⟩))
/-! ### images -/
theorem sp_image {f : Nat → Nat} (h0 : f 0 = 0) (hf : ∀ x y, f (x ^^^ y) = f x ^^^ f y) (B : List Nat) (y : Nat) : Spn (B.map f) y ↔ ∃ x, Spn B x ∧ f x = y := by
  constructor
  · refine sp_least (P := fun y => ∃ x, Spn B x ∧ f x = y) ⟨⟨0, sp_zero B, h0⟩, fun a b ⟨x, hx, e⟩ ⟨z, hz, e'⟩ => ⟨x ^^^ z, sp_xor B _ _ hx hz, by rw [hf, e, e']⟩⟩ fun v hv => ?_
    obtain ⟨b, hb, e⟩ := List.mem_map.mp hv
    exact ⟨b, sp_mem hb, e⟩
  · intro ⟨x, hx, e⟩
    rw [← e]
    exact sp_least (P := fun x => Spn (B.map f) (f x)) ⟨by show Spn _ (f 0); rw [h0]; exact sp_zero _, fun a b ha hb => by show Spn _ (f (a ^^^ b)); rw [hf]; exact sp_xor _ _ _ ha hb⟩ (fun v hv => sp_mem (List.mem_map.mpr ⟨v, hv, rfl⟩)) hx
theorem bit_xor (a b c d : Nat) (ha : a < 2) (hc : c < 2) : (a + 2 * b) ^^^ (c + 2 * d) = (a ^^^ c) + 2 * (b ^^^ d) := by
  have hac : a ^^^ c < 2 := Nat.xor_lt_two_pow (n := 1) ha hc
  refine Nat.eq_of_testBit_eq fun i => ?_
  rw [Nat.testBit_xor]
  cases i with
  | zero =>
    rw [Nat.testBit_zero, Nat.testBit_zero, Nat.testBit_zero, Nat.add_mul_mod_self_left, Nat.add_mul_mod_self_left, Nat.add_mul_mod_self_left]
    rcases (show a = 0 ∨ a = 1 by omega) with e | e <;> rcases (show c = 0 ∨ c = 1 by omega) with e' | e' <;> subst e <;> subst e' <;> rfl
  | succ i =>
    rw [Nat.testBit_succ, Nat.testBit_succ, Nat.testBit_succ, ← Nat.testBit_xor]
    congr 1
    rw [show (a + 2 * b) / 2 = b by omega, show (c + 2 * d) / 2 = d by omega, show ((a ^^^ c) + 2 * (b ^^^ d)) / 2 = b ^^^ d by omega]
/-- the signs of x at these places -/
def pk (x : Nat) : List Nat → Nat
  | [] => 0
  | p :: ps => (x.testBit p).toNat + 2 * pk x ps
theorem toNat_xor (a b : Bool) : (a ^^ b).toNat = a.toNat ^^^ b.toNat := by cases a <;> cases b <;> rfl
theorem toNat_lt (a : Bool) : a.toNat < 2 := by cases a <;> decide
theorem pk_zero : ∀ ps, pk 0 ps = 0
  | [] => rfl
  | p :: ps => by
    show ((0 : Nat).testBit p).toNat + 2 * pk 0 ps = 0
    rw [pk_zero ps, Nat.zero_testBit]
    rfl
theorem pk_xor (x y : Nat) : ∀ ps, pk (x ^^^ y) ps = pk x ps ^^^ pk y ps
  | [] => (Nat.xor_self 0).symm
  | p :: ps => by
    show ((x ^^^ y).testBit p).toNat + 2 * pk (x ^^^ y) ps = ((x.testBit p).toNat + 2 * pk x ps) ^^^ ((y.testBit p).toNat + 2 * pk y ps)
    rw [bit_xor _ _ _ _ (toNat_lt _) (toNat_lt _), Nat.testBit_xor, toNat_xor, pk_xor x y ps]
theorem pk_lt (x : Nat) : ∀ ps, pk x ps < 2 ^ ps.length
  | [] => (by decide : 0 < 2 ^ 0)
  | p :: ps => by
    show (x.testBit p).toNat + 2 * pk x ps < 2 ^ (ps.length + 1)
    have := pk_lt x ps
    have := toNat_lt (x.testBit p)
    rw [Nat.pow_succ]
    omega
theorem pk_snoc (x p : Nat) : ∀ ps, pk x (ps ++ [p]) = pk x ps + (x.testBit p).toNat * 2 ^ ps.length
  | [] => by show (x.testBit p).toNat + 2 * 0 = 0 + (x.testBit p).toNat * 1; omega
  | q :: ps => by
    show (x.testBit q).toNat + 2 * pk x (ps ++ [p]) = (x.testBit q).toNat + 2 * pk x ps + (x.testBit p).toNat * 2 ^ (ps.length + 1)
    rw [pk_snoc x p ps, Nat.pow_succ, Nat.mul_add, ← Nat.mul_assoc _ _ 2, Nat.mul_comm _ 2]
    omega
theorem dbl_xor (x y : Nat) : 2 * (x ^^^ y) = 2 * x ^^^ 2 * y := by
  have := bit_xor 0 x 0 y (by decide) (by decide)
  simpa using this.symm
/-! ### parity -/
def od (x : Nat) : Bool := x.testBit 0 ^^ x.testBit 1 ^^ x.testBit 2 ^^ x.testBit 3 ^^ x.testBit 4 ^^ x.testBit 5 ^^ x.testBit 6 ^^ x.testBit 7
theorem par_bit (i : Nat) : Par fun x => x.testBit i := ⟨Nat.zero_testBit i, fun x y => Nat.testBit_xor x y i⟩
theorem bool4 : ∀ a b c d : Bool, ((a ^^ b) ^^ (c ^^ d)) = ((a ^^ c) ^^ (b ^^ d)) := by decide
theorem Par.add {f g : Nat → Bool} (p : Par f) (q : Par g) : Par fun x => f x ^^ g x :=
  ⟨by show (f 0 ^^ g 0) = false; rw [p.zero, q.zero]; rfl, fun x y => by show (f (x ^^^ y) ^^ g (x ^^^ y)) = ((f x ^^ g x) ^^ (f y ^^ g y)); rw [p.xor, q.xor]; exact bool4 _ _ _ _⟩
theorem od_par : Par od := (((((((par_bit 0).add (par_bit 1)).add (par_bit 2)).add (par_bit 3)).add (par_bit 4)).add (par_bit 5)).add (par_bit 6)).add (par_bit 7)
theorem od_step : ∀ x, x < 256 → x = 0 ∨ od (x &&& (x - 1)) = !od x := by decide +kernel
def bits8 : List Nat := [1, 2, 4, 8, 16, 32, 64, 128]
theorem od_count : ∀ x, x < 256 → ((bits8.filter fun b => decide (0 < x &&& b)).length ∈ [1, 3, 5, 7] ↔ od x = true) := by decide +kernel
theorem top_max {x m : Nat} (h0 : x ≠ 0) (hx : x < 256) (hm : m ∈ bits8.filter fun b => decide (b ≤ x)) (ht : ∀ y ∈ bits8.filter fun b => decide (b ≤ x), y ≤ m) : m = 2 ^ x.log2 := by
  have h1 := List.mem_filter.mp hm
  have hb : ∃ i, i < 8 ∧ m = 2 ^ i := by
    have : m ∈ bits8 → ∃ i, i < 8 ∧ m = 2 ^ i := by
      intro h
      simp only [bits8, List.mem_cons, List.not_mem_nil, or_false] at h
      rcases h with h | h | h | h | h | h | h | h
      · exact ⟨0, by decide, h⟩
      · exact ⟨1, by decide, h⟩
      · exact ⟨2, by decide, h⟩
      · exact ⟨3, by decide, h⟩
      · exact ⟨4, by decide, h⟩
      · exact ⟨5, by decide, h⟩
      · exact ⟨6, by decide, h⟩
      · exact ⟨7, by decide, h⟩
    exact this h1.1
  obtain ⟨i, hi, e⟩ := hb
  have h2 : m ≤ x := by simpa using h1.2
  have h3 : i ≤ x.log2 := (Nat.le_log2 h0).mpr (by rw [← e]; exact h2)
  have h4 : x.log2 < 8 := (Nat.log2_lt h0).mpr hx
  have h5 : 2 ^ x.log2 ≤ m := by
    refine ht _ (List.mem_filter.mpr ⟨?_, by simpa using Nat.log2_self_le h0⟩)
    have : ∀ j, j < 8 → 2 ^ j ∈ bits8 := by decide
    exact this _ h4
  have h6 : 2 ^ i ≤ 2 ^ x.log2 := Nat.pow_le_pow_right (by decide) h3
  omega
/-! ### lists of spans -/
def IsS (P : Nat → Prop) (l : List Nat) : Prop := l.Pairwise (· < ·) ∧ ∀ x, x ∈ l ↔ P x
theorem IsS.eq {P Q : Nat → Prop} {l k : List Nat} (h : IsS P l) (g : IsS Q k) (e : ∀ x, P x ↔ Q x) : l = k :=
  asc_ext h.1 g.1 fun x => by rw [h.2, g.2, e]
theorem IsS.congr {P Q : Nat → Prop} {l : List Nat} (h : IsS P l) (e : ∀ x, P x ↔ Q x) : IsS Q l := ⟨h.1, fun x => by rw [h.2, e]⟩
theorem isS_of {P : Nat → Prop} {l k : List Nat} (hp : k.Perm l) (hs : k.Pairwise (· ≤ ·)) (hn : l.Nodup) (hm : ∀ x, x ∈ l ↔ P x) : IsS P k := by
  have nk : k.Nodup := hp.nodup_iff.mpr hn
  have : k.Pairwise fun a b => a ≤ b ∧ a ≠ b := hs.and nk
  exact ⟨this.imp fun h => by omega, fun x => by rw [hp.mem_iff, hm]⟩
theorem isS_filter {P : Nat → Prop} {l : List Nat} (h : IsS P l) (f : Nat → Bool) : IsS (fun x => P x ∧ f x = true) (l.filter f) :=
  ⟨h.1.filter f, fun x => by rw [List.mem_filter, h.2]⟩
/-- one vector more: what is found grows -/
theorem span_step {l found : List Nat} {v : Nat} (nd : found.Nodup) (hm : ∀ x, x ∈ found ↔ Spn l x) :
    (v ∈ found → ∀ x, x ∈ found ↔ Spn (l ++ [v]) x) ∧ (v ∉ found → (found ++ found.map (· ^^^ v)).Nodup ∧ ∀ x, x ∈ found ++ found.map (· ^^^ v) ↔ Spn (l ++ [v]) x) := by
  constructor
  · intro hv x
    rw [hm, sp_snoc]
    refine ⟨.inl, fun h => ?_⟩
    rcases h with h | h
    · exact h
    · have := sp_xor l _ _ h ((hm v).mp hv)
      rwa [xx_cancel] at this
  · intro hv
    have inj : ∀ a b : Nat, a ^^^ v = b ^^^ v → a = b := fun a b e => by rw [← xx_cancel a v, e, xx_cancel]
    constructor
    · rw [List.nodup_append]
      refine ⟨nd, ?_, ?_⟩
      · rw [List.Nodup, List.pairwise_map]
        exact nd.imp fun h e => h (inj _ _ e)
      · intro a ha b hb e
        obtain ⟨c, hc, e2⟩ := List.mem_map.mp hb
        refine hv ((hm v).mpr ?_)
        have := sp_xor l _ _ ((hm c).mp hc) ((hm a).mp ha)
        rw [e, ← e2, ← Nat.xor_assoc, Nat.xor_self, Nat.zero_xor] at this
        exact this
    · intro x
      rw [List.mem_append, sp_snoc, hm]
      constructor
      · rintro (h | h)
        · exact .inl h
        · obtain ⟨c, hc, e⟩ := List.mem_map.mp h
          refine .inr ?_
          rw [← e, xx_cancel]
          exact (hm c).mp hc
      · rintro (h | h)
        · exact .inl h
        · exact .inr (List.mem_map.mpr ⟨x ^^^ v, (hm _).mpr h, xx_cancel x v⟩)
/-! ### opened, known -/
theorem opened_sp (B : List Nat) (y : Nat) : Spn (B.map (2 * ·) ++ [1]) y ↔ ∃ x, Spn B x ∧ (y = 2 * x ∨ y = 2 * x + 1) := by
  have img := fun z => sp_image (f := (2 * ·)) rfl dbl_xor B z
  have hx : ∀ x, 2 * x ^^^ 1 = 2 * x + 1 := fun x => by
    have := bit_xor 0 x 1 0 (by decide) (by decide)
    simp at this
    omega
  rw [sp_snoc, img, img]
  constructor
  · rintro (⟨x, hx1, e⟩ | ⟨x, hx1, e⟩)
    · exact ⟨x, hx1, .inl e.symm⟩
    · refine ⟨x, hx1, .inr ?_⟩
      have e : 2 * x = y ^^^ 1 := e
      rw [← hx, e, xx_cancel]
  · rintro ⟨x, hx1, e | e⟩
    · exact .inl ⟨x, hx1, e.symm⟩
    · refine .inr ⟨x, hx1, ?_⟩
      show 2 * x = y ^^^ 1
      rw [e, ← hx, xx_cancel]
theorem closed_sp (B : List Nat) (y : Nat) : Spn (B.map (2 * ·)) y ↔ ∃ x, Spn B x ∧ y = 2 * x := by
  rw [sp_image (f := (2 * ·)) rfl dbl_xor B y]
  exact ⟨fun ⟨x, h, e⟩ => ⟨x, h, e.symm⟩, fun ⟨x, h, e⟩ => ⟨x, h, e.symm⟩⟩
theorem knows_sp {B : List Nat} {p : Nat} : (∀ b ∈ B, b.testBit p = false) ↔ ∀ x, Spn B x → x.testBit p = false :=
  ⟨fun h _ hx => sp_least (P := fun x => x.testBit p = false) ⟨Nat.zero_testBit p, fun a b ha hb => by show (a ^^^ b).testBit p = false; rw [Nat.testBit_xor, ha, hb]; rfl⟩ h hx, fun h b hb => h b (sp_mem hb)⟩
/-- the shapes of the lists of a law -/
theorem isS_dbl {P : Nat → Prop} {l : List Nat} (h : IsS P l) : IsS (fun y => ∃ x, P x ∧ y = 2 * x) (l.map (2 * ·)) :=
  ⟨by
    rw [List.pairwise_map]
    exact h.1.imp fun h => by omega, fun y => by
    rw [List.mem_map]
    exact ⟨fun ⟨x, hx, e⟩ => ⟨x, (h.2 x).mp hx, e.symm⟩, fun ⟨x, hx, e⟩ => ⟨x, (h.2 x).mpr hx, e.symm⟩⟩⟩
theorem nd_open {P : Nat → Prop} {l : List Nat} (h : IsS P l) : (l.map (2 * ·) ++ l.map (2 * · + 1)).Nodup ∧ ∀ y, y ∈ l.map (2 * ·) ++ l.map (2 * · + 1) ↔ ∃ x, P x ∧ (y = 2 * x ∨ y = 2 * x + 1) := by
  constructor
  · rw [List.nodup_append]
    refine ⟨?_, ?_, ?_⟩
    · rw [List.Nodup, List.pairwise_map]
      exact h.1.imp fun h => by omega
    · rw [List.Nodup, List.pairwise_map]
      exact h.1.imp fun h => by omega
    · intro a ha b hb e
      obtain ⟨x, _, e1⟩ := List.mem_map.mp ha
      obtain ⟨z, _, e2⟩ := List.mem_map.mp hb
      omega
  · intro y
    rw [List.mem_append, List.mem_map, List.mem_map]
    constructor
    · rintro (⟨x, hx, e⟩ | ⟨x, hx, e⟩)
      · exact ⟨x, (h.2 x).mp hx, .inl e.symm⟩
      · exact ⟨x, (h.2 x).mp hx, .inr e.symm⟩
    · rintro ⟨x, hx, e | e⟩
      · exact .inl ⟨x, (h.2 x).mpr hx, e.symm⟩
      · exact .inr ⟨x, (h.2 x).mpr hx, e.symm⟩
end K19
namespace K19
open PySem L2 Evl Gr StX
/-! ### lists of numbers from zero -/
def zI (l : List Nat) : List Int := l.map fun n : Nat => (n : Int)
abbrev vN (l : List Nat) : List V := vI (zI l)
theorem zI_len {l : List Nat} : (zI l).length = l.length := List.length_map _
theorem vN_len {l : List Nat} : (vN l).length = l.length := by rw [vI_len, zI_len]
theorem zI_app {l k : List Nat} : zI (l ++ k) = zI l ++ zI k := List.map_append
theorem zI_inj {l k : List Nat} : zI l = zI k ↔ l = k := by
  constructor
  · intro h
    have := congrArg (List.map Int.toNat) h
    unfold zI at this
    have e : ∀ m : List Nat, m.map (Int.toNat ∘ fun n : Nat => (n : Int)) = m := fun m => by
      rw [show (Int.toNat ∘ fun n : Nat => (n : Int)) = id from funext fun n => Int.toNat_natCast n, List.map_id]
    rw [List.map_map, List.map_map, e, e] at this
    exact this
  · rintro rfl; rfl
theorem dec_zI {l k : List Nat} : decide (zI l = zI k) = decide (l = k) := by
  by_cases h : l = k
  · rw [decide_eq_true h, decide_eq_true (zI_inj.mpr h)]
  · rw [decide_eq_false h, decide_eq_false fun z => h (zI_inj.mp z)]
theorem vN_app {l : List Nat} {x : Nat} : vN l ++ [V.int (x : Int)] = vN (l ++ [x]) := by show vI (zI l) ++ _ = vI (zI (l ++ [x])); rw [vI_app, zI_app]; rfl
theorem vN_get {l : List Nat} {i : Nat} {x : V} (h : (vN l)[i]? = some x) : ∃ n, l[i]? = some n ∧ x = .int (n : Int) := by
  unfold vN vI zI at h
  rw [List.getElem?_map, List.getElem?_map] at h
  cases e : l[i]? with
  | none => rw [e] at h; cases h
  | some n => rw [e] at h; exact ⟨n, rfl, (Option.some.inj h).symm⟩
theorem vN_at {l : List Nat} {i n : Nat} (h : l[i]? = some n) : (vN l)[i]? = some (.int (n : Int)) := by
  unfold vN vI zI
  rw [List.getElem?_map, List.getElem?_map, h]
  rfl
theorem perm_zI {ns : List Int} {l : List Nat} (h : ns.Perm (zI l)) : ∃ D : List Nat, ns = zI D ∧ D.Perm l := by
  refine ⟨ns.map Int.toNat, ?_, ?_⟩
  · have e : zI (ns.map Int.toNat) = ns.map id := by
      unfold zI
      rw [List.map_map]
      refine List.map_congr_left fun x hx => ?_
      obtain ⟨n, _, e⟩ := List.mem_map.mp (h.mem_iff.mp hx)
      show ((x.toNat : Nat) : Int) = x
      omega
    rw [e, List.map_id]
  · have := h.map Int.toNat
    unfold zI at this
    rw [List.map_map] at this
    have e : l.map (Int.toNat ∘ fun n : Nat => (n : Int)) = l := by
      rw [show (Int.toNat ∘ fun n : Nat => (n : Int)) = id from funext fun n => Int.toNat_natCast n, List.map_id]
    rwa [e] at this
theorem le_zI {D : List Nat} (h : (zI D).Pairwise (· ≤ ·)) : D.Pairwise (· ≤ ·) := by
  unfold zI at h
  rw [List.pairwise_map] at h
  exact h.imp fun h => by omega
theorem ge_zI {D : List Nat} (h : (zI D).Pairwise (· ≥ ·)) : D.Pairwise (· ≥ ·) := by
  unfold zI at h
  rw [List.pairwise_map] at h
  exact h.imp fun h => by omega
/-- what a comprehension over such a list gives -/
theorem given_nats (l : List Nat) (f : Nat → Bool) (g : Nat → Nat) : given l.length (fun i => f (l.getD i 0)) (fun i => V.int ((g (l.getD i 0) : Nat) : Int)) = vN ((l.filter f).map g) := by
  have e : l = (List.range l.length).map fun i => l.getD i 0 := by
    refine List.ext_getElem? fun i => ?_
    rw [List.getElem?_map]
    by_cases h : i < l.length
    · rw [List.getElem?_range h, List.getElem?_eq_getElem h]
      show some l[i] = some (l.getD i 0)
      rw [List.getD_eq_getElem?_getD, List.getElem?_eq_getElem h]
      rfl
    · rw [List.getElem?_eq_none (by omega), List.getElem?_eq_none (by rw [List.length_range]; omega)]
      rfl
  have e2 : l.filter f = ((List.range l.length).filter fun i => f (l.getD i 0)).map fun i => l.getD i 0 := by
    conv => lhs; rw [e]
    rw [List.filter_map]
    rfl
  rw [e2]
  unfold given vN vI zI
  rw [List.map_map, List.map_map, List.map_map]
  rfl
theorem getD_of {l : List Nat} {i n : Nat} (h : l[i]? = some n) : l.getD i 0 = n := by rw [List.getD_eq_getElem?_getD, h]; rfl
section
variable {K : PySem.W.Frag} {σ : L2.St} {H : Hp} {ta tb te : TE}
theorem ev_xor {a b : Nat} (ha : Ev ta σ H (.int (a : Int))) (hb : Ev tb σ H (.int (b : Int))) : Ev (tOp (rI0 fun i j => .int (Builtin.bitXor i j)) ta tb) σ H (.int ((a ^^^ b : Nat) : Int)) :=
  ev_is (ev_op ha hb rv_I0) (by rw [Bits.bitXor_pp (by omega) (by omega), Int.toNat_natCast, Int.toNat_natCast])
theorem ev_and {a b : Nat} (ha : Ev ta σ H (.int (a : Int))) (hb : Ev tb σ H (.int (b : Int))) : Ev (tOp (rI0 fun i j => .int (Builtin.bitAnd i j)) ta tb) σ H (.int ((a &&& b : Nat) : Int)) :=
  ev_is (ev_op ha hb rv_I0) (by rw [PyProof.Rows.bitAnd_pp (by omega) (by omega), Int.toNat_natCast, Int.toNat_natCast])
theorem ev_or {a b : Nat} (ha : Ev ta σ H (.int (a : Int))) (hb : Ev tb σ H (.int (b : Int))) : Ev (tOp (rI0 fun i j => .int (Builtin.bitOr i j)) ta tb) σ H (.int ((a ||| b : Nat) : Int)) :=
  ev_is (ev_op ha hb rv_I0) (by rw [Bits.bitOr_pp (by omega) (by omega), Int.toNat_natCast, Int.toNat_natCast])
/-- v >> p & 1 -/
theorem ev_bit {v p : Nat} (ha : Ev ta σ H (.int (v : Int))) (hb : Ev tb σ H (.int (p : Int))) : Ev (tOp (rI0 fun i j => .int (Builtin.bitAnd i j)) (tOp (rI (fun _ j => 0 ≤ j) fun i j => .int (i / 2 ^ j.toNat)) ta tb) (tC (.int 1))) σ H (.int (((v.testBit p).toNat : Nat) : Int)) :=
  ev_is (ev_and (a := v / 2 ^ p) (b := 1) (ev_is (ev_op ha hb (rv_I (by omega))) (by rw [Int.toNat_natCast]; congr 1)) ev_c) (by rw [Nat.and_one_is_mod, ← Nat.toNat_testBit])
/-- [.., *a new list, ..] -/
theorem ea_star {t : TA} {xs ys : List V} (h : EvL te σ H xs) (hr : EvA t σ H ys) : EvA (tStar K te t) σ H (xs ++ ys) := fun H1 e Q q =>
  h H1 e _ fun p H2 _ e2 hp => ⟨p, xs, rfl, .inr (sq_of hp), hr H2 (e.trans e2) _ fun H3 e3 => q H3 (e2.trans e3)⟩
/-- a comprehension over a list of numbers -/
theorem el_nums {a : Addr} {l : List Nat} {tl : TE} {t : TT} {j : Nat} {vs : List Nat} (f : Nat → Bool) (g : Nat → Nat) (h : Ev tl σ H (.ref a)) (hx : SqL K H a (vN l)) (hz : l.length ≤ 40000) (hw : ∀ x, wipe ((wipe σ vs).set j (some x)) vs = wipe σ vs)
    (ht : ∀ n ∈ l, ∀ H1, Ex H H1 → EvT t ((wipe σ vs).set j (some (.int (n : Int)))) H1 (f n)) (he : ∀ n ∈ l, ∀ H1, Ex H H1 → f n = true → Ev te ((wipe σ vs).set j (some (.int (n : Int)))) H1 (.int ((g n : Nat) : Int))) :
    EvL (tLc (iList K tl) (gName j) t te vs) σ H (vN ((l.filter f).map g)) := by
  have c := el_lcL (K := K) (σ := σ) (H := H) (t := t) (te := te) (a := a) (xs := vN l) (tl := tl) (j := j) (vs := vs) (fun i => f (l.getD i 0)) (fun i => V.int ((g (l.getD i 0) : Nat) : Int)) h hx (by rw [vN_len]; exact hz) hw
    (fun i x H1 e hi => by
      obtain ⟨n, hn, rfl⟩ := vN_get hi
      rw [getD_of hn]
      exact ht n (List.mem_of_getElem? hn) H1 e)
    (fun i x H1 e hi hf => by
      obtain ⟨n, hn, rfl⟩ := vN_get hi
      rw [getD_of hn] at hf ⊢
      exact he n (List.mem_of_getElem? hn) H1 e hf)
  rw [vN_len, given_nats] at c
  exact c
theorem filter_yes (l : List Nat) : l.filter (fun _ => true) = l := List.filter_eq_self.mpr fun _ _ => rfl
end
end K19
/-! enumerate over a tuple -/
namespace EnT
open PySem PySem.Spec PyProof.Rows L2
/-- the iterator of a tuple, as it begins -/
abbrev tupIt (t : Addr) : Obj := { cls := .type "tuple_iterator", data := .fields #[.ref t, .int 0 0] }
/-- the enumeration over the iterator at n, as it begins -/
abbrev enuAt (n : Addr) : Obj := { cls := .type "enumerate", data := .fields #[.none, .bool false, .ref n, rawInt 0, .none, .none] }
set_option maxHeartbeats 2000000 in
theorem new_enumT (t : Addr) (its : Array Value) : Meets (Builtin.«enumerate.__new__» ⟨[.type "enumerate", .ref t], []⟩)
    (fun _ R s => s.heap.IsTuple t its ∧ R (.ok (.ret (.ref (s.heap.push (tupIt t)).objs.size))) { s with heap := (s.heap.push (tupIt t)).push (enuAt s.heap.objs.size) }) := Meets.of_wp fun P w A R s hh => by
  rcases s with ⟨hp, gs, ds, tk, sys⟩
  rcases hh with ⟨hT, goal⟩
  have kind := sub_enumerate
  have begin_ : ∀ {B : Around} {E : Value → Shared → Prop} {Q : Value → Shared → Prop}, Q (.ref hp.objs.size) ⟨hp.push (tupIt t), gs, ds, tk, sys⟩ → wpAny (model P w) B (pyIter (.ref t)) Q E ⟨hp, gs, ds, tk, sys⟩ := fun q => wpAny_pyIter_tuple hT q
  wp_walk using begin_
  refine wpAny_stack_any (fun _ => wpAny_pure ?_)
  split
  next c _ _ _ _ _ => cases (c == Value.type "enumerate") <;> (wp_walk using begin_; exact ⟨_, rfl, goal⟩)
  next => (wp_walk using begin_; exact ⟨_, rfl, goal⟩)
theorem call_enumT {P : Program} {w : World} {A : Around} {E : Value → Shared → Prop} {s : Shared} {t : Addr} {its : Array Value} {Q : Value → Shared → Prop} (hT : s.heap.IsTuple t its)
    (k : ∀ h', IsEnum h' (s.heap.objs.size + 1) s.heap.objs.size 0 .none → h'.IsTupleIter s.heap.objs.size t 0 → (∀ b o, s.heap.get? b = some o → h'.get? b = some o) → Q (.ref (s.heap.objs.size + 1)) { s with heap := h' }) :
    wpAny (model P w) A (call (.type "enumerate") [.ref t]) Q E s := by
  have sz : (s.heap.push (tupIt t)).objs.size = s.heap.objs.size + 1 := Heap.size_push ..
  have at1 : ((s.heap.push (tupIt t)).push (enuAt s.heap.objs.size)).get? (s.heap.objs.size + 1) = some (enuAt s.heap.objs.size) := sz ▸ Heap.get?_push_size (s.heap.push (tupIt t)) rfl
  have at0 : ((s.heap.push (tupIt t)).push (enuAt s.heap.objs.size)).get? s.heap.objs.size = some (tupIt t) := Heap.get?_push_of_some _ (Heap.get?_push_size _ rfl)
  refine callType_new F.called_enumerate (by decide) (F.typeCall_enumerate_1 _) (F.newCall_enumerate_1 _) (fun obj => F.args_object_init_2 obj _) F.entry_enumerate_new (new_enumT t its) ⟨hT, ?_⟩
  show _ ∧ _
  rw [sz]
  exact ⟨⟨_, at1, rfl⟩, k _ at1 ⟨_, at0, rfl, rfl⟩ fun b o e => Heap.get?_push_of_some _ (Heap.get?_push_of_some _ e)⟩
/-- the tuple at a, turn by turn: each item with its place, in a new pair -/
def Itn (K : PySem.W.Frag) (a : Addr) : It where
  go i H := ∃ (ys : List V) (y : V), SqT K H a ys ∧ ys[i]? = some y
  yld i H v H' := ∃ T y, v = .ref T ∧ H T = none ∧ H' = upd H T (.tup [.int (i : Nat), y]) ∧ ∀ ys, SqT K H a ys → ys[i]? = some y
  stop i H := ∃ ys : List V, SqT K H a ys ∧ ys.length = i
theorem turn_enumT {P : Program} {w : World} {K : PySem.W.Frag} {elts : List Expr} {kk : Nat} {tpos : Pos} (a e it : Addr) :
    Turn P w K (.Tuple elts kk tpos) (Itn K a) [e, it] e (fun i h => (∃ old, IsEnum h e it ((i : Nat) : Int) old) ∧ h.IsTupleIter it a i) where
  mem := List.mem_cons_self ..
  obj := fun i h ⟨⟨old, he⟩, o, ho, _, hd⟩ b hb => by
    rcases List.mem_cons.mp hb with rfl | hb
    · exact ⟨_, he, fun v q => nomatch q⟩
    · obtain rfl := List.mem_singleton.mp hb
      exact ⟨o, ho, fun v q => by rw [hd] at q; cases q⟩
  keep := fun i h h' ⟨⟨old, he⟩, hi⟩ k => ⟨⟨old, k e (List.mem_cons_self ..) _ he⟩, hi.at fun o q => k it (by simp) o q⟩
  item := by
    rintro X rfl rfl rfl hc i pins s σ H E I hf ⟨⟨old, he⟩, hit⟩ ⟨ys, y, hq, hy⟩
    obtain ⟨its, rv, p, hz⟩ := I.tuple hq
    have ht : s.heap.IsTuple a its.toArray := p
    obtain ⟨u, hu, ru⟩ := rv.get hy
    have len : i < its.length := (List.getElem?_eq_some_iff.mp hu).1
    have ai : a ≠ it := fun z => by
      obtain ⟨o1, g1, c1, _⟩ := ht
      obtain ⟨o2, g2, c2, _⟩ := id hit
      rw [z, g2] at g1
      rw [← Option.some.inj g1, c2] at c1
      exact absurd c1 (by decide)
    have ei : e ≠ it := fun z => by
      obtain ⟨o2, g2, c2, _⟩ := id hit
      have g1 : s.heap.get? e = _ := he
      rw [z, g2] at g1
      rw [Option.some.inj g1] at c2
      exact absurd (show Value.type "enumerate" = Value.type "tuple_iterator" from c2) (by decide)
    have ea : e ≠ a := fun z => by
      obtain ⟨o2, g2, c2, _⟩ := ht
      have g1 : s.heap.get? e = _ := he
      rw [z, g2] at g1
      rw [Option.some.inj g1] at c2
      exact absurd (show Value.type "enumerate" = Value.type "tuple" from c2) (by decide)
    refine wpAny_pyNext_enum_itemD (Draws.tuple (A := X.A.in1) (I.ok.hd hc) it a ai its.toArray) he ⟨hit, ht⟩ (by simpa using len) ei (by simp [ei, ea]) fun x h' tk hx ho hst hT sz1 hk => ?_
    have xu : x = u := by
      have : its[i]? = some x := by simpa using hx
      rw [hu] at this
      exact (Option.some.inj this).symm
    subst xu
    have hel : e < s.heap.objs.size := Heap.lt_size he
    have hil : it < s.heap.objs.size := by obtain ⟨_, q, _⟩ := hit; exact Heap.lt_size q
    refine ⟨_, rfl, wpAny_letOwnedTupleGo_enum (s := { s with heap := h', toks := tk + 1 }) ho fun h2 he2 sb => ?_⟩
    have pair : h2.get? s.heap.objs.size = some { cls := .type "tuple", data := .seq #[.int i tk, x] } := (sb.2 _ (Nat.ne_of_gt hel)).trans hT
    have new : ObjOk X.prog X.w (upd H s.heap.objs.size (.tup [.int (i : Nat), y])) h2 s.heap.objs.size (.tup [.int (i : Nat), y]) :=
      ⟨by show 2 ≤ sizeLine; decide, [.int i tk, x], .cons ⟨_, rfl⟩ (.cons ru .nil), ⟨_, pair, rfl, _, rfl⟩⟩
    have J : Inv X pins σ (upd H s.heap.objs.size (.tup [.int (i : Nat), y])) { s with heap := h2, toks := tk + 1 } :=
      I.turnedNew (ch := [e, it]) (fun b o hb q => (sb.2 b fun z => hb (by simp [z])).trans (hk b o (fun z => hb (by simp [z])) (fun z => hb (by simp [z])) q)) hf (Nat.le_refl _) new
    refine ⟨.ref s.heap.objs.size, _, J, rfl, ⟨_, y, rfl, I.hok.fresh (Nat.le_refl _), rfl, fun zs hz => by rw [I.tuple_inj hz hq]; exact hy⟩, ⟨⟨x, ?_⟩, hst.1.at fun o q => (sb.2 it (Ne.symm ei)).trans q⟩, fun b hb => ?_⟩
    · have e1 : ((i + 1 : Nat) : Int) = (i : Int) + 1 := rfl
      rw [e1]
      exact he2
    · have lt : b < s.heap.objs.size := by
        rcases List.mem_cons.mp hb with rfl | hb
        · exact hel
        · obtain rfl := List.mem_singleton.mp hb
          exact hil
      rw [upd_ne (Nat.ne_of_lt lt)]
      exact (hf b hb).1
  done := by
    rintro X rfl rfl rfl hc i pins s σ H E I hf ⟨⟨old, he⟩, hit⟩ ⟨ys, hq, hy⟩
    obtain ⟨its, rv, p, hz⟩ := I.tuple hq
    have ht : s.heap.IsTuple a its.toArray := p
    have hl := rv.length
    obtain ⟨f0, f1, f2, f3, f4, f5⟩ := hf it (by simp)
    have ai : a ≠ it := fun z => by
      obtain ⟨o1, g1, c1, _⟩ := ht
      obtain ⟨o2, g2, c2, _⟩ := id hit
      rw [z, g2] at g1
      rw [← Option.some.inj g1, c2] at c1
      exact absurd c1 (by decide)
    have hi : its.toArray.size = i := by rw [List.size_toArray]; omega
    exact wpAny_pyNext_enum_endD (Draws.tuple (A := X.A.in1) (I.ok.hd hc) it a ai its.toArray) he (hi.symm ▸ ⟨hit, ht⟩) fun h' eb => ⟨rfl, I.turned (t' := s.toks) (fun b o hb z => eb b o hb z) f0 f1 f3 f4 f5⟩
  self := fun A i s Q E ⟨⟨_, he⟩, _⟩ h => wpAny_pyIter_enum he h
/-- enumerate(a tuple) -/
def iEnumT (K : PySem.W.Frag) (ta : TA) : TI := fun σ H R => ta σ H fun vs H1 => ∃ a ys, vs = [.ref a] ∧ SqT K H1 a ys ∧ R (Itn K a) H1
theorem pi_enumT {X : Cx} {e : Expr} {ta : TA} {p pos tpos : Pos} {elts : List Expr} {kk : Nat} (hg : Gl X "enumerate") (hm : X.mg "enumerate" = none) (ha : PA X [e] ta)
    (one : starEach [e] X.env = [(false, eval e X.env)] := by rfl) : PI X (.Tuple elts kk tpos) (.Call (.Name "enumerate" p) [e] [] pos) (iEnumT X.K ta) := by
  refine ⟨fun pins s σ H R I h => Call_ (ld_blt I hg hm boot_enumerate (PyProof.Rows.callWith_type1 (thn (ha.run pos pins s σ H _ I h) fun us s1 ⟨vs, H1, J, r1, a, ys, ev, hq, q⟩ => ?_) one rfl))⟩
  subst ev
  rcases r1 with _ | ⟨r, r0⟩
  cases r0
  cases r
  obtain ⟨its, rv, at_, hz⟩ := J.tuple hq
  refine call_enumT (its := its.toArray) at_ fun h' he hit hk => wpAny_pyIter_enum he ?_
  refine ⟨s1.heap.objs.size + 1, [s1.heap.objs.size + 1, s1.heap.objs.size], _, _, H1, rfl, J.kept (t' := s1.toks) hk, turn_enumT a _ _, ⟨⟨.none, he⟩, hit⟩, fun b hb => ?_, q⟩
  have le : s1.heap.objs.size ≤ b := by
    rcases List.mem_cons.mp hb with rfl | hb
    · exact Nat.le_succ _
    · exact Nat.le_of_eq (List.mem_singleton.mp hb).symm
  exact J.fpOk le (J.hok.fresh le)
theorem walk_enumT {K : PySem.W.Frag} {a : Addr} {ys : List V} : Walk (Itn K a) ys.length (fun H => SqT K H a ys) (YPair (fun i => some (.int (i : Nat))) (fun i => ys[i]?)) :=
  ⟨fun i _ hi q => ⟨ys, ys[i], q, List.getElem?_eq_getElem hi⟩, fun _ q => ⟨ys, q, rfl⟩, fun i H v H' _ q ⟨T, y, h1, h2, h3, h4⟩ => ⟨T, .int (i : Nat), y, h1, h2, h3, rfl, h4 ys q⟩⟩
end EnT
namespace K19
open PySem L2 Evl Gr StX EnT
section
variable {K : PySem.W.Frag} {σ : L2.St} {H : Hp} {ta tb te : TE}
/-- a comprehension over a new list of numbers -/
theorem el_numsN {l : List Nat} {tl : TE} {t : TT} {j : Nat} {vs : List Nat} (f : Nat → Bool) (g : Nat → Nat) (h : EvL tl σ H (vN l)) (hz : l.length ≤ 40000) (hw : ∀ x, wipe ((wipe σ vs).set j (some x)) vs = wipe σ vs)
    (ht : ∀ n ∈ l, ∀ H1, Ex H H1 → EvT t ((wipe σ vs).set j (some (.int (n : Int)))) H1 (f n)) (he : ∀ n ∈ l, ∀ H1, Ex H H1 → f n = true → Ev te ((wipe σ vs).set j (some (.int (n : Int)))) H1 (.int ((g n : Nat) : Int))) :
    EvL (tLc (iList K tl) (gName j) t te vs) σ H (vN ((l.filter f).map g)) := by
  have c := el_lcNL (K := K) (σ := σ) (H := H) (t := t) (te := te) (xs := vN l) (tl := tl) (j := j) (vs := vs) (fun i => f (l.getD i 0)) (fun i => V.int ((g (l.getD i 0) : Nat) : Int)) h (by rw [vN_len]; exact hz) hw
    (fun i x H1 e hi => by
      obtain ⟨n, hn, rfl⟩ := vN_get hi
      rw [getD_of hn]
      exact ht n (List.mem_of_getElem? hn) H1 e)
    (fun i x H1 e hi hf => by
      obtain ⟨n, hn, rfl⟩ := vN_get hi
      rw [getD_of hn] at hf ⊢
      exact he n (List.mem_of_getElem? hn) H1 e hf)
  rw [vN_len, given_nats] at c
  exact c
theorem map_idN (l : List Nat) : l.map (fun n => n) = l := List.map_id' l
/-- for i, x in enumerate(a tuple) -/
theorem q_forNT {a : Addr} {xs : List V} {ta : TA} {g : TG} {tu tz : TS} {D : Ends} (h : EvA ta σ H [.ref a]) (hx : SqT K H a xs) (Pv : Nat → L2.St → Hp → Prop) (h0 : ∀ H1, Ex H H1 → Pv 0 σ H1) (hl : ∀ i σ' H', i ≤ xs.length → Pv i σ' H' → SqT K H' a xs)
    (hs : ∀ i x σ' H' T, xs[i]? = some x → Pv i σ' H' → H' T = none → g (.ref T) σ' (L2.upd H' T (.tup [.int (i : Nat), x])) fun σ2 H2 => tu { D with nx := Pv (i + 1), ct := Pv (i + 1), bk := tz D } σ2 H2)
    (hd : ∀ σ' H', Pv xs.length σ' H' → tz D σ' H') : tSeq (tFor (iEnumT K ta) g tu) tz D σ H :=
  h H (Ex.refl H) _ fun H1 e1 => ⟨a, xs, rfl, ex_t e1 hx, for_it (D := { D with nx := tz D }) walk_enumT Pv (h0 H1 e1) hl (fun i v σ' H' H2 hi p y => by
    obtain ⟨T, x, z, rfl, hn, rfl, ex, ez⟩ := y
    obtain rfl := Option.some.inj ex
    exact hs i z σ' H' T ez p hn) hd⟩
/-- two lists of numbers, one behind the other -/
theorem el_catV {p : Addr} {xs ys : List Nat} (ha : Ev ta σ H (.ref p)) (hp : H p = some (.lst (vN xs))) (hb : EvL tb σ H (vN ys)) (hz : xs.length + ys.length ≤ 100000) : EvL (tOp rCat ta tb) σ H (vN (xs ++ ys)) := by
  have := el_catPL ha hp hb (by rw [zI_len, zI_len]; exact hz)
  rwa [← zI_app] at this
end
section
variable {P : Program} {w : World} {K : PySem.W.Frag} {mg : Str → Option Value} {base : Heap}
/-! ### heard_vectors -/
end
end K19
/-! pure: parity of any number, what is heard, when a row is known -/
namespace Kn
open K19
/-- the parity of the first n bits -/
def prF : Nat → Nat → Bool
  | 0, _ => false
  | n + 1, x => x.testBit 0 ^^ prF n (x / 2)
theorem prF_zero : ∀ n, prF n 0 = false
  | 0 => rfl
  | n + 1 => by
    show (Nat.testBit 0 0 ^^ prF n (0 / 2)) = false
    rw [Nat.zero_testBit, Nat.zero_div, prF_zero n]
    rfl
theorem xor_half (x y : Nat) : (x ^^^ y) / 2 = x / 2 ^^^ y / 2 := by
  apply Nat.eq_of_testBit_eq
  intro i
  rw [Nat.testBit_div_two, Nat.testBit_xor, Nat.testBit_xor, Nat.testBit_div_two, Nat.testBit_div_two]
theorem prF_xor : ∀ n x y, prF n (x ^^^ y) = (prF n x ^^ prF n y)
  | 0, _, _ => rfl
  | n + 1, x, y => by
    show ((x ^^^ y).testBit 0 ^^ prF n ((x ^^^ y) / 2)) = ((x.testBit 0 ^^ prF n (x / 2)) ^^ (y.testBit 0 ^^ prF n (y / 2)))
    rw [xor_half, prF_xor n, Nat.testBit_xor, bool4]
theorem par_prF (n : Nat) : Par (prF n) := ⟨prF_zero n, prF_xor n⟩
theorem prF_more : ∀ n x, x < 2 ^ n → prF (n + 1) x = prF n x
  | 0, x, h => by
    have : x = 0 := by rw [Nat.pow_zero] at h; omega
    rw [this, prF_zero, prF_zero]
  | n + 1, x, h => by
    show (x.testBit 0 ^^ prF (n + 1) (x / 2)) = (x.testBit 0 ^^ prF n (x / 2))
    rw [prF_more n (x / 2) (by rw [Nat.pow_succ] at h; omega)]
theorem half_and (x y : Nat) : (x &&& y) / 2 = x / 2 &&& y / 2 := by
  apply Nat.eq_of_testBit_eq
  intro i
  rw [Nat.testBit_div_two, Nat.testBit_and, Nat.testBit_and, Nat.testBit_div_two, Nat.testBit_div_two]
/-- the lowest bit taken away -/
theorem prF_less : ∀ n x, x ≠ 0 → x < 2 ^ n → prF n (x &&& (x - 1)) = !prF n x
  | 0, x, h0, h => by rw [Nat.pow_zero] at h; omega
  | n + 1, x, h0, h => by
    show ((x &&& (x - 1)).testBit 0 ^^ prF n ((x &&& (x - 1)) / 2)) = !(x.testBit 0 ^^ prF n (x / 2))
    rw [half_and, Nat.testBit_and]
    rw [Nat.pow_succ] at h
    rcases Nat.mod_two_eq_zero_or_one x with e | e
    · have b0 : x.testBit 0 = false := by rw [Nat.testBit_zero, e]; rfl
      have e2 : (x - 1) / 2 = x / 2 - 1 := by omega
      rw [b0, e2, prF_less n (x / 2) (by omega) (by omega)]
      cases prF n (x / 2) <;> rfl
    · have b0 : x.testBit 0 = true := by rw [Nat.testBit_zero, e]; rfl
      have b1 : (x - 1).testBit 0 = false := by rw [Nat.testBit_zero]; have : (x - 1) % 2 = 0 := by omega
                                                rw [this]; rfl
      have e2 : (x - 1) / 2 = x / 2 := by omega
      rw [b0, b1, e2, Nat.and_self]
      cases prF n (x / 2) <;> rfl
def pr (x : Nat) : Bool := prF 420 x
theorem par_pr : Par pr := par_prF 420
theorem pr_less {x : Nat} (h0 : x ≠ 0) (h : x < 2 ^ 420) : pr (x &&& (x - 1)) = !pr x := prF_less 420 x h0 h
theorem pr_half {x : Nat} (h : x < 2 ^ 420) : pr x = (x.testBit 0 ^^ pr (x / 2)) := by
  have e : pr (x / 2) = prF 419 (x / 2) := prF_more 419 (x / 2) (by have : 2 ^ 420 = 2 * 2 ^ 419 := by rw [Nat.pow_succ, Nat.mul_comm]
                                                                    omega)
  rw [e]
  rfl
/-! ### what is heard -/
def odsP (l : List Nat) (m : Nat) : List Nat := l.filter fun v => pr (v &&& m)
def hvP (l : List Nat) (m : Nat) : List Nat := l.filter (fun v => !pr (v &&& m)) ++ ((odsP l m).drop 1).map (· ^^^ ((odsP l m).headD 0))
theorem hvP_sp (l : List Nat) (m x : Nat) : Spn (hvP l m) x ↔ Spn l x ∧ pr (x &&& m) = false := heard_sp (od := fun v => pr (v &&& m)) (par_mask par_pr m) l x
theorem hvP_lt {l : List Nat} {m n : Nat} (h : ∀ v ∈ l, v < 2 ^ n) : ∀ v ∈ hvP l m, v < 2 ^ n := fun v hv => sp_lt h (((hvP_sp l m v).mp (sp_mem hv)).1)
theorem two_parts (f : Nat → Bool) : ∀ l : List Nat, (l.filter fun v => !f v).length + (l.filter f).length = l.length
  | [] => rfl
  | x :: l => by
    have ih := two_parts f l
    rw [List.filter_cons, List.filter_cons, List.length_cons]
    cases f x
    · rw [if_pos (show (!false) = true from rfl), if_neg Bool.false_ne_true, List.length_cons]
      omega
    · rw [if_neg (show ¬ (!true) = true by decide), if_pos rfl, List.length_cons]
      omega
theorem hvP_len (l : List Nat) (m : Nat) : (hvP l m).length ≤ l.length := by
  unfold hvP odsP
  rw [List.length_append, List.length_map, List.length_drop]
  have := two_parts (fun v => pr (v &&& m)) l
  have h : (l.filter fun v => !pr (v &&& m)).length + (l.filter fun v => pr (v &&& m)).length = l.length := this
  omega
theorem hvs_sp : ∀ (ms l : List Nat) (x : Nat), Spn (ms.foldl hvP l) x ↔ Spn l x ∧ ∀ m ∈ ms, pr (x &&& m) = false
  | [], l, x => ⟨fun h => ⟨h, fun m hm => by cases hm⟩, fun h => h.1⟩
  | m :: ms, l, x => by
    rw [List.foldl_cons, hvs_sp ms (hvP l m) x, hvP_sp]
    constructor
    · rintro ⟨⟨a, b⟩, c⟩
      exact ⟨a, fun k hk => by rcases List.mem_cons.mp hk with rfl | hk; exact b; exact c k hk⟩
    · rintro ⟨a, b⟩
      exact ⟨⟨a, b m List.mem_cons_self⟩, fun k hk => b k (List.mem_cons_of_mem _ hk)⟩
end Kn
/-! pure: when a row is known, by the program's vectors and by all differences -/
namespace Kn
open K19
abbrev Ph := Bool × List (List Nat)
def msk (n : Nat) (ages : List Nat) : Nat := ((ages.filter fun a => decide (a ≤ n)).map fun a => 2 ^ (n - a)).sum
def masks (p : Ph) (n : Nat) : List Nat := if p.1 then p.2.map (msk n) else 2 ^ n :: p.2.map (msk n)
def behind (V : List Nat) (p : Ph) (n : Nat) (kept : Bool) : List Nat := if kept then (masks p n).foldl hvP (if p.1 then V else V ++ [2 ^ n]) else if p.1 then V else V ++ [2 ^ n]
def orv (V : List Nat) : Nat := V.foldl (fun a b => a ||| b) 0
section
variable (pl : Nat → Ph) (kp : Nat → Bool)
def vst : Nat → List Nat
  | 0 => []
  | n + 1 => behind (vst n) (pl n) n (kp n)
def kst : Nat → Nat → Option Nat
  | 0, _ => none
  | n + 1, r => if (decide (r ≤ n) && (!(pl r).1 && ((kst n r).isNone && !(orv (vst pl kp (n + 1))).testBit r))) = true then some n else kst n r
/-- all differences -/
def sst : Nat → List Nat
  | 0 => [0]
  | n + 1 => if kp n then (pl n).2.foldl (fun l ages => l.filter fun v => !pr (v &&& msk n ages)) (sst n) else if (pl n).1 then sst n else sst n ++ (sst n).map fun v => v ||| 2 ^ n
def lst : Nat → Nat → Option Nat
  | 0, _ => none
  | n + 1, r => if r = n ∧ kp n = true ∧ (pl n).1 = false then some n else if r ≤ n ∧ kp r = false ∧ (pl r).1 = false ∧ (lst n r).isNone = true ∧ ((sst pl kp (n + 1)).all fun v => !v.testBit r) = true then some n else lst n r
end
theorem orv_bit : ∀ (V : List Nat) (a r : Nat), (V.foldl (fun a b => a ||| b) a).testBit r = (a.testBit r || V.any fun v => v.testBit r)
  | [], a, r => by simp
  | v :: V, a, r => by
    rw [List.foldl_cons, orv_bit V, Nat.testBit_or, List.any_cons, Bool.or_assoc]
theorem orv_no {V : List Nat} {r : Nat} : (orv V).testBit r = false ↔ ∀ v ∈ V, v.testBit r = false := by
  unfold orv
  rw [orv_bit, Nat.zero_testBit, Bool.false_or, List.any_eq_false]
  exact ⟨fun h v hv => by have := h v hv; simpa using this, fun h v hv => by rw [h v hv]; decide⟩
theorem prF_two : ∀ n k, k < n → prF n (2 ^ k) = true
  | 0, k, h => by omega
  | n + 1, 0, _ => by
    show ((2 ^ 0).testBit 0 ^^ prF n (2 ^ 0 / 2)) = true
    rw [show (2 ^ 0 : Nat) / 2 = 0 from rfl, prF_zero]
    rfl
  | n + 1, k + 1, h => by
    show ((2 ^ (k + 1)).testBit 0 ^^ prF n (2 ^ (k + 1) / 2)) = true
    have e : 2 ^ (k + 1) / 2 = 2 ^ k := by rw [Nat.pow_succ]; omega
    have b : (2 ^ (k + 1)).testBit 0 = false := by rw [Nat.testBit_zero, Nat.pow_succ]; have : 2 ^ k * 2 % 2 = 0 := by omega
                                                   rw [this]; rfl
    rw [e, b, prF_two n k (by omega)]
    rfl
theorem pr_bit {x n : Nat} (h : n < 420) : pr (x &&& 2 ^ n) = x.testBit n := by
  have e : x &&& 2 ^ n = if x.testBit n = true then 2 ^ n else 0 := by
    apply Nat.eq_of_testBit_eq
    intro i
    rw [Nat.testBit_and, Nat.testBit_two_pow]
    by_cases c : n = i
    · subst c
      rw [decide_eq_true rfl, Bool.and_true]
      cases hb : x.testBit n
      · rw [if_neg Bool.false_ne_true, Nat.zero_testBit]
      · rw [if_pos rfl, Nat.testBit_two_pow_self]
    · rw [decide_eq_false c, Bool.and_false]
      split
      · rw [Nat.testBit_two_pow, decide_eq_false c]
      · rw [Nat.zero_testBit]
  rw [e]
  cases x.testBit n
  · rw [if_neg Bool.false_ne_true]
    exact prF_zero _
  · rw [if_pos rfl]
    exact prF_two 420 n h
theorem small_bit {x n : Nat} (h : x < 2 ^ n) : x.testBit n = false := Nat.testBit_lt_two_pow h
theorem or_new {v n : Nat} (h : v < 2 ^ n) : v ||| 2 ^ n = v ^^^ 2 ^ n := by
  apply Nat.eq_of_testBit_eq
  intro i
  rw [Nat.testBit_or, Nat.testBit_xor, Nat.testBit_two_pow]
  by_cases e : n = i
  · subst e
    rw [small_bit h, decide_eq_true rfl]
    rfl
  · rw [decide_eq_false e]
    cases v.testBit i <;> rfl
section
variable {pl pl' : Nat → Ph} {kp : Nat → Bool}
theorem behind_lt {V : List Nat} {p : Ph} {n : Nat} {k : Bool} (h : ∀ v ∈ V, v < 2 ^ n) : ∀ v ∈ behind V p n k, v < 2 ^ (n + 1) := by
  have up : ∀ v ∈ (if p.1 then V else V ++ [2 ^ n]), v < 2 ^ (n + 1) := fun v hv => by
    have p2 : 2 ^ (n + 1) = 2 * 2 ^ n := by rw [Nat.pow_succ, Nat.mul_comm]
    have p0 : 0 < 2 ^ n := Nat.two_pow_pos n
    have : v ∈ V ∨ v = 2 ^ n := by
      split at hv
      · exact .inl hv
      · rcases List.mem_append.mp hv with z | z
        · exact .inl z
        · exact .inr (List.mem_singleton.mp z)
    rcases this with z | z
    · have := h v z
      omega
    · omega
  unfold behind
  cases k with
  | false => exact up
  | true =>
    intro v hv
    have hv : v ∈ (masks p n).foldl hvP (if p.1 then V else V ++ [2 ^ n]) := hv
    exact sp_lt up (((hvs_sp _ _ v).mp (sp_mem hv)).1)
theorem vst_lt : ∀ n, ∀ v ∈ vst pl kp n, v < 2 ^ n
  | 0 => fun v h => by cases h
  | n + 1 => behind_lt (vst_lt n)
/-- what is let behind a slot -/
theorem behind_sp {V : List Nat} {p : Ph} {n : Nat} (h : ∀ v ∈ V, v < 2 ^ n) (n420 : n < 420) (x : Nat) (k : Bool) :
    Spn (behind V p n k) x ↔ (if k = true then Spn V x ∧ ∀ a ∈ p.2, pr (x &&& msk n a) = false else Spn V x ∨ (p.1 = false ∧ Spn V (x ^^^ 2 ^ n))) := by
  unfold behind
  cases k with
  | false =>
    rw [if_neg Bool.false_ne_true, if_neg Bool.false_ne_true]
    cases hm : p.1 with
    | true => simp
    | false => rw [if_neg Bool.false_ne_true, sp_snoc]; simp
  | true =>
    rw [if_pos rfl, if_pos rfl, hvs_sp]
    cases hm : p.1 with
    | true =>
      rw [if_pos rfl]
      unfold masks
      rw [if_pos hm]
      constructor
      · rintro ⟨a, b⟩
        exact ⟨a, fun z hz => b _ (List.mem_map.mpr ⟨z, hz, rfl⟩)⟩
      · rintro ⟨a, b⟩
        exact ⟨a, fun m hm => by obtain ⟨z, hz, rfl⟩ := List.mem_map.mp hm; exact b z hz⟩
    | false =>
      rw [if_neg Bool.false_ne_true, sp_snoc]
      unfold masks
      rw [if_neg (by rw [hm]; decide)]
      constructor
      · rintro ⟨a, b⟩
        have b0 := b _ List.mem_cons_self
        rw [pr_bit n420] at b0
        refine ⟨?_, fun z hz => b _ (List.mem_cons_of_mem _ (List.mem_map.mpr ⟨z, hz, rfl⟩))⟩
        rcases a with a | a
        · exact a
        · have := small_bit (sp_lt h a)
          rw [Nat.testBit_xor, b0, Nat.testBit_two_pow_self] at this
          cases this
      · rintro ⟨a, b⟩
        refine ⟨.inl a, fun m hm => ?_⟩
        rcases List.mem_cons.mp hm with rfl | hm
        · rw [pr_bit n420]
          exact small_bit (sp_lt h a)
        · obtain ⟨z, hz, rfl⟩ := List.mem_map.mp hm
          exact b z hz
theorem sieve : ∀ (as : List (List Nat)) (l : List Nat) (n x : Nat), x ∈ as.foldl (fun l ages => l.filter fun v => !pr (v &&& msk n ages)) l ↔ x ∈ l ∧ ∀ a ∈ as, pr (x &&& msk n a) = false
  | [], l, n, x => ⟨fun h => ⟨h, fun a ha => by cases ha⟩, fun h => h.1⟩
  | a :: as, l, n, x => by
    rw [List.foldl_cons, sieve as, List.mem_filter]
    constructor
    · rintro ⟨⟨h1, h2⟩, h3⟩
      exact ⟨h1, fun b hb => by rcases List.mem_cons.mp hb with rfl | hb; simpa using h2; exact h3 b hb⟩
    · rintro ⟨h1, h2⟩
      exact ⟨⟨h1, by rw [h2 a List.mem_cons_self]; rfl⟩, fun b hb => h2 b (List.mem_cons_of_mem _ hb)⟩
/-- the law's differences are the vectors' span -/
theorem sst_is (same : ∀ n, (pl n).1 = (pl' n).1 ∧ ∀ a, a ∈ (pl n).2 ↔ a ∈ (pl' n).2) : ∀ n, n ≤ 420 → ∀ x, x ∈ sst pl' kp n ↔ Spn (vst pl kp n) x
  | 0, _, x => by
    show x ∈ [0] ↔ Spn [] x
    exact List.mem_singleton
  | n + 1, hn, x => by
    have ih := sst_is same n (by omega)
    have lt := vst_lt (pl := pl) (kp := kp) n
    show x ∈ (if kp n then _ else _) ↔ Spn (behind _ _ _ _) x
    rw [behind_sp lt (by omega)]
    cases kp n with
    | true =>
      rw [if_pos rfl, if_pos rfl, sieve, ih]
      constructor
      · rintro ⟨a, b⟩
        exact ⟨a, fun z hz => b z (((same n).2 z).mp hz)⟩
      · rintro ⟨a, b⟩
        exact ⟨a, fun z hz => b z (((same n).2 z).mpr hz)⟩
    | false =>
      rw [if_neg Bool.false_ne_true, if_neg Bool.false_ne_true, (same n).1]
      cases hm : (pl' n).1 with
      | true =>
        rw [if_pos rfl, ih]
        constructor
        · exact .inl
        · rintro (h | ⟨h, _⟩)
          · exact h
          · cases h
      | false =>
        rw [if_neg Bool.false_ne_true, List.mem_append, ih, List.mem_map]
        constructor
        · rintro (h | ⟨v, hv, rfl⟩)
          · exact .inl h
          · have sv := (ih v).mp hv
            refine .inr ⟨rfl, ?_⟩
            rw [or_new (sp_lt lt sv), xx_cancel]
            exact sv
        · rintro (h | ⟨_, h⟩)
          · exact .inl h
          · refine .inr ⟨x ^^^ 2 ^ n, (ih _).mpr h, ?_⟩
            rw [or_new (sp_lt lt h), xx_cancel]
theorem kst_late : ∀ n r, n ≤ r → kst pl kp n r = none
  | 0, r, _ => rfl
  | n + 1, r, h => by
    show (if (decide (r ≤ n) && _) = true then some n else kst pl kp n r) = none
    rw [decide_eq_false (by omega), Bool.false_and, if_neg Bool.false_ne_true, kst_late n r (by omega)]
theorem det_is {n r : Nat} : (orv (vst pl kp n)).testBit r = false ↔ ∀ x, Spn (vst pl kp n) x → x.testBit r = false := orv_no.trans knows_sp
/-- a row that is kept is known at once -/
theorem kst_kept {n : Nat} (n420 : n < 420) (hk : kp n = true) (hm : (pl n).1 = false) : kst pl kp (n + 1) n = some n := by
  have lt := vst_lt (pl := pl) (kp := kp) n
  have d : (orv (vst pl kp (n + 1))).testBit n = false := det_is.mpr fun x hx => by
    have hx : Spn (behind _ _ _ _) x := hx
    rw [behind_sp lt n420, hk, if_pos rfl] at hx
    exact small_bit (sp_lt lt hx.1)
  show (if (decide (n ≤ n) && (!(pl n).1 && ((kst pl kp n n).isNone && !(orv (vst pl kp (n + 1))).testBit n))) = true then some n else kst pl kp n n) = some n
  rw [kst_late n n (Nat.le_refl n), d, hm, decide_eq_true (Nat.le_refl n)]
  rfl
theorem kst_stays {n r v : Nat} (h : kst pl kp n r = some v) : kst pl kp (n + 1) r = some v := by
  show (if (decide (r ≤ n) && (!(pl r).1 && ((kst pl kp n r).isNone && _))) = true then some n else kst pl kp n r) = some v
  rw [h]
  simp
theorem kst_on {n m r v : Nat} (h : kst pl kp n r = some v) (l : n ≤ m) : kst pl kp m r = some v := by
  induction m with
  | zero =>
    obtain rfl : n = 0 := by omega
    exact h
  | succ m ih =>
    rcases Nat.lt_or_ge m n with z | z
    · obtain rfl : n = m + 1 := by omega
      exact h
    · exact kst_stays (ih z)
/-- both tell the same -/
theorem lst_is (same : ∀ n, (pl n).1 = (pl' n).1 ∧ ∀ a, a ∈ (pl n).2 ↔ a ∈ (pl' n).2) : ∀ n, n ≤ 420 → ∀ r, lst pl' kp n r = kst pl kp n r
  | 0, _, r => rfl
  | n + 1, hn, r => by
    have ih := lst_is same n (by omega)
    show (if r = n ∧ kp n = true ∧ (pl' n).1 = false then some n else if r ≤ n ∧ kp r = false ∧ (pl' r).1 = false ∧ (lst pl' kp n r).isNone = true ∧ ((sst pl' kp (n + 1)).all fun v => !v.testBit r) = true then some n else lst pl' kp n r) = _
    by_cases c : r = n ∧ kp n = true ∧ (pl' n).1 = false
    · obtain ⟨rfl, c1, c2⟩ := c
      rw [if_pos ⟨rfl, c1, c2⟩, kst_kept (by omega) c1 ((same r).1.trans c2)]
    rw [if_neg c, ih]
    show _ = (if (decide (r ≤ n) && (!(pl r).1 && ((kst pl kp n r).isNone && !(orv (vst pl kp (n + 1))).testBit r))) = true then some n else kst pl kp n r)
    have dd : ((sst pl' kp (n + 1)).all fun v => !v.testBit r) = true ↔ (orv (vst pl kp (n + 1))).testBit r = false := by
      rw [det_is, List.all_eq_true]
      exact ⟨fun h x hx => by simpa using h x ((sst_is same (n + 1) hn x).mpr hx), fun h x hx => by rw [h x ((sst_is same (n + 1) hn x).mp hx)]; rfl⟩
    by_cases c2 : (decide (r ≤ n) && (!(pl r).1 && ((kst pl kp n r).isNone && !(orv (vst pl kp (n + 1))).testBit r))) = true
    · have c3 := c2
      simp only [Bool.and_eq_true, decide_eq_true_iff, Bool.not_eq_true', Option.isNone_iff_eq_none] at c3
      obtain ⟨h1, h2, h3, h4⟩ := c3
      have lost : kp r = false := by
        cases hk : kp r with
        | false => rfl
        | true =>
          rcases Nat.lt_or_ge r n with z | z
          · have := kst_on (kst_kept (pl := pl) (kp := kp) (n := r) (by omega) hk h2) (show r + 1 ≤ n by omega)
            rw [h3] at this
            cases this
          · obtain rfl : r = n := by omega
            exact absurd ⟨rfl, hk, (same r).1.symm.trans h2⟩ c
      rw [if_pos ⟨h1, lost, (same r).1.symm.trans h2, by rw [h3]; rfl, dd.mpr h4⟩, if_pos c2]
    · rw [if_neg c2, if_neg]
      rintro ⟨h1, h2, h3, h4, h5⟩
      refine c2 ?_
      rw [decide_eq_true h1, (same r).1, h3, h4, dd.mp h5]
      rfl
/-- what comes later changes nothing ahead of it -/
theorem vst_same {kp' : Nat → Bool} : ∀ n, (∀ i, i < n → kp i = kp' i) → vst pl kp n = vst pl kp' n
  | 0, _ => rfl
  | n + 1, h => by
    show behind _ _ _ (kp n) = behind _ _ _ (kp' n)
    rw [vst_same n (fun i hi => h i (by omega)), h n (Nat.lt_succ_self n)]
theorem kst_same {kp' : Nat → Bool} : ∀ n, (∀ i, i < n → kp i = kp' i) → ∀ r, kst pl kp n r = kst pl kp' n r
  | 0, _, r => rfl
  | n + 1, h, r => by
    show (if _ then _ else _) = (if _ then _ else _)
    rw [kst_same n (fun i hi => h i (by omega)) r, vst_same (n + 1) h]
theorem vst_len : ∀ n, (vst pl kp n).length ≤ n
  | 0 => Nat.le_refl 0
  | n + 1 => by
    have ih := vst_len n
    have up : (if (pl n).1 then vst pl kp n else vst pl kp n ++ [2 ^ n]).length ≤ n + 1 := by
      split
      · omega
      · rw [List.length_append]
        show _ + 1 ≤ _
        omega
    have fold : ∀ (ms l : List Nat), (ms.foldl hvP l).length ≤ l.length := fun ms => by
      induction ms with
      | nil => exact fun l => Nat.le_refl _
      | cons m ms ih => exact fun l => Nat.le_trans (ih _) (hvP_len l m)
    show (behind _ _ _ _).length ≤ n + 1
    unfold behind
    cases kp n with
    | false => exact up
    | true => exact Nat.le_trans (fold _ _) up
end
end Kn
namespace K19
open PySem L2 Evl Gr StX EnT Kn
section
variable {P : Program} {w : World} {K : PySem.W.Frag} {mg : Str → Option Value} {base : Heap}
/-! ### is_odd -/
abbrev sOdd : Stmt := top 29
def spOdd : Sp := fun vs H Q _ => ∃ v : Nat, vs = [.int (v : Int)] ∧ v < 2 ^ 420 ∧ RetV (.bl (pr v)) H Q
theorem scOdd : FnScope ["vector", "rest", "parity"] ["vector"] (defScope sOdd) := ⟨rfl, rfl, rfl, by decide +kernel, rfl, by decide +kernel, by decide +kernel⟩
theorem ok_Odd {f : Addr} {fd : FuncData} (F : Fun K "is_odd" "is_odd" sOdd f fd) : FnOk P w K mg base CX0 1 f fd ["vector"] spOdd := by
  refine F.ok scOdd (fun vs H Q E h => ?_) (fun cdv A outer s H vs Q E hr h => ?_)
  · obtain ⟨v, rfl, _⟩ := h
    rfl
  · obtain ⟨v, rfl, hv, k⟩ := h
    refine ⟨_, pss_cons (ps_set (i := 1) scOdd.nd rfl (.inl rfl) (pv 0)) (pss_cons (ps_set (i := 2) scOdd.nd rfl (.inl rfl) pe_bl)
      (pss_cons (ps_while PassesOwn.never (pt_cmpR op_gt (pv 1) pe_int (nomark _)) (pss_cons (ps_set (i := 1) scOdd.nd rfl (.inl rfl) (pe_op op_and (pv 1) (pe_op op_sub (pv 1) pe_int)))
        (pss_one (ps_set (i := 2) scOdd.nd rfl (.inl rfl) (pe_not (pv 2))))))
      (pss_one (ps_ret (pv 2))))), ?_⟩
    refine q_asg (ev_var rfl) fun H1 e1 => q_asg ev_c fun H2 e2 => ?_
    refine q_while (fun u σ' H' => ∃ (n : Nat) (b : Bool), u = n ∧ n < 2 ^ 420 ∧ σ' = [some (.int (v : Int)), some (.int (n : Int)), some (.bl b)] ∧ (b ^^ pr n) = pr v ∧ Ex H H') v ⟨v, false, rfl, hv, rfl, by simp, e1.trans e2⟩ ?_
    rintro n σ' H3 ⟨_, b, rfl, hn, rfl, hb, e3⟩
    refine ⟨_, et_test (ev_op (ev_var rfl) ev_c rv_I0), fun ht H4 e4 => ?_, fun ht H4 e4 => ?_⟩
    · have n0 : 0 < n := by have := of_decide_eq_true ht; omega
      have hs := pr_less (by omega) hn
      have le : n &&& (n - 1) ≤ n - 1 := Nat.and_le_right
      refine ⟨fun σ' H' => σ' = [some (.int (v : Int)), some (.int ((n &&& (n - 1) : Nat) : Int)), some (.bl (!b))] ∧ Ex H H', fun σ2 H5 h5 => ⟨n &&& (n - 1), by omega, _, _, rfl, Nat.lt_of_le_of_lt le (by omega), h5.1, by rw [hs, ← hb]; exact (by decide : ∀ x y : Bool, (!x ^^ !y) = (x ^^ y)) b (pr n), h5.2⟩, ?_⟩
      refine q_asg (v := .int ((n &&& (n - 1) : Nat) : Int)) (ev_and (ev_var rfl) (ev_is (ev_op (ev_var rfl) ev_c rv_I0) (by congr 1; omega))) fun H5 e5 => ?_
      exact s_asg (ev_notV (ev_var rfl)) fun H6 e6 => ⟨rfl, ((e3.trans e4).trans e5).trans e6⟩
    · have n0 : n = 0 := by have := of_decide_eq_false ht; omega
      subst n0
      refine s_ret (ev_is (ev_var rfl) ?_) fun H5 e5 => k H5 ((e3.trans e4).trans e5)
      rw [← hb, par_pr.zero, Bool.xor_false]
/-! ### heard_vectors -/
abbrev sHear : Stmt := top 30
abbrev nHear : List Str := ["vectors", "mask", "odd", "even", "vector"]
theorem and_lt {a b : Nat} (h : a < 2 ^ 420) : a &&& b < 2 ^ 420 := Nat.lt_of_le_of_lt Nat.and_le_left h
def spHear (K : PySem.W.Frag) : Sp := fun vs H Q _ => ∃ (a : Addr) (l : List Nat) (m : Nat), vs = [.ref a, .int (m : Int)] ∧ SqL K H a (vN l) ∧ (∀ v ∈ l, v < 2 ^ 420) ∧ l.length ≤ 1000 ∧
  ∀ p H', H p = none → Ex H H' → H' p = some (.lst (vN (hvP l m))) → Q (.ref p) H'
theorem scHear : FnScope nHear ["vectors", "mask"] (defScope sHear) := ⟨rfl, rfl, rfl, by decide +kernel, rfl, by decide +kernel, by decide +kernel⟩
theorem spv_odd {v : Nat} {H : Hp} (hv : v < 2 ^ 420) : SpV spOdd [.int (v : Int)] H (.bl (pr v)) := fun H1 e Q q E => ⟨v, rfl, hv, q⟩
theorem ok_Hear {f fO : Addr} {fd fdO : FuncData} (F : Fun K "heard_vectors" "heard_vectors" sHear f fd)
    (GO : FnOk P w K mg base CX0 1 fO fdO ["vector"] spOdd) (kO : PySem.W.keepIn K (.ref fO) = true) (bO : Binds K fdO ["vector"] []) (gO : mg "is_odd" = some (.ref fO)) : FnOk P w K mg base CX0 2 f fd ["vectors", "mask"] (spHear K) := by
  refine F.ok scHear (fun vs H Q E h => ?_) (fun cdv A outer s H vs Q E hr h => ?_)
  · obtain ⟨a, l, m, rfl, _⟩ := h
    rfl
  · obtain ⟨a, l, m, rfl, hL, hl, hz, k⟩ := h
    refine ⟨_, pss_cons (ps_set (i := 2) scHear.nd rfl (.inr rfl) (pe_lc (own := [("vector", 4)]) (g := gName 4) rfl scHear.nd (pi_list (pv 0)) (blkOk_by (own := [("vector", 4)]) (N := nHear) (sc := defScope sHear) (by decide +kernel))
        (fun _ _ _ _ _ => pg_name (i := 4) scHear.nd rfl (Or.inl rfl)) (fun _ _ _ _ _ => pts_one (pt_val (pe_call GO hr (by rfl) gO kO bO .nil pass0 (pa_cons (pe_op op_and (pv 4) (pv 1)) pa_nil)))) (fun _ _ _ _ _ => pv 4)))
      (pss_cons (ps_setLc (i := 3) (own := [("vector", 4)]) (g := gName 4) rfl scHear.nd rfl (by rfl) (by rfl) (pi_list (pv 0)) (blkOk_by (own := [("vector", 4)]) (N := nHear) (sc := defScope sHear) (by decide +kernel))
        (fun _ _ _ _ _ => pg_name (i := 4) scHear.nd rfl (Or.inl rfl)) (fun _ _ _ _ _ => pts_one (pt_not (pt_val (pe_call GO hr (by rfl) gO kO bO .nil pass0 (pa_cons (pe_op op_and (pv 4) (pv 1)) pa_nil))))) (fun _ _ _ _ _ => pv 4))
      (pss_one (ps_ret (pe_op op_cat (pv 3) (pe_lc (own := [("vector", 4)]) (g := gName 4) rfl scHear.nd (pi_list (pe_slice sl_list (pv 2) (po_some pe_int) po_none)) (blkOk_by (own := [("vector", 4)]) (N := nHear) (sc := defScope sHear) (by decide +kernel))
        (fun _ _ _ _ _ => pg_name (i := 4) scHear.nd rfl (Or.inl rfl)) (fun _ _ _ _ _ => pts_nil) (fun _ _ _ _ _ => pe_op op_xor (pv 4) (pe_ix (show IxR _ (rIxL K) from ix_list) (pv 2) pe_int (fun _ _ => rfl)))))))), ?_⟩
    have evo : ∀ {n : Nat} {H1 : Hp} {σ : L2.St}, n ∈ l → σ[4]? = some (some (.int (n : Int))) → σ[1]? = some (some (.int (m : Int))) → Ev (tCall spOdd [] E0 (tCons (tOp (rI0 fun i j => .int (Builtin.bitAnd i j)) (tVar 4) (tVar 1)) tNil)) σ H1 (.bl (pr (n &&& m))) :=
      fun hn h4 h1 => ev_call (ea_cons (ev_and (ev_var h4) (ev_var h1)) ea_nil) (spv_odd (and_lt (hl _ hn)))
    refine q_asgL (xs := vN (odsP l m)) (by
      have c := el_nums (K := K) (σ := [some (.ref a), some (.int (m : Int)), none, none, none]) (H := H) (t := tB (tCall spOdd [] E0 (tCons (tOp (rI0 fun i j => .int (Builtin.bitAnd i j)) (tVar 4) (tVar 1)) tNil))) (te := tVar 4) (tl := tVar 0) (a := a) (l := l) (j := 4) (vs := [4]) (fun n => pr (n &&& m)) (fun n => n)
        (ev_var rfl) hL (by omega) (fun _ => rfl) (fun n hn H1 e => et_B (evo hn rfl rfl)) (fun n hn H1 e _ => ev_var rfl)
      rw [map_idN] at c
      exact c) fun o H1 ho e1 h1 => ?_
    refine q_asgL (xs := vN (l.filter fun v => !pr (v &&& m))) (by
      have c := el_nums (K := K) (σ := [some (.ref a), some (.int (m : Int)), some (.ref o), none, none]) (H := H1) (t := tNot (tB (tCall spOdd [] E0 (tCons (tOp (rI0 fun i j => .int (Builtin.bitAnd i j)) (tVar 4) (tVar 1)) tNil)))) (te := tVar 4) (tl := tVar 0) (a := a) (l := l) (j := 4) (vs := [4]) (fun n => !pr (n &&& m)) (fun n => n)
        (ev_var rfl) (ex_l e1 hL) (by omega) (fun _ => rfl) (fun n hn H2 e => et_not (et_B (evo hn rfl rfl))) (fun n hn H1 e _ => ev_var rfl)
      rw [map_idN] at c
      exact c) fun u H2 hu e2 h2 => ?_
    have ho2 := e2 _ _ h1
    have lo : (odsP l m).length ≤ 1000 := Nat.le_trans (List.length_filter_le _ _) hz
    have c3 := el_sl (K := K) (σ := [some (.ref a), some (.int (m : Int)), some (.ref o), some (.ref u), none]) (H := H2) (te := tVar 2) (tl := tPart (tC (.int 1))) (th := tNoPart) (lo := some ((1 : Nat) : Int)) (hi := none) (ev_var rfl) (eo_some ev_c) eo_none (sq_of ho2)
    have cd : cutV (vN (odsP l m)) (some ((1 : Nat) : Int)) none = vN ((odsP l m).drop 1) := by
      by_cases h : 1 ≤ (odsP l m).length
      · rw [cut_drop (by rw [zI_len]; exact h)]
        show vI ((zI (odsP l m)).drop 1) = vI (zI ((odsP l m).drop 1))
        unfold zI
        rw [← List.map_drop]
      · have : odsP l m = [] := List.length_eq_zero_iff.mp (by omega)
        rw [this]
        rfl
    rw [cd] at c3
    have c4 := el_numsN (K := K) (σ := [some (.ref a), some (.int (m : Int)), some (.ref o), some (.ref u), none]) (H := H2) (t := tYes) (te := tOp (rI0 fun i j => .int (Builtin.bitXor i j)) (tVar 4) (tOp (rIxL K) (tVar 2) (tC (.int 0)))) (j := 4) (vs := [4]) (fun _ => true) (fun n => n ^^^ ((odsP l m).headD 0)) c3 (by rw [List.length_drop]; omega) (fun _ => rfl) (fun n hn H3 e => et_none)
      (fun n hn H3 e _ => ev_xor (ev_var rfl) (ev_op (ev_var rfl) ev_c (rv_ixL (sq_of (e _ _ ho2)) (by
        cases hq : odsP l m with
        | nil => rw [hq] at hn; exact absurd hn (by simp)
        | cons x r => exact atI_nat (j := 0) (show (vN (x :: r))[0]? = _ from rfl)))))
    rw [filter_yes] at c4
    refine s_retL (el_catV (ev_var rfl) h2 c4 (by rw [List.length_map, List.length_drop]; have := List.length_filter_le (fun v => !pr (v &&& m)) l; omega)) fun p H3 hp e3 h3 => ?_
    exact k p H3 (fresh_back (e1.trans e2) hp) ((e1.trans e2).trans e3) h3
end
end K19
/-! C.m(k = v) of a class method; x(e, ..), x a name of the def that holds a class -/
namespace ClK
open PySem PySem.Spec PyProof.Rows L2 ClX StX
section
variable {X : Cx} {CX : CXT} {k : Nat} {C p g f : Addr} {mc : Value} {fd : FuncData} {ps ks : List Str} {sp : Sp} {E : XK} {o e : Expr} {es : List Expr} {x m : Str} {pos apos p1 : Pos} {ta : TE} {tk t : TA} {pl : Sem Bool} {kws : List Keyword} {gg : List Value → List Value → List Value} {gV : List V → List V → List V} {i : Nat}
/-- C.m(k = v, ..), keywords alone, m a class method -/
theorem pe_cmethK (he : PE X o ta) (r : CRead X.K C mc) (c : CMet X.K C mc m p g) (F : FnOk X.prog X.w X.K X.mg X.base CX k g fd ps sp) (hr : Room k X.A) (hx : Passes CX X E) (hb : KBn X.K fd ps 1 ks gg gV) (hkw : PK X kws tk)
    (some_ : (backToKw pos (keywordEach kws X.env)).all (·.1.isSome) = true := by rfl) (names : (backToKw pos (keywordEach kws X.env)).filterMap (·.1) = ks := by rfl)
    (none_ : ((backTo pos (starEach [] X.env)).any (·.1) || (backToKw pos (keywordEach kws X.env)).any (·.1.isNone)) = false := by rfl)
    (form : eval (.Call (.Attribute o m apos) [] kws pos) X.env = (do let ov ← eval o X.env; standAt apos.atName; let (f, first) ← holding [ov] (getMethod ov m pl); callWith pos f first (backTo pos (starEach [] X.env)) (backToKw pos (keywordEach kws X.env))) := by rfl) :
    PE X (.Call (.Attribute o m apos) [] kws pos) (fun σ H Q => ta σ H fun x H1 => x = .ref C ∧ tk σ H1 fun zs H2 => zs.length = ks.length ∧ sp (gV [.ref C] zs) H2 Q E) := by
  refine ⟨fun pins s σ H Q I h => PySem.W.methodCall_KW (pl := pl) (thn (he.run pins s σ H _ I h) fun u s1 ⟨x, H1, I1, rx, ex, q⟩ => ?_) form⟩
  subst ex
  cases (show u = Value.ref C from rx)
  refine getmethcm_ok I1 r c fun s2 I2 => ?_
  refine PySem.W.callWith_of (P := PySem.W.MethP X.K s1.heap.objs.size g (.ref C)) none_ (PySem.W.keeps_M c.fi) (PyProof.Rows.evalArgs_kw2_nil some_ (thn (hkw.run pos _ s2 σ H1 _ I2 q) fun ws s3 ⟨zs, H2, I3, rz, l2, q2⟩ => ⟨⟨pin_at I3, I3.kIn⟩, ?_⟩))
  rw [names]
  have went : wpAny (model X.prog X.w) X.A (call (.ref s1.heap.objs.size) [] (ks.zip ws)) (EP X ((s1.heap.objs.size, PySem.W.methodObj (.ref g) (.ref C)) :: pins) σ Q) X.xe s3 := by
    refine wpAny_call (PySem.W.method_call (pin_at I3) (codeAny_mono (F.run X.A X.stack s3 H2 ⟨[.ref C], ks.zip ws⟩ (gg [.ref C] ws) (gV [.ref C] zs) Q E hr I3.env0 (hb.to s3 [.ref C] ws I3.kIn rfl (rz.length.symm.trans l2)) (hb.rel (.cons rfl .nil) rz) q2) fun r s' back => ?_))
    match r, back with
    | .error er, z => exact hx _ _ _ _ _ _ I3 z
    | .ok (.ret u), z => exact I3.after z
    | .ok .next, z => exact z.elim
    | .ok .brk, z => exact z.elim
    | .ok .cont, z => exact z.elim
  exact thn went fun _ _ y => unpinE y
/-- x(e, ..), x a name of the def (slot i) that holds the class at C -/
def tMakeL (i : Nat) (C : Addr) (sp : Sp) (E : XK) (t : TA) : TE := fun σ H Q => σ[i]? = some (some (.ref C)) ∧ tMakeR C sp E t σ H Q
theorem pe_makeL (M : Mk X.K C f) (F : FnR X.prog X.w X.K X.mg X.base CX k f sp) (hr : Room (k + 1) X.A) (hN : X.N[i]? = some x) (hv : Vis X.env.scope x) (hx : Passes CX X E) (ha : PA X (e :: es) t)
    (notDebug : (x == ("__debug__" : Str)) = false := by decide) (notDict : (x == ("__classdict__" : Str)) = false := by decide)
    (head : starEach (e :: es) X.env = (false, eval e X.env) :: starEach es X.env := by rfl) (plain : (backTo pos (starEach es X.env)).any (·.1) = false := by rfl) : PE X (.Call (.Name x p1) (e :: es) [] pos) (tMakeL i C sp E t) := by
  refine ⟨fun pins s σ H Q I ⟨hs, h⟩ => ?_⟩
  refine wpAny_Call_Name_kw (thn ((pe_var (pos := p1) (i := i) hN hv notDebug notDict).run pins s σ H (fun v H1 => v = .ref C ∧ H1 = H) I ⟨.ref C, hs, rfl, rfl⟩) fun u s1 ⟨v, H1, I1, r1, ev, eH⟩ => ?_)
  subst ev eH
  cases (show u = Value.ref C from r1)
  exact PySem.W.callWith_K (h₀ := X.base) I1.ok.mod.kin M.kp (thn (ha.run pos pins s1 σ _ _ I1 h) fun us s2 ⟨vs, H2, I2, r, q⟩ => ⟨I2.kIn, run_makeR M F hr hx I2 r q⟩) head plain
end
/-- nothing is let out where nothing is wished -/
theorem passN {P : Program} {w : World} {X : Cx} (hp : X.prog = P) (hw : X.w = w) : Passes (L2.CX P w) X E0 := fun _ _ _ _ _ _ _ ⟨_, _, _, _, _, _, _, _, _, _, _, _, z⟩ => z.elim
end ClK
/-! operators of own classes, for instances with a dict or with slots -/
namespace OpX
open PySem PySem.Spec PyProof.Rows L2 StX
section
variable {prog : Program} {w : World} {A : Around} {E : Value → Shared → Prop} {s : Shared} {K : PySem.W.Frag} {x y C f L : Addr} {h₀ : Heap} {m : Str → Option Value} {ox oy : Obj} {od od' : Option Obj}
/-- some answer came -/
def Told (Q : Value → Shared → Prop) (r : Option Value) (s' : Shared) : Prop := ∃ v, r = some v ∧ Q v s'
/-- what an operator's first try told is the operator's word -/
theorem told_pure {M : Model} {B : Around} {F : Value → Shared → Prop} {Q : Value → Shared → Prop} {t : Sem (Option Value)} {k : Option Value → Sem Value} {s' : Shared} (h : wpAny M B t (Told Q) F s') (hk : ∀ v, k (some v) = pure v) : wpAny M B (t >>= k) Q F s' :=
  wpAny_bind (wpAny_mono h (fun r s'' ⟨v, e, q⟩ => by rw [e, hk]; exact wpAny_pure q) fun _ _ z => z)
open Builtin in
/-- object's own != asks the class's == and turns its bool about -/
theorem turned {Q : Value → Shared → Prop} {b : Value} (hu : A.in1.units < cLine) (X : K.In s.heap) (I : PySem.W.InstAt s.heap x ox C od) (hm : PySem.W.mroIn K C (.type "object") = some true)
    (hs : PySem.W.findIn K (.ref C) "__eq__" = some (some (.ref f))) (hf : PySem.W.isFn K (.ref f) = true)
    (h : wpAny (model prog w) A.in1 (call (.ref f) [.ref x, b]) (fun r s' => ∃ c, r = .bool c ∧ Q (.bool (!c)) s') E s) : wpAny (model prog w) A (call (.builtin "object.__ne__") [.ref x, b]) Q E s := by
  refine wpAny_call (codeAny_call_builtin PySem.F.slot_object_ne.plain PySem.F.entry_object_ne (PySem.W.check_slot (i := "object.__ne__") (owner := "object") (n := "__ne__") (by decide +kernel) (by decide +kernel) (I.type.andThen (PySem.W.looks_mroIn X hm)) (PySem.F.args_object_ne_2 _ _) ?_))
  show wpAny _ _ (Builtin.«object.__ne__» _) _ _ _
  unfold Builtin.«object.__ne__»
  exact wpAny_bind (m := slotArgs "__ne__" 1 _) (wpAny_pure (wpAny_bind (m := cRoomFor _ _) (wpAny_cRoomFor hu (wpAny_bind (m := callSpecialIfBound? (.ref x) (Str.ofString "__eq__") _)
    (PySem.W.ifBound_K X I hs hf (wpAny_mono h (fun r s' ⟨c, e, q⟩ => by
      subst e
      exact wpAny_bind (m := truthy (.bool c)) (wpAny_truthy_bool (wpAny_pure q))) fun _ _ z => z))))))
/-- x != y, both of one class that has an own == and object's != -/
theorem ne_same {Q : Value → Shared → Prop} (hu : A.units < cLine) (hu1 : A.in1.units < cLine) (X : K.In s.heap) (I : PySem.W.InstAt s.heap x ox C od) (J : PySem.W.InstAt s.heap y oy C od')
    (hne : PySem.W.findIn K (.ref C) "__ne__" = some (some (.builtin "object.__ne__"))) (hm : PySem.W.mroIn K C (.type "object") = some true) (hs : PySem.W.findIn K (.ref C) "__eq__" = some (some (.ref f))) (hf : PySem.W.isFn K (.ref f) = true)
    (h : wpAny (model prog w) A.in1 (call (.ref f) [.ref x, .ref y]) (fun r s' => ∃ c, r = .bool c ∧ Q (.bool (!c)) s') E s) : wpAny (model prog w) A (richCompare .NotEq (.ref x) (.ref y)) Q E s := by
  have word := turned (Q := fun v s' => Q v s' ∧ ∃ c, v = .bool c) hu1 X I hm hs hf (wpAny_mono h (fun r s' ⟨c, e, q⟩ => ⟨c, e, q, _, rfl⟩) fun _ _ z => z)
  have bnd : PySem.W.Looks (model prog w) s.heap (bindSpecial (.builtin "object.__ne__") (.ref x)) (.builtin "object.__ne__", [.ref x]) := PySem.W.Looks.of_pure (PySem.F.slot_object_ne.bind _)
  have asked : wpAny (model prog w) A (call (.builtin "object.__ne__") ([.ref x] ++ [.ref y]) >>= fun v => pure (some v)) (Told fun v s' => Q v s' ∧ ∃ c, v = .bool c) E s := wpAny_bind (wpAny_mono word (fun v s' q => wpAny_pure ⟨v, rfl, q⟩) fun _ _ z => z)
  have tried : wpAny (model prog w) A (tryCompare (.ref x) (cmpInfo .NotEq).2.1 (.ref y)) (Told Q) E s := by
    unfold tryCompare callSpecialIfBound? bindSpecialIfBound?
    refine wpAny_bind (wpAny_holding (wpAny_bind (wpAny_bind (wpAny_bind (I.type.here ((PySem.W.looks_findIn X hne).here (wpAny_bind (wpAny_askSetting (wpAny_ite ?_)))))))))
    split
    · refine wpAny_bind (bnd.here (wpAny_pure ?_))
      exact wpAny_mono asked (fun r s' ⟨v, e, q, c, ec⟩ => by
        subst e ec
        exact wpAny_pure ⟨_, rfl, q⟩) fun _ _ z => z
    · refine wpAny_tryCatch (wpAny_bind (bnd.here (wpAny_pure ?_)))
      exact wpAny_mono asked (fun r s' ⟨v, e, q, c, ec⟩ => by
        subst e ec
        exact wpAny_pure ⟨_, rfl, q⟩) fun _ _ z => z
  have same : (Value.ref C != Value.ref C) = false := by simp
  unfold richCompare
  rw [oneThing_ref]
  refine wpAny_holding (wpAny_bind (wpAny_cRoomFor hu (wpAny_bind (I.type.here (wpAny_bind (J.type.here ?_))))))
  rw [same, if_neg Bool.false_ne_true]
  exact wpAny_bind (wpAny_pure (told_pure tried fun _ => rfl))
end
section
variable {X : Cx} {CX : CXT} {n : Nat} {C g : Addr} {sp : Sp} {E : XK}
/-- x op y: both of the class at C -/
def rS (X : Cx) (C : Addr) (sp : Sp) (E : XK) : R2 := fun x y H Q => ∃ a b, x = .ref a ∧ y = .ref b ∧ InsC X H a C ∧ InsC X H b C ∧ sp [.ref a, .ref b] H Q E
/-- x op i: x of the class at C, i an int -/
def rI (X : Cx) (C : Addr) (sp : Sp) (E : XK) : R2 := fun x y H Q => ∃ a i, x = .ref a ∧ y = .int i ∧ InsC X H a C ∧ sp [.ref a, .int i] H Q E
/-- i op x: the reflected one -/
def rR (X : Cx) (C : Addr) (sp : Sp) (E : XK) : R2 := fun x y H Q => ∃ a i, x = .int i ∧ y = .ref a ∧ InsC X H a C ∧ sp [.ref a, .int i] H Q E
/-- the def of an operator -/
structure Has (K : PySem.W.Frag) (C g : Addr) (name : Str) : Prop where
  at_ : PySem.W.findIn K (.ref C) name = some (some (.ref g))
  fn : PySem.W.isFn K (.ref g) = true
theorem run_own {pins : List (Addr × Obj)} {σ : L2.St} {H : Hp} {s : Shared} {Q : VK} {us : List Value} {vs : List V} (F : FnR X.prog X.w X.K X.mg X.base CX n g sp) (hr : Room n X.A) (hx : Passes CX X E) (I : Inv X pins σ H s) (r : Vals vs us)
    (q : sp vs H Q E) : wpAny (model X.prog X.w) X.A (call (.ref g) us) (PySem.W.CmpBack (EP X pins σ Q)) X.xe s := by
  refine wpAny_mono (wpAny_call (run_fnR F hr hx I r q)) (fun w s' z => ?_) fun _ _ x => x
  obtain ⟨z', H', I', rz, qz⟩ := z
  exact SlX.cmpback rz ⟨z', H', I', rz, qz⟩
theorem op_binS {op : Operator} (hc : PySem.W.selfFirst X.K C = true) (h : Has X.K C g (PySem.dunder op.info.2)) (F : FnR X.prog X.w X.K X.mg X.base CX n g sp) (hr : Room n X.A) (hx : Passes CX X E) :
    OpR X (binaryOp op) (rS X C sp E) := by
  intro pins s σ H x y v u Q I rx ry hq
  obtain ⟨a, b, rfl, rfl, ha, hb, q⟩ := hq
  cases (show v = Value.ref a from rx)
  cases (show u = Value.ref b from ry)
  obtain ⟨ox, od, J, _⟩ := insC_at I ha
  obtain ⟨ox', od', J', _⟩ := insC_at I hb
  obtain ⟨m, hF⟩ := I.fr
  exact PySem.W.binop_K hF I.ok.mod.kin J J'.type hc h.at_ h.fn (run_own (us := [.ref a, .ref b]) (vs := [.ref a, .ref b]) F hr hx I (.cons rfl (.cons rfl .nil)) q)
theorem op_binI {op : Operator} {fo ro rc : Option Value} (hc : PySem.W.selfFirst X.K C = true) (h : Has X.K C g (PySem.dunder op.info.2)) (hrf : PySem.W.findIn X.K (.ref C) (dunderR op.info.2) = some rc) (hp : rc = none ∨ ∃ g : Addr, rc = some (.ref g))
    (h1 : PySem.W.findIn X.K (.type "int") (PySem.dunder op.info.2) = some fo) (h2 : PySem.W.findIn X.K (.type "int") (dunderR op.info.2) = some ro) (hsub : PySem.W.subIn X.K (.type "int") (.ref C) = some false)
    (F : FnR X.prog X.w X.K X.mg X.base CX n g sp) (hr : Room n X.A) (hx : Passes CX X E) : OpR X (binaryOp op) (rI X C sp E) := by
  intro pins s σ H x y v u Q I rx ry hq
  obtain ⟨a, i, rfl, rfl, ha, q⟩ := hq
  cases (show v = Value.ref a from rx)
  obtain ⟨t, e⟩ := (show ∃ t, u = Value.int i t from ry)
  subst e
  obtain ⟨ox, od, J, _⟩ := insC_at I ha
  obtain ⟨m, hF⟩ := I.fr
  exact PySem.W.ksp_binT (T := "int") hF I.ok.mod.kin J rfl hc h.at_ h.fn hrf hp h1 h2 hsub (run_own (us := [.ref a, .int i t]) (vs := [.ref a, .int i]) F hr hx I (.cons rfl (.cons ⟨t, rfl⟩ .nil)) q)
/-- x == y: x of the class at C; y an instance of a class that is not below C -/
def rEqO (X : Cx) (C : Addr) (sp : Sp) (E : XK) : R2 := fun x y H Q => ∃ a b C', x = .ref a ∧ y = .ref b ∧ InsC X H a C ∧ InsC X H b C' ∧ PySem.W.notFirst X.K C (.ref C') = true ∧ sp [.ref a, .ref b] H Q E
theorem op_eqO {op : CmpOp} (hop : ∀ a b, compareOp op a b = richCompare op a b) (h : Has X.K C g (cmpInfo op).2.1) (F : FnR X.prog X.w X.K X.mg X.base CX n g sp)
    (hr : Room n X.A) (hx : Passes CX X E) : OpR X (compareOp op) (rEqO X C sp E) := by
  intro pins s σ H x y v u Q I rx ry hq
  obtain ⟨a, b, C', rfl, rfl, ha, hb, hn, q⟩ := hq
  cases (show v = Value.ref a from rx)
  cases (show u = Value.ref b from ry)
  obtain ⟨ox, od, J, _⟩ := insC_at I ha
  obtain ⟨ox', od', J', _⟩ := insC_at I hb
  obtain ⟨m, hF⟩ := I.fr
  rw [hop]
  exact PySem.W.cmp_K (op := op) (tb := .ref C') hr.units0 hF I.ok.mod.kin J J'.type hn h.at_ h.fn (run_own (us := [.ref a, .ref b]) (vs := [.ref a, .ref b]) F hr hx I (.cons rfl (.cons rfl .nil)) q)
/-- x != y, both of the class at C, which has an own == -/
def rNeO (X : Cx) (C : Addr) (sp : Sp) (E : XK) : R2 := fun x y H Q => ∃ a b, x = .ref a ∧ y = .ref b ∧ InsC X H a C ∧ InsC X H b C ∧ sp [.ref a, .ref b] H (fun v H' => ∃ c, v = .bl c ∧ Q (.bl (!c)) H') E
theorem op_neO (h : Has X.K C g "__eq__") (hne : PySem.W.findIn X.K (.ref C) "__ne__" = some (some (.builtin "object.__ne__"))) (hm : PySem.W.mroIn X.K C (.type "object") = some true) (F : FnR X.prog X.w X.K X.mg X.base CX n g sp)
    (hr : Room (n + 1) X.A) (hx : Passes CX X E) : OpR X (compareOp .NotEq) (rNeO X C sp E) := fun pins s σ H x y v u Q I rx ry ⟨a, b, ex, ey, ha, hb, q⟩ => by
  subst ex ey
  cases (show v = Value.ref a from rx)
  cases (show u = Value.ref b from ry)
  obtain ⟨ox, od, J, _⟩ := insC_at I ha
  obtain ⟨ox', od', J', _⟩ := insC_at I hb
  refine ne_same hr.units0 hr.in1.units0 I.kIn J J' hne hm h.at_ h.fn (wpAny_mono (wpAny_call (SlX.run_at (us := [.ref a, .ref b]) (ws := [.ref a, .ref b]) F hr.in1 I.env0.in1 hx I (.cons rfl (.cons rfl .nil)) q)) (fun r s' back => ?_) fun _ _ z => z)
  obtain ⟨_, H', I', rr, c, ec, qc⟩ := back
  subst ec
  cases (show r = Value.bool c from rr)
  exact ⟨c, rfl, .bl (!c), H', I', rfl, qc⟩
end
end OpX
/-! operators of own classes: an int on the left, +=, in, len, truth, [] -/
namespace OpX
open PySem PySem.Spec PyProof.Rows L2 StX
section
variable {prog : Program} {w : World} {A : Around} {E : Value → Shared → Prop} {s : Shared} {K : PySem.W.Frag} {x C f L : Addr} {h₀ : Heap} {m : Str → Option Value} {ox : Obj} {od : Option Obj} {b tb : Value}
open Builtin in
/-- an int does not know an instance -/
theorem intMul_ref {Q : Value → Shared → Prop} {i : Int} {t : Tok} (ho : s.heap.get? x = some ox) (hd : ox.data = .plain) (h : Q .notImplemented s) : wpAny (model prog w) A (call (.builtin "int.__mul__") [.int i t, .ref x]) Q E s := by
  refine wpAny_call (codeAny_call_builtin PySem.F.slot_int_mul.plain PySem.F.entry_int_mul (PySem.F.slot_int_mul.check _ _ _ _ _ _ _ _ (typeIs_int _ _ _) (PySem.F.args_int_mul_2 _ _) ?_))
  unfold Builtin.«int.__mul__»
  unfold Int.intBinary
  refine wpAny_bind (m := slotArgs "__mul__" 1 _) (wpAny_pure ?_)
  refine wpAny_bind (m := Int.intOfSelf _) (wpAny_bind (m := asInt? _) (wpAny_pure (wpAny_pure ?_)))
  refine wpAny_bind (m := asInt? (.ref x)) (wpAny_bind (wpAny_load ho ?_))
  rw [hd]
  exact wpAny_pure (wpAny_bind (wpAny_rule (wpAny_pure h)))
/-- i * x, x of a class with * on both sides: an int declines, the class's reflected one is asked -/
theorem bin1_rint {i : Int} {t : Tok} {g : Addr} {Q : Value → Shared → Prop} (X : K.In s.heap) (I : PySem.W.InstAt s.heap x ox C od) (hd : ox.data = .plain) (hc : PySem.W.selfFirst K C = true) (hm : PySem.W.findIn K (.ref C) (PySem.dunder "mul") = some (some (.ref g)))
    (hs : PySem.W.findIn K (.ref C) (dunderR "mul") = some (some (.ref f))) (hf : PySem.W.isFn K (.ref f) = true) (hsub : PySem.W.subIn K (.ref C) (.type "int") = some false)
    (h : wpAny (model prog w) A (call (.ref f) [.ref x, .int i t]) (PySem.W.CmpBack Q) E s) : wpAny (model prog w) A (binaryOp1 "mul" (.int i t) (.ref x)) (Told Q) E s := by
  obtain ⟨cd, rest, hcd, hmm⟩ := PySem.W.ksp_first hc
  have mine := PySem.W.fills_K (M := model prog w) X hcd hmm hm
  have apart := PySem.W.looks_subIn (M := model prog w) X hsub
  have plainInt : numberSlotInPython (.type "int") "mul" = pure false := rfl
  have unlike : (Value.type "int" == Value.ref C) = false := by simp
  have answer := PySem.W.ksp_try (name := dunderR "mul") X I hs hf h
  unfold binaryOp1
  refine wpAny_bind (wpAny_typeOf (typeIs_int _ _ _) (wpAny_bind (I.type.here (wpAny_bind (wpAny_of_eq PySem.F.fills_int_mul ?_)))))
  simp only [unlike, Bool.false_eq_true, if_false]
  refine wpAny_bind (mine.here ?_)
  simp only [Bool.and_self, if_true]
  refine wpAny_bind (apart.here ?_)
  simp only [plainInt, Bool.not_false, Bool.and_self, Bool.false_eq_true, if_true, if_false, pure_bind]
  refine wpAny_bind (wpAny_tryMethod_declines (typeIs_int _ _ _) PySem.F.slot_int_mul (intMul_ref I.at_ hd ⟨rfl, ?_⟩))
  simp only [pure_bind]
  exact wpAny_bind (wpAny_mono answer (fun r s' ⟨v, e, q⟩ => by
    subst e
    exact wpAny_bind (wpAny_rule (wpAny_pure ⟨v, rfl, q⟩))) fun _ _ z => z)
/-- x op y, both of one class with an own op -/
theorem bin1_same {nm : String} {y : Addr} {oy : Obj} {od' : Option Obj} {Q : Value → Shared → Prop} (X : K.In s.heap) (I : PySem.W.InstAt s.heap x ox C od) (J : PySem.W.InstAt s.heap y oy C od') (hc : PySem.W.selfFirst K C = true)
    (hs : PySem.W.findIn K (.ref C) (PySem.dunder nm) = some (some (.ref f))) (hf : PySem.W.isFn K (.ref f) = true) (h : wpAny (model prog w) A (call (.ref f) [.ref x, .ref y]) (PySem.W.CmpBack Q) E s) :
    wpAny (model prog w) A (binaryOp1 nm (.ref x) (.ref y)) (Told Q) E s := by
  obtain ⟨cd, rest, hcd, hmm⟩ := PySem.W.ksp_first hc
  have answer := PySem.W.ksp_try (name := PySem.dunder nm) X I hs hf h
  have alike : (Value.ref C == Value.ref C) = true := by simp
  unfold binaryOp1
  refine wpAny_bind (I.type.here (wpAny_bind (J.type.here (wpAny_bind ((PySem.W.fills_K (M := model prog w) X hcd hmm hs).here ?_)))))
  simp only [alike, pure_bind, Bool.and_false, Bool.false_and, Bool.false_eq_true, if_true, if_false]
  exact wpAny_bind (wpAny_mono answer (fun r s' ⟨v, e, q⟩ => by
    subst e
    exact wpAny_pure ⟨v, rfl, q⟩) fun _ _ z => z)
theorem mul_of_bin1 {M : Model} {a b : Value} {Q : Value → Shared → Prop} (h : wpAny M A (binaryOp1 "mul" a b) (Told Q) E s) : wpAny M A (binaryOp .Mult a b) Q E s := by
  unfold binaryOp
  exact wpAny_holding (told_pure (t := binaryOp1 "mul" a b) h fun _ => rfl)
/-- a class of the text whose only base is object, without an own in-place operator -/
structure NoI (K : PySem.W.Frag) (C : Addr) (nm : String) : Prop where
  mro : (PySem.W.clsIn K C).any (fun cd => cd.mro == [.ref C, .type "object"]) = true
  own : PySem.W.findIn K (.ref C) (dunderI nm) = some none
  obj : PySem.W.findIn K (.type "object") (dunderI nm) = some none
theorem fillsI_no {M : Model} {h : Heap} {nm : String} {add : Bool} (X : K.In h) (N : NoI K C nm) : PySem.W.Looks M h (fillsInplaceSlot (.ref C) nm add) false := by
  intro A Q E s k q
  obtain ⟨cd, hc, hm⟩ := PySem.W.any_some N.mro
  have hm' : cd.mro = [.ref C, .type "object"] := beq_iff_eq.mp hm
  unfold fillsInplaceSlot
  refine wpAny_bind ((PySem.W.looks_clsIn X hc).andThen (f := fun cd => pure cd.mro) .now A _ E s k ?_)
  rw [hm', List.anyM_cons]
  refine wpAny_bind (wpAny_bind (PySem.W.looks_findIn X N.own A _ E s k (wpAny_pure ?_)))
  simp only [Bool.false_eq_true, if_false]
  rw [List.anyM_cons]
  refine wpAny_bind (wpAny_bind (PySem.W.looks_findIn X N.obj A _ E s k (wpAny_pure ?_)))
  simp only [Bool.false_eq_true, if_false]
  exact wpAny_pure q
theorem inp_of_bin1 {op : Operator} {b : Value} {Q : Value → Shared → Prop} (X : K.In s.heap) (I : PySem.W.InstAt s.heap x ox C od) (N : NoI K C op.info.2) (h : wpAny (model prog w) A (binaryOp1 op.info.2 (.ref x) b) (Told Q) E s) :
    wpAny (model prog w) A (inplaceOp op (.ref x) b) Q E s := by
  unfold inplaceOp
  refine wpAny_holding (wpAny_bind (I.type.here (wpAny_bind ((fillsI_no X N).here ?_))))
  rw [if_neg Bool.false_ne_true]
  exact told_pure h fun _ => rfl
end
section
variable {X : Cx} {CX : CXT} {n : Nat} {C g g' : Addr} {sp : Sp} {E : XK}
theorem op_rmul (hc : PySem.W.selfFirst X.K C = true) (hm : PySem.W.findIn X.K (.ref C) (PySem.dunder "mul") = some (some (.ref g'))) (h : Has X.K C g (dunderR "mul")) (hsub : PySem.W.subIn X.K (.ref C) (.type "int") = some false)
    (F : FnR X.prog X.w X.K X.mg X.base CX n g sp) (hr : Room n X.A) (hx : Passes CX X E) : OpR X (binaryOp .Mult) (rR X C sp E) := by
  intro pins s σ H x y v u Q I rx ry hq
  obtain ⟨a, i, rfl, rfl, ha, q⟩ := hq
  cases (show u = Value.ref a from ry)
  obtain ⟨t, e⟩ := (show ∃ t, v = Value.int i t from rx)
  subst e
  obtain ⟨ox, od, J, hd⟩ := insC_at I ha
  exact mul_of_bin1 (bin1_rint I.kIn J hd hc hm h.at_ h.fn hsub (run_own (us := [.ref a, .int i t]) (vs := [.ref a, .int i]) F hr hx I (.cons rfl (.cons ⟨t, rfl⟩ .nil)) q))
theorem op_inS {op : Operator} (hc : PySem.W.selfFirst X.K C = true) (N : NoI X.K C op.info.2) (h : Has X.K C g (PySem.dunder op.info.2)) (F : FnR X.prog X.w X.K X.mg X.base CX n g sp) (hr : Room n X.A) (hx : Passes CX X E) :
    OpR X (inplaceOp op) (rS X C sp E) := by
  intro pins s σ H x y v u Q I rx ry hq
  obtain ⟨a, b, rfl, rfl, ha, hb, q⟩ := hq
  cases (show v = Value.ref a from rx)
  cases (show u = Value.ref b from ry)
  obtain ⟨ox, od, J, _⟩ := insC_at I ha
  obtain ⟨ox', od', J', _⟩ := insC_at I hb
  exact inp_of_bin1 I.kIn J N (bin1_same I.kIn J J' hc h.at_ h.fn (run_own (us := [.ref a, .ref b]) (vs := [.ref a, .ref b]) F hr hx I (.cons rfl (.cons rfl .nil)) q))
end
end OpX
/-! a tuple times any number from one on; x(*y), x a name of the def that holds a class; an own object beside a list -/
namespace RdX
open PySem PySem.Spec PyProof.Rows L2 StX OpX
/-- t * 1 is t itself -/
theorem once_mul (l : Addr) (items : Array Value) (n : Nat) (dd : Option Addr) (sl : Array (Option Value)) (u : Tok) : Meets (Builtin.«tuple.__mul__» ⟨[.ref l, .int 1 u], []⟩) (fun _ R s => s.heap.get? l = some { cls := .type "tuple", dict := dd, data := .seq items n, slots := sl } ∧ R (.ok (.ret (.ref l))) s) := Meets.of_wp fun prog w A R s hh => by
  rcases s with ⟨hp, gs, ds, tk, sys⟩
  rcases hh with ⟨at_, goal⟩
  have f1 := AutoSeq1.idx_int
  have c0 : (decide ((1 : Int) < -(2 ^ 63)) || decide ((1 : Int) ≥ 2 ^ 63)) = false := by decide
  have c1 : (items.isEmpty || (1 : Int) == 1) = true := by rw [show ((1 : Int) == 1) = true from rfl, Bool.or_true]
  wp_walk using wpAny_loadPart' at_
  repeat (first
    | (refine wpAny_ite_false (decide_eq_false (by rw [c0]; exact Bool.false_ne_true)) ?_; wp_walk using wpAny_loadPart' at_)
    | (refine wpAny_ite_true (decide_eq_true c1) ?_; wp_walk using wpAny_loadPart' at_))
  exact ⟨_, rfl, goal⟩
def rOnce (K : PySem.W.Frag) : R2 := fun x y H Q => ∃ l xs, x = .ref l ∧ y = .int 1 ∧ SqT K H l xs ∧ Q (.ref l) H
section
variable {X : Cx}
theorem op_once : OpR X (binaryOp .Mult) (rOnce X.K) := by
  intro pins s σ H x y v u Q I rx ry hq
  obtain ⟨l, xs, rfl, rfl, hT, q⟩ := hq
  cases (show v = Value.ref l from rx)
  obtain ⟨t, e⟩ := (show ∃ t, u = Value.int 1 t from ry)
  subst e
  obtain ⟨its, r, ⟨⟨cls, dd, data, sl⟩, ho, hc, n, hd⟩, hs⟩ := I.tuple hT
  simp only at hc hd
  subst hc hd
  have kind : s.TypeIs (.ref l) "tuple" := ⟨_, ho, rfl⟩
  exact wpAny_binaryOp_repeat_ref (T := "tuple") (U := "int") (by decide) kind (fun s' => typeIs_int s' 1 t) noFill_tuple_mul F.fills_int_mul F.slot_int_rmul repeat_tuple F.slot_int_index.lookup
    (call_meets F.slot_int_rmul (typeIs_int s 1 t) F.entry_int_rmul (F.args_int_rmul_2 _ _) (int_rmul_tuple 1 t l its.toArray n dd sl) ⟨ho, rfl, kind, call_meets F.slot_tuple_mul kind F.entry_tuple_mul (F.args_tuple_mul_2 _ _) (once_mul l its.toArray n dd sl t) ⟨ho, ⟨.ref l, H, I, rfl, q⟩⟩⟩)
end
section
variable {X : Cx} {CX : CXT} {k n i : Nat} {f C g : Addr} {sp : Sp} {E : XK} {x : Str} {e : Expr} {te : TE} {p q pos : Pos}
/-- C(*y), C a class of the module -/
def tMakeS (X : Cx) (C : Addr) (sp : Sp) (E : XK) (te : TE) : TE := fun σ H Q => te σ H fun y H1 => ∃ a xs, y = V.ref a ∧ (SqT X.K H1 a xs ∨ SqL X.K H1 a xs) ∧ ∀ x dx, H1 x = Option.none → H1 dx = Option.none → dx ≠ x →
  sp (V.ref x :: xs) (upd (upd H1 dx (.own x)) x (.ins C dx [])) (fun v H2 => v = .non ∧ Q (.ref x) H2) E
theorem pe_makeS1 (M : Mk X.K C f) (F : FnR X.prog X.w X.K X.mg X.base CX k f sp) (hr : Room (k + 1) X.A) (hg : Gl X x) (hm : X.mg x = some (.ref C)) (hx : Passes CX X E) (he : PE X e te) (hd : (x == ("__debug__" : Str)) = false := by decide)
    (hst : starEach [.Starred e q] X.env = [(true, eval e X.env)] := by rfl) : PE X (.Call (.Name x p) [.Starred e q] [] pos) (tMakeS X C sp E te) := by
  refine ⟨fun pins s σ H Q I h => wpAny_Call_Name_kw (ld_glob I hg hm (PySem.W.callWith_S (h₀ := X.base) I.ok.mod.kin M.kp (thn (he.run pins s σ H _ I h) fun v s1 z => ?_) hst) hd)⟩
  obtain ⟨y, H1, J, ry, a, xs, ey, hxs, q⟩ := z
  subst ey
  cases (show v = Value.ref a from ry)
  exact star_any J hxs fun us s2 J2 rv => ⟨J2.kIn, run_makeR M F hr hx J2 rv q⟩
/-- x(*y), x a name of the def (slot i) that holds the class at C -/
def tMakeLS (X : Cx) (i : Nat) (C : Addr) (sp : Sp) (E : XK) (te : TE) : TE := fun σ H Q => σ[i]? = some (some (.ref C)) ∧ tMakeS X C sp E te σ H Q
theorem pe_makeLS (M : Mk X.K C f) (F : FnR X.prog X.w X.K X.mg X.base CX k f sp) (hr : Room (k + 1) X.A) (hN : X.N[i]? = some x) (hv : Vis X.env.scope x) (hx : Passes CX X E) (he : PE X e te) (hd : (x == ("__debug__" : Str)) = false := by decide) (hcd : (x == ("__classdict__" : Str)) = false := by decide)
    (hst : starEach [.Starred e q] X.env = [(true, eval e X.env)] := by rfl) : PE X (.Call (.Name x p) [.Starred e q] [] pos) (tMakeLS X i C sp E te) := by
  refine ⟨fun pins s σ H Q I ⟨hs, h⟩ => wpAny_Call_Name_kw (thn ((pe_var (pos := p) (i := i) hN hv hd hcd).run pins s σ H (fun v H1 => v = .ref C ∧ H1 = H) I ⟨.ref C, hs, rfl, rfl⟩) fun u s1 z => ?_)⟩
  obtain ⟨v, H1, J, r1, ev, eH⟩ := z
  subst ev eH
  cases (show u = Value.ref C from r1)
  refine PySem.W.callWith_S (h₀ := X.base) J.ok.mod.kin M.kp (thn (he.run pins s1 σ _ _ J h) fun v s2 z => ?_) hst
  obtain ⟨y, H2, J2, ry, a, xs, ey, hxs, q⟩ := z
  subst ey
  cases (show v = Value.ref a from ry)
  exact star_any J2 hxs fun us s3 J3 rv => ⟨J3.kIn, run_makeR M F hr hx J3 rv q⟩
/-- x == y: x of the class at C, y a list -/
def rEqL (X : Cx) (C : Addr) (sp : Sp) (E : XK) : R2 := fun x y H Q => ∃ a b ys, x = .ref a ∧ y = .ref b ∧ InsC X H a C ∧ SqL X.K H b ys ∧ PySem.W.notFirst X.K C (.type "list") = true ∧ sp [.ref a, .ref b] H Q E
theorem op_eqL {op : CmpOp} (hop : ∀ a b, compareOp op a b = richCompare op a b) (h : Has X.K C g (cmpInfo op).2.1) (F : FnR X.prog X.w X.K X.mg X.base CX n g sp) (hr : Room n X.A) (hx : Passes CX X E) : OpR X (compareOp op) (rEqL X C sp E) := fun pins s σ H x y v u Q I rx ry hq => by
  obtain ⟨a, b, ys, rfl, rfl, ha, hb, hn, q⟩ := hq
  cases (show v = Value.ref a from rx)
  cases (show u = Value.ref b from ry)
  obtain ⟨ox, od, J, _⟩ := insC_at I ha
  obtain ⟨its, rv, pl, _⟩ := I.list hb
  obtain ⟨o, ho, hc, _⟩ := pl.isList
  obtain ⟨m, hF⟩ := I.fr
  have kind : PySem.W.Looks (model X.prog X.w) s.heap (typeOf (.ref b)) (.type "list") := fun _ _ _ _ k z => wpAny_typeOf_ref (k _ _ ho) (by rw [hc]; exact z)
  rw [hop]
  exact PySem.W.cmp_K (op := op) (tb := .type "list") hr.units0 hF I.ok.mod.kin J kind hn h.at_ h.fn (run_own (us := [.ref a, .ref b]) (vs := [.ref a, .ref b]) F hr hx I (.cons rfl (.cons rfl .nil)) q)
end
end RdX
/-! C(e, .., *y): a new instance; o.m(), m with a star parameter -/
namespace MkS
open PySem PySem.Spec PyProof.Rows L2 StX
section
variable {X : Cx} {CX : CXT} {k : Nat} {f C : Addr} {sp : Sp} {E : XK} {x m : Str} {e o : Expr} {es : List Expr} {t : TA} {ta : TE} {p pos apos : Pos} {pl : Sem Bool}
theorem pe_makeS (M : Mk X.K C f) (F : FnR X.prog X.w X.K X.mg X.base CX k f sp) (hr : Room (k + 1) X.A) (hg : Gl X x) (hm : X.mg x = some (.ref C)) (hx : Passes CX X E) (ha : PA X (e :: es) t) (notDebug : (x == ("__debug__" : Str)) = false := by decide)
    (head : starEach (e :: es) X.env = (false, eval e X.env) :: starEach es X.env := by rfl) (starred : (backTo pos (starEach es X.env)).any (·.1) = true := by rfl) : PE X (.Call (.Name x p) (e :: es) [] pos) (tMakeR C sp E t) :=
  ⟨fun pins s σ H Q I h => wpAny_Call_Name_kw (ld_glob I hg hm (PySem.W.callWith_S2 (h₀ := X.base) I.ok.mod.kin M.kp (thn (ha.run pos pins s σ H _ I h) fun us s1 z => by
    obtain ⟨vs, H1, J, r, q⟩ := z
    exact ⟨J.kIn, run_makeR M F hr hx J r q⟩) head starred) notDebug)⟩
theorem pe_methR0 {C f : Addr} (he : PE X o ta) (c : Cls X.K C) (hm : Meth X.K C m f) (F : FnR X.prog X.w X.K X.mg X.base CX k f sp) (hr : Room k X.A) (hx : Passes CX X E)
    (form : eval (.Call (.Attribute o m apos) [] [] pos) X.env = (do let ov ← eval o X.env; standAt apos.atName; let (f, first) ← holding [ov] (getMethod ov m pl); callWith pos f first (backTo pos (starEach [] X.env)) (backToKw pos (keywordEach [] X.env))) := by rfl) :
    PE X (.Call (.Attribute o m apos) [] [] pos) (tMethR C m sp E ta tNil) := by
  refine ⟨fun pins s σ H Q I h => PySem.W.methodCall_KW (pl := pl) (thn (he.run pins s σ H _ I h) fun u s1 ⟨y, H1, J, ry, a, dx, fs, ey, ea, l, q⟩ => ?_) form⟩
  subst ey
  cases (show u = Value.ref a from ry)
  exact getmeth_ok J ea c hm l (PySem.W.callWith_K0 (first := [.ref a]) J.kIn hm.kp (wpAny_call (run_fnR (us := [.ref a]) (vs := [.ref a]) F hr hx J (.cons rfl .nil) q)))
end
end MkS
/-! a def (self, *v, x = d): called with x by its name, and without -/
namespace StK
open PySem PySem.Spec PyProof.Rows L2 StX
abbrev SpK := List V → V → Hp → VK → XK → Prop
section
variable {CX : CXT} {P : Program} {w : World} {K : PySem.W.Frag} {mg : Str → Option Value} {base : Heap} {k : Nat} {f : Addr} {name qual : Str} {params : Arguments} {body : List Stmt} {scope : Scope} {dV doc pm cdv ct oc : Value} {D : Addr} {an od : Option Addr} {osl : Array (Option Value)} {N : List Str} {sp : Sp}
def FnRK (P : Program) (w : World) (K : PySem.W.Frag) (mg : Str → Option Value) (base : Heap) (CX : CXT) (k : Nat) (f : Addr) (x : Str) (sp : SpK) : Prop := ∀ (A : Around) (outer : List Env) (s : Shared) (H : Hp) (us : List Value) (u : Value) (vs : List V) (v : V) (Q : VK) (E : XK),
  Room k A → Env0 P w K mg base A outer s H → Vals vs us → RelV v u → sp vs v H Q E → codeAny (model P w) A (.call (.ref f) ⟨us, [(x, u)]⟩) (CR CX outer P w H s Q E) s
/-- what is asked: self, what stands behind it in a new tuple, the keyword's value -/
def starSp (sp : Sp) : SpK := fun vs v H Q E => ∃ a rest, vs = a :: rest ∧ rest.length ≤ sizeLine ∧ ∀ p, H p = Option.none → sp [a, v, V.ref p] (upd H p (.tup rest)) Q E
theorem tup_laid {A : Around} {outer : List Env} {s : Shared} {H : Hp} {rest : List V} {us : List Value} {E : XK} (e0 : Env0 P w K mg base A outer s H) (up : CXUp CX) (r : Vals rest us) (hz : rest.length ≤ sizeLine) :
    ∃ (s2 : Shared) (H2 : Hp), s2 = { s with heap := s.heap.push ({ cls := .type "tuple", data := .seq us.toArray } : Obj) } ∧ H2 = upd H s.heap.objs.size (.tup rest) ∧ Env0 P w K mg base A outer s2 H2 ∧ Un (frs outer) [] H H2 s.heap s2.heap ∧ s2.os = s.os ∧ (∀ e s', CX outer H2 s2 E e s' → CX outer H s E e s') ∧ H s.heap.objs.size = Option.none := by
  have hn : H s.heap.objs.size = Option.none := e0.hok.fresh (Nat.le_refl _)
  have new : ObjOk P w (upd H s.heap.objs.size (.tup rest)) (s.heap.push ({ cls := .type "tuple", data := .seq us.toArray } : Obj)) s.heap.objs.size (.tup rest) := ⟨hz, us, r, ⟨_, Heap.get?_push_size _ rfl, rfl, _, rfl⟩⟩
  have un := un_laid (fs := frs outer) (s := s) (o := ({ cls := .type "tuple", data := .seq us.toArray } : Obj)) (u := .tup rest) hn
  exact ⟨_, _, rfl, rfl, env0_laid e0 new, un, rfl, fun e s' => up outer s H _ _ E e s' un (fun b o q => Heap.get?_push_of_some _ q) rfl, hn⟩
theorem fn_starK {a0 x pv : Str} {kV : Value} (lk : K.lookup f = some ⟨oc, od, .func (PySem.W.fnOf name qual params body scope dV kV doc pm an cdv ct), osl⟩) (hcd : PySem.W.codeIn K cdv qual = true) (S : FnScope N [a0, x, pv] scope) (up : CXUp CX)
    (binds : ∀ (u0 : Value) (rest : List Value) (u : Value), bindArgs (PySem.W.fnOf name qual params body scope dV kV doc pm an cdv ct) ⟨u0 :: rest, [(x, u)]⟩ = (newTuple rest >>= fun t => pure [(a0, u0), (x, u), (pv, t)]))
    (runs : ∀ (A : Around) (outer : List Env) (s : Shared) (H : Hp) (vs : List V) (Q : VK) (E : XK), Room k (A.deeper (envOfC qual scope s.heap.objs.size f cdv)) → sp vs H Q E →
      ∃ t, PSs (cxOf CX P w K mg base N qual scope f cdv A outer s H E) body t ∧ t { nx := fun _ H' => Q .non H', rt := Q } (start N vs) H) : FnRK P w K mg base CX (k + 1) f x (starSp sp) := by
  intro A outer s H us u vs v Q E room e0 r ru told
  obtain ⟨a, rest, rfl, hz, hq⟩ := told
  cases r with
  | @cons _ u0 _ us r0 r =>
    obtain ⟨s2, H2, es, eH, e2, un, os, cx, hn⟩ := tup_laid (E := E) e0 up r hz
    refine run_bnd lk hcd S room e0 (G := fun xs H2 => ∃ p, H p = Option.none ∧ xs = [a, v, V.ref p] ∧ H2 = upd H p (.tup rest)) (fun A' Ex Q' h => ?_) ?_
    · rw [binds]
      refine wpAny_bind (wpAny_newTuple (wpAny_pure ?_) (by rw [← r.length]; exact hz))
      subst es eH
      exact h _ _ [a, v, V.ref s.heap.objs.size] [u0, u, Value.ref s.heap.objs.size] e2 un os cx (.cons r0 (.cons ru (.cons rfl .nil))) rfl ⟨_, hn, rfl, rfl⟩
    · rintro s3 H3 xs ⟨p, hp, rfl, rfl⟩ room'
      exact runs A outer s3 _ _ Q E room' (hq p hp)
theorem fn_starD {a0 x pv : Str} {d : V} {ud : Value} (lk : K.lookup f = some ⟨oc, od, .func (PySem.W.fnOf name qual params body scope dV (.ref D) doc pm an cdv ct), osl⟩) (hcd : PySem.W.codeIn K cdv qual = true) (S : FnScope N [a0, x, pv] scope) (up : CXUp CX)
    (def_ : PySem.W.nsIn K D x = some (some ud)) (rd : RelV d ud)
    (binds : ∀ (u0 : Value) (rest : List Value), ∃ (β γ : Type) (k1 : Option Value → Sem β) (k2 : β → Sem γ) (k3 : γ → Sem (List (Str × Value))) (b : β), bindArgs (PySem.W.fnOf name qual params body scope dV (.ref D) doc pm an cdv ct) ⟨u0 :: rest, []⟩ = ((nsGet D x >>= k1) >>= k2) >>= k3 ∧ k1 (some ud) = pure b ∧
      (k2 b >>= k3) = (newTuple rest >>= fun t => pure [(a0, u0), (x, ud), (pv, t)]))
    (runs : ∀ (A : Around) (outer : List Env) (s : Shared) (H : Hp) (vs : List V) (Q : VK) (E : XK), Room k (A.deeper (envOfC qual scope s.heap.objs.size f cdv)) → sp vs H Q E →
      ∃ t, PSs (cxOf CX P w K mg base N qual scope f cdv A outer s H E) body t ∧ t { nx := fun _ H' => Q .non H', rt := Q } (start N vs) H) : FnR P w K mg base CX (k + 1) f (fun vs H Q E => starSp sp vs d H Q E) := by
  intro A outer s H us vs Q E room e0 r told
  obtain ⟨a, rest, rfl, hz, hq⟩ := told
  cases r with
  | @cons _ u0 _ us r0 r =>
    obtain ⟨s2, H2, es, eH, e2, un, os, cx, hn⟩ := tup_laid (E := E) e0 up r hz
    have KX : K.In s.heap := e0.mod.kin.keeps fun b o e => (e0.bs b o e).1
    refine run_bnd lk hcd S room e0 (G := fun xs H2 => ∃ p, H p = Option.none ∧ xs = [a, d, V.ref p] ∧ H2 = upd H p (.tup rest)) (fun A' Ex Q' h => ?_) ?_
    · obtain ⟨β, γ, k1, k2, k3, b, e1, eb, e3⟩ := binds u0 us
      rw [e1, bind_assoc, bind_assoc]
      refine wpAny_bind ((PySem.W.looks_nsIn (M := model P w) KX def_).here ?_)
      rw [eb, pure_bind, e3]
      refine wpAny_bind (wpAny_newTuple (wpAny_pure ?_) (by rw [← r.length]; exact hz))
      subst es eH
      exact h _ _ [a, d, V.ref s.heap.objs.size] [u0, ud, Value.ref s.heap.objs.size] e2 un os cx (.cons r0 (.cons rd (.cons rfl .nil))) rfl ⟨_, hn, rfl, rfl⟩
    · rintro s3 H3 xs ⟨p, hp, rfl, rfl⟩ room'
      exact runs A outer s3 _ _ Q E room' (hq p hp)
end
/-- C(e, .., x = v) -/
def tMakeSK (C : Addr) (sp : SpK) (E : XK) (t tk : TA) : TE := fun σ H Q => t σ H fun vs H1 => tk σ H1 fun zs H2 => ∃ z, zs = [z] ∧ ∀ o dx, H2 o = Option.none → H2 dx = Option.none → dx ≠ o →
  sp (V.ref o :: vs) z (upd (upd H2 dx (.own o)) o (.ins C dx [])) (fun v H3 => v = .non ∧ Q (.ref o) H3) E
section
variable {X : Cx} {CX : CXT} {E : XK} {k : Nat} {C f : Addr} {n x : Str} {sp : SpK} {spr : Sp} {t tk : TA} {e : Expr} {es : List Expr} {kws : List Keyword} {p pos : Pos}
theorem run_makeSK {pins : List (Addr × Obj)} {σ : L2.St} {H : Hp} {s : Shared} {Q : VK} {us : List Value} {u : Value} {vs : List V} {z : V} (M : Mk X.K C f) (F : FnRK X.prog X.w X.K X.mg X.base CX k f x sp) (hr : Room (k + 1) X.A) (hx : Passes CX X E) (I : Inv X pins σ H s) (r : Vals vs us) (ru : RelV z u)
    (h : ∀ o dx, H o = Option.none → H dx = Option.none → dx ≠ o → sp (V.ref o :: vs) z (upd (upd H dx (.own o)) o (.ins C dx [])) (fun v H2 => v = .non ∧ Q (.ref o) H2) E) :
    wpAny (model X.prog X.w) X.A (call (.ref C) us [(x, u)]) (EP X pins σ Q) X.xe s := by
  have hq := h (s.heap.objs.size + 1) s.heap.objs.size (I.hok.fresh (Nat.le_succ _)) (I.hok.fresh (Nat.le_refl _)) (Nat.ne_of_lt (Nat.lt_succ_self _))
  have I2 := Inv.made (C := C) I
  have r2 : Vals (V.ref (s.heap.objs.size + 1) :: vs) (Value.ref (s.heap.objs.size + 1) :: us) := .cons rfl r
  have ran := F _ X.stack _ _ (Value.ref (s.heap.objs.size + 1) :: us) u _ z _ E (hr.make C us [(x, u)]) (I2.env0.make C us [(x, u)]) r2 ru hq
  refine wpAny_call (make_map (f := f) (kw := [(x, u)]) I.kIn M.makes M.init (beq_iff_eq.mp M.fn) (codeAny_mono ran fun r s' out => ?_))
  match r, out with
  | .error e, out => exact hx pins σ _ _ e s' I2 out
  | .ok (.ret v), out =>
    obtain ⟨v', H', I4, rv, ev, q3⟩ := I2.after out
    subst ev
    exact ⟨rv, ⟨V.ref (s.heap.objs.size + 1), H', I4, rfl, q3⟩⟩
  | .ok .next, out => exact out.elim
  | .ok .brk, out => exact out.elim
  | .ok .cont, out => exact out.elim
theorem pe_makeSK0 (M : Mk X.K C f) (F : FnRK X.prog X.w X.K X.mg X.base CX k f x sp) (hr : Room (k + 1) X.A) (hg : Gl X n) (hm : X.mg n = some (.ref C)) (hx : Passes CX X E) (hkw : PK X kws tk)
    (hall : (backToKw pos (keywordEach kws X.env)).all (·.1.isSome) = true := by rfl) (hks : (backToKw pos (keywordEach kws X.env)).filterMap (·.1) = [x] := by rfl) (hdb : (n == ("__debug__" : Str)) = false := by decide)
    (hpl : ((backTo pos (starEach [] X.env)).any (·.1) || (backToKw pos (keywordEach kws X.env)).any (·.1.isNone)) = false := by rfl) :
    PE X (.Call (.Name n p) [] kws pos) (tMakeSK C sp E tNil tk) := by
  refine ⟨fun pins s σ H Q I h => ?_⟩
  refine wpAny_Call_Name_kw (ld_glob I hg hm ?_ hdb)
  refine PySem.W.callWith_KW0 (h₀ := X.base) I.ok.mod.kin M.kp hall ?_ hpl
  refine thn (hkw.run pos pins s σ H _ I h) fun ws s2 ⟨zs, H2, I2, rz, z, ez, q2⟩ => ⟨I2.kIn, ?_⟩
  subst ez
  obtain ⟨u, eu, ru⟩ := vals1 rz
  subst eu
  rw [hks]
  exact run_makeSK (us := []) (vs := []) M F hr hx I2 .nil ru q2
theorem pe_makeSK (M : Mk X.K C f) (F : FnRK X.prog X.w X.K X.mg X.base CX k f x sp) (hr : Room (k + 1) X.A) (hg : Gl X n) (hm : X.mg n = some (.ref C)) (hx : Passes CX X E) (ha : PA X (e :: es) t) (hkw : PK X kws tk)
    (hall : (backToKw pos (keywordEach kws X.env)).all (·.1.isSome) = true := by rfl) (hks : (backToKw pos (keywordEach kws X.env)).filterMap (·.1) = [x] := by rfl) (hdb : (n == ("__debug__" : Str)) = false := by decide)
    (he : starEach (e :: es) X.env = (false, eval e X.env) :: starEach es X.env := by rfl) (hpl : ((backTo pos (starEach (e :: es) X.env)).any (·.1) || (backToKw pos (keywordEach kws X.env)).any (·.1.isNone)) = false := by rfl) :
    PE X (.Call (.Name n p) (e :: es) kws pos) (tMakeSK C sp E t tk) := by
  refine ⟨fun pins s σ H Q I h => ?_⟩
  refine wpAny_Call_Name_kw (ld_glob I hg hm ?_ hdb)
  refine PySem.W.callWith_KW (h₀ := X.base) I.ok.mod.kin M.kp hall (thn (ha.run pos pins s σ H _ I h) fun us s1 ⟨vs, H1, I1, r, q⟩ => ?_) hpl he
  refine thn (hkw.run pos pins s1 σ H1 _ I1 q) fun ws s2 ⟨zs, H2, I2, rz, z, ez, q2⟩ => ⟨I2.kIn, ?_⟩
  subst ez
  obtain ⟨u, eu, ru⟩ := vals1 rz
  subst eu
  rw [hks]
  exact run_makeSK M F hr hx I2 r ru q2
/-- C() -/
theorem pe_makeR0 (M : Mk X.K C f) (F : FnR X.prog X.w X.K X.mg X.base CX k f spr) (hr : Room (k + 1) X.A) (hg : Gl X n) (hm : X.mg n = some (.ref C)) (hx : Passes CX X E) (hdb : (n == ("__debug__" : Str)) = false := by decide) : PE X (.Call (.Name n p) [] [] pos) (tMakeR C spr E tNil) := by
  refine ⟨fun pins s σ H Q I h => ?_⟩
  refine wpAny_Call_Name_kw (ld_glob I hg hm ?_ hdb)
  exact PySem.W.callWith_K0 I.kIn M.kp (run_makeR (us := []) (vs := []) M F hr hx I .nil h)
end
end StK
/-! texts in order: one row only -/
namespace StO
open PySem PySem.Spec PyProof.Rows L2
def lt (a b : Str) : Prop := ltCps a.cps.toList b.cps.toList = true
theorem lt_iff {a b : Str} : lt a b ↔ a.cps.toList < b.cps.toList := by
  unfold lt
  rw [ltCps_eq, decide_eq_true_iff]
theorem str_ext {a b : Str} (h : a.cps.toList = b.cps.toList) : a = b := by
  cases a
  cases b
  simp only [Str.mk.injEq]
  exact Array.toList_inj.mp h
theorem lt_irr (a : Str) : ¬ lt a a := fun h => List.lt_irrefl _ (lt_iff.mp h)
theorem lt_tr {a b c : Str} (h : lt a b) (h' : lt b c) : lt a c := lt_iff.mpr (List.lt_trans (lt_iff.mp h) (lt_iff.mp h'))
theorem lt_of_ne {a b : Str} (h : ¬ lt b a) (n : a ≠ b) : lt a b := by
  rw [lt_iff] at h ⊢
  have le : a.cps.toList ≤ b.cps.toList := List.not_lt.mp h
  by_cases z : a.cps.toList < b.cps.toList
  · exact z
  · exact absurd (str_ext (List.le_antisymm le (List.not_lt.mp z))) n
/-- rising, each once -/
theorem chain : ∀ (p : Str) (l : List Str), risingS p l = true → (p :: l).Nodup → (p :: l).Pairwise lt
  | p, [], _, _ => List.pairwise_singleton ..
  | p, x :: r, h, d => by
    have h : (!ltCps x.cps.toList p.cps.toList && risingS x r) = true := h
    obtain ⟨h1, h2⟩ := Bool.and_eq_true_iff.mp h
    obtain ⟨d1, d2⟩ := List.nodup_cons.mp d
    have ih := chain x r h2 d2
    have px : lt p x := lt_of_ne (fun z => by
      have z : ltCps x.cps.toList p.cps.toList = true := z
      rw [z] at h1
      cases h1) fun z => d1 (z ▸ List.mem_cons_self)
    refine List.pairwise_cons.mpr ⟨fun y hy => ?_, ih⟩
    rcases List.mem_cons.mp hy with rfl | hy
    · exact px
    · exact lt_tr px ((List.pairwise_cons.mp ih).1 y hy)
theorem rows {l : List Str} (h : sortedS l = true) (d : l.Nodup) : l.Pairwise lt := by
  cases l with
  | nil => exact List.Pairwise.nil
  | cons x r => exact chain x r h d
theorem one : ∀ {l m : List Str}, l.Pairwise lt → m.Pairwise lt → (∀ z, z ∈ l ↔ z ∈ m) → l = m
  | [], [], _, _, _ => rfl
  | [], y :: m, _, _, h => absurd ((h y).mpr List.mem_cons_self) (by simp)
  | x :: l, [], _, _, h => absurd ((h x).mp List.mem_cons_self) (by simp)
  | x :: l, y :: m, hl, hm, h => by
    obtain ⟨a1, a2⟩ := List.pairwise_cons.mp hl
    obtain ⟨b1, b2⟩ := List.pairwise_cons.mp hm
    have e : x = y := by
      rcases List.mem_cons.mp ((h x).mp List.mem_cons_self) with z | z
      · exact z
      · rcases List.mem_cons.mp ((h y).mpr List.mem_cons_self) with u | u
        · exact u.symm
        · exact absurd (lt_tr (a1 y u) (b1 x z)) (lt_irr x)
    subst e
    refine congrArg (x :: ·) (one a2 b2 fun z => ?_)
    constructor
    · intro hz
      rcases List.mem_cons.mp ((h z).mp (List.mem_cons_of_mem _ hz)) with rfl | q
      · exact absurd (a1 z hz) (lt_irr z)
      · exact q
    · intro hz
      rcases List.mem_cons.mp ((h z).mpr (List.mem_cons_of_mem _ hz)) with rfl | q
      · exact absurd (b1 z hz) (lt_irr z)
      · exact q
end StO
/-! sorted of a tuple of pairs of texts -/
namespace SrtT
open PySem PyProof.Rows SrtO
/-- one text before another -/
def ltB (x y : Str) : Bool := decide (x.cps.toList < y.cps.toList)
theorem ltB_irr (x : Str) : ltB x x = false := decide_eq_false (List.lt_irrefl _)
theorem ltB_tr {x y z : Str} (h : ltB x y = true) (h' : ltB y z = true) : ltB x z = true := decide_eq_true (List.lt_trans (of_decide_eq_true h) (of_decide_eq_true h'))
theorem str_ext {a b : Str} (h : a.cps.toList = b.cps.toList) : a = b := by
  cases a
  cases b
  congr
  exact Array.toList_inj.mp h
theorem ltB_tot {x y : Str} (h : ltB x y = false) (n : x ≠ y) : ltB y x = true := by
  have h1 := of_decide_eq_false h
  refine decide_eq_true ?_
  rcases List.le_iff_lt_or_eq.mp (List.not_lt.mp h1) with z | z
  · exact z
  · exact absurd (str_ext z).symm n
/-- pairs, by their first, then by their second -/
def lexT (p q : Str × Str) : Bool := if p.1 = q.1 then ltB p.2 q.2 else ltB p.1 q.1
theorem lexT_irr (p : Str × Str) : lexT p p = false := by unfold lexT; rw [if_pos rfl]; exact ltB_irr _
theorem lexT_tr {p q r : Str × Str} (h : lexT p q = true) (h' : lexT q r = true) : lexT p r = true := by
  unfold lexT at *
  by_cases a : p.1 = q.1
  · rw [if_pos a] at h
    by_cases b : q.1 = r.1
    · rw [if_pos b] at h'
      rw [if_pos (a.trans b)]
      exact ltB_tr h h'
    · rw [if_neg b] at h'
      rw [if_neg (a ▸ b), a]
      exact h'
  · rw [if_neg a] at h
    by_cases b : q.1 = r.1
    · rw [if_pos b] at h'
      rw [if_neg (b ▸ a), ← b]
      exact h
    · rw [if_neg b] at h'
      have c := ltB_tr h h'
      rw [if_neg (fun z => by
        rw [z, ltB_irr] at c
        cases c)]
      exact c
theorem lexT_tot {p q : Str × Str} (h : lexT p q = false) (n : p ≠ q) : lexT q p = true := by
  unfold lexT at *
  by_cases a : p.1 = q.1
  · rw [if_pos a] at h
    rw [if_pos a.symm]
    exact ltB_tot h fun z => n (Prod.ext a z)
  · rw [if_neg a] at h
    rw [if_neg (fun z => a z.symm)]
    exact ltB_tot h a
theorem swo_lexT {α : Type} (k : α → Str × Str) : Swo fun v u => lexT (k v) (k u) := by
  refine ⟨fun x y h => ?_, fun x y z h1 h2 => ?_⟩
  · cases c : lexT (k y) (k x) with
    | false => rfl
    | true =>
      have := lexT_tr h c
      rw [lexT_irr] at this
      cases this
  · cases c : lexT (k z) (k x) with
    | false => rfl
    | true =>
      by_cases e : k y = k x
      · rw [e] at h2
        rw [c] at h2
        cases h2
      · have a := lexT_tot h1 e
        have b := lexT_tr c a
        rw [b] at h2
        cases h2
def IsPairT (h : Heap) (v : Value) (p : Str × Str) : Prop := ∃ a o t u n, v = .ref a ∧ h.get? a = some o ∧ o.cls = .type "tuple" ∧ o.data = .seq #[.str p.1 t, .str p.2 u] n
theorem IsPairT.keeps {h h' : Heap} {v : Value} {p : Str × Str} (q : IsPairT h v p) (k : ∀ b o, h.get? b = some o → o.cls = .type "tuple" → h'.get? b = some o) : IsPairT h' v p := by
  obtain ⟨a, o, t, u, n, e, ho, hc, hd⟩ := q
  exact ⟨a, o, t, u, n, e, k _ _ ho hc, hc, hd⟩
theorem firsts_of {h : Heap} {k : Value → Str × Str} : ∀ {vs : List Value}, (∀ v ∈ vs, IsPairT h v (k v)) → ∃ fs : List Value, PySem.W.KatTups h vs fs ∧ fs.length = vs.length ∧ ∀ f ∈ fs, ∃ x t, f = Value.str x t
  | [], _ => ⟨[], PySem.W.KatTups.nil, rfl, fun _ hm => by simp at hm⟩
  | v :: vs, hp => by
    obtain ⟨fs, h1, h2, h3⟩ := firsts_of (k := k) (vs := vs) fun v' hm => hp v' (List.mem_cons_of_mem _ hm)
    obtain ⟨a, o, t, u, n, e, ho, hc, hd⟩ := hp v (List.mem_cons_self ..)
    subst e
    refine ⟨.str _ t :: fs, PySem.W.KatTups.cons ho hc hd rfl h1, by rw [List.length_cons, List.length_cons, h2], fun f hm => ?_⟩
    rcases List.mem_cons.mp hm with rfl | hm
    · exact ⟨_, t, rfl⟩
    · exact h3 f hm
section
variable {prog : Program} {w : World} {A : Around} {E : Value → Shared → Prop} {s : Shared}
theorem pair_cmp {vs : List Value} {k : Value → Str × Str} (hp : ∀ v ∈ vs, IsPairT s.heap v (k v)) : Cmp prog w A s (tuples' true) (fun p => p.1 ∈ vs) (lt2 fun v u => lexT (k v) (k u)) := by
  intro p q hm hm'
  have h1 := hp _ hm
  have h2 := hp _ hm'
  show wpAny (model prog w) A (keyLt' (tuples' true) p.1 q.1) (fun r s' => s' = s ∧ r = lexT (k p.1) (k q.1)) (fun _ _ => False) s
  unfold lexT
  generalize k p.1 = P at h1 ⊢
  generalize k q.1 = P' at h2 ⊢
  obtain ⟨x, y⟩ := P
  obtain ⟨x', y'⟩ := P'
  obtain ⟨a, o, t, u, n, e, ho, hc, hd⟩ := h1
  obtain ⟨a', o', t', u', n', e', ho', hc', hd'⟩ := h2
  rw [e, e']
  refine PySem.W.kat_lt ho hd ho' hd' ?_
  show PySem.W.KatLex prog w A true (decide (2 < 2)) _ [(.str x t, .str x' t'), (.str y u, .str y' u')] 0 s
  refine PySem.W.kat_cons (SeqAt.EqAt.str_str x t x' t' prog w _ _ ?_)
  refine PySem.W.kat_go (fun e1 => ?_) (fun e1 => ?_)
  · have ex : x = x' := by simpa using e1
    refine PySem.W.kat_yes (PySem.W.kat_cons (SeqAt.EqAt.str_str y u y' u' prog w _ _ ?_))
    refine PySem.W.kat_go (fun e2 => ?_) (fun e2 => ?_)
    · have ey : y = y' := by simpa using e2
      have e3 : (if x = x' then ltB y y' else ltB x x') = false := by
        rw [if_pos ex, ey]
        exact ltB_irr _
      exact PySem.W.kat_yes (PySem.W.kat_nil ⟨rfl, e3.symm⟩)
    · have e3 : (if x = x' then ltB y y' else ltB x x') = ltB y y' := if_pos ex
      refine PySem.W.kat_no (PySem.W.kat_one _ _ (PyProof.Rows.lt_str ?_))
      exact (show s = s ∧ ltB y y' = (if x = x' then ltB y y' else ltB x x') from ⟨rfl, e3.symm⟩)
  · have ex : ¬ x = x' := by simpa using e1
    have e3 : (if x = x' then ltB y y' else ltB x x') = ltB x x' := if_neg ex
    exact PySem.W.kat_no (oneLt_str ⟨rfl, e3.symm⟩)
theorem pairs_sortable {a : Addr} {vs : List Value} {k : Value → Str × Str} (h0 : 0 < vs.length) (hp : ∀ v ∈ vs, IsPairT s.heap v (k v)) (ha : ∀ o, s.heap.get? a = some o → o.cls ≠ .type "tuple") : SortableO prog w A s a vs fun v u => lexT (k v) (k u) := by
  intro h' keep
  have hp' : ∀ v ∈ vs, IsPairT h' v (k v) := fun v hm => (hp v hm).keeps fun b o e c => keep b o (fun z => by subst z; exact ha o e c) e
  obtain ⟨fs, h1, h2, h3⟩ := firsts_of hp'
  refine ⟨tuples' true, fun Q E hq => ?_, pair_cmp hp'⟩
  refine PySem.W.kat_kind (T := .type "str") h1 (by omega) (fun f hm => ?_) (by rfl) ?_
  · obtain ⟨x, t, rfl⟩ := h3 f hm
    exact PySem.W.Looks.now
  · have e : (Value.type "str" != Value.type "tuple") = true := by first | decide +kernel | rfl | decide
    rw [e]
    exact hq
/-- what sorted collects of a tuple -/
theorem collect_tup {l : Addr} {vs : List Value} {Q : List Value → Shared → Prop} (hl : s.heap.IsTuple l vs.toArray)
    (h : Q vs { s with heap := (s.heap.push (seqObj "list" #[] 0)).update s.heap.objs.size (Obj.mapSeq (· ++ vs.toArray)) }) (hsz : vs.length ≤ sizeLine) :
    wpAny (model prog w) A (collect (.ref l)) Q E s := by
  obtain ⟨o, ho, hc, n, hd⟩ := id hl
  unfold collect
  refine wpAny_bind (wpAny_runValue (codeAny_builtin entry_proto_collect' ?_))
  show wpAny _ _ (do again (.builtin "list.__iadd__" ⟨[← newList [], .ref l], []⟩)) _ _ s
  refine wpAny_bind (wpAny_newList (wpAny_pure ⟨Code.quiet_builtin _ (by decide +kernel), codeAny_builtin entry_list_iadd' ?_⟩))
  show wpAny _ _ (Builtin.List.listExtendWith (.ref s.heap.objs.size) (.ref l) (.ref s.heap.objs.size)) _ _ { s with heap := s.heap.push (seqObj "list" #[] 0) }
  unfold Builtin.List.listExtendWith
  have ho' : (s.heap.push (seqObj "list" #[] 0)).get? l = some o := Heap.get?_push_of_some _ ho
  refine wpAny_bind (wpAny_typeOf (T := "tuple") ⟨o, ho', hc⟩ ?_)
  have ht : (Value.type "tuple" == Value.type "tuple") = true := by rfl
  rw [if_pos (by rw [ht]; simp)]
  refine wpAny_bind (listItems_at ho' hd ?_)
  refine wpAny_bind (listItems_at (xs := #[]) (n := 0) (Heap.get?_push_size _ rfl) rfl ?_)
  rw [if_neg (by simp)]
  refine wpAny_bind (listUpdate_at (xs := #[]) (n := 0) (Heap.get?_push_size _ rfl) rfl ?_ (Nat.zero_le _) (by show (#[] ++ vs.toArray).size ≤ sizeLine + 1; simp only [Array.size_append, List.size_toArray, List.length_nil]; omega))
  refine wpAny_pure ?_
  show wpAny (model prog w) A (do
      let o ← load s.heap.objs.size
      match o.data with
      | .seq xs _ => pure xs.toList
      | _ => unsupported "internal:collect") Q E { s with heap := (s.heap.push (seqObj "list" #[] 0)).update s.heap.objs.size (Obj.mapSeq (· ++ vs.toArray)) }
  refine wpAny_bind (wpAny_load (get?_update_seq (Heap.get?_push_size _ rfl) _) ?_)
  show wpAny _ _ (pure ((#[] : Array Value) ++ vs.toArray).toList) Q E _
  rw [show ((#[] : Array Value) ++ vs.toArray).toList = vs by simp]
  exact wpAny_pure h
theorem sorted_tup {l : Addr} {vs : List Value} {k : Value → Str × Str} {Q : Value → Shared → Prop} (hl : s.heap.IsTuple l vs.toArray) (hz : vs.length ≤ sizeLine) (hp : ∀ v ∈ vs, IsPairT s.heap v (k v))
    (h : ∀ (h' : Heap) (d : Addr) (out : List Value), Srtd (fun v u => lexT (k v) (k u)) out → Stb (fun v u => lexT (k v) (k u)) out vs → (∀ b o, s.heap.get? b = some o → h'.get? b = some o) → s.heap.objs.size ≤ d → (∃ n, h'.get? d = some (seqObj "list" out.toArray n)) → Q (.ref d) { s with heap := h' }) :
    wpAny (model prog w) A (call (.builtin "sorted") [.ref l]) Q E s := by
  refine Calls.call_function_entry kind_sorted plain_sorted entry_sorted (args_sorted1 _) ?_
  unfold Builtin.«sorted»
  refine wpAny_bind (m := checkCount "sorted" 1 1 _) (wpAny_pure ?_)
  refine wpAny_bind (collect_tup hl ?_ hz)
  refine wpAny_bind (wpAny_newList ?_ hz)
  have hsz : ((s.heap.push (seqObj "list" #[] 0)).update s.heap.objs.size (Obj.mapSeq (· ++ vs.toArray))).objs.size = s.heap.objs.size + 1 := by
    rw [Heap.size_update, size_push']
  have hoL : (((s.heap.push (seqObj "list" #[] 0)).update s.heap.objs.size (Obj.mapSeq (· ++ vs.toArray))).push (seqObj "list" vs.toArray 0)).get? (s.heap.objs.size + 1) = some (seqObj "list" vs.toArray 0) := by
    rw [← hsz]; exact Heap.get?_push_size _ rfl
  have keep : ∀ b o, s.heap.get? b = some o → b ≠ s.heap.objs.size + 1 ∧ (((s.heap.push (seqObj "list" #[] 0)).update s.heap.objs.size (Obj.mapSeq (· ++ vs.toArray))).push (seqObj "list" vs.toArray 0)).get? b = some o := fun b o q => by
    have hlt : b < s.heap.objs.size := Heap.lt_size q
    refine ⟨Nat.ne_of_lt (Nat.lt_succ_of_lt hlt), Heap.get?_push_of_some _ ?_⟩
    rw [Heap.get?_update_ne _ _ _ _ (Nat.ne_of_lt hlt)]
    exact Heap.get?_push_of_some _ q
  show wpAny _ _ _ _ _ { s with heap := ((s.heap.push (seqObj "list" #[] 0)).update s.heap.objs.size (Obj.mapSeq (· ++ vs.toArray))).push (seqObj "list" vs.toArray 0) }
  rw [hsz]
  refine wpAny_bind (wpAny_holding (wpAny_call_entry slot_list_sort ⟨_, hoL, rfl⟩ entry_list_sort (list_sort_ord (swo_lexT k) hoL hz (fun h2 => pairs_sortable (by omega) (fun v hm => (hp v hm).keeps fun b o e _ => (keep b o e).2) fun o e => ?_) fun out hs hb => ⟨_, rfl, ?_⟩) (args_list_sort _)))
  · have e' : some o = some (seqObj "list" vs.toArray 0) := e.symm.trans hoL
    cases e'
    intro c
    exact absurd (Value.type.inj c) (by decide)
  · exact wpAny_pure ⟨_, rfl, h _ _ out hs hb (fun b o e => sortedAll_old e) (Nat.le_succ _) (sortedAll_at s.heap vs out.toArray)⟩
end
end SrtT
namespace L2
open PySem PySem.Spec PyProof.Rows
abbrev ltT (k : V → Str × Str) (x y : V) : Bool := SrtT.lexT (k x) (k y)
/-- sorted(xs), xs a tuple of pairs of texts (k says which): a new list -/
def rSortedTT (K : PySem.W.Frag) : List V → Hp → VK → Prop := fun vs H Q => ∃ (a : Addr) (xs : List V) (k : V → Str × Str), vs = [V.ref a] ∧ SqT K H a xs ∧ (∀ x ∈ xs, ∃ t, x = V.ref t ∧ H t = some (.tup [.str (k x).1, .str (k x).2])) ∧
  ∀ ys p, SrtO.Srtd (ltT k) ys → ys.Perm xs → H p = none → Q (.ref p) (upd H p (.lst ys))
section
variable {X : Cx}
theorem cr_sortedTT : CallR X (.builtin "sorted") (rSortedTT X.K) := by
  intro pins s σ H vs us Q I r h
  obtain ⟨a, xs, k, rfl, hs, hx, q⟩ := h
  obtain ⟨its, rv, hl, hz⟩ := I.tuple hs
  obtain ⟨u, rfl, ru⟩ := vals1 r
  obtain rfl : u = Value.ref a := ru
  obtain ⟨e1, e2⟩ := refs_back rv fun x m => by
    obtain ⟨t, e, _⟩ := hx x m
    exact ⟨t, e⟩
  refine SrtT.sorted_tup (k := fun u => k (backV u)) hl (by rw [← rv.length]; exact hz) (fun v hv => ?_) fun h' d out h1 h2 kp hd hn => ?_
  · obtain ⟨t, rfl⟩ := e2 v hv
    have hm : V.ref t ∈ xs := by rw [e1]; exact List.mem_map.mpr ⟨_, hv, rfl⟩
    obtain ⟨t', e, ht⟩ := hx _ hm
    cases e
    obtain ⟨_, its2, r2, o, ho, hc, n, hd⟩ := I.hok _ _ ht
    obtain ⟨u1, u2, rfl, ri, rj⟩ := vals2 r2
    obtain ⟨t1, rfl⟩ := ri
    obtain ⟨t2, rfl⟩ := rj
    exact ⟨t, o, t1, t2, n, rfl, ho, hc, hd⟩
  · have h3 : ∀ u ∈ out, ∃ a, u = Value.ref a := fun u hu => e2 u (h2.perm.mem_iff.mp hu)
    obtain ⟨n, hn⟩ := hn
    have hb : (out.map backV).Perm xs := by
      rw [e1]
      exact h2.perm.map backV
    refine ⟨.ref d, upd H d (.lst (out.map backV)), I.laid (t' := s.toks) kp hd ⟨?_, out, n, vals_back h3, hn⟩, rfl, q _ d (SrtO.srtd_map h1) hb (I.hok.fresh hd)⟩
    rw [hb.length_eq]
    exact hz
end
end L2
/-! sorted of a tuple of tuples of whole numbers of any lengths: what comes is as it was, in some order -/
namespace SrtI
open PySem PyProof.Rows SrtO TS
section
variable {prog : Program} {w : World} {A : Around} {E : Value → Shared → Prop} {s : Shared}
theorem oneLt_i (c : Bool) {p q : Int} {t u : Tok} {Q : Bool → Shared → Prop} (h : Q (decide (p < q)) s) : wpAny (model prog w) A (oneLt' c (.int p t) (.int q u)) Q (fun _ _ => False) s := oneLt_ints c h
theorem lexI {b fin : Bool} {Q : Bool → Shared → Prop} {xs ys : List Value} {ns ms : List Int} (i : Nat) (hx : IntsAre xs ns) (hy : IntsAre ys ms) (hl : decide (ns.length < ms.length) = fin) (h : Q (HT.lexLt ns ms) s) : PySem.W.KatLex prog w A b fin Q (xs.zip ys) i s := by
  induction hx generalizing ys ms i with
  | nil =>
    cases hy with
    | nil => exact PySem.W.kat_nil (by rw [← hl]; exact h)
    | cons q u hy => exact PySem.W.kat_nil (by rw [← hl]; exact h)
  | @cons p t xs ns hx ih =>
    cases hy with
    | nil => exact PySem.W.kat_nil (by rw [← hl]; exact h)
    | @cons q u ys ms hy =>
      show PySem.W.KatLex prog w A b fin Q ((Value.int p t, Value.int q u) :: xs.zip ys) i s
      refine PySem.W.kat_cons (wpAny_eqBool_int ?_)
      rw [HT.lexLt_cons] at h
      have hl' : decide (ns.length < ms.length) = fin := by
        rw [← hl, List.length_cons, List.length_cons]
        exact decide_eq_decide.mpr ⟨fun z => by omega, fun z => by omega⟩
      by_cases e : p = q
      · subst e
        rw [if_pos rfl] at h
        rw [beq_self_eq_true]
        refine PySem.W.kat_yes ?_
        first
          | exact ih (i + 1) hy hl' h
          | exact ih _ (i + 1) hy hl' h
          | exact ih _ _ (i + 1) hy hl' h
      · rw [if_neg e] at h
        rw [show (p == q) = false from beq_eq_false_iff_ne.mpr e]
        exact PySem.W.kat_no (oneLt_i _ h)
theorem tup_cmp {vs : List Value} {k : Value → List Int} (hp : ∀ v ∈ vs, TupInts s.heap v (k v)) : SrtO.Cmp prog w A s (tuples' true) (fun p => p.1 ∈ vs) (lt2 fun v u => HT.lexLt (k v) (k u)) := by
  intro p q hm hm'
  have h1 := hp _ hm
  have h2 := hp _ hm'
  show wpAny (model prog w) A (keyLt' (tuples' true) p.1 q.1) (fun r s' => s' = s ∧ r = HT.lexLt (k p.1) (k q.1)) (fun _ _ => False) s
  generalize k p.1 = P at h1 ⊢
  generalize k q.1 = P' at h2 ⊢
  obtain ⟨a, xs, e1, ⟨o, ho, hc, n, hdt⟩, i⟩ := h1
  obtain ⟨a', ys, e2, ⟨o', ho', hc', n', hdt'⟩, i'⟩ := h2
  rw [e1, e2]
  refine PySem.W.kat_lt ho hdt ho' hdt' ?_
  refine lexI 0 i i' ?_ ⟨rfl, rfl⟩
  have l1 := i.length
  have l2 := i'.length
  rw [Array.length_toList] at l1 l2
  exact decide_eq_decide.mpr ⟨fun z => by omega, fun z => by omega⟩
theorem firsts_of {h : Heap} {k : Value → List Int} : ∀ vs : List Value, (∀ v ∈ vs, TupInts h v (k v) ∧ k v ≠ []) → ∃ fs, PySem.W.KatTups h vs fs ∧ fs.length = vs.length ∧ ∀ f, f ∈ fs → ∃ n t, f = Value.int n t
  | [], _ => ⟨[], PySem.W.KatTups.nil, rfl, fun f hf => by simp at hf⟩
  | v :: vs, x => by
    obtain ⟨fs, kt, hl, hi⟩ := firsts_of (k := k) vs fun u hu => x u (List.mem_cons_of_mem _ hu)
    obtain ⟨⟨a, xs, rfl, ⟨o, ho, hc, n, hdt⟩, i⟩, hn⟩ := x v (List.mem_cons_self ..)
    obtain ⟨y, ys, e⟩ : ∃ y ys, xs.toList = y :: ys := by
      cases q : xs.toList with
      | nil =>
        rw [q] at i
        have l := i.length
        exact absurd (List.eq_nil_of_length_eq_zero (by rw [List.length_nil] at l; omega)) hn
      | cons y ys => exact ⟨y, ys, rfl⟩
    obtain ⟨m, t, hy⟩ := i.all y (by rw [e]; exact List.mem_cons_self ..)
    refine ⟨y :: fs, PySem.W.KatTups.cons ho hc hdt ?_ kt, by simp [hl], ?_⟩
    · have z := congrArg (fun l : List Value => l[0]?) e
      simpa using z
    · intro f hf
      rcases List.mem_cons.mp hf with rfl | hf
      · exact ⟨m, t, hy⟩
      · exact hi f hf
theorem tups_sortable {a : Addr} {vs : List Value} {k : Value → List Int} (h0 : 0 < vs.length) (hp : ∀ v ∈ vs, TupInts s.heap v (k v) ∧ k v ≠ []) (ha : ∀ o, s.heap.get? a = some o → o.cls ≠ .type "tuple") : SortableO prog w A s a vs fun v u => HT.lexLt (k v) (k u) := by
  intro h' keep
  have hp' : ∀ v ∈ vs, TupInts h' v (k v) ∧ k v ≠ [] := fun v hm => ⟨(hp v hm).1.keeps fun b o e c => keep b o (fun z => by subst z; exact ha o e c) e, (hp v hm).2⟩
  obtain ⟨fs, h1, h2, h3⟩ := firsts_of vs hp'
  refine ⟨tuples' true, fun Q E hq => ?_, tup_cmp fun v hv => (hp' v hv).1⟩
  refine PySem.W.kat_kind (T := .type "int") h1 (by omega) (fun f hm => ?_) (by rfl) ?_
  · obtain ⟨x, t, rfl⟩ := h3 f hm
    exact PySem.W.Looks.of_pure rfl
  · have e : (Value.type "int" != Value.type "tuple") = true := by first | decide +kernel | rfl | decide
    rw [e]
    exact hq
theorem sorted_tup {l : Addr} {vs : List Value} {k : Value → List Int} {Q : Value → Shared → Prop} (hl : s.heap.IsTuple l vs.toArray) (hz : vs.length ≤ sizeLine) (hp : ∀ v ∈ vs, TupInts s.heap v (k v) ∧ k v ≠ [])
    (h : ∀ (h' : Heap) (d : Addr) (out : List Value), Srtd (fun v u => HT.lexLt (k v) (k u)) out → Stb (fun v u => HT.lexLt (k v) (k u)) out vs → (∀ b o, s.heap.get? b = some o → h'.get? b = some o) → s.heap.objs.size ≤ d → (∃ n, h'.get? d = some (seqObj "list" out.toArray n)) → Q (.ref d) { s with heap := h' }) :
    wpAny (model prog w) A (call (.builtin "sorted") [.ref l]) Q E s := by
  refine Calls.call_function_entry kind_sorted plain_sorted entry_sorted (args_sorted1 _) ?_
  unfold Builtin.«sorted»
  refine wpAny_bind (m := checkCount "sorted" 1 1 _) (wpAny_pure ?_)
  refine wpAny_bind (SrtT.collect_tup hl ?_ hz)
  refine wpAny_bind (wpAny_newList ?_ hz)
  have hsz : ((s.heap.push (seqObj "list" #[] 0)).update s.heap.objs.size (Obj.mapSeq (· ++ vs.toArray))).objs.size = s.heap.objs.size + 1 := by
    rw [Heap.size_update, size_push']
  have hoL : (((s.heap.push (seqObj "list" #[] 0)).update s.heap.objs.size (Obj.mapSeq (· ++ vs.toArray))).push (seqObj "list" vs.toArray 0)).get? (s.heap.objs.size + 1) = some (seqObj "list" vs.toArray 0) := by
    rw [← hsz]; exact Heap.get?_push_size _ rfl
  have keep : ∀ b o, s.heap.get? b = some o → b ≠ s.heap.objs.size + 1 ∧ (((s.heap.push (seqObj "list" #[] 0)).update s.heap.objs.size (Obj.mapSeq (· ++ vs.toArray))).push (seqObj "list" vs.toArray 0)).get? b = some o := fun b o q => by
    have hlt : b < s.heap.objs.size := Heap.lt_size q
    refine ⟨Nat.ne_of_lt (Nat.lt_succ_of_lt hlt), Heap.get?_push_of_some _ ?_⟩
    rw [Heap.get?_update_ne _ _ _ _ (Nat.ne_of_lt hlt)]
    exact Heap.get?_push_of_some _ q
  show wpAny _ _ _ _ _ { s with heap := ((s.heap.push (seqObj "list" #[] 0)).update s.heap.objs.size (Obj.mapSeq (· ++ vs.toArray))).push (seqObj "list" vs.toArray 0) }
  rw [hsz]
  refine wpAny_bind (wpAny_holding (wpAny_call_entry slot_list_sort ⟨_, hoL, rfl⟩ entry_list_sort (list_sort_ord (NtL.swo_lexL k) hoL hz (fun h2 => tups_sortable (by omega) (fun v hm => ⟨(hp v hm).1.keeps fun b o e _ => (keep b o e).2, (hp v hm).2⟩) fun o e => ?_) fun out hs hb => ⟨_, rfl, ?_⟩) (args_list_sort _)))
  · have e' : some o = some (seqObj "list" vs.toArray 0) := e.symm.trans hoL
    cases e'
    intro c
    exact absurd (Value.type.inj c) (by decide)
  · exact wpAny_pure ⟨_, rfl, h _ _ out hs hb (fun b o e => sortedAll_old e) (Nat.le_succ _) (sortedAll_at s.heap vs out.toArray)⟩
end
end SrtI
namespace L2
open PySem PySem.Spec PyProof.Rows
theorem intsT_of : ∀ {l : List Int} {us : List Value}, Vals (l.map V.int) us → IntsAre us l
  | [], _, r => by cases r; exact .nil
  | n :: l, _, r => by
    cases r with
    | @cons _ u _ us r0 r =>
      obtain ⟨t, rfl⟩ := (show ∃ t, u = Value.int n t from r0)
      exact .cons n t (intsT_of r)
/-- sorted(xs), xs a tuple of tuples of ints, none empty: a new list of the same -/
def rSortedTI (K : PySem.W.Frag) : List V → Hp → VK → Prop := fun vs H Q => ∃ (a : Addr) (xs : List V) (k : V → List Int), vs = [V.ref a] ∧ SqT K H a xs ∧ (∀ x ∈ xs, ∃ t, x = V.ref t ∧ H t = some (.tup ((k x).map V.int)) ∧ k x ≠ []) ∧
  ∀ ys p, ys.Perm xs → H p = none → Q (.ref p) (upd H p (.lst ys))
section
variable {X : Cx}
theorem cr_sortedTI : CallR X (.builtin "sorted") (rSortedTI X.K) := by
  intro pins s σ H vs us Q I r h
  obtain ⟨a, xs, k, rfl, hs, hx, q⟩ := h
  obtain ⟨its, rv, hl, hz⟩ := I.tuple hs
  obtain ⟨u, rfl, ru⟩ := vals1 r
  obtain rfl : u = Value.ref a := ru
  obtain ⟨e1, e2⟩ := refs_back rv fun x m => by
    obtain ⟨t, e, _⟩ := hx x m
    exact ⟨t, e⟩
  refine SrtI.sorted_tup (k := fun u => k (backV u)) hl (by rw [← rv.length]; exact hz) (fun v hv => ?_) fun h' d out h1 h2 kp hd hn => ?_
  · obtain ⟨t, rfl⟩ := e2 v hv
    have hm : V.ref t ∈ xs := by rw [e1]; exact List.mem_map.mpr ⟨_, hv, rfl⟩
    obtain ⟨t', e, ht, ne⟩ := hx _ hm
    cases e
    obtain ⟨_, its2, r2, at2⟩ := I.hok _ _ ht
    exact ⟨⟨t, its2.toArray, rfl, at2, intsT_of r2⟩, ne⟩
  · have h3 : ∀ u ∈ out, ∃ a, u = Value.ref a := fun u hu => e2 u (h2.perm.mem_iff.mp hu)
    obtain ⟨n, hn⟩ := hn
    have hb : (out.map backV).Perm xs := by
      rw [e1]
      exact h2.perm.map backV
    refine ⟨.ref d, upd H d (.lst (out.map backV)), I.laid (t' := s.toks) kp hd ⟨?_, out, n, vals_back h3, hn⟩, rfl, q _ d hb (I.hok.fresh hd)⟩
    rw [hb.length_eq]
    exact hz
end
end L2
namespace K19
open PySem L2 Evl Gr StX EnT Kn
/-! ### losses: texts of kept and lost slots -/
def LsOk (z : Str) : Prop := ∀ c ∈ z.cps.toList, c = 46 ∨ c = 120
def keptAt (z : Str) (i : Nat) : Bool := z.cps.toList[i]? == some 46
theorem tw_all {p : Nat → Bool} : ∀ l : List Nat, (∀ c ∈ l, p c = true) → l.takeWhile p = l
  | [], _ => rfl
  | c :: r, h => by rw [List.takeWhile_cons, if_pos (h c List.mem_cons_self), tw_all r fun d hd => h d (List.mem_cons_of_mem _ hd)]
theorem strip_all {z y : Str} (h : ∀ c ∈ z.cps.toList, y.cps.contains c = true) : Txt.stripChars z y = "" := by
  have e1 : z.cps.toList.takeWhile y.cps.contains = z.cps.toList := tw_all _ h
  have e0 : stripLo y.cps.contains true z = z.length := by
    unfold stripLo
    rw [if_pos rfl, e1]
    exact Array.length_toList ..
  have e3 : stripHi y.cps.contains true z z.length = z.length := by
    unfold stripHi
    rw [if_pos rfl, List.drop_eq_nil_of_le (by rw [Array.length_toList]; exact Nat.le_refl _)]
    rfl
  unfold Txt.stripChars Txt.stripBy stripSame stripped
  rw [e0, e3]
  by_cases c : z.length = 0
  · rw [if_pos (by rw [c]; rfl)]
    have : z.cps = #[] := Array.eq_empty_of_size_eq_zero c
    cases z
    cases this
    decide +kernel
  · rw [if_neg (by simp [c])]
    unfold PySem.Builtin.Str.strSub
    have : z.cps.extract z.length z.length = #[] := by
      apply Array.eq_empty_of_size_eq_zero
      rw [Array.size_extract]
      omega
    rw [this]
    decide +kernel
theorem rc_lenS {K : PySem.W.Frag} {H : Hp} {z : Str} (h : z.length ≤ 100000) : RC (fun xs H Q => ∃ x n, xs = [x] ∧ LenV K x H n ∧ Q (.int n) H) [.str z] H (.int (z.length : Int)) := fun H1 _ _ q => ⟨.str z, z.length, rfl, ⟨sz_of h, rfl⟩, q H1 (Ex.refl H1)⟩
section
variable {P : Program} {w : World} {K : PySem.W.Frag} {mg : Str → Option Value} {base : Heap}
abbrev sIsl : Stmt := top 13
abbrev sIlo : Stmt := top 14
def spIsl : Sp := fun vs H Q _ => ∃ z : Str, vs = [.str z] ∧ LsOk z ∧ z.length ≤ 400 ∧ RetV (.bl true) H Q
theorem scIsl : FnScope ["value"] ["value"] (defScope sIsl) := ⟨rfl, rfl, rfl, by decide +kernel, rfl, by decide +kernel, by decide +kernel⟩
theorem scIlo : FnScope ["value"] ["value"] (defScope sIlo) := ⟨rfl, rfl, rfl, by decide +kernel, rfl, by decide +kernel, by decide +kernel⟩
theorem ls_dot {z : Str} (h : LsOk z) : ∀ c ∈ z.cps.toList, (".x" : Str).cps.contains c = true := fun c hc => by
  rcases h c hc with rfl | rfl <;> decide +kernel
theorem kit_ss : kitB "str" "str" = some true := by decide +kernel
theorem ok_Isl {f : Addr} {fd : FuncData} (F : Fun K "is_slots" "is_slots" sIsl f fd) (T : GlbT mg) : FnOk P w K mg base CX0 1 f fd ["value"] spIsl := by
  refine F.ok scIsl (fun vs H Q E h => ?_) (fun cdv A outer s H vs Q E hr h => ?_)
  · obtain ⟨z, rfl, _⟩ := h
    rfl
  · obtain ⟨z, rfl, hz, hl, k⟩ := h
    refine ⟨_, (pss_one (ps_ret (pe_and (pe_callB call_isi (by rfl) T.inst (by decide +kernel) (pa_cons (pv 0) (pa_cons (pe_bltn (v := .ty "str") (by rfl) T.str (by decide +kernel) rfl) pa_nil))) (pe_one (pe_cmpR op_eq (pe_bm PySem.F.plainAttrs_str PySem.F.slot_str_strip PySem.F.type_str_strip mt_stripChars (pv 0) (pa_cons pe_str pa_nil)) pe_str (nomark _)))))), ?_⟩
    refine s_ret (ev_is (ev_andV (a := true) (ev_cb (ea_cons (ev_var rfl) (ea_cons ev_c ea_nil)) (rc_isi (.base (.str z)) kit_ss)) fun _ => ev_is (ev_op (x := .str "") (y := .str "") (fun H1 e Q q => ⟨_, rfl, rfl, z, ".x", rfl, rfl, sz_of (by omega), by rw [strip_all (ls_dot hz)]; exact q H1 (Ex.refl H1)⟩) ev_c (rv_eq rfl)) (congrArg V.bl (decide_eq_true rfl))) rfl) k
theorem ok_Ilo {f : Addr} {fd : FuncData} (F : Fun K "is_losses" "is_losses" sIlo f fd) (T : GlbT mg) (hm : ∃ t, mg "MOST_SLOTS" = some (.int 400 t)) (GS : Gfn P w K mg base 1 "is_slots" ["value"] spIsl) : FnOk P w K mg base CX0 2 f fd ["value"] spIsl := by
  obtain ⟨fS, fdS, GS, kS, bS, gS⟩ := GS
  obtain ⟨t, hm⟩ := hm
  refine F.ok scIlo (fun vs H Q E h => ?_) (fun cdv A outer s H vs Q E hr h => ?_)
  · obtain ⟨z, rfl, _⟩ := h
    rfl
  · obtain ⟨z, rfl, hz, hl, k⟩ := h
    refine ⟨_, (pss_one (ps_ret (pe_and (pe_call GS hr (by rfl) gS kS bS .nil pass0 (pa_cons (pv 0) pa_nil)) (pe_one (pe_cmpR op_le (pe_callB call_len (by rfl) T.len PySem.boot_len (pa_cons (pv 0) pa_nil)) (pe_glob (v := .int 400) (by rfl) hm ⟨t, rfl⟩) (nomark _)))))), ?_⟩
    refine s_ret (ev_is (ev_andV (a := true) (ev_call (z := .bl true) (ea_cons (ev_var rfl) ea_nil) fun H1 e Q q E => ⟨z, rfl, hz, hl, q⟩) fun _ => ev_op (ev_cb (ea_cons (ev_var rfl) ea_nil) (rc_lenS (K := K) (z := z) (by omega))) ev_c rv_I0) ?_) k
    rw [decide_eq_true (by omega)]
    rfl
end
end K19
/-! data told by what they are; comprehensions told by filter and map; slots -/
namespace K19
open PySem L2 Evl Gr
mutual
theorem dp_up {K : PySem.W.Frag} {H H' : Hp} (e : Ex H H') : ∀ (d : PyData) {v : V}, Dp K H v d → Dp K H' v d
  | .none, _, .non => .non
  | .bool _, _, .bl b => .bl b
  | .int _, _, .int i => .int i
  | .str _, _, .str x => .str x
  | .list ds, _, .lst h a => .lst (ex_l e h) (dps_up e ds a)
  | .tuple ds, _, .tup h a => .tup (ex_t e h) (dps_up e ds a)
theorem dps_up {K : PySem.W.Frag} {H H' : Hp} (e : Ex H H') : ∀ (ds : List PyData) {vs : List V}, DpAll K H vs ds → DpAll K H' vs ds
  | [], _, .nil => .nil
  | d :: ds, _, .cons h a => .cons (dp_up e d h) (dps_up e ds a)
end
/-- gives a thing that is d -/
def EvD (K : PySem.W.Frag) (te : TE) (σ : L2.St) (H : Hp) (d : PyData) : Prop := ∀ H1, Ex H H1 → ∀ Q : VK, (∀ v H2, Ex H1 H2 → Dp K H2 v d → Q v H2) → te σ H1 Q
section
variable {K : PySem.W.Frag} {σ : L2.St} {H H' : Hp} {te ta tb tl : TE} {t : TT} {d e : PyData} {ds : List PyData} {xs : List V} {v : V} {a : Addr}
theorem EvD.mono (h : EvD K te σ H d) (e : Ex H H') : EvD K te σ H' d := fun H1 e1 => h H1 (e.trans e1)
theorem ed_of (h : Ev te σ H v) (hd : ∀ H1, Ex H H1 → Dp K H1 v d) : EvD K te σ H d := fun H1 e Q q => h H1 e _ fun H2 e2 => q v H2 e2 (hd H2 (e.trans e2))
theorem ed_L (h : EvL te σ H xs) (hd : ∀ H1, Ex H H1 → DpAll K H1 xs ds) : EvD K te σ H (.list ds) := fun H1 e Q q => h H1 e _ fun p H2 _ e2 hp => q _ H2 e2 (.lst (sq_of hp) (hd H2 (e.trans e2)))
theorem ed_T (h : EvTu K te σ H xs) (hd : ∀ H1, Ex H H1 → DpAll K H1 xs ds) : EvD K te σ H (.tuple ds) := fun H1 e Q q => h H1 e _ fun p H2 e2 hp => q _ H2 e2 (.tup hp (hd H2 (e.trans e2)))
theorem ev_eqD (ha : EvD K ta σ H d) (hb : EvD K tb σ H e) (sd : SeqAt.shaped d = true) (se : SeqAt.shaped e = true) : Ev (tOp (rEqD K) ta tb) σ H (.bl (PyData.eqv d e)) := fun H1 e1 Q q =>
  ha H1 e1 _ fun v H2 e2 hv => hb H2 (e1.trans e2) _ fun u H3 e3 hu => ⟨d, e, dp_up e3 d hv, hu, sd, se, q H3 (e2.trans e3)⟩
theorem ev_neD (ha : EvD K ta σ H d) (hb : EvD K tb σ H e) (sd : SeqAt.shaped d = true) (se : SeqAt.shaped e = true) : Ev (tOp (rNeD K) ta tb) σ H (.bl (!PyData.eqv d e)) := fun H1 e1 Q q =>
  ha H1 e1 _ fun v H2 e2 hv => hb H2 (e1.trans e2) _ fun u H3 e3 hu => ⟨d, e, dp_up e3 d hv, hu, sd, se, q H3 (e2.trans e3)⟩
theorem ev_inD (ha : EvD K ta σ H d) (hb : EvD K tb σ H (.list ds)) (sd : SeqAt.shaped d = true) (se : SeqAt.shaped (.list ds) = true) : Ev (tOp (rInD K) ta tb) σ H (.bl (ds.any fun z => PyData.eqv z d)) := fun H1 e1 Q q =>
  ha H1 e1 _ fun v H2 e2 hv => hb H2 (e1.trans e2) _ fun u H3 e3 hu => ⟨d, ds, dp_up e3 d hv, hu, sd, se, q H3 (e2.trans e3)⟩
end
/-! ### what is not deep -/
def Low (n : Nat) (d : PyData) : Prop := d.canLay0 = true ∧ d.depth ≤ n
theorem lay_all : ∀ {ds : List PyData}, (∀ d ∈ ds, d.canLay0 = true) → PyData.canLayAll0 ds = true
  | [], _ => by simp [PyData.canLayAll0]
  | d :: ds, h => by simp [PyData.canLayAll0, h d List.mem_cons_self, lay_all fun x hx => h x (List.mem_cons_of_mem _ hx)]
theorem depth_all {n : Nat} : ∀ {ds : List PyData}, (∀ d ∈ ds, d.depth ≤ n) → PyData.depthAll ds ≤ n
  | [], _ => by simp [PyData.depthAll]
  | d :: ds, h => by
    simp only [PyData.depthAll]
    exact Nat.max_le.mpr ⟨h d List.mem_cons_self, depth_all fun x hx => h x (List.mem_cons_of_mem _ hx)⟩
theorem low_list {n : Nat} {ds : List PyData} (h : ∀ d ∈ ds, Low n d) : Low (n + 1) (.list ds) := by
  refine ⟨?_, ?_⟩
  · simp only [PyData.canLay0]
    exact lay_all fun d hd => (h d hd).1
  · have := depth_all fun d hd => (h d hd).2
    simp only [PyData.depth]
    omega
theorem low_tup {n : Nat} {ds : List PyData} (h : ∀ d ∈ ds, Low n d) : Low (n + 1) (.tuple ds) := by
  refine ⟨?_, ?_⟩
  · simp only [PyData.canLay0]
    exact lay_all fun d hd => (h d hd).1
  · have := depth_all fun d hd => (h d hd).2
    simp only [PyData.depth]
    omega
theorem low_shaped {n : Nat} {d : PyData} (h : Low n d) (hn : n ≤ 64) : SeqAt.shaped d = true := by
  unfold SeqAt.shaped
  rw [h.1, decide_eq_true (Nat.le_trans h.2 hn)]
  rfl
theorem low_int (i : Int) : Low 0 (.int i) := ⟨by simp [PyData.canLay0], by simp [PyData.depth]⟩
theorem low_str {z : Str} (h : PyData.strOk z = true) : Low 0 (.str z) := ⟨by simp [PyData.canLay0, h], by simp [PyData.depth]⟩
theorem low_non : Low 0 .none := ⟨by simp [PyData.canLay0], by simp [PyData.depth]⟩
theorem eqvAll_map {α : Type} [DecidableEq α] (f : α → PyData) (h : ∀ x y, PyData.eqv (f x) (f y) = decide (x = y)) : ∀ xs ys : List α, PyData.eqvAll (xs.map f) (ys.map f) = decide (xs = ys)
  | [], [] => by simp [PyData.eqvAll]
  | [], y :: ys => by simp [PyData.eqvAll]
  | x :: xs, [] => by simp [PyData.eqvAll]
  | x :: xs, y :: ys => by
    simp only [List.map_cons, PyData.eqvAll, eqvAll_map f h xs ys, h]
    by_cases h1 : x = y <;> by_cases h2 : xs = ys <;> simp [h1, h2]
/-! ### comprehensions -/
def at_ {α : Type} (l : List α) (p : α → Bool) (i : Nat) : Bool := (l[i]?).elim false p
def got {α : Type} (l : List α) (g : α → V) (i : Nat) : V := (l[i]?).elim .non g
theorem at_of {α : Type} {l : List α} {i : Nat} {x : α} {p : α → Bool} (h : l[i]? = some x) : at_ l p i = p x := by unfold at_; rw [h]; rfl
theorem got_of {α : Type} {l : List α} {i : Nat} {x : α} {g : α → V} (h : l[i]? = some x) : got l g i = g x := by unfold got; rw [h]; rfl
theorem all_got {α : Type} (l : List α) : (List.range l.length).map (fun i => l[i]?) = l.map some := by
  refine List.ext_getElem? fun i => ?_
  rw [List.getElem?_map, List.getElem?_map]
  by_cases h : i < l.length
  · rw [List.getElem?_range h, List.getElem?_eq_getElem h]
    show some l[i]? = some (some l[i])
    rw [List.getElem?_eq_getElem h]
  · rw [List.getElem?_eq_none (by rw [List.length_range]; omega), List.getElem?_eq_none (by omega)]
    rfl
theorem given_of {α : Type} (l : List α) (p : α → Bool) (g : α → V) : given l.length (at_ l p) (got l g) = (l.filter p).map g := by
  have e1 : given l.length (at_ l p) (got l g) = (((List.range l.length).map fun i => l[i]?).filter fun o => o.elim false p).map fun o => o.elim V.non g := by
    unfold given
    rw [List.filter_map, List.map_map]
    rfl
  rw [e1, all_got, List.filter_map, List.map_map]
  rfl
theorem nth_map {α : Type} {f : α → V} {l : List α} {i : Nat} {x : V} (h : (l.map f)[i]? = some x) : ∃ y, l[i]? = some y ∧ x = f y := by
  rw [List.getElem?_map] at h
  obtain ⟨y, hy, rfl⟩ := Option.map_eq_some_iff.mp h
  exact ⟨y, hy, rfl⟩
section
variable {K : PySem.W.Frag} {σ : L2.St} {H : Hp} {te ta tl : TE} {t : TT} {α : Type}
/-- [e for x in a list if t] -/
theorem el_mapL (f : α → V) {l : List α} {j : Nat} {vs : List Nat} {a : Addr} (p : α → Bool) (g : α → V) (h : Ev tl σ H (.ref a)) (hx : SqL K H a (l.map f)) (hz : l.length ≤ 40000) (hw : ∀ x, wipe ((wipe σ vs).set j (some x)) vs = wipe σ vs)
    (ht : ∀ x ∈ l, ∀ H1, Ex H H1 → EvT t ((wipe σ vs).set j (some (f x))) H1 (p x)) (he : ∀ x ∈ l, ∀ H1, Ex H H1 → p x = true → Ev te ((wipe σ vs).set j (some (f x))) H1 (g x)) : EvL (tLc (iList K tl) (gName j) t te vs) σ H ((l.filter p).map g) := by
  have c := el_lcL (K := K) (σ := σ) (H := H) (t := t) (te := te) (a := a) (xs := l.map f) (tl := tl) (j := j) (vs := vs) (at_ l p) (got l g) h hx (by rw [List.length_map]; exact hz) hw
    (fun i x H1 e hi => by
      obtain ⟨y, hy, rfl⟩ := nth_map hi
      rw [at_of hy]
      exact ht y (List.mem_of_getElem? hy) H1 e)
    (fun i x H1 e hi hf => by
      obtain ⟨y, hy, rfl⟩ := nth_map hi
      rw [at_of hy] at hf
      rw [got_of hy]
      exact he y (List.mem_of_getElem? hy) H1 e hf)
  rw [List.length_map, given_of] at c
  exact c
theorem el_mapNL (f : α → V) {l : List α} {j : Nat} {vs : List Nat} (p : α → Bool) (g : α → V) (h : EvL tl σ H (l.map f)) (hz : l.length ≤ 40000) (hw : ∀ x, wipe ((wipe σ vs).set j (some x)) vs = wipe σ vs)
    (ht : ∀ x ∈ l, ∀ H1, Ex H H1 → EvT t ((wipe σ vs).set j (some (f x))) H1 (p x)) (he : ∀ x ∈ l, ∀ H1, Ex H H1 → p x = true → Ev te ((wipe σ vs).set j (some (f x))) H1 (g x)) : EvL (tLc (iList K tl) (gName j) t te vs) σ H ((l.filter p).map g) := by
  have c := el_lcNL (K := K) (σ := σ) (H := H) (t := t) (te := te) (xs := l.map f) (tl := tl) (j := j) (vs := vs) (at_ l p) (got l g) h (by rw [List.length_map]; exact hz) hw
    (fun i x H1 e hi => by
      obtain ⟨y, hy, rfl⟩ := nth_map hi
      rw [at_of hy]
      exact ht y (List.mem_of_getElem? hy) H1 e)
    (fun i x H1 e hi hf => by
      obtain ⟨y, hy, rfl⟩ := nth_map hi
      rw [at_of hy] at hf
      rw [got_of hy]
      exact he y (List.mem_of_getElem? hy) H1 e hf)
  rw [List.length_map, given_of] at c
  exact c
/-- [e for x in a tuple if t] -/
theorem el_tup {xs : List V} {j : Nat} {vs : List Nat} (f : Nat → Bool) (v : Nat → V) (h : EvTu K tl σ H xs) (hz : xs.length ≤ 40000) (hw : ∀ x, wipe ((wipe σ vs).set j (some x)) vs = wipe σ vs)
    (ht : ∀ (i : Nat) (x : V) H1, Ex H H1 → xs[i]? = some x → EvT t ((wipe σ vs).set j (some x)) H1 (f i)) (he : ∀ (i : Nat) (x : V) H1, Ex H H1 → xs[i]? = some x → f i = true → Ev te ((wipe σ vs).set j (some x)) H1 (v i)) :
    EvL (tLc (iTup K tl) (gName j) t te vs) σ H (given xs.length f v) := fun H0 e Q q => h H0 e _ fun a H1 e1 hx =>
  ⟨a, rfl, ⟨xs, hx⟩, fun Dl hD => lc_it (n := xs.length) (walk_tup (xs := xs)) (Cw H1 f v Dl) ⟨hD, Ex.new hD, upd_same⟩ (fun _ H' _ p => ex_t p.2.1 hx)
    (fun k x H' H'' hk p y => by
      obtain ⟨rfl, hx'⟩ := y
      exact ⟨hw _, cw_turn p (by omega) (ht k x H1 (e.trans e1) hx') fun hf => he k x H1 (e.trans e1) hx' hf⟩)
    (fun H' p => q Dl H' (fresh_back e1 p.1) (e1.trans p.2.1) p.2.2)⟩
theorem el_mapT (f : α → V) {l : List α} {j : Nat} {vs : List Nat} (p : α → Bool) (g : α → V) (h : EvTu K tl σ H (l.map f)) (hz : l.length ≤ 40000) (hw : ∀ x, wipe ((wipe σ vs).set j (some x)) vs = wipe σ vs)
    (ht : ∀ x ∈ l, ∀ H1, Ex H H1 → EvT t ((wipe σ vs).set j (some (f x))) H1 (p x)) (he : ∀ x ∈ l, ∀ H1, Ex H H1 → p x = true → Ev te ((wipe σ vs).set j (some (f x))) H1 (g x)) : EvL (tLc (iTup K tl) (gName j) t te vs) σ H ((l.filter p).map g) := by
  have c := el_tup (K := K) (σ := σ) (H := H) (t := t) (te := te) (xs := l.map f) (tl := tl) (j := j) (vs := vs) (at_ l p) (got l g) h (by rw [List.length_map]; exact hz) hw
    (fun i x H1 e hi => by
      obtain ⟨y, hy, rfl⟩ := nth_map hi
      rw [at_of hy]
      exact ht y (List.mem_of_getElem? hy) H1 e)
    (fun i x H1 e hi hf => by
      obtain ⟨y, hy, rfl⟩ := nth_map hi
      rw [at_of hy] at hf
      rw [got_of hy]
      exact he y (List.mem_of_getElem? hy) H1 e hf)
  rw [List.length_map, given_of] at c
  exact c
/-- [e for i, x in enumerate(a tuple) if t] -/
theorem el_enT {ta : TA} {a : Addr} {xs : List V} {i j : Nat} {vs : List Nat} (f : Nat → Bool) (v : Nat → V) (h : EvA ta σ H [.ref a]) (hx : SqT K H a xs) (hz : xs.length ≤ 40000) (hw : ∀ x y, wipe (((wipe σ vs).set i (some x)).set j (some y)) vs = wipe σ vs)
    (ht : ∀ (k : Nat) (x : V) H1, Ex H H1 → xs[k]? = some x → EvT t (((wipe σ vs).set i (some (.int (k : Int)))).set j (some x)) H1 (f k)) (he : ∀ (k : Nat) (x : V) H1, Ex H H1 → xs[k]? = some x → f k = true → Ev te (((wipe σ vs).set i (some (.int (k : Int)))).set j (some x)) H1 (v k)) :
    EvL (tLc (EnT.iEnumT K ta) (gTup K 2 (gCons (gName i) (gCons (gName j) gNil))) t te vs) σ H (given xs.length f v) := fun H0 e Q q => h H0 e _ fun H1 e1 =>
  ⟨a, xs, rfl, ex_t (e.trans e1) hx, fun Dl hD => lc_it (n := xs.length) (EnT.walk_enumT (ys := xs)) (Cw H1 f v Dl) ⟨hD, Ex.new hD, upd_same⟩ (fun _ H' _ p => ex_t ((e.trans e1).trans p.2.1) hx)
    (fun k x H' H'' hk p y => by
      obtain ⟨T, x1, y1, rfl, hT, rfl, ex, ey⟩ := y
      obtain rfl := Option.some.inj ex
      have e2 := Ex.new (H := H') (o := .tup [.int (k : Nat), y1]) hT
      have p' : Cw H1 f v Dl k (upd H' T (.tup [.int (k : Nat), y1])) := ⟨p.1, p.2.1.trans e2, e2 _ _ p.2.2⟩
      exact ⟨T, _, rfl, st_of upd_same, rfl, _, _, rfl, _, _, rfl, rfl, hw _ _, cw_turn p' (by omega) (ht k y1 H1 (e.trans e1) ey) fun hf => he k y1 H1 (e.trans e1) ey hf⟩)
    (fun H' p => q Dl H' (fresh_back e1 p.1) (e1.trans p.2.1) p.2.2)⟩
end
end K19
namespace K19
open PySem L2 Evl Gr
/-! ### x in a tuple, as data -/
section
variable {X : Cx}
def rInDT (K : PySem.W.Frag) : R2 := fun x y H Q => ∃ d ds, Dp K H x d ∧ Dp K H y (.tuple ds) ∧ SeqAt.shaped d = true ∧ SeqAt.shaped (.tuple ds) = true ∧ Q (.bl (ds.any fun z => PyData.eqv z d)) H
theorem op_inDT (hu : X.A.units + 65 < cLine) : OpR X (compareOp .In) (rInDT X.K) := by
  intro pins s σ H x y v u Q I rx ry h
  obtain ⟨d, ds, hd, he, sd, se, q⟩ := h
  obtain ⟨as, r1⟩ := Dp.reads I d x v hd rx
  obtain ⟨bs, r2⟩ := Dp.reads I (.tuple ds) y u he ry
  exact SeqAt.in_tuple_reads r2 r1 (SeqAt.canLay_of_shaped se) (SeqAt.canLay_of_shaped sd) (PyProof.Rows.room_in_shaped sd hu) ⟨.bl _, H, I, rfl, q⟩
end
/-! ### comprehensions of two clauses, and of dicts -/
section
variable {J J1 : It} {n n1 : Nat} {G G1 : Hp → Prop} {Y Y1 : Nat → Hp → V → Hp → Prop}
theorem lc2_it (w : Walk J n G Y) {g : TG} {tt : TT} {wi1 : TI} {g1 : TG} {tt1 : TT} {te : TE} {vs vs1 : List Nat} {σ : L2.St} {H1 : Hp} {D : Addr} {Qd : Hp → Prop} (Pv : Nat → Hp → Prop) (h0 : Pv 0 (upd H1 D (.lst []))) (hG : ∀ i H, i ≤ n → Pv i H → G H)
    (hs : ∀ i x H H', i < n → Pv i H → Y i H x H' → g x (wipe σ vs) H' fun σ2 H2 => wipe σ2 vs = wipe σ vs ∧ tt σ2 H2 fun b H3 =>
      if b = true then wi1 σ2 H3 fun J1 H4 => ∃ W1 : Nat → Nat → Hp → Prop, (∃ m, W1 0 m H4) ∧ ∀ j k H, W1 j k H →
        (J1.stop j H ∧ Pv (i + 1) H) ∨ (J1.go j H ∧ ∃ Nx1 : Hp → Prop, (∀ H', Nx1 H' → ∃ k', k' < k ∧ W1 (j + 1) k' H') ∧ ∀ x H', J1.yld j H x H' → g1 x (wipe σ2 vs1) H' fun σ3 H5 => wipe σ3 vs1 = wipe σ2 vs1 ∧ tt1 σ3 H5 fun b H6 =>
          if b = true then te σ3 H6 fun y H7 => ∃ acc, H7 D = some (.lst acc) ∧ acc.length < sizeLine ∧ Nx1 (upd H7 D (.lst (acc ++ [y]))) else Nx1 H6)
      else Pv (i + 1) H3) (hd : ∀ H, Pv n H → Qd H) :
    ∃ W : Nat → Nat → Hp → Prop, (∃ m, W 0 m (upd H1 D (.lst []))) ∧ ∀ i m H, W i m H →
      (J.stop i H ∧ Qd H) ∨ (J.go i H ∧ ∃ Nx : Hp → Prop, (∀ H', Nx H' → ∃ m', m' < m ∧ W (i + 1) m' H') ∧ ∀ x H', J.yld i H x H' → g x (wipe σ vs) H' fun σ2 H2 => wipe σ2 vs = wipe σ vs ∧ tt σ2 H2 fun b H3 =>
        if b = true then wi1 σ2 H3 fun J1 H4 => ∃ W1 : Nat → Nat → Hp → Prop, (∃ m, W1 0 m H4) ∧ ∀ j k H, W1 j k H →
          (J1.stop j H ∧ Nx H) ∨ (J1.go j H ∧ ∃ Nx1 : Hp → Prop, (∀ H', Nx1 H' → ∃ k', k' < k ∧ W1 (j + 1) k' H') ∧ ∀ x H', J1.yld j H x H' → g1 x (wipe σ2 vs1) H' fun σ3 H5 => wipe σ3 vs1 = wipe σ2 vs1 ∧ tt1 σ3 H5 fun b H6 =>
            if b = true then te σ3 H6 fun y H7 => ∃ acc, H7 D = some (.lst acc) ∧ acc.length < sizeLine ∧ Nx1 (upd H7 D (.lst (acc ++ [y]))) else Nx1 H6)
        else Nx H3) := by
  refine ⟨fun i m H => m = n - i ∧ i ≤ n ∧ Pv i H, ⟨n, by simp, Nat.zero_le _, h0⟩, fun i m H ⟨em, hi, p⟩ => ?_⟩
  subst em
  have q := hG i H hi p
  rcases Nat.lt_or_ge i n with lt | ge
  · exact .inr ⟨w.goes i H lt q, Pv (i + 1), fun H' p' => ⟨n - (i + 1), by omega, rfl, lt, p'⟩, fun x H' y => hs i x H H' lt p (w.yields i H x H' lt q y)⟩
  · obtain rfl : i = n := by omega
    exact .inl ⟨w.stops H q, hd H p⟩
theorem in2_it (w : Walk J1 n1 G1 Y1) {g1 : TG} {tt1 : TT} {te : TE} {vs1 : List Nat} {σ2 : L2.St} {H4 : Hp} {D : Addr} {Nx : Hp → Prop} (Qv : Nat → Hp → Prop) (h0 : Qv 0 H4) (hG : ∀ i H, i ≤ n1 → Qv i H → G1 H)
    (hs : ∀ i x H H', i < n1 → Qv i H → Y1 i H x H' → g1 x (wipe σ2 vs1) H' fun σ3 H5 => wipe σ3 vs1 = wipe σ2 vs1 ∧ tt1 σ3 H5 fun b H6 =>
      if b = true then te σ3 H6 fun y H7 => ∃ acc, H7 D = some (.lst acc) ∧ acc.length < sizeLine ∧ Qv (i + 1) (upd H7 D (.lst (acc ++ [y]))) else Qv (i + 1) H6) (hd : ∀ H, Qv n1 H → Nx H) :
    ∃ W1 : Nat → Nat → Hp → Prop, (∃ m, W1 0 m H4) ∧ ∀ j k H, W1 j k H →
      (J1.stop j H ∧ Nx H) ∨ (J1.go j H ∧ ∃ Nx1 : Hp → Prop, (∀ H', Nx1 H' → ∃ k', k' < k ∧ W1 (j + 1) k' H') ∧ ∀ x H', J1.yld j H x H' → g1 x (wipe σ2 vs1) H' fun σ3 H5 => wipe σ3 vs1 = wipe σ2 vs1 ∧ tt1 σ3 H5 fun b H6 =>
        if b = true then te σ3 H6 fun y H7 => ∃ acc, H7 D = some (.lst acc) ∧ acc.length < sizeLine ∧ Nx1 (upd H7 D (.lst (acc ++ [y]))) else Nx1 H6) := by
  refine ⟨fun i m H => m = n1 - i ∧ i ≤ n1 ∧ Qv i H, ⟨n1, by simp, Nat.zero_le _, h0⟩, fun i m H ⟨em, hi, p⟩ => ?_⟩
  subst em
  have q := hG i H hi p
  rcases Nat.lt_or_ge i n1 with lt | ge
  · exact .inr ⟨w.goes i H lt q, Qv (i + 1), fun H' p' => ⟨n1 - (i + 1), by omega, rfl, lt, p'⟩, fun x H' y => hs i x H H' lt p (w.yields i H x H' lt q y)⟩
  · obtain rfl : i = n1 := by omega
    exact .inl ⟨w.stops H q, hd H p⟩
theorem dc_it (w : Walk J n G Y) {g : TG} {tt : TT} {tk tv : TE} {vs : List Nat} {σ : L2.St} {H1 : Hp} {D : Addr} {Qd : Hp → Prop} (Pv : Nat → Hp → Prop) (h0 : Pv 0 (upd H1 D (.dK []))) (hG : ∀ i H, i ≤ n → Pv i H → G H)
    (hs : ∀ i x H H', i < n → Pv i H → Y i H x H' → g x (wipe σ vs) H' fun σ2 H2 => wipe σ2 vs = wipe σ vs ∧ tt σ2 H2 fun b H3 =>
      if b = true then tk σ2 H3 fun y H4 => tv σ2 H4 fun z H5 => ∃ kvs k, y = kV k ∧ H5 D = some (.dK kvs) ∧ kvs.length < sizeLine ∧ Pv (i + 1) (upd H5 D (.dK (putK kvs k z))) else Pv (i + 1) H3) (hd : ∀ H, Pv n H → Qd H) :
    ∃ W : Nat → Nat → Hp → Prop, (∃ m, W 0 m (upd H1 D (.dK []))) ∧ ∀ i m H, W i m H →
      (J.stop i H ∧ Qd H) ∨ (J.go i H ∧ ∃ Nx : Hp → Prop, (∀ H', Nx H' → ∃ m', m' < m ∧ W (i + 1) m' H') ∧ ∀ x H', J.yld i H x H' → g x (wipe σ vs) H' fun σ2 H2 => wipe σ2 vs = wipe σ vs ∧ tt σ2 H2 fun b H3 =>
        if b = true then tk σ2 H3 fun y H4 => tv σ2 H4 fun z H5 => ∃ kvs k, y = kV k ∧ H5 D = some (.dK kvs) ∧ kvs.length < sizeLine ∧ Nx (upd H5 D (.dK (putK kvs k z))) else Nx H3) := by
  refine ⟨fun i m H => m = n - i ∧ i ≤ n ∧ Pv i H, ⟨n, by simp, Nat.zero_le _, h0⟩, fun i m H ⟨em, hi, p⟩ => ?_⟩
  subst em
  have q := hG i H hi p
  rcases Nat.lt_or_ge i n with lt | ge
  · exact .inr ⟨w.goes i H lt q, Pv (i + 1), fun H' p' => ⟨n - (i + 1), by omega, rfl, lt, p'⟩, fun x H' y => hs i x H H' lt p (w.yields i H x H' lt q y)⟩
  · obtain rfl : i = n := by omega
    exact .inl ⟨w.stops H q, hd H p⟩
end
end K19
namespace K19
open PySem L2 Evl Gr StX EnT Kn
/-! ### ages and sums -/
def AgesOk (l : List Nat) : Prop := l ≠ [] ∧ l.length ≤ 4 ∧ (∀ a ∈ l, 1 ≤ a ∧ a ≤ 4) ∧ l.Pairwise (· < ·)
theorem vN_map (l : List Nat) : vN l = l.map fun n : Nat => V.int (n : Int) := by
  show vI (zI l) = _
  unfold vI zI
  rw [List.map_map]
  rfl
theorem ev_all {K : PySem.W.Frag} {σ : L2.St} {H : Hp} {te : TE} {bs : List Bool} (h : EvL te σ H (bs.map V.bl)) : Ev (tCB (rAll K) (tCons te tNil)) σ H (.bl (bs.all id)) := fun H1 e Q q =>
  h H1 e _ fun p H2 _ e2 hp => ⟨p, bs, rfl, sq_of hp, q H2 e2⟩
theorem all_yes (n : Nat) : ((List.replicate n true).all id) = true := by
  rw [List.all_eq_true]
  intro x hx
  rw [(List.mem_replicate.mp hx).2]
  rfl
theorem rep_map (n : Nat) : (List.replicate n true).map V.bl = List.replicate n (V.bl true) := List.map_replicate
section
variable {P : Program} {w : World} {K : PySem.W.Frag} {mg : Str → Option Value} {base : Heap}
abbrev sAsc : Stmt := top 19
abbrev sSum : Stmt := top 20
def spAsc (K : PySem.W.Frag) : Sp := fun vs H Q _ => ∃ (a : Addr) (l : List Nat), vs = [.ref a] ∧ SqT K H a (vN l) ∧ l.length ≤ 4 ∧ l.Pairwise (· < ·) ∧ l ≠ [] ∧ RetV (.bl true) H Q
theorem scAsc : FnScope ["values", "at"] ["values"] (defScope sAsc) := ⟨rfl, rfl, rfl, by decide +kernel, rfl, by decide +kernel, by decide +kernel⟩
theorem ok_Asc {f : Addr} {fd : FuncData} (F : Fun K "is_ascending" "is_ascending" sAsc f fd) (S : GlbS mg) (all : mg "all" = none) : FnOk P w K mg base CX0 1 f fd ["values"] (spAsc K) := by
  refine F.ok scAsc (fun vs H Q E h => ?_) (fun cdv A outer s H vs Q E hr h => ?_)
  · obtain ⟨a, l, rfl, _⟩ := h
    rfl
  · obtain ⟨a, l, rfl, hL, h4, up, ne, k⟩ := h
    refine ⟨_, (pss_one (ps_ret (pe_callB (cr_all rfl) (by rfl) all (by decide +kernel) (pa_cons (pe_lc (own := [("at", 1)]) (g := gName 1) rfl scAsc.nd (pi_range2 (by rfl) S.range (pa_cons pe_int (pa_cons (pe_callB call_len_seq (by rfl) S.len PySem.boot_len (pa_cons (pv 0) pa_nil)) pa_nil)))
        (blkOk_by (own := [("at", 1)]) (N := ["values", "at"]) (sc := defScope sAsc) (by decide +kernel)) (fun _ _ _ _ _ => pg_name (i := 1) scAsc.nd rfl (Or.inl rfl)) (fun _ _ _ _ _ => pts_nil)
        (fun _ _ _ _ _ => pe_cmpR op_lt (pe_ix (show IxR _ (rIxT K) from ix_tup) (pv 0) (pe_op op_sub (pv 1) pe_int) (fun _ _ => rfl)) (pe_ix (show IxR _ (rIxT K) from ix_tup) (pv 0) (pv 1) (fun _ _ => rfl)) (nomark _))) pa_nil)))), ?_⟩
    have l0 : 0 < l.length := List.length_pos_iff.mpr ne
    have at_ : ∀ {i : Nat} {v : Nat}, l[i]? = some v → atI (vN l) (i : Int) = some (V.int (v : Int)) := fun h => atI_nat (vN_at h)
    have c1 := el_lcR2 (σ := [some (.ref a), none]) (H := H) (t := tYes) (j := 1) (vs := [1]) (lo := 1) (n := (l.length : Int))
      (te := tOp (rI0 fun i j => .bl (decide (i < j))) (tOp (rIxT K) (tVar 0) (tOp (rI0 fun i j => .int (i - j)) (tVar 1) (tC (.int 1)))) (tOp (rIxT K) (tVar 0) (tVar 1)))
      (fun _ => true) (fun _ => V.bl true)
      (ta := tCons (tC (.int 1)) (tCons (tCB (fun xs H Q => ∃ p ys, xs = [V.ref p] ∧ (SqL K H p ys ∨ SqT K H p ys) ∧ Q (.int ys.length) H) (tCons (tVar 0) tNil)) tNil))
      (ea_cons ev_c (ea_cons (ev_is (ev_cb (ea_cons (ev_var rfl) ea_nil) (rc_lenQ (.inr hL))) (by rw [vN_len])) ea_nil)) (by omega) (fun _ => rfl) (fun i H1 e1 hi => et_none) (fun i H1 e1 hi _ => by
        have hi' : i + 1 < l.length := by omega
        have g1 : l[i]? = some l[i] := List.getElem?_eq_getElem (by omega)
        have g2 : l[i + 1]? = some l[i + 1] := List.getElem?_eq_getElem hi'
        have lt := List.pairwise_iff_getElem.mp up i (i + 1) (by omega) hi' (by omega)
        exact ev_is (ev_op (ev_op (y := .int (i : Int)) (ev_var rfl) (ev_is (ev_op (ev_var rfl) ev_c rv_I0) (by congr 1; omega)) (rv_ixT (ex_t e1 hL) (at_ g1))) (ev_op (y := .int ((i + 1 : Nat) : Int)) (ev_var rfl) (ev_is (ev_var rfl) (by congr 1; omega)) (rv_ixT (ex_t e1 hL) (at_ g2))) rv_I0) (congrArg V.bl (decide_eq_true (by omega))))
    rw [given_all] at c1
    have c2 : (List.range ((l.length : Int) - 1).toNat).map (fun _ : Nat => V.bl true) = (List.replicate ((l.length : Int) - 1).toNat true).map V.bl := by
      rw [rep_map, List.map_const', List.length_range]
    rw [c2] at c1
    exact s_ret (ev_is (ev_all c1) (congrArg V.bl (all_yes _))) k
def spSum (K : PySem.W.Frag) : Sp := fun vs H Q _ => ∃ (a : Addr) (l : List Nat), vs = [.ref a] ∧ H a = some (.tup (vN l)) ∧ AgesOk l ∧ RetV (.bl true) H Q
theorem scSum : FnScope ["value", "age"] ["value"] (defScope sSum) := ⟨rfl, rfl, rfl, by decide +kernel, rfl, by decide +kernel, by decide +kernel⟩
theorem kit_tt : kitB "tuple" "tuple" = some true := by decide +kernel
theorem ok_Sum {f : Addr} {fd : FuncData} (F : Fun K "is_sum" "is_sum" sSum f fd) (T : GlbT mg) (S : GlbS mg) (all : mg "all" = none) (hm : ∃ t, mg "MOST_AGE" = some (.int 4 t)) (GW : Gfn P w K mg base 2 "is_within" ["value", "least", "most"] (spWithin K)) (GA : Gfn P w K mg base 1 "is_ascending" ["values"] (spAsc K)) :
    FnOk P w K mg base CX0 3 f fd ["value"] (spSum K) := by
  obtain ⟨fW, fdW, GW, kW, bW, gW⟩ := GW
  obtain ⟨fA, fdA, GA, kA, bA, gA⟩ := GA
  obtain ⟨t4, hm⟩ := hm
  refine F.ok scSum (fun vs H Q E h => ?_) (fun cdv A outer s H vs Q E hr h => ?_)
  · obtain ⟨a, l, rfl, _⟩ := h
    rfl
  · obtain ⟨a, l, rfl, hL, ok, k⟩ := h
    have r1 := hr.mono (show 1 ≤ 2 by decide)
    refine ⟨_, (pss_cons (ps_if (PW.pt (pw_or (pt_not (pt_val (pe_callB call_isi (by rfl) T.inst (by decide +kernel) (pa_cons (pv 0) (pa_cons (pe_bltn (v := .ty "tuple") (by rfl) S.tuple (by decide +kernel) rfl) pa_nil))))) (pw_or1 (pt_not (pt_chain op_le op_le pe_int (pe_callB call_len_seq (by rfl) S.len PySem.boot_len (pa_cons (pv 0) pa_nil)) (pe_glob (v := .int 4) (by rfl) hm ⟨t4, rfl⟩)))))) (pss_one (ps_ret pe_bl)) pss_nil)
      (pss_one (ps_ret (pe_and (pe_callB (cr_all rfl) (by rfl) all (by decide +kernel) (pa_cons (pe_lc (own := [("age", 1)]) (g := gName 1) rfl scSum.nd (pi_tup (pv 0)) (blkOk_by (own := [("age", 1)]) (N := ["value", "age"]) (sc := defScope sSum) (by decide +kernel)) (fun _ _ _ _ _ => pg_name (i := 1) scSum.nd rfl (Or.inl rfl)) (fun _ _ _ _ _ => pts_nil)
        (fun _ _ _ _ _ => pe_call GW hr (by rfl) gW kW bW .nil pass0 (pa_cons (pv 1) (pa_cons pe_int (pa_cons (pe_glob (v := .int 4) (by rfl) hm ⟨t4, rfl⟩) pa_nil))))) pa_nil)) (pe_one (pe_call GA r1 (by rfl) gA kA bA .nil pass0 (pa_cons (pv 0) pa_nil))))))), ?_⟩
    obtain ⟨ne, h4, h14, up⟩ := ok
    have l0 : 0 < l.length := List.length_pos_iff.mpr ne
    refine q_when (b := false) (et_is (et_or (et_not (et_B (ev_cb (ea_cons (ev_var rfl) (ea_cons ev_c ea_nil)) (rc_isi (.base (.tup hL)) kit_tt)))) fun _ => et_not (et_test (ev_chain ev_c (ev_is (ev_cb (ea_cons (ev_var rfl) ea_nil) (rc_lenQ (.inr (st_of hL)))) (by rw [vN_len])) ev_c))) ?_) (fun z => absurd z (by decide)) (fun _ H1 e1 => ?_)
    · show (!true || !(decide ((1 : Int) ≤ (l.length : Int)) && decide ((l.length : Int) ≤ 4))) = false
      rw [decide_eq_true (by omega), decide_eq_true (by omega)]
      rfl
    have hL1 := e1 _ _ hL
    have c := el_mapT (K := K) (σ := [some (.ref a), none]) (H := H1) (tl := tVar 0) (t := tYes) (te := tCall (spWithin K) [] E0 (tCons (tVar 1) (tCons (tC (.int 1)) (tCons (tC (.int 4)) tNil)))) (fun n : Nat => V.int (n : Int)) (l := l) (j := 1) (vs := [1]) (fun _ => true) (fun _ => V.bl true)
      (etu_var rfl (by rw [← vN_map]; exact st_of hL1)) (by omega) (fun _ => rfl) (fun n hn H2 e2 => et_none) (fun n hn H2 e2 _ => ev_is (ev_call (z := .bl (decide ((1 : Int) ≤ (n : Int)) && decide ((n : Int) ≤ 4))) (ea_cons (ev_var rfl) (ea_cons ev_c (ea_cons ev_c ea_nil))) fun H3 e3 Q3 q3 E3 => .inl ⟨_, _, _, rfl, q3⟩) (by
        have := h14 n hn
        rw [decide_eq_true (by omega), decide_eq_true (by omega)]
        rfl))
    have c2 : (l.filter fun _ => true).map (fun _ : Nat => V.bl true) = (List.replicate l.length true).map V.bl := by
      rw [filter_yes, rep_map, List.map_const']
    rw [c2] at c
    refine s_ret (ev_is (ev_andV (ev_all c) fun _ => ev_call (z := .bl true) (ea_cons (ev_var rfl) ea_nil) fun H3 e3 Q3 q3 E3 => ⟨a, l, rfl, st_of (e3 _ _ hL1), h4, up, ne, q3⟩) (by rw [all_yes]; rfl)) fun H2 e2 => k H2 (e1.trans e2)
end
end K19
namespace K19
open PySem L2 Evl Gr StX EnT MkS StK Kn
structure GlbE (mg : Str → Option Value) : Prop where
  enum : mg "enumerate" = none
  sorted : mg "sorted" = none
  any : mg "any" = none
  all : mg "all" = none
  sum : mg "sum" = none
/-! ### rows of sums -/
def TRow (H : Hp) (xs : List V) (ss : List (List Nat)) : Prop := xs.length = ss.length ∧ ∀ (i : Nat) (x : V) (l : List Nat), xs[i]? = some x → ss[i]? = some l → ∃ a : Addr, x = V.ref a ∧ H a = some (.tup (vN l))
theorem TRow.mono {H H' : Hp} {xs : List V} {ss : List (List Nat)} (e : Ex H H') (h : TRow H xs ss) : TRow H' xs ss := ⟨h.1, fun i x l hx hl => by
  obtain ⟨a, h1, h2⟩ := h.2 i x l hx hl
  exact ⟨a, h1, e _ _ h2⟩⟩
theorem TRow.at {H : Hp} {xs : List V} {ss : List (List Nat)} (h : TRow H xs ss) {i : Nat} {x : V} (hx : xs[i]? = some x) : ∃ (a : Addr) (l : List Nat), ss[i]? = some l ∧ x = .ref a ∧ H a = some (.tup (vN l)) := by
  have lt : i < ss.length := by rw [← h.1]; exact (List.getElem?_eq_some_iff.mp hx).1
  obtain ⟨a, h1, h2⟩ := h.2 i x _ hx (List.getElem?_eq_getElem lt)
  exact ⟨a, _, List.getElem?_eq_getElem lt, h1, h2⟩
theorem TRow.take {H : Hp} {xs : List V} {ss : List (List Nat)} (h : TRow H xs ss) (n : Nat) : TRow H (xs.take n) (ss.take n) := ⟨by rw [List.length_take, List.length_take, h.1], fun i x l hx hl => by
  rw [List.getElem?_take] at hx hl
  by_cases c : i < n
  · rw [if_pos c] at hx hl
    exact h.2 i x l hx hl
  · rw [if_neg c] at hx
    cases hx⟩
theorem TRow.tail {H : Hp} {x : V} {xs : List V} {l : List Nat} {ss : List (List Nat)} (h : TRow H (x :: xs) (l :: ss)) : TRow H xs ss := ⟨Nat.succ.inj h.1, fun i y m hy hm => h.2 (i + 1) y m hy hm⟩
theorem trow_nil {H : Hp} : TRow H [] [] := ⟨rfl, fun i x l hx => by cases hx⟩
theorem trow_cons {H : Hp} {a : Addr} {xs : List V} {l : List Nat} {ss : List (List Nat)} (ha : H a = some (.tup (vN l))) (h : TRow H xs ss) : TRow H (.ref a :: xs) (l :: ss) := ⟨by rw [List.length_cons, List.length_cons, h.1], fun i y m hy hm => by
  cases i with
  | zero =>
    cases hy
    cases hm
    exact ⟨a, rfl, ha⟩
  | succ i => exact h.2 i y m hy hm⟩
def tD (l : List Nat) : PyData := .tuple ((zI l).map PyData.int)
theorem tD_eqv (a b : List Nat) : PyData.eqv (tD a) (tD b) = decide (a = b) := by
  unfold tD
  rw [eqv_tups]
  exact decide_eq_decide.mpr zI_inj
theorem tD_low (l : List Nat) : Low 1 (tD l) := low_tup (n := 0) fun d hd => by
  obtain ⟨i, _, rfl⟩ := List.mem_map.mp hd
  exact low_int i
theorem tDs_low (ss : List (List Nat)) : Low 2 (.tuple (ss.map tD)) := low_tup (n := 1) fun d hd => by
  obtain ⟨i, _, rfl⟩ := List.mem_map.mp hd
  exact tD_low i
theorem dp_tD {K : PySem.W.Frag} {H : Hp} {a : Addr} {l : List Nat} (h : H a = some (.tup (vN l))) : Dp K H (.ref a) (tD l) := .tup (st_of h) (dpAll_ints (zI l))
theorem trow_dp {K : PySem.W.Frag} {H : Hp} : ∀ {xs : List V} {ss : List (List Nat)}, TRow H xs ss → DpAll K H xs (ss.map tD)
  | [], [], _ => .nil
  | [], l :: ss, h => by cases h.1
  | x :: xs, [], h => by cases h.1
  | x :: xs, l :: ss, h => by
    obtain ⟨a, rfl, ha⟩ := h.2 0 x l rfl rfl
    exact .cons (dp_tD ha) (trow_dp h.tail)
theorem tD_any (l : List Nat) : ∀ ss : List (List Nat), ((ss.map tD).any fun z => PyData.eqv z (tD l)) = decide (l ∈ ss)
  | [] => by simp
  | m :: ss => by
    rw [List.map_cons, List.any_cons, tD_eqv, tD_any l ss, Bool.eq_iff_iff, Bool.or_eq_true, decide_eq_true_iff, decide_eq_true_iff, decide_eq_true_iff, List.mem_cons]
    exact ⟨fun h => h.elim (fun z => .inl z.symm) .inr, fun h => h.elim (fun z => .inl z.symm) .inr⟩
/-- what stands at a tuple of numbers -/
def nmO : Option HO → List Nat
  | some (.tup vs) => vs.map fun v => match v with
    | .int n => n.toNat
    | _ => 0
  | _ => []
def nmV (H : Hp) : V → List Nat
  | .ref a => nmO (H a)
  | _ => []
theorem nmO_tup (l : List Nat) : nmO (some (.tup (vN l))) = l := by
  show (vN l).map _ = l
  rw [vN_map, List.map_map]
  exact List.map_id'' (fun n => Int.toNat_natCast n) l
theorem TRow.is {H : Hp} {xs : List V} {ss : List (List Nat)} (h : TRow H xs ss) : ss = xs.map (nmV H) := by
  refine List.ext_getElem? fun i => ?_
  rw [List.getElem?_map]
  cases hx : xs[i]? with
  | none =>
    rw [List.getElem?_eq_none_iff] at hx
    rw [List.getElem?_eq_none (by rw [← h.1]; exact hx)]
    rfl
  | some x =>
    obtain ⟨a, l, hl, rfl, ha⟩ := h.at hx
    rw [hl]
    show some l = some (nmO (H a))
    rw [ha, nmO_tup]
theorem TRow.perm {H : Hp} {xs ys : List V} {ss : List (List Nat)} (h : TRow H xs ss) (p : ys.Perm xs) : ∃ ss', TRow H ys ss' ∧ ss'.Perm ss := by
  refine ⟨ys.map (nmV H), ⟨by rw [List.length_map], fun i x l hx hl => ?_⟩, by rw [h.is]; exact p.map _⟩
  rw [List.getElem?_map, hx] at hl
  obtain rfl := Option.some.inj hl
  obtain ⟨j, hj⟩ := List.mem_iff_getElem?.mp (p.mem_iff.mp (List.mem_of_getElem? hx))
  obtain ⟨a, l, _, rfl, ha⟩ := h.at hj
  refine ⟨a, rfl, ?_⟩
  show H a = some (.tup (vN (nmO (H a))))
  rw [ha, nmO_tup]
/-! ### phases -/
structure PhC (K : PySem.W.Frag) (C : Addr) : Prop where
  cls : Cls K C
  sums : NoAttr K C "sums"
  mute : NoAttr K C "mute"
def PhOk (ss : List (List Nat)) : Prop := (∀ l ∈ ss, AgesOk l) ∧ ss.length ≤ 4
/-- a phase that is so stands at o -/
def PhAt (K : PySem.W.Frag) (C : Addr) (H : Hp) (o : Addr) (p : Ph) : Prop := ∃ dx q xs, H o = some (.ins C dx [("sums", .ref q), ("mute", .bl p.1)]) ∧ SqT K H q xs ∧ TRow H xs p.2 ∧ PhOk p.2
theorem PhAt.mono {K : PySem.W.Frag} {C : Addr} {H H' : Hp} {o : Addr} {p : Ph} (e : Ex H H') (h : PhAt K C H o p) : PhAt K C H' o p := by
  obtain ⟨dx, q, xs, h1, h2, h3, h4⟩ := h
  exact ⟨dx, q, xs, e _ _ h1, ex_t e h2, h3.mono e, h4⟩
abbrev sPh (i : Nat) : Stmt := inClass (top 25) i
abbrev nPh : List Str := ["self", "mute", "sums", "at", "ages"]
theorem scPh : FnScope nPh ["self", "mute", "sums"] (defScope (sPh 0)) := ⟨rfl, rfl, rfl, by decide +kernel, rfl, by decide +kernel, by decide +kernel⟩
theorem cut_n {xs : List V} {n : Nat} (h : n ≤ xs.length) : cutV xs none (some (n : Int)) = xs.take n := by
  unfold cutV
  rw [show HT.sIx xs.length 0 none = 0 from rfl, HT.sIx_nat, List.drop_zero, Nat.sub_zero, Nat.min_eq_left h]
theorem kit_bb : kitB "bool" "bool" = some true := by decide +kernel
section
variable {P : Program} {w : World} {K : PySem.W.Frag} {mg : Str → Option Value} {base : Heap}
def spPh (K : PySem.W.Frag) (C : Addr) : Sp := fun vs H Q _ => ∃ (o p dx : Addr) (m : Bool) (xs : List V) (ss : List (List Nat)), vs = [.ref o, .bl m, .ref p] ∧ H o = some (.ins C dx []) ∧ SqT K H p xs ∧ TRow H xs ss ∧ PhOk ss ∧ ss.Nodup ∧
  ∀ H' ss', Keep o H H' → PhAt K C H' o (m, ss') → ss'.Perm ss → Q .non H'
theorem trow_upd {H : Hp} {o C dx : Addr} {fs : List (Str × V)} {u : HO} {xs : List V} {ss : List (List Nat)} (h : TRow H xs ss) (ho : H o = some (.ins C dx fs)) : TRow (upd H o u) xs ss := ⟨h.1, fun i x l hx hl => by
  obtain ⟨a, h1, h2⟩ := h.2 i x l hx hl
  exact ⟨a, h1, by rw [upd_ne (fun z => by rw [z, ho] at h2; cases h2)]; exact h2⟩⟩
theorem runs_Ph {C f : Addr} {cdv : Value} (G : PhC K C) (T : GlbT mg) (S : GlbS mg) (I : GlbE mg) (hm : ∃ t, mg "MOST_SUMS" = some (.int 4 t)) (GS : Gfn P w K mg base 3 "is_sum" ["value"] (spSum K))
    (A : Around) (outer : List Env) (s : Shared) (H : Hp) (vs : List V) (Q : VK) (E : XK) (hr : Room 3 (A.deeper (PyProof.Rows.envOfC "Phase.__init__" (defScope (sPh 0)) s.heap.objs.size f cdv))) (h : spPh K C vs H Q E) :
    ∃ t, PSs (cxOf CX0 P w K mg base nPh "Phase.__init__" (defScope (sPh 0)) f cdv A outer s H E) (defBody (sPh 0)) t ∧ t { nx := fun _ H' => Q .non H', rt := Q } (L2.start nPh vs) H := by
  suffices z : ∃ t, PSs (cxOf CX0 P w K mg base nPh "Phase.__init__" (defScope (sPh 0)) f cdv A outer s H E).nox (defBody (sPh 0)) t ∧ t { nx := fun _ H' => Q .non H', rt := Q } (L2.start nPh vs) H from
    let ⟨t, a, b⟩ := z
    ⟨t, a.nox, b⟩
  obtain ⟨fS, fdS, GS, kS, bS, gS⟩ := GS
  obtain ⟨t4, hm⟩ := hm
  obtain ⟨o, p, dx, m, xs, ss, rfl, hO, hP, row, ok, nd, k⟩ := h
  have hu : (A.deeper (PyProof.Rows.envOfC "Phase.__init__" (defScope (sPh 0)) s.heap.objs.size f cdv)).units + 65 < cLine := by have := hr.un; omega
  refine ⟨_, (pss_cons (ps_for PassesOwn.never rfl (pi_enumT (by rfl) I.enum (pa_cons (pv 2) pa_nil)) (pg_tup rfl (pgs_cons (pg_name (i := 3) scPh.nd rfl (.inl rfl)) (pgs_cons (pg_name (i := 4) scPh.nd rfl (.inl rfl)) pgs_nil)))
      (pss_one (ps_if (PW.pt (pw_or (pt_not (pt_val (pe_call GS hr (by rfl) gS kS bS .nil pass0 (pa_cons (pv 4) pa_nil)))) (pw_or1 (pt_cmpR (op_inDT hu) (pv 4) (pe_slice sl_tup (pv 2) po_none (po_some (pv 3))) (by with_unfolding_all rfl))))) (pss_one ps_no) pss_nil)))
      (pss_cons (ps_if (pt_cmpR op_gt (pe_callB call_len_seq (by rfl) S.len PySem.boot_len (pa_cons (pv 2) pa_nil)) (pe_glob (v := .int 4) (by rfl) hm ⟨t4, rfl⟩) (nomark _)) (pss_one ps_no) pss_nil)
      (pss_cons (ps_if (pt_not (pt_val (pe_callB call_isi (by rfl) T.inst (by decide +kernel) (pa_cons (pv 1) (pa_cons (pe_bltn (v := .ty "bool") (by rfl) T.bool (by decide +kernel) rfl) pa_nil))))) (pss_one ps_no) pss_nil)
      (pss_cons (ps_fld (pv 0) (pe_tupleOf (by rfl) S.tuple (pe_callB cr_sortedTI (by rfl) I.sorted (by decide +kernel) (pa_cons (pv 2) pa_nil))) (by rfl))
      (pss_one (ps_fld (pv 0) (pv 1) (by rfl))))))), ?_⟩
  have ln : xs.length = ss.length := row.1
  refine q_forNT (K := K) (a := p) (xs := xs) (ea_cons (ev_var rfl) ea_nil) hP (fun _ σ' H' => (∃ x1 x2 : Option V, σ' = [some (.ref o), some (.bl m), some (.ref p), x1, x2]) ∧ Ex H H') (fun H2 e2 => ⟨⟨none, none, rfl⟩, e2⟩) (fun _ _ H' _ q => ex_t q.2 hP) ?_ ?_
  · rintro i z σ' H2 T2 hz ⟨⟨x1, x2, rfl⟩, e2⟩ hT2
    have e3 := e2.trans (Ex.new (o := .tup [.int (i : Nat), z]) hT2)
    refine ⟨T2, [.int (i : Nat), z], rfl, st_of upd_same, rfl, _, _, rfl, _, _, rfl, rfl, ?_⟩
    obtain ⟨a, l, hl, rfl, ha⟩ := row.at hz
    have li : i < xs.length := (List.getElem?_eq_some_iff.mp hz).1
    have notin : decide (l ∈ ss.take i) = false := by
      refine decide_eq_false fun hin => ?_
      obtain ⟨j, hj⟩ := List.mem_iff_getElem?.mp hin
      rw [List.getElem?_take] at hj
      by_cases c : j < i
      · rw [if_pos c] at hj
        have := List.pairwise_iff_getElem.mp nd j i (by omega) (by omega) c
        obtain ⟨q1, q2⟩ := List.getElem?_eq_some_iff.mp hj
        obtain ⟨q3, q4⟩ := List.getElem?_eq_some_iff.mp hl
        exact this (q2.trans q4.symm)
      · rw [if_neg c] at hj
        cases hj
    refine s_if (b := false) (et_is (et_or (et_not (et_B (ev_call (z := .bl true) (ea_cons (ev_var rfl) ea_nil) fun H3 e4 Q3 q3 E3 => ⟨a, l, rfl, (e3.trans e4) _ _ ha, ok.1 l (List.mem_of_getElem? hl), q3⟩))) fun _ => et_test (b := false) fun H3 e4 Q3 q3 => ⟨_, rfl, _, rfl, _, rfl, _, rfl, by
      have E4 := e3.trans e4
      refine ⟨p, xs, rfl, ex_t E4 hP, fun z => ?_, fun q hq => ?_⟩
      · have z2 := z.2
        rw [HT.sIx_nat] at z2
        omega
      · rw [cut_n (by omega)]
        have e5 := Ex.new (o := .tup (xs.take i)) hq
        refine ⟨tD l, (ss.take i).map tD, dp_tD (e5 _ _ (E4 _ _ ha)), .tup (st_of upd_same) (trow_dp ((row.take i).mono (E4.trans e5))), low_shaped (tD_low l) (by decide), low_shaped (tDs_low _) (by decide), ?_⟩
        rw [tD_any, notin]
        exact q3 _ e5⟩) rfl) (fun z => absurd z (by decide)) fun _ H3 e4 => ⟨⟨_, _, rfl⟩, e3.trans e4⟩
  · rintro σ' H2 ⟨⟨x1, x2, rfl⟩, e2⟩
    refine q_when (b := false) (et_is (et_test (ev_op (ev_is (ev_cb (ea_cons (ev_var rfl) ea_nil) (rc_lenQ (.inr (ex_t e2 hP)))) (by rw [ln])) ev_c rv_I0)) (decide_eq_false (by have := ok.2; omega))) (fun z => absurd z (by decide)) (fun _ H3 e3 => ?_)
    refine q_when (b := false) (et_is (et_not (et_B (ev_cb (ea_cons (ev_var rfl) (ea_cons ev_c ea_nil)) (rc_isi (.base (.bl m)) kit_bb)))) rfl) (fun z => absurd z (by decide)) (fun _ H4 e4 => ?_)
    have E4 := (e2.trans e3).trans e4
    refine ⟨_, rfl, p, xs, fun x => zI (nmV H x), rfl, ex_t E4 hP, fun x hx => ?_, fun ys q hys hq => ?_⟩
    · obtain ⟨i, hi⟩ := List.mem_iff_getElem?.mp hx
      obtain ⟨a, l, hl, rfl, ha⟩ := row.at hi
      have e : nmV H (.ref a) = l := by show nmO (H a) = l; rw [ha, nmO_tup]
      refine ⟨a, rfl, ?_, fun z => ?_⟩
      · show H4 a = some (.tup (vN (nmV H (.ref a))))
        rw [e]
        exact E4 _ _ ha
      have z : zI (nmV H (.ref a)) = [] := z
      rw [e] at z
      have := (ok.1 l (List.mem_of_getElem? hl)).1
      cases l with
      | nil => exact this rfl
      | cons b l => cases z
    · have e5 := Ex.new (o := .lst ys) hq
      refine .inl ⟨q, ys, rfl, sq_of upd_same, fun r hr => ?_⟩
      have e6 := Ex.new (o := .tup ys) hr
      have E6 := (E4.trans e5).trans e6
      have hO6 := E6 _ _ hO
      obtain ⟨ss', row', pm⟩ := row.perm hys
      have ok' : PhOk ss' := ⟨fun l hl => ok.1 l (pm.mem_iff.mp hl), by rw [pm.length_eq]; exact ok.2⟩
      have row6 := row'.mono E6
      have hr6 : SqT K (upd (upd H4 q (.lst ys)) r (.tup ys)) r ys := st_of upd_same
      generalize upd (upd H4 q (.lst ys)) r (.tup ys) = H6 at E6 hO6 row6 hr6 ⊢
      refine ⟨_, rfl, o, C, dx, [], rfl, hO6, G.cls, G.sums, Nat.le_of_ble_eq_true rfl, ?_⟩
      have hr7 : SqT K (upd H6 o (.ins C dx (putF "sums" (.ref r) []))) r ys := sqT_upd hr6 hO6
      have row7 : TRow (upd H6 o (.ins C dx (putF "sums" (.ref r) []))) ys ss' := trow_upd row6 hO6
      have kp7 : Keep o H (upd H6 o (.ins C dx (putF "sums" (.ref r) []))) := fun c u hc hn => by
        rw [upd_ne hn]
        exact E6 _ _ hc
      have hO7 : (upd H6 o (.ins C dx (putF "sums" (.ref r) []))) o = some (.ins C dx [("sums", .ref r)]) := upd_same
      generalize upd H6 o (.ins C dx (putF "sums" (.ref r) [])) = H7 at hr7 row7 kp7 hO7 ⊢
      refine ⟨_, rfl, _, rfl, o, C, dx, _, rfl, hO7, G.cls, G.mute, Nat.le_of_ble_eq_true rfl, ?_⟩
      exact k _ ss' (fun c u hc hn => by rw [upd_ne hn]; exact kp7 _ _ hc hn) ⟨dx, r, ys, upd_same, sqT_upd hr7 hO7, trow_upd row7 hO7, ok'⟩ pm
end
end K19
namespace K19
open PySem L2 Evl Gr StX EnT MkS StK Kn
/-! ### Phase made -/
structure GIsi (K : PySem.W.Frag) (C : Addr) : Prop where
  ca : PySem.W.findIn K (.ref C) "__class__" = some (some (.builtin "object.__class__"))
  cn : PySem.W.specialIn K (.builtin "object.__class__") "__get__" = some (some (.builtin "getset_descriptor.__get__"))
  ct : PySem.W.takesIn K (.builtin "object.__class__") = some true
  cm : PySem.W.mroIn K C (.type "object") = some true
theorem kit_self {K : PySem.W.Frag} {C : Addr} : PySem.W.kitOne K (.ref C) (.ref C) = some true := by
  unfold PySem.W.kitOne
  rw [if_pos (by simp)]
theorem ins_ty {K : PySem.W.Frag} {C : Addr} {H : Hp} {o dx : Addr} {fs : List (Str × V)} (c : Cls K C) (I : GIsi K C) (h : H o = some (.ins C dx fs)) : TyX K H (.ref o) (.ref C) := .base (.ins h c I.ca I.cn I.ct I.cm)
theorem rc_own {K : PySem.W.Frag} {C : Addr} {H : Hp} {o dx : Addr} {fs : List (Str × V)} (c : Cls K C) (I : GIsi K C) (h : H o = some (.ins C dx fs)) : RC (rIsi K) [.ref o, .ref C] H (.bl true) := fun H1 e _ q => ⟨.ref o, .ref C, .ref C, .ref C, true, rfl, .own C, tyx_mono e (ins_ty c I h), kit_self, q H1 (Ex.refl H1)⟩
/-- the def Phase.__init__ -/
structure FunD (K : PySem.W.Frag) (x y : Str) (st : Stmt) (f D : Addr) : Prop where
  l : ∃ (oc : Value) (od : Option Addr) (doc pm : Value) (an : Option Addr) (cdv ct : Value) (osl : Array (Option Value)),
    K.lookup f = some ⟨oc, od, .func (PySem.W.fnOf x y (defArgs st) (defBody st) (defScope st) .none (.ref D) doc pm an cdv ct), osl⟩ ∧ PySem.W.codeIn K cdv y = true
section
variable {P : Program} {w : World} {K : PySem.W.Frag} {mg : Str → Option Value} {base : Heap}
theorem made_PhK {C f D : Addr} (F : FunD K "__init__" "Phase.__init__" (sPh 0) f D) (G : PhC K C) (T : GlbT mg) (S : GlbS mg) (I : GlbE mg) (hm : ∃ t, mg "MOST_SUMS" = some (.int 4 t)) (GS : Gfn P w K mg base 3 "is_sum" ["value"] (spSum K)) :
    FnRK P w K mg base CX0 4 f "mute" (starSp (spPh K C)) := by
  obtain ⟨oc, od, doc, pm, an, cdv, ct, osl, lk, hcd⟩ := F.l
  exact fn_starK (a0 := "self") (pv := "sums") lk hcd scPh cxUp_none (fun _ rest _ => by cases rest <;> rfl) fun A outer s H vs Q E hr h => runs_Ph G T S I hm GS A outer s H vs Q E hr h
theorem made_PhD {C f D : Addr} (F : FunD K "__init__" "Phase.__init__" (sPh 0) f D) (hD : PySem.W.nsIn K D "mute" = some (some (.bool false))) (G : PhC K C) (T : GlbT mg) (S : GlbS mg) (I : GlbE mg) (hm : ∃ t, mg "MOST_SUMS" = some (.int 4 t)) (GS : Gfn P w K mg base 3 "is_sum" ["value"] (spSum K)) :
    FnR P w K mg base CX0 4 f (fun vs H Q E => starSp (spPh K C) vs (.bl false) H Q E) := by
  obtain ⟨oc, od, doc, pm, an, cdv, ct, osl, lk, hcd⟩ := F.l
  exact fn_starD (a0 := "self") (x := "mute") (pv := "sums") (d := .bl false) lk hcd scPh cxUp_none hD rfl (fun _ rest => by cases rest <;> exact ⟨_, _, _, _, _, _, rfl, rfl, rfl⟩) fun A outer s H vs Q E hr h => runs_Ph G T S I hm GS A outer s H vs Q E hr h
end
/-- gives such a phase, its sums in some order -/
def EvPh (K : PySem.W.Frag) (C : Addr) (te : TE) (σ : L2.St) (H : Hp) (p : Ph) : Prop := ∀ H1, Ex H H1 → ∀ Q : VK, (∀ o ss H2, Ex H1 H2 → PhAt K C H2 o (p.1, ss) → ss.Perm p.2 → Q (.ref o) H2) → te σ H1 Q
/-- gives rows of sums -/
def EvAR (ta : TA) (σ : L2.St) (H : Hp) (ss : List (List Nat)) : Prop := ∀ H1, Ex H H1 → ∀ Q : List V → Hp → Prop, (∀ xs H2, Ex H1 H2 → TRow H2 xs ss → Q xs H2) → ta σ H1 Q
section
variable {K : PySem.W.Frag} {C : Addr} {σ : L2.St} {H : Hp} {t tk : TA} {E : XK} {m : Bool} {ss : List (List Nat)} {xs : List V}
theorem ph_told {Q : VK} {o dx : Addr} (ho : H o = none) (hd : H dx = none) (hn : dx ≠ o) (row : TRow H xs ss) (ok : PhOk ss) (nd : ss.Nodup) (q : ∀ o ss' H2, Ex H H2 → PhAt K C H2 o (m, ss') → ss'.Perm ss → Q (.ref o) H2) :
    starSp (spPh K C) (V.ref o :: xs) (.bl m) (upd (upd H dx (.own o)) o (.ins C dx [])) (fun v H3 => v = .non ∧ Q (.ref o) H3) E := by
  have e3 : Ex H (upd (upd H dx (.own o)) o (.ins C dx [])) := (Ex.new hd).trans (Ex.new (by rw [upd_ne hn.symm]; exact ho))
  refine ⟨.ref o, xs, rfl, sz_of (by rw [row.1]; have := ok.2; omega), fun p hp => ?_⟩
  have e4 := Ex.new (o := .tup xs) hp
  exact ⟨o, p, dx, m, xs, ss, rfl, e4 _ _ upd_same, st_of upd_same, row.mono (e3.trans e4), ok, nd, fun H' ss' kp h1 h2 => ⟨rfl, q o ss' H' (fun c u hc => kp c u (e4 _ _ (e3 _ _ hc)) (ne_of_none hc ho)) h1 h2⟩⟩
theorem ep_K (h : EvAR t σ H ss) (hk : EvA tk σ H [.bl m]) (ok : PhOk ss) (nd : ss.Nodup) : EvPh K C (tMakeSK C (starSp (spPh K C)) E t tk) σ H (m, ss) := fun H1 e Q q =>
  h H1 e _ fun xs H2 e2 row => hk H2 (e.trans e2) _ fun H3 e3 => ⟨.bl m, rfl, fun o dx ho hd hn => ph_told ho hd hn (row.mono e3) ok nd fun o ss' H4 e4 => q o ss' H4 ((e2.trans e3).trans e4)⟩
theorem ear_nil : EvAR tNil σ H [] := fun H1 _ _ q => q [] H1 (Ex.refl H1) trow_nil
/-- made without mute -/
theorem ep_D (h : EvAR t σ H ss) (ok : PhOk ss) (nd : ss.Nodup) : EvPh K C (tMakeR C (fun vs H Q E => starSp (spPh K C) vs (.bl false) H Q E) E t) σ H (false, ss) := fun H1 e Q q =>
  h H1 e _ fun xs H2 e2 row => fun o dx ho hd hn => ph_told ho hd hn row ok nd fun o ss' H4 e4 => q o ss' H4 (e2.trans e4)
theorem ear_var {i : Nat} {a : Addr} {l : List Nat} {te : TE} {tr : TA} (h : Ev te σ H (.ref a)) (ha : H a = some (.tup (vN l))) (hr : EvAR tr σ H ss) : EvAR (tCons te tr) σ H (l :: ss) := fun H1 e Q q =>
  h H1 e _ fun H2 e2 => hr H2 (e.trans e2) _ fun xs H3 e3 row => q _ H3 (e2.trans e3) (trow_cons (((e.trans e2).trans e3) _ _ ha) row)
theorem ear_new {l : List Nat} {te : TE} {tr : TA} (h : EvU te σ H (vN l)) (hr : EvAR tr σ H ss) : EvAR (tCons te tr) σ H (l :: ss) := fun H1 e Q q =>
  h H1 e _ fun a H2 _ e2 ha => hr H2 (e.trans e2) _ fun xs H3 e3 row => q _ H3 (e2.trans e3) (trow_cons (e3 _ _ ha) row)
end
/-! ### plans -/
structure PlC (K : PySem.W.Frag) (C : Addr) : Prop where
  cls : Cls K C
  phases : NoAttr K C "phases"
def PRow (K : PySem.W.Frag) (C : Addr) (H : Hp) (xs : List V) (ps : List Ph) : Prop := xs.length = ps.length ∧ ∀ (i : Nat) (x : V) (p : Ph), xs[i]? = some x → ps[i]? = some p → ∃ o : Addr, x = V.ref o ∧ PhAt K C H o p
theorem PRow.mono {K : PySem.W.Frag} {C : Addr} {H H' : Hp} {xs : List V} {ps : List Ph} (e : Ex H H') (h : PRow K C H xs ps) : PRow K C H' xs ps := ⟨h.1, fun i x p hx hp => by
  obtain ⟨o, h1, h2⟩ := h.2 i x p hx hp
  exact ⟨o, h1, h2.mono e⟩⟩
theorem PRow.at {K : PySem.W.Frag} {C : Addr} {H : Hp} {xs : List V} {ps : List Ph} (h : PRow K C H xs ps) {i : Nat} {x : V} (hx : xs[i]? = some x) : ∃ (o : Addr) (p : Ph), ps[i]? = some p ∧ x = .ref o ∧ PhAt K C H o p := by
  have lt : i < ps.length := by rw [← h.1]; exact (List.getElem?_eq_some_iff.mp hx).1
  obtain ⟨o, h1, h2⟩ := h.2 i x _ hx (List.getElem?_eq_getElem lt)
  exact ⟨o, _, List.getElem?_eq_getElem lt, h1, h2⟩
theorem PRow.to {K : PySem.W.Frag} {C : Addr} {H : Hp} {xs : List V} {ps : List Ph} (h : PRow K C H xs ps) {i : Nat} {p : Ph} (hp : ps[i]? = some p) : ∃ o : Addr, xs[i]? = some (.ref o) ∧ PhAt K C H o p := by
  have lt : i < xs.length := by rw [h.1]; exact (List.getElem?_eq_some_iff.mp hp).1
  obtain ⟨o, h1, h2⟩ := h.2 i _ p (List.getElem?_eq_getElem lt) hp
  exact ⟨o, by rw [List.getElem?_eq_getElem lt, h1], h2⟩
theorem prow_nil {K : PySem.W.Frag} {C : Addr} {H : Hp} : PRow K C H [] [] := ⟨rfl, fun i x p hx => by cases hx⟩
theorem prow_snoc {K : PySem.W.Frag} {C : Addr} {H : Hp} {xs : List V} {ps : List Ph} {o : Addr} {p : Ph} (h : PRow K C H xs ps) (ho : PhAt K C H o p) : PRow K C H (xs ++ [.ref o]) (ps ++ [p]) := ⟨by rw [List.length_append, List.length_append, h.1]; rfl, fun i x q hx hq => by
  rcases Nat.lt_or_ge i xs.length with c | c
  · rw [List.getElem?_append_left c] at hx
    rw [List.getElem?_append_left (by rw [← h.1]; exact c)] at hq
    exact h.2 i x q hx hq
  · rw [List.getElem?_append_right c] at hx
    rw [List.getElem?_append_right (by rw [← h.1]; exact c), ← h.1] at hq
    generalize i - xs.length = j at hx hq
    cases j with
    | zero =>
      cases hx
      cases hq
      exact ⟨o, rfl, ho⟩
    | succ j => cases hx⟩
def cyc (ps : List Ph) (i : Int) : Ph := ps.getD (i % (ps.length : Int)).toNat (false, [])
theorem cyc_at {ps : List Ph} (h : 0 < ps.length) (i : Int) : ∃ k : Nat, k < ps.length ∧ i % (ps.length : Int) = (k : Int) ∧ ps[k]? = some (cyc ps i) := by
  have h1 := Int.emod_nonneg i (show (ps.length : Int) ≠ 0 by omega)
  have h2 := Int.emod_lt_of_pos i (show 0 < (ps.length : Int) by omega)
  obtain ⟨k, hk⟩ := Int.eq_ofNat_of_zero_le h1
  refine ⟨k, by omega, hk, ?_⟩
  unfold cyc
  rw [hk, Int.toNat_natCast, List.getD_eq_getElem?_getD, List.getElem?_eq_getElem (by omega)]
  rfl
theorem cyc_small {ps : List Ph} {k : Nat} (h : k < ps.length) : ps[k]? = some (cyc ps (k : Int)) := by
  unfold cyc
  rw [Int.emod_eq_of_lt (by omega) (by omega), Int.toNat_natCast, List.getD_eq_getElem?_getD, List.getElem?_eq_getElem h]
  rfl
def NoTell (ps : List Ph) : Prop := ∀ i : Nat, i < ps.length → ∀ l ∈ (cyc ps (i : Int)).2, ∀ a ∈ l, (cyc ps ((i : Int) - (a : Int))).1 = false
def PlOk (ps : List Ph) : Prop := 1 ≤ ps.length ∧ ps.length ≤ 4 ∧ (∃ p ∈ ps, p.1 = false) ∧ NoTell ps
def PlAt (K : PySem.W.Frag) (CP C : Addr) (H : Hp) (o : Addr) (ps : List Ph) : Prop := ∃ dx q xs, H o = some (.ins CP dx [("phases", .ref q)]) ∧ SqT K H q xs ∧ PRow K C H xs ps ∧ 1 ≤ ps.length ∧ ps.length ≤ 4
theorem PlAt.mono {K : PySem.W.Frag} {CP C : Addr} {H H' : Hp} {o : Addr} {ps : List Ph} (e : Ex H H') (h : PlAt K CP C H o ps) : PlAt K CP C H' o ps := by
  obtain ⟨dx, q, xs, h1, h2, h3, h4⟩ := h
  exact ⟨dx, q, xs, e _ _ h1, ex_t e h2, h3.mono e, h4⟩
theorem ev_anyB {K : PySem.W.Frag} {σ : L2.St} {H : Hp} {te : TE} {bs : List Bool} (h : EvL te σ H (bs.map V.bl)) : Ev (tCB (rAny K) (tCons te tNil)) σ H (.bl (bs.any id)) := fun H1 e Q q =>
  h H1 e _ fun p H2 _ e2 hp => ⟨p, bs, rfl, sq_of hp, q H2 e2⟩
section
variable {K : PySem.W.Frag} {σ : L2.St} {H : Hp} {ta tb : TE} {C o : Addr} {p : Ph}
theorem ev_mute (G : PhC K C) (h : Ev ta σ H (.ref o)) (ho : PhAt K C H o p) : Ev (tFld K ta "mute") σ H (.bl p.1) := by
  obtain ⟨dx, q, xs, h1, _⟩ := ho
  exact ev_fld h h1 G.cls G.mute rfl
/-- xs[i % len(xs)] of phases -/
theorem ev_cyc {a : Addr} {xs : List V} {ps : List Ph} {i : Int} (h : Ev ta σ H (.ref a)) (hb : Ev tb σ H (.int (i % (ps.length : Int)))) (hx : SqT K H a xs) (row : PRow K C H xs ps) (h0 : 0 < ps.length) {R : V → Hp → Prop} :
    ∃ o : Addr, Ev (tOp (rIxT K) ta tb) σ H (.ref o) ∧ PhAt K C H o (cyc ps i) := by
  obtain ⟨k, k1, k2, k3⟩ := cyc_at h0 i
  obtain ⟨o, o1, o2⟩ := row.to k3
  rw [k2] at hb
  exact ⟨o, ev_op h hb (rv_ixT hx (atI_nat o1)), o2⟩
end
section
variable {P : Program} {w : World} {K : PySem.W.Frag} {mg : Str → Option Value} {base : Heap}
abbrev sTel : Stmt := top 26
def spTel (K : PySem.W.Frag) (C : Addr) : Sp := fun vs H Q _ => ∃ (a : Addr) (i : Nat) (xs : List V) (ps : List Ph), vs = [.ref a, .int (i : Int)] ∧ SqT K H a xs ∧ PRow K C H xs ps ∧ i < ps.length ∧ NoTell ps ∧ RetV (.bl false) H Q
abbrev nTel : List Str := ["phases", "at", "ages", "age"]
theorem scTel : FnScope nTel ["phases", "at"] (defScope sTel) := ⟨rfl, rfl, rfl, by decide +kernel, rfl, by decide +kernel, by decide +kernel⟩
theorem any_no (n : Nat) : ((List.replicate n false).any id) = false := by
  rw [List.any_eq_false]
  intro x hx
  rw [(List.mem_replicate.mp hx).2]
  decide
abbrev rLen (K : PySem.W.Frag) : List V → Hp → VK → Prop := fun xs H Q => ∃ p ys, xs = [V.ref p] ∧ (SqL K H p ys ∨ SqT K H p ys) ∧ Q (.int ys.length) H
abbrev teTel (K : PySem.W.Frag) : TE := tFld K (tOp (rIxT K) (tVar 0) (tOp (rI (fun _ j => 0 < j) fun i j => .int (i % j)) (tOp (rI0 fun i j => .int (i - j)) (tVar 1) (tVar 3)) (tCB (rLen K) (tCons (tVar 0) tNil)))) "mute"
theorem ok_Tel {C f : Addr} {fd : FuncData} (F : Fun K "tells_mute" "tells_mute" sTel f fd) (G : PhC K C) (S : GlbS mg) (I : GlbE mg) : FnOk P w K mg base CX0 1 f fd ["phases", "at"] (spTel K C) := by
  refine F.ok scTel (fun vs H Q E h => ?_) (fun cdv A outer s H vs Q E hr h => ?_)
  · obtain ⟨a, i, xs, ps, rfl, _⟩ := h
    rfl
  · obtain ⟨a, i, xs, ps, rfl, hx, row, hi, no, k⟩ := h
    refine ⟨_, (pss_one (ps_ret (pe_callB (cr_any rfl) (by rfl) I.any (by decide +kernel) (pa_cons (pe_lc2 (te := teTel K) (own := [("ages", 2), ("age", 3)]) (vs1 := [3]) (g := gName 2) (g1 := gName 3) (wi1 := iTup K (tVar 2)) rfl scTel.nd (pi_tup (pe_fld (pe_ix (show IxR _ (rIxT K) from ix_tup) (pv 0) (pv 1) (fun _ _ => rfl)) rfl)) (blkOk_by (own := [("ages", 2), ("age", 3)]) (N := nTel) (sc := defScope sTel) (by decide +kernel)) (by decide)
        (fun _ _ _ _ _ => pg_name (i := 2) scTel.nd rfl (Or.inl rfl)) (fun _ _ _ _ _ => pts_nil)
        (fun _ _ _ _ _ => pi_tup (pv 2)) (fun _ _ _ _ _ => pg_name (i := 3) scTel.nd rfl (Or.inl rfl)) (fun _ _ _ _ _ => pts_nil)
        (fun _ _ _ _ _ => pe_fld (pe_ix (show IxR _ (rIxT K) from ix_tup) (pv 0) (pe_op op_mod (pe_op op_sub (pv 1) (pv 3)) (pe_callB call_len_seq (by rfl) S.len PySem.boot_len (pa_cons (pv 0) pa_nil))) (fun _ _ => rfl)) rfl)) pa_nil)))), ?_⟩
    have pi := cyc_small hi
    obtain ⟨o, o1, o2⟩ := row.to pi
    obtain ⟨dx, q, ys, q1, q2, q3, q4⟩ := id o2
    refine s_ret (v := .bl false) (fun H3 e3 Q3 q3' => ?_) k
    refine ⟨_, rfl, _, rfl, a, xs, (i : Int), .ref o, rfl, rfl, ex_t e3 hx, atI_nat o1, ?_⟩
    refine ⟨o, C, dx, _, _, rfl, e3 _ _ q1, G.cls, G.sums, rfl, q, rfl, ⟨ys, ex_t e3 q2⟩, fun D hD => ?_⟩
    refine lc2_it (n := ys.length) (walk_tup (K := K) (a := q) (xs := ys)) (σ := [some (.ref a), some (.int (i : Int)), none, none]) (H1 := H3) (D := D) (fun i H' => Ex H3 H' ∧ ∃ n, n ≤ 4 * i ∧ H' D = some (.lst (List.replicate n (V.bl false)))) ⟨Ex.new hD, 0, by omega, upd_same⟩ (fun _ H' _ h => ex_t (e3.trans h.1) q2) (fun j x H' H'' hj h y => ?_) (fun H' h => ?_)
    · obtain ⟨rfl, hxj⟩ := y
      obtain ⟨b, l, hl, rfl, hb⟩ := q3.at hxj
      have lm := List.mem_of_getElem? hl
      have al := q4.1 l lm
      refine ⟨rfl, ?_⟩
      refine ⟨_, rfl, b, rfl, ⟨vN l, st_of ((e3.trans h.1) _ _ hb)⟩, in2_it (n1 := (vN l).length) (walk_tup (K := K) (a := b) (xs := vN l)) (H4 := H'') (D := D) (fun m H' => Ex H3 H' ∧ ∃ n, n ≤ 4 * j + m ∧ H' D = some (.lst (List.replicate n (V.bl false)))) h (fun _ H' _ h => st_of ((e3.trans h.1) _ _ hb)) (fun m y Ha Hb hm hq ym => ?_) (fun Ha ha => ?_)⟩
      · obtain ⟨rfl, hym⟩ := ym
        obtain ⟨g, hg, rfl⟩ := vN_get hym
        refine ⟨rfl, ?_⟩
        obtain ⟨hq1, n, n1, n2⟩ := hq
        have E := e3.trans hq1
        have ln : Ev (tCB (rLen K) (tCons (tVar 0) tNil)) [some (.ref a), some (.int (i : Int)), some (.ref b), some (.int (g : Int))] Hb (.int (ps.length : Int)) := ev_is (ev_cb (ea_cons (ev_var rfl) ea_nil) (rc_lenQ (.inr (ex_t E hx)))) (by rw [row.1])
        obtain ⟨o', w1, w2⟩ := ev_cyc (K := K) (C := C) (ta := tVar 0) (σ := [some (.ref a), some (.int (i : Int)), some (.ref b), some (.int (g : Int))]) (tb := tOp (rI (fun _ j => 0 < j) fun i j => .int (i % j)) (tOp (rI0 fun i j => .int (i - j)) (tVar 1) (tVar 3)) (tCB (rLen K) (tCons (tVar 0) tNil))) (i := (i : Int) - (g : Int)) (ev_var rfl) (ev_op (ev_op (ev_var rfl) (ev_var rfl) rv_I0) ln (rv_I (by omega))) (ex_t E hx) (row.mono E) (by omega) (R := fun _ _ => True)
        have mu := ev_mute G w1 w2
        rw [no i hi l (by rw [show (cyc ps (i : Int)).2 = _ from rfl]; exact lm) g (List.mem_of_getElem? hg)] at mu
        have l4 := al.2.1
        have vl := vN_len (l := l)
        have j4 : j < 4 := by have := q3.1; have := q4.2; omega
        refine mu Hb (Ex.refl Hb) _ fun Hc ec => ⟨_, ec _ _ n2, by rw [List.length_replicate]; exact sz_lt (by omega), Ex.mut (hq1.trans ec) hD, n + 1, by omega, ?_⟩
        rw [upd_same, List.replicate_succ']
      · obtain ⟨h1, n, n1, n2⟩ := ha
        have l4 := al.2.1
        have vl := vN_len (l := l)
        exact ⟨h1, n, by omega, n2⟩
    · obtain ⟨h1, n, _, n2⟩ := h
      refine ⟨D, List.replicate n false, rfl, sq_of (by rw [n2, List.map_replicate]), ?_⟩
      rw [any_no]
      exact q3' H' h1
end
end K19
namespace ClK
open PySem PySem.Spec PyProof.Rows L2 ClX
section
variable {X : Cx} {CX : CXT} {k : Nat} {C p g : Addr} {mc : Value} {sp : Sp} {E : XK} {o : Expr} {m : Str} {pos apos : Pos} {ta : TE} {pl : Sem Bool}
/-- C.m(), m a class method -/
theorem pe_cmeth0 (he : PE X o ta) (r : CRead X.K C mc) (c : CMet X.K C mc m p g) (F : FnR X.prog X.w X.K X.mg X.base CX k g sp) (hr : Room k X.A) (hx : Passes CX X E)
    (ht : eval (.Call (.Attribute o m apos) [] [] pos) X.env = (do
      let ov ← eval o X.env
      standAt apos.atName
      let (f, first) ← holding [ov] (getMethod ov m pl)
      callWith pos f first (backTo pos (starEach [] X.env)) (backToKw pos (keywordEach [] X.env))) := by rfl) :
    PE X (.Call (.Attribute o m apos) [] [] pos) (tCMeth C sp E ta tNil) := by
  refine ⟨fun pins s σ H Q I h => ?_⟩
  refine PySem.W.methodCall_KW (pl := pl) (thn (he.run pins s σ H _ I h) fun u s1 ⟨x, H1, I1, rx, ex, q⟩ => ?_) ht
  subst ex
  obtain rfl : u = Value.ref C := rx
  refine getmethcm_ok I1 r c fun s2 I2 => ?_
  exact PySem.W.callWith_M0 (first := []) ⟨pin_at I2, I2.kIn⟩ c.fi (run_cm F hr hx I2 .nil q)
end
end ClK
namespace K19
open PySem L2 Evl Gr StX EnT MkS StK ClX ClK RdX Kn
abbrev sPl (i : Nat) : Stmt := inClass (top 27) i
abbrev nPl : List Str := ["self", "phases", "at", "phase"]
theorem scPl : FnScope nPl ((["self"] : List Str) ++ (["phases"] : List Str)) (defScope (sPl 0)) := ⟨rfl, rfl, rfl, by decide +kernel, rfl, by decide +kernel, by decide +kernel⟩
theorem prow_upd {K : PySem.W.Frag} {C : Addr} {H : Hp} {o CP dx : Addr} {u : HO} {xs : List V} {ps : List Ph} (h : PRow K C H xs ps) (ho : H o = some (.ins CP dx [])) : PRow K C (upd H o u) xs ps := ⟨h.1, fun i x p hx hp => by
  obtain ⟨b, h1, dx', q, ys, h2, h3, h4, h5⟩ := h.2 i x p hx hp
  refine ⟨b, h1, dx', q, ys, ?_, sqT_upd h3 ho, ⟨h4.1, fun j y l hy hl => ?_⟩, h5⟩
  · rw [upd_ne (fun z => by rw [z, ho] at h2; cases h2)]
    exact h2
  · obtain ⟨c, c1, c2⟩ := h4.2 j y l hy hl
    exact ⟨c, c1, by rw [upd_ne (fun z => by rw [z, ho] at c2; cases c2)]; exact c2⟩⟩
theorem PhAt.ins {K : PySem.W.Frag} {C : Addr} {H : Hp} {o : Addr} {p : Ph} (h : PhAt K C H o p) : ∃ dx fs, H o = some (.ins C dx fs) := by
  obtain ⟨dx, q, xs, h1, _⟩ := h
  exact ⟨dx, _, h1⟩
section
variable {P : Program} {w : World} {K : PySem.W.Frag} {mg : Str → Option Value} {base : Heap}
def spPl (K : PySem.W.Frag) (CP C : Addr) : Sp := fun vs H Q _ => ∃ (o p dx : Addr) (xs : List V) (ps : List Ph), vs = [.ref o, .ref p] ∧ H o = some (.ins CP dx []) ∧ SqT K H p xs ∧ PRow K C H xs ps ∧ PlOk ps ∧
  ∀ H', Keep o H H' → PlAt K CP C H' o ps → Q .non H'
def spPlA (K : PySem.W.Frag) (CP C : Addr) : Sp := fun vs H Q E => ∃ ws rest, vs = ws ++ rest ∧ ws.length = (["self"] : List Str).length ∧ rest.length ≤ sizeLine ∧ ∀ p, H p = none → spPl K CP C (ws ++ [V.ref p]) (L2.upd H p (.tup rest)) Q E
theorem ok_Pl {CP C f : Addr} {fd : FuncData} (F : Fun K "__init__" "Plan.__init__" (sPl 0) f fd) (GP : PlC K CP) (G : PhC K C) (IP : GIsi K C) (gC : mg "Phase" = some (.ref C)) (T : GlbT mg) (S : GlbS mg) (I : GlbE mg) (hm : ∃ t, mg "MOST_PHASES" = some (.int 4 t))
    (GT : Gfn P w K mg base 1 "tells_mute" ["phases", "at"] (spTel K C)) : FnR P w K mg base CX0 3 f (spPlA K CP C) := by
  obtain ⟨fT, fdT, GT, kT, bT, gT⟩ := GT
  obtain ⟨t4, hm⟩ := hm
  obtain ⟨oc, od, kV, doc, pm, an, cdv, ct, osl, rfl, lk, hcd⟩ := F.ex
  refine fn_star (ps := ["self"]) (sp := spPl K CP C) lk hcd scPl cxUp_none (bind_star1 (B := fun us => bindArgs (PySem.W.fnOf "__init__" "Plan.__init__" (defArgs (sPl 0)) (defBody (sPl 0)) (defScope (sPl 0)) .none kV doc pm an cdv ct) ⟨us, []⟩) (fun a => rfl) fun a r rs => rfl) (fun A outer s H vs Q E hr h => ?_)
  suffices z : ∃ t, PSs (cxOf CX0 P w K mg base nPl "Plan.__init__" (defScope (sPl 0)) f cdv A outer s H E).nox (defBody (sPl 0)) t ∧ t { nx := fun _ H' => Q .non H', rt := Q } (L2.start nPl vs) H from
    let ⟨t, a, b⟩ := z
    ⟨t, a.nox, b⟩
  obtain ⟨o, p, dx, xs, ps, rfl, hO, hP, row, ok, k⟩ := h
  obtain ⟨l1, l4, some_, no⟩ := ok
  have r1 := hr.mono (show 1 ≤ 2 by decide)
  refine ⟨_, (pss_cons (ps_for PassesOwn.never rfl (pi_enumT (by rfl) I.enum (pa_cons (pv 1) pa_nil)) (pg_tup rfl (pgs_cons (pg_name (i := 2) scPl.nd rfl (.inl rfl)) (pgs_cons (pg_name (i := 3) scPl.nd rfl (.inl rfl)) pgs_nil)))
      (pss_one (ps_if (pt_not (pt_val (pe_callB call_isi (by rfl) T.inst (by decide +kernel) (pa_cons (pv 3) (pa_cons (pe_glob (v := .ref C) (by rfl) gC (by rfl)) pa_nil))))) (pss_one ps_no) pss_nil)))
      (pss_cons (ps_if (pt_not (pt_chain op_le op_le pe_int (pe_callB call_len_seq (by rfl) S.len PySem.boot_len (pa_cons (pv 1) pa_nil)) (pe_glob (v := .int 4) (by rfl) hm ⟨t4, rfl⟩))) (pss_one ps_no) pss_nil)
      (pss_cons (ps_if (pt_val (pe_callB (cr_all rfl) (by rfl) I.all (by decide +kernel) (pa_cons (pe_lc (te := tFld K (tVar 3) "mute") (own := [("phase", 3)]) (g := gName 3) rfl scPl.nd (pi_tup (pv 1)) (blkOk_by (own := [("phase", 3)]) (N := nPl) (sc := defScope (sPl 0)) (by decide +kernel)) (fun _ _ _ _ _ => pg_name (i := 3) scPl.nd rfl (Or.inl rfl)) (fun _ _ _ _ _ => pts_nil)
      (fun _ _ _ _ _ => pe_fld (pv 3) rfl)) pa_nil))) (pss_one ps_no) pss_nil)
      (pss_cons (ps_for PassesOwn.never rfl (pi_range1 (by rfl) S.range (pa_cons (pe_callB call_len_seq (by rfl) S.len PySem.boot_len (pa_cons (pv 1) pa_nil)) pa_nil)) (pg_name (i := 2) scPl.nd rfl (.inl rfl))
      (pss_one (ps_if (pt_val (pe_call GT r1 (by rfl) gT kT bT .nil pass0 (pa_cons (pv 1) (pa_cons (pv 2) pa_nil)))) (pss_one ps_no) pss_nil)))
      (pss_one (ps_fld (pv 0) (pv 1) (by rfl))))))), ?_⟩
  have ln : ∀ {x y : Option V} {H1 : Hp}, Ex H H1 → Ev (tCB (rLen K) (tCons (tVar 1) tNil)) [some (.ref o), some (.ref p), x, y] H1 (.int (ps.length : Int)) := fun e => ev_is (ev_cb (ea_cons (ev_var rfl) ea_nil) (rc_lenQ (.inr (ex_t e hP)))) (by rw [row.1])
  refine q_forNT (K := K) (a := p) (xs := xs) (ea_cons (ev_var rfl) ea_nil) hP (fun _ σ' H' => (∃ x1 x2 : Option V, σ' = [some (.ref o), some (.ref p), x1, x2]) ∧ Ex H H') (fun H2 e2 => ⟨⟨none, none, rfl⟩, e2⟩) (fun _ _ H' _ q => ex_t q.2 hP) ?_ ?_
  · rintro i z σ' H2 T2 hz ⟨⟨x1, x2, rfl⟩, e2⟩ hT2
    have e3 := e2.trans (Ex.new (o := .tup [.int (i : Nat), z]) hT2)
    refine ⟨T2, [.int (i : Nat), z], rfl, st_of upd_same, rfl, _, _, rfl, _, _, rfl, rfl, ?_⟩
    obtain ⟨b, q, hq, rfl, hb⟩ := row.at hz
    obtain ⟨dx', fs, hi⟩ := (hb.mono e3).ins
    exact s_if (b := false) (et_is (et_not (et_B (ev_cb (ea_cons (ev_var rfl) (ea_cons ev_c ea_nil)) (rc_own G.cls IP hi)))) rfl) (fun z => absurd z (by decide)) fun _ H3 e4 => ⟨⟨_, _, rfl⟩, e3.trans e4⟩
  rintro σ' H2 ⟨⟨x1, x2, rfl⟩, e2⟩
  refine q_when (b := false) (et_is (et_not (et_test (ev_chain ev_c (ln e2) ev_c))) ?_) (fun z => absurd z (by decide)) (fun _ H3 e3 => ?_)
  · show (!(decide ((1 : Int) ≤ (ps.length : Int)) && decide ((ps.length : Int) ≤ 4))) = false
    rw [decide_eq_true (by omega), decide_eq_true (by omega)]
    rfl
  have E3 := e2.trans e3
  have row3 := row.mono E3
  have c := el_tup (K := K) (σ := [some (.ref o), some (.ref p), x1, x2]) (H := H3) (t := tYes) (te := tFld K (tVar 3) "mute") (xs := xs) (tl := tVar 1) (j := 3) (vs := [3]) (fun _ => true) (fun i => V.bl (cyc ps (i : Int)).1) (etu_var rfl (ex_t E3 hP)) (by rw [row.1]; omega) (fun _ => rfl) (fun i x H1 e hi => et_none) (fun i x H1 e hi _ => by
    obtain ⟨b, q, hq, rfl, hb⟩ := row3.at hi
    have := cyc_small (List.getElem?_eq_some_iff.mp hq).1
    rw [hq] at this
    rw [← Option.some.inj this]
    exact ev_mute G (ev_var rfl) (hb.mono e))
  rw [given_all] at c
  have c2 : (List.range xs.length).map (fun i : Nat => V.bl (cyc ps (i : Int)).1) = ((List.range xs.length).map fun i : Nat => (cyc ps (i : Int)).1).map V.bl := by rw [List.map_map]; rfl
  rw [c2] at c
  refine q_when (b := false) (et_is (et_B (ev_all c)) ?_) (fun z => absurd z (by decide)) (fun _ H4 e4 => ?_)
  · obtain ⟨q, hq, mq⟩ := some_
    obtain ⟨i, hi⟩ := List.mem_iff_getElem?.mp hq
    have li := (List.getElem?_eq_some_iff.mp hi).1
    have := cyc_small li
    rw [hi] at this
    rw [List.all_eq_false]
    refine ⟨false, List.mem_map.mpr ⟨i, List.mem_range.mpr (by rw [row.1]; exact li), ?_⟩, by decide⟩
    rw [← Option.some.inj this]
    exact mq
  have E4 := E3.trans e4
  refine q_forR1 (j := 2) (n := (ps.length : Int)) (ea_cons (ln E4) ea_nil) ⟨by omega, by omega⟩ (fun _ σ' H' => (∃ x1 x2 : Option V, σ' = [some (.ref o), some (.ref p), x1, x2]) ∧ Ex H H') (fun H5 e5 => ⟨⟨_, _, rfl⟩, E4.trans e5⟩) ?_ ?_
  · rintro i σ' H5 hi ⟨⟨y1, y2, rfl⟩, e5⟩
    exact s_if (b := false) (et_B (ev_call (z := .bl false) (ea_cons (ev_var rfl) (ea_cons (ev_var rfl) ea_nil)) fun H6 e6 Q6 q6 E6 => ⟨p, i, xs, ps, rfl, ex_t (e5.trans e6) hP, row.mono (e5.trans e6), by omega, no, q6⟩)) (fun z => absurd z (by decide)) fun _ H6 e6 => ⟨⟨_, _, rfl⟩, e5.trans e6⟩
  · rintro σ' H5 ⟨⟨y1, y2, rfl⟩, e5⟩
    have hO5 := e5 _ _ hO
    refine ⟨_, rfl, _, rfl, o, CP, dx, [], rfl, hO5, GP.cls, GP.phases, Nat.le_of_ble_eq_true rfl, ?_⟩
    exact k _ (fun c u hc hn => by rw [upd_ne hn]; exact e5 _ _ hc) ⟨dx, p, xs, upd_same, sqT_upd (ex_t e5 hP) hO5, prow_upd (row.mono e5) hO5, l1, l4⟩
end
/-- gives such a plan -/
def EvPl (K : PySem.W.Frag) (CP C : Addr) (te : TE) (σ : L2.St) (H : Hp) (R : List Ph → Prop) : Prop := ∀ H1, Ex H H1 → ∀ Q : VK, (∀ o ps H2, Ex H1 H2 → PlAt K CP C H2 o ps → R ps → Q (.ref o) H2) → te σ H1 Q
/-- gives phases -/
def EvAP (K : PySem.W.Frag) (C : Addr) (ta : TA) (σ : L2.St) (H : Hp) (R : List Ph → Prop) : Prop := ∀ H1, Ex H H1 → ∀ Q : List V → Hp → Prop, (∀ xs ps H2, Ex H1 H2 → PRow K C H2 xs ps → R ps → Q xs H2) → ta σ H1 Q
section
variable {K : PySem.W.Frag} {CP C : Addr} {σ : L2.St} {H : Hp} {t tr : TA} {te : TE} {E : XK} {ps : List Ph} {xs : List V} {R : List Ph → Prop}
theorem pl_told {Q : VK} {o dx : Addr} (ho : H o = none) (hd : H dx = none) (hn : dx ≠ o) (row : PRow K C H xs ps) (ok : PlOk ps) (q : ∀ o H2, Ex H H2 → PlAt K CP C H2 o ps → Q (.ref o) H2) :
    spPlA K CP C (V.ref o :: xs) (upd (upd H dx (.own o)) o (.ins CP dx [])) (fun v H3 => v = .non ∧ Q (.ref o) H3) E := by
  have e3 : Ex H (upd (upd H dx (.own o)) o (.ins CP dx [])) := (Ex.new hd).trans (Ex.new (by rw [upd_ne hn.symm]; exact ho))
  refine ⟨[.ref o], xs, rfl, rfl, sz_of (by rw [row.1]; have := ok.2.1; omega), fun p hp => ?_⟩
  have e4 := Ex.new (o := .tup xs) hp
  exact ⟨o, p, dx, xs, ps, rfl, e4 _ _ upd_same, st_of upd_same, row.mono (e3.trans e4), ok, fun H' kp h1 => ⟨rfl, q o H' (fun c u hc => kp c u (e4 _ _ (e3 _ _ hc)) (ne_of_none hc ho)) h1⟩⟩
theorem epl_make (h : EvAP K C t σ H R) (ok : ∀ ps, R ps → PlOk ps) : EvPl K CP C (tMakeR CP (spPlA K CP C) E t) σ H R := fun H1 e Q q =>
  h H1 e _ fun xs ps H2 e2 row r => fun o dx ho hd hn => pl_told ho hd hn row (ok ps r) fun o H3 e3 at_ => q o ps H3 (e2.trans e3) at_ r
theorem eap_nil : EvAP K C tNil σ H (fun ps => ps = []) := fun H1 e Q q => q [] [] H1 (Ex.refl H1) prow_nil rfl
theorem prow_cons {o : Addr} {p : Ph} (ho : PhAt K C H o p) (h : PRow K C H xs ps) : PRow K C H (.ref o :: xs) (p :: ps) := ⟨by rw [List.length_cons, List.length_cons, h.1], fun i y m hy hm => by
  cases i with
  | zero =>
    cases hy
    cases hm
    exact ⟨o, rfl, ho⟩
  | succ i => exact h.2 i y m hy hm⟩
theorem eap_cons {p : Ph} (h : EvPh K C te σ H p) (hr : EvAP K C tr σ H R) : EvAP K C (tCons te tr) σ H (fun qs => ∃ ss ps, qs = (p.1, ss) :: ps ∧ ss.Perm p.2 ∧ R ps) := fun H1 e Q q =>
  h H1 e _ fun o ss H2 e2 ho pm => hr H2 (e.trans e2) _ fun xs ps H3 e3 row r => q _ _ H3 (e2.trans e3) (prow_cons (ho.mono e3) row) ⟨ss, ps, rfl, pm, r⟩
end
end K19
namespace K19
open PySem L2 Evl Gr StX EnT MkS StK ClX ClK RdX Kn
def RetP (K : PySem.W.Frag) (CP C : Addr) (R : List Ph → Prop) (H : Hp) (Q : VK) : Prop := ∀ o ps H', Ex H H' → PlAt K CP C H' o ps → R ps → Q (.ref o) H'
theorem RetP.mono {K : PySem.W.Frag} {CP C : Addr} {R : List Ph → Prop} {H H' : Hp} {Q : VK} (e : Ex H H') (h : RetP K CP C R H Q) : RetP K CP C R H' Q := fun o ps H2 e2 => h o ps H2 (e.trans e2)
theorem age_ok {a : Nat} (h1 : 1 ≤ a) (h4 : a ≤ 4) : AgesOk [a] := ⟨by simp, by simp, fun b hb => by rw [List.mem_singleton.mp hb]; exact ⟨h1, h4⟩, List.pairwise_singleton _ _⟩
theorem one_ok {ss : List (List Nat)} : PlOk [(false, ss)] := by
  refine ⟨by simp, by simp, ⟨_, List.mem_singleton.mpr rfl, rfl⟩, fun i hi l hl a ha => ?_⟩
  have e : ∀ j : Int, cyc [(false, ss)] j = (false, ss) := fun j => by
    unfold cyc
    rw [show (([(false, ss)] : List Ph).length : Int) = 1 from rfl, Int.emod_one]
    rfl
  rw [e]
/-- what each class method gives -/
def okPlain (ps : List Ph) : Prop := ps = [(false, [])]
def okCopies (l : List Nat) (ps : List Ph) : Prop := ∃ ss : List (List Nat), ps = [(false, ss)] ∧ ss.Perm (l.map fun a => [a])
def okTwo (ps : List Ph) : Prop := ps = [(false, []), (false, []), (true, [[1, 2]])]
theorem two_ok : PlOk [(false, []), (false, []), (true, [[1, 2]])] := by
  refine ⟨by decide, by decide, ⟨_, List.mem_cons_self, rfl⟩, ?_⟩
  unfold NoTell
  decide +kernel
/-- the classes Plan and Phase -/
structure GPl (P : Program) (w : World) (K : PySem.W.Frag) (mg : Str → Option Value) (base : Heap) (CP C fP f : Addr) : Prop where
  gP : mg "Plan" = some (.ref CP)
  gC : mg "Phase" = some (.ref C)
  mP : Mk K CP fP
  mC : Mk K C f
  initP : FnR P w K mg base CX0 3 fP (spPlA K CP C)
  initK : FnRK P w K mg base CX0 4 f "mute" (starSp (spPh K C))
  initD : FnR P w K mg base CX0 4 f (fun vs H Q E => starSp (spPh K C) vs (.bl false) H Q E)
  clsP : PlC K CP
  cls : PhC K C
section
variable {K : PySem.W.Frag} {C : Addr} {σ : L2.St} {H : Hp} {te : TE} {E : XK}
theorem perm_nil' {α : Type} {l : List α} (h : l.Perm []) : l = [] := h.eq_nil
theorem ep_one (h : EvPh K C te σ H (false, [])) {Q : VK} {H1 : Hp} (e : Ex H H1) (k : ∀ o H2, Ex H1 H2 → PhAt K C H2 o (false, []) → Q (.ref o) H2) : te σ H1 Q := h H1 e _ fun o ss H2 e2 ho pm => by
  rw [perm_nil' pm] at ho
  exact k o H2 e2 ho
/-- Phase(*y) -/
theorem ep_S {X : Cx} {ss : List (List Nat)} (h : ∀ H1, Ex H H1 → ∀ Q : VK, (∀ p xs H2, Ex H1 H2 → H2 p = some (.lst xs) → TRow H2 xs ss → Q (.ref p) H2) → te σ H1 Q) (ok : PhOk ss) (nd : ss.Nodup) :
    EvPh X.K C (tMakeS X C (fun vs H Q E => starSp (spPh X.K C) vs (.bl false) H Q E) E te) σ H (false, ss) := fun H1 e Q q =>
  h H1 e _ fun p xs H2 e2 hp row => ⟨p, xs, rfl, .inr (sq_of hp), fun o dx ho hd hn => ph_told ho hd hn row ok nd fun o ss' H4 e4 => q o ss' H4 (e2.trans e4)⟩
end
section
variable {P : Program} {w : World} {K : PySem.W.Frag} {mg : Str → Option Value} {base : Heap}
def spPlain (K : PySem.W.Frag) (CP C : Addr) : Sp := fun vs H Q _ => vs = [.ref CP] ∧ RetP K CP C okPlain H Q
theorem scPlain : FnScope ["cls"] ["cls"] (defScope (sPl 1)) := ⟨rfl, rfl, rfl, by decide +kernel, rfl, by decide +kernel, by decide +kernel⟩
theorem ok_Plain {CP C fP fI f : Addr} {fd : FuncData} (F : Fun K "plain" "Plan.plain" (sPl 1) f fd) (G : GPl P w K mg base CP C fP fI) : FnOk P w K mg base CX0 6 f fd ["cls"] (spPlain K CP C) := by
  refine F.ok scPlain (fun vs H Q E h => ?_) (fun cdv A outer s H vs Q E hr h => ?_)
  · obtain ⟨rfl, _⟩ := h
    rfl
  · obtain ⟨rfl, k⟩ := h
    refine ⟨_, (pss_one (ps_ret (pe_makeL (i := 0) (E := E0) G.mP G.initP (hr.mono (by decide)) rfl (.inl rfl) pass0 (pa_cons (pe_makeR0 (E := E0) G.mC G.initD hr (by rfl) G.gC pass0) pa_nil)))), ?_⟩
    refine s_retR ⟨rfl, ?_⟩
    refine epl_make (eap_cons (ep_D ear_nil ⟨fun l hl => (by cases hl), by decide⟩ List.nodup_nil) eap_nil) (fun ps hps => ?_) H (Ex.refl H) _ fun o ps H1 e1 at_ hps => k o ps H1 e1 at_ ?_
    · obtain ⟨ss, qs, rfl, _, rfl⟩ := hps
      exact one_ok
    · obtain ⟨ss, qs, rfl, pm, rfl⟩ := hps
      rw [perm_nil' pm]
      rfl
/-! ### copies -/
abbrev nCop : List Str := ["cls", "ages", "sums", "age"]
theorem scCop : FnScope nCop ((["cls"] : List Str) ++ (["ages"] : List Str)) (defScope (sPl 2)) := ⟨rfl, rfl, rfl, by decide +kernel, rfl, by decide +kernel, by decide +kernel⟩
def spCop (K : PySem.W.Frag) (CP C : Addr) : Sp := fun vs H Q _ => ∃ (p : Addr) (l : List Nat), vs = [.ref CP, .ref p] ∧ SqT K H p (vN l) ∧ (∀ a ∈ l, 1 ≤ a ∧ a ≤ 4) ∧ l.Nodup ∧ l.length ≤ 4 ∧ RetP K CP C (okCopies l) H Q
def spCopA (K : PySem.W.Frag) (CP C : Addr) : Sp := fun vs H Q E => ∃ ws rest, vs = ws ++ rest ∧ ws.length = (["cls"] : List Str).length ∧ rest.length ≤ sizeLine ∧ ∀ p, H p = none → spCop K CP C (ws ++ [V.ref p]) (L2.upd H p (.tup rest)) Q E
theorem snoc_map {l : List Nat} {i a : Nat} (h : l[i]? = some a) : ((l.take (i + 1)).map fun a => [a]) = ((l.take i).map fun a => [a]) ++ [[a]] := by
  rw [List.take_add_one, h, List.map_append]
  rfl
theorem trow_snoc {H : Hp} {xs : List V} {ss : List (List Nat)} {a : Addr} {l : List Nat} (h : TRow H xs ss) (ha : H a = some (.tup (vN l))) : TRow H (xs ++ [.ref a]) (ss ++ [l]) := ⟨by rw [List.length_append, List.length_append, h.1]; rfl, fun i x q hx hq => by
  rcases Nat.lt_or_ge i xs.length with c | c
  · rw [List.getElem?_append_left c] at hx
    rw [List.getElem?_append_left (by rw [← h.1]; exact c)] at hq
    exact h.2 i x q hx hq
  · rw [List.getElem?_append_right c] at hx
    rw [List.getElem?_append_right (by rw [← h.1]; exact c), ← h.1] at hq
    generalize i - xs.length = j at hx hq
    cases j with
    | zero =>
      cases hx
      cases hq
      exact ⟨a, rfl, ha⟩
    | succ j => cases hx⟩
theorem ok_Cop {CP C fP fI f : Addr} {fd : FuncData} (F : Fun K "copies" "Plan.copies" (sPl 2) f fd) (G : GPl P w K mg base CP C fP fI) : FnR P w K mg base CX0 6 f (spCopA K CP C) := by
  obtain ⟨oc, od, kV, doc, pm, an, cdv, ct, osl, rfl, lk, hcd⟩ := F.ex
  refine fn_star (ps := ["cls"]) (sp := spCop K CP C) lk hcd scCop cxUp_none (bind_star1 (B := fun us => bindArgs (PySem.W.fnOf "copies" "Plan.copies" (defArgs (sPl 2)) (defBody (sPl 2)) (defScope (sPl 2)) .none kV doc pm an cdv ct) ⟨us, []⟩) (fun a => rfl) fun a r rs => rfl) (fun A outer s H vs Q E hr h => ?_)
  suffices z : ∃ t, PSs (cxOf CX0 P w K mg base nCop "Plan.copies" (defScope (sPl 2)) f cdv A outer s H E).nox (defBody (sPl 2)) t ∧ t { nx := fun _ H' => Q .non H', rt := Q } (L2.start nCop vs) H from
    let ⟨t, a, b⟩ := z
    ⟨t, a.nox, b⟩
  obtain ⟨p, l, rfl, hP, h14, nd, l4, k⟩ := h
  refine ⟨_, (pss_cons (ps_setLc (te := tTup (tCons (tVar 3) tNil)) (i := 2) (own := [("age", 3)]) (g := gName 3) rfl scCop.nd rfl rfl (by rfl) (pi_tup (pv 1)) (blkOk_by (own := [("age", 3)]) (N := nCop) (sc := defScope (sPl 2)) (by decide +kernel)) (fun _ _ _ _ _ => pg_name (i := 3) scCop.nd rfl (Or.inl rfl)) (fun _ _ _ _ _ => pts_nil)
        (fun _ _ _ _ _ => pe_tup (pa_cons (pv 3) pa_nil)))
      (pss_one (ps_ret (pe_makeL (i := 0) (E := E0) G.mP G.initP (hr.mono (by decide)) rfl (.inl rfl) pass0 (pa_cons (pe_makeS1 (E := E0) G.mC G.initD hr (by rfl) G.gC pass0 (pv 2)) pa_nil))))), ?_⟩
  refine q_asgR ⟨_, rfl, p, rfl, ⟨vN l, hP⟩, fun D hD => ?_⟩
  refine lc_it (n := (vN l).length) (walk_tup (K := K) (a := p) (xs := vN l)) (fun i H' => Ex H H' ∧ ∃ xs, H' D = some (.lst xs) ∧ TRow H' xs ((l.take i).map fun a => [a])) ⟨Ex.new hD, [], upd_same, trow_nil⟩ (fun _ H' _ h => ex_t h.1 hP) (fun i x H' H'' hi h y => ?_) (fun H' h => ?_)
  · obtain ⟨rfl, hxi⟩ := y
    obtain ⟨a, ha, rfl⟩ := vN_get hxi
    obtain ⟨h1, xs, h2, h3⟩ := h
    refine ⟨rfl, yes_i (A := fun H3 => _) ?_⟩
    refine ⟨_, rfl, by show 1 ≤ sizeLine; decide, fun q hq => ?_⟩
    have e3 := Ex.new (o := .tup [V.int (a : Int)]) hq
    have ln := h3.1
    rw [List.length_map, List.length_take] at ln
    have nD : q ≠ D := fun z => by rw [z, h2] at hq; cases hq
    refine ⟨xs, e3 _ _ h2, sz_lt (by omega), Ex.mut (h1.trans e3) hD, xs ++ [.ref q], upd_same, ?_⟩
    rw [snoc_map ha]
    have row := trow_snoc (h3.mono e3) (a := q) (l := [a]) (show _ = some (.tup (vN [a])) from upd_same)
    refine ⟨row.1, fun j y m hy hm => ?_⟩
    obtain ⟨b, b1, b2⟩ := row.2 j y m hy hm
    refine ⟨b, b1, ?_⟩
    have nb : b ≠ D := fun z => by rw [z, e3 _ _ h2] at b2; cases b2
    rw [upd_ne nb]
    exact b2
  · obtain ⟨h1, xs, h2, h3⟩ := h
    rw [vN_len, List.take_length] at h3
    refine s_retR ⟨rfl, ?_⟩
    have nd2 : (l.map fun a => [a]).Nodup := by
      unfold List.Nodup
      rw [List.pairwise_map]
      exact nd.imp fun h z => h (List.head_eq_of_cons_eq z)
    refine epl_make (C := C) (eap_cons (ep_S (X := cxOf CX0 P w K mg base nCop "Plan.copies" (defScope (sPl 2)) f cdv A outer s H E) (ss := l.map fun a => [a]) (fun H3 e3 Q3 q3 => ⟨_, rfl, q3 D xs H3 (Ex.refl H3) (e3 _ _ h2) (h3.mono e3)⟩) ⟨fun m hm => ?_, by rw [List.length_map]; exact l4⟩ nd2) eap_nil) (fun ps hps => ?_) H' (Ex.refl H') _ fun o ps H3 e3 at_ hps => k o ps H3 (h1.trans e3) at_ ?_
    · obtain ⟨a, ha, rfl⟩ := List.mem_map.mp hm
      have := h14 a ha
      exact age_ok this.1 this.2
    · obtain ⟨ss, qs, rfl, _, rfl⟩ := hps
      exact one_ok
    · obtain ⟨ss, qs, rfl, pm, rfl⟩ := hps
      exact ⟨ss, rfl, pm⟩
theorem prow_updL {H : Hp} {C D : Addr} {u : HO} {ys : List V} {xs : List V} {ps : List Ph} (h : PRow K C H xs ps) (hD : H D = some (.lst ys)) : PRow K C (upd H D u) xs ps := ⟨h.1, fun i x p hx hp => by
  obtain ⟨b, h1, dx', q, zs, h2, h3, h4, h5⟩ := h.2 i x p hx hp
  refine ⟨b, h1, dx', q, zs, ?_, sqt_updL h3 hD, ⟨h4.1, fun j y l hy hl => ?_⟩, h5⟩
  · rw [upd_ne (fun z => by rw [z, hD] at h2; cases h2)]
    exact h2
  · obtain ⟨c, c1, c2⟩ := h4.2 j y l hy hl
    exact ⟨c, c1, by rw [upd_ne (fun z => by rw [z, hD] at c2; cases c2)]; exact c2⟩⟩
theorem eu_rg {σ : L2.St} {H : Hp} {ta tb : TE} {a b : Int} (ha : Ev ta σ H (.int a)) (hb : Ev tb σ H (.int b)) (ok : RgOk a b) : EvU (tTupRg (tRg2 ta tb)) σ H (rgV a b) := fun H1 e Q q =>
  ha H1 e _ fun H2 e2 => hb H2 (e.trans e2) _ fun H3 e3 => ⟨a, b, rfl, rfl, ok, fun p hp => q p _ (fresh_back (e2.trans e3) hp) ((e2.trans e3).trans (Ex.new hp)) upd_same⟩
/-! ### groups of two -/
abbrev nGrp : List Str := ["cls", "size", "phases", "_"]
theorem scGrp : FnScope nGrp ["cls", "size"] (defScope (sPl 3)) := ⟨rfl, rfl, rfl, by decide +kernel, rfl, by decide +kernel, by decide +kernel⟩
def spGrp (K : PySem.W.Frag) (CP C : Addr) : Sp := fun vs H Q _ => vs = [.ref CP, .int 2] ∧ RetP K CP C okTwo H Q
theorem ok_Grp {CP C fP fI f : Addr} {fd : FuncData} (F : Fun K "groups" "Plan.groups" (sPl 3) f fd) (G : GPl P w K mg base CP C fP fI) (S : GlbS mg) (GW : Gfn P w K mg base 2 "is_within" ["value", "least", "most"] (spWithin K)) : FnOk P w K mg base CX0 6 f fd ["cls", "size"] (spGrp K CP C) := by
  obtain ⟨fW, fdW, GW, kW, bW, gW⟩ := GW
  refine F.ok scGrp (fun vs H Q E h => ?_) (fun cdv A outer s H vs Q E hr h => ?_)
  · obtain ⟨rfl, _⟩ := h
    rfl
  · obtain ⟨rfl, k⟩ := h
    refine ⟨_, (pss_cons (ps_if (pt_not (pt_val (pe_call GW (hr.mono (by decide)) (by rfl) gW kW bW .nil pass0 (pa_cons (pv 1) (pa_cons pe_int (pa_cons pe_int pa_nil)))))) (pss_one ps_no) pss_nil)
      (pss_cons (ps_setLc (te := tMakeR C (fun vs H Q E => starSp (spPh K C) vs (.bl false) H Q E) E0 tNil) (i := 2) (own := [("_", 3)]) (g := gName 3) rfl scGrp.nd rfl rfl (by rfl) (pi_range1 (by rfl) S.range (pa_cons (pv 1) pa_nil)) (blkOk_by (own := [("_", 3)]) (N := nGrp) (sc := defScope (sPl 3)) (by decide +kernel)) (fun _ _ _ _ _ => pg_name (i := 3) scGrp.nd rfl (Or.inl rfl)) (fun _ _ _ _ _ => pts_nil)
        (fun _ _ _ _ _ => pe_makeR0 (E := E0) G.mC G.initD hr (by rfl) G.gC pass0))
      (pss_cons (ps_expr (pe_bm PySem.F.plainAttrs_list PySem.F.slot_list_append PySem.F.type_list_append mt_append (pv 2) (pa_cons (pe_makeSK (E := E0) G.mC G.initK hr (by rfl) G.gC pass0 (pa_cons (pe_tupRg rfl (by rfl) S.tuple (prg_2 (by rfl) S.range pe_int (pe_op op_add (pv 1) pe_int))) pa_nil) (pk_cons pe_bl pk_nil)) pa_nil)))
      (pss_one (ps_ret (pe_makeLS (i := 0) (E := E0) G.mP G.initP (hr.mono (by decide)) rfl (.inl rfl) pass0 (pv 2))))))), ?_⟩
    refine q_when (b := false) (et_is (et_not (et_B (ev_call (z := .bl true) (ea_cons (ev_var rfl) (ea_cons ev_c (ea_cons ev_c ea_nil))) fun H1 e1 Q1 q1 E1 => .inl ⟨2, 1, 3, rfl, q1⟩))) rfl) (fun z => absurd z (by decide)) (fun _ H1 e1 => ?_)
    refine q_asgR ⟨_, rfl, 2, rfl, by decide, by decide, fun D hD => ?_⟩
    refine lc_range (lo := 0) (n := 2) (fun i H' => Ex H1 H' ∧ ∃ xs, H' D = some (.lst xs) ∧ xs.length = i ∧ PRow K C H' xs (List.replicate i (false, []))) ⟨Ex.new hD, [], upd_same, rfl, prow_nil⟩ (fun i H' hi h => ?_) (fun H' h => ?_)
    · obtain ⟨h1, xs, h2, h3, h4⟩ := h
      refine ⟨rfl, yes_i (A := fun H3 => _) ?_⟩
      refine ep_one (H := H') (ep_D ear_nil ⟨fun l hl => (by cases hl), by decide⟩ List.nodup_nil) (Ex.refl H') fun o H3 e3 ho => ⟨xs, e3 _ _ h2, sz_lt (by omega), Ex.mut (h1.trans e3) hD, xs ++ [.ref o], upd_same, by rw [List.length_append, h3]; rfl, ?_⟩
      rw [List.replicate_succ']
      exact prow_updL (prow_snoc (h4.mono e3) ho) (e3 _ _ h2)
    · obtain ⟨h1, xs, h2, h3, h4⟩ := h
      refine ⟨_, rfl, Or.inl ⟨rfl, xs, sq_of h2⟩, ?_⟩
      refine ep_K (K := K) (C := C) (m := true) (ss := [[1, 2]]) (ear_new (l := [1, 2]) (eu_rg (a := 1) (b := 3) ev_c (ev_op (x := .int 2) (y := .int 1) (ev_var rfl) ev_c rv_I0) (RgOk.of_le (by decide) (by decide) (by decide) (by decide))) ear_nil) (ea_cons ev_c ea_nil) ⟨fun l hl => ?_, by decide⟩ (by decide) H' (Ex.refl H') _ fun o ss H3 e3 ho pm => ⟨D, xs, .ref o, rfl, rfl, e3 _ _ h2, sz_lt (by omega), ?_⟩
      · rw [List.mem_singleton.mp hl]
        exact ⟨by decide, by decide, by decide, by decide⟩
      · have e1' : ss = [[1, 2]] := pm.eq_singleton
        subst e1'
        have row := prow_updL (u := .lst (xs ++ [.ref o])) (prow_snoc (h4.mono e3) ho) (e3 _ _ h2)
        have hD3 : (upd H3 D (.lst (xs ++ [.ref o]))) D = some (.lst (xs ++ [.ref o])) := upd_same
        have E3 : Ex H (upd H3 D (.lst (xs ++ [.ref o]))) := e1.trans (Ex.mut (h1.trans e3) hD)
        generalize upd H3 D (.lst (xs ++ [.ref o])) = H4 at row hD3 E3 ⊢
        dsimp only
        refine s_retR ?_
        refine ⟨rfl, _, rfl, D, xs ++ [.ref o], rfl, .inr (sq_of hD3), fun x dx hx hd hn => ?_⟩
        exact pl_told hx hd hn row two_ok fun o' H5 e5 at_ => k o' _ H5 (E3.trans e5) at_ rfl
end
end K19
namespace K19
open PySem L2 Evl Gr StX EnT MkS StK ClX ClK RdX Kn
abbrev rShl1 : R2 := fun x y H Q => ∃ k : Nat, x = .int 1 ∧ y = .int (k : Int) ∧ k ≤ 134217727 ∧ Q (.int (2 ^ k)) H
theorem pow_cast (k : Nat) : (2 : Int) ^ k = ((2 ^ k : Nat) : Int) := by rw [Int.natCast_pow]; rfl
theorem sum_cast : ∀ l : List Nat, (l.map fun n : Nat => (n : Int)).sum = ((l.sum : Nat) : Int)
  | [] => rfl
  | n :: l => by rw [List.map_cons, List.sum_cons, List.sum_cons, sum_cast l]; omega
section
variable {K : PySem.W.Frag} {σ : L2.St} {H : Hp} {ta tb te tl : TE} {t : TT}
theorem ev_shl1 {k : Nat} (hb : Ev tb σ H (.int (k : Int))) (h : k ≤ 1000) : Ev (tOp rShl1 (tC (.int 1)) tb) σ H (.int ((2 ^ k : Nat) : Int)) := ev_op ev_c hb fun H1 _ Q q => ⟨k, rfl, rfl, by omega, by rw [pow_cast]; exact q H1 (Ex.refl H1)⟩
theorem ev_sumN {l : List Nat} (h : EvL te σ H (vN l)) : Ev (tCB (rSum K) (tCons te tNil)) σ H (.int ((l.sum : Nat) : Int)) := fun H1 e Q q =>
  h H1 e _ fun p H2 _ e2 hp => ⟨p, zI l, rfl, sq_of hp, by
    have e3 : (zI l).sum = ((l.sum : Nat) : Int) := sum_cast l
    rw [e3]
    exact q H2 e2⟩
theorem row_got {α : Type} (l : List α) (g : α → V) : (List.range l.length).map (got l g) = l.map g := by
  have e : (List.range l.length).map (got l g) = ((List.range l.length).map fun i => l[i]?).map fun o => o.elim V.non g := by rw [List.map_map]; rfl
  rw [e, all_got, List.map_map]
  rfl
/-- [e for j in rows of sums] -/
theorem el_trow {xs : List V} {ss : List (List Nat)} {j : Nat} {vs : List Nat} (g : List Nat → V) (h : EvTu K tl σ H xs) (row : TRow H xs ss) (hz : ss.length ≤ 40000) (hw : ∀ x, wipe ((wipe σ vs).set j (some x)) vs = wipe σ vs)
    (he : ∀ a l H1, l ∈ ss → Ex H H1 → H1 a = some (.tup (vN l)) → Ev te ((wipe σ vs).set j (some (.ref a))) H1 (g l)) : EvL (tLc (iTup K tl) (gName j) tYes te vs) σ H (ss.map g) := by
  have c := el_tup (K := K) (σ := σ) (H := H) (t := tYes) (te := te) (xs := xs) (tl := tl) (j := j) (vs := vs) (fun _ => true) (got ss g) h (by rw [row.1]; exact hz) hw (fun _ _ _ _ _ => et_none) (fun i x H1 e hi _ => by
    obtain ⟨a, l, hl, rfl, ha⟩ := row.at hi
    rw [got_of hl]
    exact he a l H1 (List.mem_of_getElem? hl) e (e _ _ ha))
  rw [given_all, row.1, row_got] at c
  exact c
/-- [2 ** (n - a) for a in ages if a <= n] -/
theorem el_msk {i j : Nat} {vs : List Nat} {n : Nat} {l : List Nat} (h : EvTu K tl σ H (vN l)) (hz : l.length ≤ 1000) (hn : n ≤ 420) (hw : ∀ x, wipe ((wipe σ vs).set j (some x)) vs = wipe σ vs) (hi : ∀ x, ((wipe σ vs).set j (some x))[i]? = some (some (.int (n : Int)))) (hj : ∀ x, ((wipe σ vs).set j (some x))[j]? = some (some x)) :
    EvL (tLc (iTup K tl) (gName j) (tTest (tOp (rI0 fun i j => .bl (decide (i ≤ j))) (tVar j) (tVar i))) (tOp rShl1 (tC (.int 1)) (tOp (rI0 fun i j => .int (i - j)) (tVar i) (tVar j))) vs) σ H (vN ((l.filter fun a => decide (a ≤ n)).map fun a => 2 ^ (n - a))) := by
  have c := el_mapT (K := K) (σ := σ) (H := H) (tl := tl) (t := tTest (tOp (rI0 fun i j => .bl (decide (i ≤ j))) (tVar j) (tVar i))) (te := tOp rShl1 (tC (.int 1)) (tOp (rI0 fun i j => .int (i - j)) (tVar i) (tVar j))) (fun a : Nat => V.int (a : Int)) (l := l) (j := j) (vs := vs) (fun a => decide (a ≤ n)) (fun a => V.int ((2 ^ (n - a) : Nat) : Int)) (by rw [← vN_map]; exact h) (by omega) hw
    (fun a ha H1 e => et_is (et_test (ev_op (ev_var (hj _)) (ev_var (hi _)) rv_I0)) (decide_eq_decide.mpr (by omega)))
    (fun a ha H1 e hp => ev_shl1 (ev_is (ev_op (ev_var (hi _)) (ev_var (hj _)) rv_I0) (by have := of_decide_eq_true hp; congr 1; omega)) (by omega))
  rw [vN_map, List.map_map]
  exact c
end
section
variable {P : Program} {w : World} {K : PySem.W.Frag} {mg : Str → Option Value} {base : Heap}
abbrev sMsk : Stmt := top 32
abbrev nMsk : List Str := ["phase", "at", "masks", "ages", "age"]
def spMsk (K : PySem.W.Frag) (C : Addr) : Sp := fun vs H Q _ => ∃ (o : Addr) (p : Ph) (n : Nat), vs = [.ref o, .int (n : Int)] ∧ PhAt K C H o p ∧ n < 420 ∧ RetL (vN (masks p n)) H Q
theorem scMsk : FnScope nMsk ["phase", "at"] (defScope sMsk) := ⟨rfl, rfl, rfl, by decide +kernel, rfl, by decide +kernel, by decide +kernel⟩
theorem el_cons {σ : L2.St} {H : Hp} {ta te : TE} {x : V} {xs : List V} (h : Ev ta σ H x) {p : Addr} (hp : H p = some (.lst xs)) (he : Ev te σ H (.ref p)) (hz : xs.length ≤ 90000) : EvL (tLst (tCons ta (tStar K te tNil))) σ H (x :: xs) := fun H1 e Q q =>
  h H1 e _ fun H2 e2 => he H2 (e.trans e2) _ fun H3 e3 => ⟨p, xs, rfl, .inr (sq_of (((e.trans e2).trans e3) _ _ hp)), by
    show (x :: (xs ++ [])).length ≤ sizeLine ∧ ∀ l, H3 l = none → Q (.ref l) (upd H3 l (.lst (x :: (xs ++ []))))
    rw [List.append_nil]
    exact ⟨sz_of (by rw [List.length_cons]; omega), fun l hl => q l _ (fresh_back (e2.trans e3) hl) ((e2.trans e3).trans (Ex.new hl)) upd_same⟩⟩
theorem ok_Msk {C f : Addr} {fd : FuncData} (F : Fun K "masks_at" "masks_at" sMsk f fd) (G : PhC K C) (I : GlbE mg) : FnOk P w K mg base CX0 1 f fd ["phase", "at"] (spMsk K C) := by
  refine F.ok scMsk (fun vs H Q E h => ?_) (fun cdv A outer s H vs Q E hr h => ?_)
  · obtain ⟨o, p, n, rfl, _⟩ := h
    rfl
  · obtain ⟨o, p, n, rfl, hO, hn, k⟩ := h
    refine ⟨_, (pss_cons (ps_setLc (te := tCB (rSum K) (tCons (tLc (iTup K (tVar 3)) (gName 4) (tTest (tOp (rI0 fun i j => .bl (decide (i ≤ j))) (tVar 4) (tVar 1))) (tOp rShl1 (tC (.int 1)) (tOp (rI0 fun i j => .int (i - j)) (tVar 1) (tVar 4))) [4]) tNil)) (i := 2) (own := [("ages", 3)]) (g := gName 3) rfl scMsk.nd rfl (by rfl) (by rfl) (pi_tup (pe_fld (pv 0) rfl)) (blkOk_by (own := [("ages", 3)]) (N := nMsk) (sc := defScope sMsk) (by decide +kernel)) (fun _ _ _ _ _ => pg_name (i := 3) scMsk.nd rfl (Or.inl rfl)) (fun _ _ _ _ _ => pts_nil)
        (fun _ _ _ _ _ => pe_callB (cr_sum rfl) (by rfl) I.sum (by decide +kernel) (pa_cons (pe_lc (own := [("age", 4)]) (g := gName 4) rfl scMsk.nd (pi_tup (pv 3)) (blkOk_by (own := [("age", 4)]) (by rfl)) (fun _ _ _ _ _ => pg_name (i := 4) scMsk.nd rfl (Or.inl rfl)) (fun _ _ _ _ _ => pts_one (pt_cmpR op_le (pv 4) (pv 1) (nomark _))) (fun _ _ _ _ _ => pe_op op_oneShl pe_int (pe_op op_sub (pv 1) (pv 4)))) pa_nil)))
      (pss_one (ps_ret (pe_ifExp (pt_val (pe_fld (pv 0) rfl)) (pv 2) (pe_lst (pa_cons (pe_op op_oneShl pe_int (pv 1)) (pa_star (pv 2) pa_nil))))))), ?_⟩
    obtain ⟨dx, q, xs, h1, h2, h3, h4⟩ := id hO
    have c := el_trow (K := K) (σ := [some (.ref o), some (.int (n : Int)), none, none, none]) (H := H) (xs := xs) (ss := p.2) (j := 3) (vs := [3]) (tl := tFld K (tVar 0) "sums") (te := tCB (rSum K) (tCons (tLc (iTup K (tVar 3)) (gName 4) (tTest (tOp (rI0 fun i j => .bl (decide (i ≤ j))) (tVar 4) (tVar 1))) (tOp rShl1 (tC (.int 1)) (tOp (rI0 fun i j => .int (i - j)) (tVar 1) (tVar 4))) [4]) tNil))
      (fun l => V.int ((msk n l : Nat) : Int)) (etu_fld (ev_var rfl) h1 G.cls G.sums rfl h2) h3 (by have := h4.2; omega) (fun _ => rfl) (fun a l H1 hl e ha => ev_sumN (el_msk (etu_var rfl (st_of ha)) (by have := (h4.1 l hl).2.1; omega) (by omega) (fun _ => rfl) (fun _ => rfl) (fun _ => rfl)))
    have e1 : p.2.map (fun l => V.int ((msk n l : Nat) : Int)) = vN (p.2.map (msk n)) := by rw [vN_map, List.map_map]; rfl
    rw [e1] at c
    refine q_asgL c fun m H1 hm e1 h5 => ?_
    refine s_retR ?_
    have mu := ev_mute (K := K) (σ := [some (.ref o), some (.int (n : Int)), some (.ref m), none, none]) (ta := tVar 0) G (ev_var rfl) (hO.mono e1)
    refine et_B mu H1 (Ex.refl H1) _ fun H2 e2 => ?_
    cases hp : p.1 with
    | true =>
      refine iteT ⟨_, rfl, ?_⟩
      have e3 : masks p n = p.2.map (msk n) := by unfold masks; rw [hp, if_pos rfl]
      exact k m H2 hm (e1.trans e2) (by rw [e3]; exact e2 _ _ h5)
    | false =>
      refine iteF ?_
      have e3 : masks p n = 2 ^ n :: p.2.map (msk n) := by unfold masks; rw [hp, if_neg Bool.false_ne_true]
      have c2 := el_cons (K := K) (σ := [some (.ref o), some (.int (n : Int)), some (.ref m), none, none]) (H := H2) (te := tVar 2) (ev_shl1 (k := n) (tb := tVar 1) (ev_var rfl) (by omega)) (e2 _ _ h5) (ev_var rfl) (by rw [vN_len, List.length_map]; have := h4.2; omega)
      exact c2 H2 (Ex.refl H2) _ fun r H3 hr3 e4 h6 => k r H3 (fresh_back (e1.trans e2) hr3) ((e1.trans e2).trans e4) (by rw [e3]; exact h6)
end
end K19
namespace K19
open PySem L2 Evl Gr StX EnT MkS StK ClX ClK RdX Kn
section
variable {P : Program} {w : World} {K : PySem.W.Frag} {mg : Str → Option Value} {base : Heap}
abbrev sVbh : Stmt := top 33
abbrev nVbh : List Str := ["vectors", "phase", "at", "is_kept", "behind", "mask"]
def spVbh (K : PySem.W.Frag) (C : Addr) : Sp := fun vs H Q _ => ∃ (a o : Addr) (V : List Nat) (p : Ph) (n : Nat) (kept : Bool), vs = [.ref a, .ref o, .int (n : Int), .bl kept] ∧ SqL K H a (vN V) ∧ PhAt K C H o p ∧ n < 419 ∧ V.length ≤ n ∧ (∀ v ∈ V, v < 2 ^ n) ∧ RetL (vN (behind V p n kept)) H Q
theorem scVbh : FnScope nVbh ["vectors", "phase", "at", "is_kept"] (defScope sVbh) := ⟨rfl, rfl, rfl, by decide +kernel, rfl, by decide +kernel, by decide +kernel⟩
theorem ok_Vbh {C f : Addr} {fd : FuncData} (F : Fun K "vectors_behind" "vectors_behind" sVbh f fd) (G : PhC K C) (S : GlbS mg) (GM : Gfn P w K mg base 1 "masks_at" ["phase", "at"] (spMsk K C)) (GH : Gfn P w K mg base 2 "heard_vectors" ["vectors", "mask"] (spHear K)) :
    FnOk P w K mg base CX0 3 f fd ["vectors", "phase", "at", "is_kept"] (spVbh K C) := by
  obtain ⟨fM, fdM, GM, kM, bM, gM⟩ := GM
  obtain ⟨fH, fdH, GH, kH, bH, gH⟩ := GH
  refine F.ok scVbh (fun vs H Q E h => ?_) (fun cdv A outer s H vs Q E hr h => ?_)
  · obtain ⟨a, o, V, p, n, kept, rfl, _⟩ := h
    rfl
  · obtain ⟨a, o, V, p, n, kept, rfl, hV, hO, hn, lV, ltV, k⟩ := h
    refine ⟨_, (pss_cons (ps_set (i := 4) scVbh.nd rfl (.inl rfl) (pe_callTy call_list_of (by rfl) S.list (by decide +kernel) (pa_cons (pv 0) pa_nil)))
      (pss_cons (ps_if (pt_not (pt_val (pe_fld (pv 1) rfl))) (pss_one (ps_expr (pe_bm PySem.F.plainAttrs_list PySem.F.slot_list_append PySem.F.type_list_append mt_append (pv 4) (pa_cons (pe_op op_oneShl pe_int (pv 2)) pa_nil)))) pss_nil)
      (pss_cons (ps_if (pt_val (pv 3)) (pss_one (ps_for PassesOwn.never rfl (pi_list (pe_call GM (hr.mono (by decide)) (by rfl) gM kM bM .nil pass0 (pa_cons (pv 1) (pa_cons (pv 2) pa_nil)))) (pg_name (i := 5) scVbh.nd rfl (.inl rfl))
        (pss_one (ps_set (i := 4) scVbh.nd rfl (.inl rfl) (pe_call GH hr (by rfl) gH kH bH .nil pass0 (pa_cons (pv 4) (pa_cons (pv 5) pa_nil))))))) pss_nil)
      (pss_one (ps_ret (pv 4)))))), ?_⟩
    refine q_asgL (el_listL (ev_var rfl) hV) fun c H1 hc e1 h1 => ?_
    have mu := ev_mute (K := K) (σ := [some (.ref a), some (.ref o), some (.int (n : Int)), some (.bl kept), some (.ref c), none]) (ta := tVar 1) G (ev_var rfl) (hO.mono e1)
    have rest : ∀ (V' : List Nat) (H2 : Hp), Ex H H2 → H2 c = some (.lst (vN V')) → V' = (if p.1 then V else V ++ [2 ^ n]) →
        tSeq (tIfS (tB (tVar 3)) (tFor (iList K (tCall (spMsk K C) [] E0 (tCons (tVar 1) (tCons (tVar 2) tNil)))) (gName 5) (tAsg (tCall (spHear K) [] E0 (tCons (tVar 4) (tCons (tVar 5) tNil))) (gName 4))) tNext) (tRet (tVar 4)) { nx := fun _ H' => Q .non H', rt := Q } [some (.ref a), some (.ref o), some (.int (n : Int)), some (.bl kept), some (.ref c), none] H2 := by
      intro V' H2 e2 h2 eV
      have l2 : V'.length ≤ n + 1 := by
        rw [eV]
        split
        · omega
        · rw [List.length_append]
          show V.length + 1 ≤ _
          omega
      have lt2 : ∀ v ∈ V', v < 2 ^ (n + 1) := by
        have p2 : 2 ^ (n + 1) = 2 * 2 ^ n := by rw [Nat.pow_succ, Nat.mul_comm]
        have p0 : 0 < 2 ^ n := Nat.two_pow_pos n
        intro v hv
        rw [eV] at hv
        split at hv
        · have := ltV v hv
          omega
        · rcases List.mem_append.mp hv with z | z
          · have := ltV v z
            omega
          · have := List.mem_singleton.mp z
            omega
      have big : 2 ^ (n + 1) ≤ 2 ^ 420 := Nat.pow_le_pow_right (by decide) (by omega)
      refine q_when (et_B (ev_var rfl)) (fun hb H3 e3 => ?_) (fun hb H3 e3 => ?_)
      · subst hb
        refine s_forNL (K := K) (xs := vN (masks p n)) (el_call (ea_cons (ev_var rfl) (ea_cons (ev_var rfl) ea_nil)) fun H4 e4 Q4 q4 E4 => ⟨o, p, n, rfl, hO.mono ((e2.trans e3).trans e4), by omega, fun r H5 => q4 r H5⟩)
          (fun r i σ' H' => ∃ (c' : Addr) (l : List Nat) (x5 : Option L2.V), σ' = [some (.ref a), some (.ref o), some (.int (n : Int)), some (.bl true), some (.ref c'), x5] ∧ H' c' = some (.lst (vN l)) ∧ H c' = none ∧ l = ((masks p n).take i).foldl hvP V' ∧ l.length ≤ n + 1 ∧ (∀ v ∈ l, v < 2 ^ (n + 1)) ∧ Ex H H' ∧ H' r = some (.lst (vN (masks p n))))
          (fun r H4 hr4 e4 h4 => ⟨c, V', none, rfl, (e3.trans e4) _ _ h2, hc, by rw [List.take_zero]; rfl, l2, lt2, (e2.trans e3).trans e4, h4⟩) (fun r i σ' H' _ ⟨_, _, _, _, _, _, _, _, _, _, h⟩ => sq_of h) ?_ ?_
        · rintro r i x σ' H4 hx ⟨c', l, x5, rfl, h4, hc4, el, ll, lt, e4, hr4⟩
          obtain ⟨m, hm, rfl⟩ := vN_get hx
          refine s_asgL (xs := vN (hvP l m)) (el_call (ea_cons (ev_var rfl) (ea_cons (ev_var rfl) ea_nil)) fun H5 e5 Q5 q5 E5 => ⟨c', l, m, rfl, sq_of (e5 _ _ h4), fun v hv => Nat.lt_of_lt_of_le (lt v hv) big, by omega, fun r' H6 => q5 r' H6⟩) fun c2 H5 hc5 e5 h5 => ?_
          refine ⟨c2, hvP l m, _, rfl, h5, fresh_back e4 hc5, ?_, Nat.le_trans (hvP_len l m) ll, hvP_lt lt, e4.trans e5, e5 _ _ hr4⟩
          rw [List.take_add_one, hm, List.foldl_append, el]
          rfl
        · rintro r σ' H4 ⟨c', l, x5, rfl, h4, hc4, el, ll, lt, e4, hr4⟩
          refine s_ret (ev_var rfl) fun H5 e5 => k c' H5 hc4 (e4.trans e5) ?_
          have e6 : behind V p n true = l := by
            rw [el, vN_len, List.take_length, eV]
            rfl
          rw [e6]
          exact e5 _ _ h4
      · subst hb
        refine s_ret (ev_var rfl) fun H5 e5 => k c H5 hc ((e2.trans e3).trans e5) ?_
        have e6 : behind V p n false = V' := by rw [eV]; rfl
        rw [e6]
        exact (e3.trans e5) _ _ h2
    refine q_when (et_not (et_B mu)) (fun hb H2 e2 => ?_) (fun hb H2 e2 => ?_)
    · have hp : p.1 = false := by simpa using hb
      refine s_app (K := K) (xs := vN V) (e2 _ _ h1) (ev_var rfl) (ev_shl1 (k := n) (ev_var rfl) (by omega)) (by rw [vN_len]; omega) fun H3 e3 => ?_
      refine rest (V ++ [2 ^ n]) _ (Ex.mut ((e1.trans e2).trans e3) hc) (by rw [upd_same, ← vN_app]) (by rw [hp]; rfl)
    · have hp : p.1 = true := by simpa using hb
      exact rest V H2 (e1.trans e2) (e2 _ _ h1) (by rw [hp]; rfl)
end
end K19
namespace Kn
section
variable {pl : Nat → Ph} {kp : Nat → Bool}
variable (pl kp) in
def unk (n : Nat) : List Nat := (List.range n).filter fun r => !(pl r).1 && (kst pl kp n r).isNone
variable (pl kp) in
def unkU (n : Nat) : List Nat := (List.range (n + 1)).filter fun r => !(pl r).1 && (kst pl kp n r).isNone
theorem unkU_is (n : Nat) : unkU pl kp n = if (pl n).1 = true then unk pl kp n else unk pl kp n ++ [n] := by
  unfold unkU unk
  rw [List.range_succ, List.filter_append, List.filter_cons, kst_late n n (Nat.le_refl n)]
  cases (pl n).1
  · rw [if_neg Bool.false_ne_true, if_pos (by rfl)]
    rfl
  · rw [if_pos rfl, if_neg (by decide)]
    exact List.append_nil _
theorem unk_next (n : Nat) : unk pl kp (n + 1) = (unkU pl kp n).filter fun r => (kst pl kp (n + 1) r).isNone := by
  unfold unkU unk
  rw [List.filter_filter]
  refine List.filter_congr fun r _ => ?_
  cases h : kst pl kp n r with
  | none => cases (pl r).1 <;> cases (kst pl kp (n + 1) r).isNone <;> rfl
  | some v =>
    rw [kst_stays h]
    cases (pl r).1 <;> rfl
theorem kst_step (n r : Nat) : kst pl kp (n + 1) r = if r ∈ unkU pl kp n ∧ (orv (vst pl kp (n + 1))).testBit r = false then some n else kst pl kp n r := by
  show (if (decide (r ≤ n) && (!(pl r).1 && ((kst pl kp n r).isNone && !(orv (vst pl kp (n + 1))).testBit r))) = true then some n else kst pl kp n r) = _
  have e : ((decide (r ≤ n) && (!(pl r).1 && ((kst pl kp n r).isNone && !(orv (vst pl kp (n + 1))).testBit r))) = true) ↔ (r ∈ unkU pl kp n ∧ (orv (vst pl kp (n + 1))).testBit r = false) := by
    unfold unkU
    rw [List.mem_filter, List.mem_range]
    simp only [Bool.and_eq_true, decide_eq_true_iff, Bool.not_eq_true']
    constructor
    · rintro ⟨a, b, c, d⟩
      exact ⟨⟨by omega, b, c⟩, d⟩
    · rintro ⟨⟨a, b, c⟩, d⟩
      exact ⟨by omega, b, c, d⟩
  by_cases h : (r ∈ unkU pl kp n ∧ (orv (vst pl kp (n + 1))).testBit r = false)
  · rw [if_pos h, if_pos (e.mpr h)]
  · rw [if_neg h, if_neg fun z => h (e.mp z)]
theorem unkU_lt {n r : Nat} (h : r ∈ unkU pl kp n) : r < n + 1 := List.mem_range.mp (List.mem_filter.mp h).1
end
end Kn
namespace K19
open PySem L2 Evl Gr StX EnT MkS StK ClX ClK RdX Kn
def kO : Option Nat → V
  | none => .non
  | some n => .int (n : Int)
theorem kO_none (o : Option Nat) : decide (kO o = V.non) = o.isNone := by
  cases o with
  | none => exact decide_eq_true rfl
  | some n => exact decide_eq_false fun z => by cases z
theorem range_set {L r : Nat} {f : Nat → V} {v : V} : ((List.range L).map f).set r v = (List.range L).map fun k => if k = r then v else f k := by
  refine List.ext_getElem? fun i => ?_
  rw [List.getElem?_set, List.getElem?_map, List.getElem?_map, List.length_map, List.length_range]
  by_cases h : i < L
  · rw [List.getElem?_range h]
    by_cases e : r = i
    · subst e
      rw [if_pos rfl, if_pos h]
      show _ = some (if r = r then v else f r)
      rw [if_pos rfl]
    · rw [if_neg e]
      show some (f i) = some (if i = r then v else f i)
      rw [if_neg (Ne.symm e)]
  · rw [List.getElem?_eq_none (by rw [List.length_range]; omega)]
    by_cases e : r = i
    · subst e
      rw [if_pos rfl, if_neg h]
      rfl
    · rw [if_neg e]
      rfl
def RetU (xs : List V) (H : Hp) (Q : VK) : Prop := ∀ p H2, H p = none → Ex H H2 → H2 p = some (.tup xs) → Q (.ref p) H2
theorem RetU.mono {xs : List V} {H H' : Hp} {Q : VK} (e : Ex H H') (h : RetU xs H Q) : RetU xs H' Q := fun p H2 hp e2 => h p H2 (fresh_back e hp) (e.trans e2)
/-- when each row is known -/
def knV (ps : List Ph) (b : Nat) (z : Str) : List V := (List.range z.length).map fun r => kO (kst (fun n => cyc ps ((b : Int) + (n : Int))) (keptAt z) z.length r)
section
variable {K : PySem.W.Frag} {σ : L2.St} {H : Hp} {te tl : TE} {t : TT}
theorem el_lcS {z : Str} {j : Nat} {vs : List Nat} (f : Nat → Bool) (v : Nat → V) (h : Ev tl σ H (.str z)) (hz : z.cps.size ≤ 40000) (hw : ∀ x, wipe ((wipe σ vs).set j (some x)) vs = wipe σ vs)
    (ht : ∀ (i c : Nat) H1, Ex H H1 → z.cps[i]? = some c → EvT t ((wipe σ vs).set j (some (.str ⟨#[c]⟩))) H1 (f i)) (he : ∀ (i c : Nat) H1, Ex H H1 → z.cps[i]? = some c → f i = true → Ev te ((wipe σ vs).set j (some (.str ⟨#[c]⟩))) H1 (v i)) :
    EvL (tLc (iStr tl) (gName j) t te vs) σ H (given z.cps.size f v) := fun H0 e Q q => h H0 e _ fun H1 e1 => ⟨z, rfl, fun Dl hD => lc_it (n := z.cps.size) (walk_str (z := z)) (g := gName j) (tt := t) (te := te) (vs := vs) (σ := σ) (Cw H1 f v Dl) ⟨hD, Ex.new hD, upd_same⟩ (fun _ _ _ _ => trivial)
      (fun i x H' H'' hi p y => by
        obtain ⟨rfl, c, hc, rfl⟩ := y
        exact ⟨hw _, cw_turn p (by omega) (ht i c H1 (e.trans e1) hc) fun hf => he i c H1 (e.trans e1) hc hf⟩)
      (fun H' p => q Dl H' (fresh_back e1 p.1) (e1.trans p.2.1) p.2.2)⟩
theorem ev_lenF {ta : TE} {xs : List V} (h : EvTu K ta σ H xs) : Ev (tCB (rLen K) (tCons ta tNil)) σ H (.int (xs.length : Int)) := fun H1 e Q q => h H1 e _ fun p H2 e2 hp => ⟨p, xs, rfl, .inr hp, q H2 e2⟩
theorem q_forES {z : Str} {ta : TA} {g : TG} {tu tz : TS} {D : Ends} (h : EvA ta σ H [.str z]) (Pv : Nat → L2.St → Hp → Prop) (h0 : ∀ H1, Ex H H1 → Pv 0 σ H1)
    (hs : ∀ i c σ' H' T, z.cps[i]? = some c → Pv i σ' H' → H' T = none → g (.ref T) σ' (L2.upd H' T (.tup [.int (i : Nat), .str ⟨#[c]⟩])) fun σ2 H2 => tu { D with nx := Pv (i + 1), ct := Pv (i + 1), bk := tz D } σ2 H2)
    (hd : ∀ σ' H', Pv z.cps.size σ' H' → tz D σ' H') : tSeq (tFor (EnS.iEnumS ta) g tu) tz D σ H :=
  h H (Ex.refl H) _ fun H1 e1 => ⟨z, rfl, for_it (D := { D with nx := tz D }) (EnS.walk_enumS (x := z)) Pv (h0 H1 e1) (fun _ _ _ _ _ => trivial) (fun i v σ' H' H2 hi p y => by
    obtain ⟨T, x, w, rfl, hn, rfl, ex, ew⟩ := y
    obtain rfl := Option.some.inj ex
    obtain ⟨c, hc, rfl⟩ := Option.map_eq_some_iff.mp (show z.cps[i]?.map (fun c => V.str ⟨#[c]⟩) = some w from ew)
    exact hs i c σ' H' T hc p hn) hd⟩
end
section
variable {P : Program} {w : World} {K : PySem.W.Frag} {mg : Str → Option Value} {base : Heap}
abbrev sKn : Stmt := top 34
abbrev nKn : List Str := ["plan", "begin", "losses", "known", "unknown", "vectors", "at", "slot", "phase", "differing", "vector", "row", "_"]
def spKn (K : PySem.W.Frag) (CP C : Addr) : Sp := fun vs H Q _ => ∃ (o : Addr) (ps : List Ph) (b : Nat) (z : Str), vs = [.ref o, .int (b : Int), .str z] ∧ PlAt K CP C H o ps ∧ b < ps.length ∧ LsOk z ∧ z.length ≤ 400 ∧ RetU (knV ps b z) H Q
theorem scKn : FnScope nKn ["plan", "begin", "losses"] (defScope sKn) := ⟨rfl, rfl, rfl, by decide +kernel, rfl, by decide +kernel, by decide +kernel⟩
theorem ok_Kn {CP C f : Addr} {fd : FuncData} (F : Fun K "known_at" "known_at" sKn f fd) (GP : PlC K CP) (IP : GIsi K CP) (gP : mg "Plan" = some (.ref CP)) (G : PhC K C) (T : GlbT mg) (S : GlbS mg) (I : GlbE mg)
    (GW : Gfn P w K mg base 2 "is_within" ["value", "least", "most"] (spWithin K)) (GL : Gfn P w K mg base 2 "is_losses" ["value"] spIsl) (GV : Gfn P w K mg base 3 "vectors_behind" ["vectors", "phase", "at", "is_kept"] (spVbh K C)) :
    FnOk P w K mg base CX0 4 f fd ["plan", "begin", "losses"] (spKn K CP C) := by
  obtain ⟨fW, fdW, GW, kW, bW, gW⟩ := GW
  obtain ⟨fL, fdL, GL, kL, bL, gL⟩ := GL
  obtain ⟨fV, fdV, GV, kV, bV, gV⟩ := GV
  refine F.ok scKn (fun vs H Q E h => ?_) (fun cdv A outer s H vs Q E hr h => ?_)
  · obtain ⟨o, ps, b, z, rfl, _⟩ := h
    rfl
  · obtain ⟨o, ps, b, z, rfl, hO, hb, hz, l400, k⟩ := h
    have r2 := hr.mono (show 2 ≤ 3 by decide)
    refine ⟨_, (pss_cons (ps_if (pt_not (pt_val (pe_callB call_isi (by rfl) T.inst (by decide +kernel) (pa_cons (pv 0) (pa_cons (pe_glob (v := .ref CP) (by rfl) gP (by rfl)) pa_nil))))) (pss_one ps_no) pss_nil)
      (pss_cons (ps_if (pt_not (pt_val (pe_call GW r2 (by rfl) gW kW bW .nil pass0 (pa_cons (pv 1) (pa_cons pe_int (pa_cons (pe_op op_sub (pe_callB call_len_seq (by rfl) S.len PySem.boot_len (pa_cons (pe_fld (pv 0) rfl) pa_nil)) pe_int) pa_nil)))))) (pss_one ps_no) pss_nil)
      (pss_cons (ps_if (pt_not (pt_val (pe_call GL r2 (by rfl) gL kL bL .nil pass0 (pa_cons (pv 2) pa_nil)))) (pss_one ps_no) pss_nil)
      (pss_cons (ps_set (i := 3) scKn.nd rfl (.inr rfl) (pe_lc (te := tC .non) (own := [("_", 12)]) (g := gName 12) rfl scKn.nd (pi_str (pv 2)) (blkOk_by (own := [("_", 12)]) (N := nKn) (sc := defScope sKn) (by decide +kernel)) (fun _ _ _ _ _ => pg_name (i := 12) scKn.nd rfl (Or.inl rfl)) (fun _ _ _ _ _ => pts_nil) (fun _ _ _ _ _ => pe_non)))
      (pss_cons (ps_set (i := 4) scKn.nd rfl (.inl rfl) (pe_lst pa_nil))
      (pss_cons (ps_set (i := 5) scKn.nd rfl (.inl rfl) (pe_lst pa_nil))
      (pss_cons (ps_for PassesOwn.never rfl (EnS.pi_enumS (by rfl) I.enum (pa_cons (pv 2) pa_nil)) (pg_tup rfl (pgs_cons (pg_name (i := 6) scKn.nd rfl (.inl rfl)) (pgs_cons (pg_name (i := 7) scKn.nd rfl (.inl rfl)) pgs_nil)))
        (pss_cons (ps_set (i := 8) scKn.nd rfl (.inl rfl) (pe_ix (show IxR _ (rIxT K) from ix_tup) (pe_fld (pv 0) rfl) (pe_op op_mod (pe_op op_add (pv 1) (pv 6)) (pe_callB call_len_seq (by rfl) S.len PySem.boot_len (pa_cons (pe_fld (pv 0) rfl) pa_nil))) (fun _ _ => rfl)))
          (pss_cons (ps_set (i := 5) scKn.nd rfl (.inl rfl) (pe_call GV hr (by rfl) gV kV bV .nil pass0 (pa_cons (pv 5) (pa_cons (pv 8) (pa_cons (pv 6) (pa_cons (pe_cmpR op_eq (pv 7) pe_str (nomark _)) pa_nil))))))
          (pss_cut (ps_if (pt_not (pt_val (pe_fld (pv 8) rfl))) (pss_one (ps_expr (pe_bm PySem.F.plainAttrs_list PySem.F.slot_list_append PySem.F.type_list_append mt_append (pv 4) (pa_cons (pv 6) pa_nil)))) pss_nil)
          (pss_cons (ps_set (i := 9) scKn.nd rfl (.inl rfl) pe_int)
      (pss_cons (ps_for PassesOwn.never rfl (pi_list (pv 5)) (pg_name (i := 10) scKn.nd rfl (.inl rfl)) (pss_one (ps_set (i := 9) scKn.nd rfl (.inl rfl) (pe_op op_or (pv 9) (pv 10)))))
      (pss_cons (ps_for PassesOwn.never rfl (pi_list (pv 4)) (pg_name (i := 11) scKn.nd rfl (.inl rfl))
            (pss_one (ps_if (pt_cmpR op_eq (pe_op op_and (pe_op op_shr (pv 9) (pv 11)) pe_int) pe_int (nomark _)) (pss_one (ps_asg (pv 6) (pg_sub (pv 3) (pv 11) set_list))) pss_nil)))
      (pss_one (ps_setLc (te := tVar 11) (i := 4) (own := [("row", 11)]) (g := gName 11) rfl scKn.nd rfl (by rfl) (by rfl) (pi_list (pv 4)) (blkOk_by (own := [("row", 11)]) (N := nKn) (sc := defScope sKn) (by decide +kernel)) (fun _ _ _ _ _ => pg_name (i := 11) scKn.nd rfl (Or.inl rfl))
            (fun _ _ _ _ _ => pts_one (pt_cmpR op_isN1 (pe_ix (show IxR _ (rIxL K) from ix_list) (pv 3) (pv 11) (fun _ _ => rfl)) pe_non (nomark _))) (fun _ _ _ _ _ => pv 11))))))))))
      (pss_one (ps_ret (pe_tupleOf (by rfl) S.tuple (pv 3))))))))))), ?_⟩
    obtain ⟨dx, q, xs, p1, p2, prow, l1, l4⟩ := id hO
    have len : ∀ {σ : L2.St} {H1 : Hp}, σ[0]? = some (some (.ref o)) → Ex H H1 → Ev (tCB (rLen K) (tCons (tFld K (tVar 0) "phases") tNil)) σ H1 (.int (ps.length : Int)) := fun h0 e => ev_is (ev_lenF (etu_fld (ev_var h0) (e _ _ p1) GP.cls GP.phases rfl (ex_t e p2))) (by rw [prow.1])
    refine q_when (b := false) (et_is (et_not (et_B (ev_cb (ea_cons (ev_var rfl) (ea_cons ev_c ea_nil)) (rc_own GP.cls IP p1)))) rfl) (fun z => absurd z (by decide)) (fun _ H1 e1 => ?_)
    refine q_when (b := false) (et_is (et_not (et_B (ev_call (z := .bl (decide ((0 : Int) ≤ (b : Int)) && decide ((b : Int) ≤ (ps.length : Int) - 1))) (ea_cons (ev_var rfl) (ea_cons ev_c (ea_cons (ev_op (len rfl e1) ev_c rv_I0) ea_nil))) fun H2 e2 Q2 q2 E2 => .inl ⟨_, _, _, rfl, q2⟩))) ?_) (fun z => absurd z (by decide)) (fun _ H2 e2 => ?_)
    · rw [decide_eq_true (by omega), decide_eq_true (by omega)]
      rfl
    refine q_when (b := false) (et_is (et_not (et_B (ev_call (z := .bl true) (ea_cons (ev_var rfl) ea_nil) fun H3 e3 Q3 q3 E3 => ⟨z, rfl, hz, l400, q3⟩))) rfl) (fun z => absurd z (by decide)) (fun _ H3 e3 => ?_)
    have E3 := (e1.trans e2).trans e3
    generalize hpl : (fun n : Nat => cyc ps ((b : Int) + (n : Int))) = pl at *
    have plE : ∀ n : Nat, pl n = cyc ps ((b : Int) + (n : Int)) := fun n => by rw [← hpl]
    generalize hkp : keptAt z = kp at *
    have sz : z.cps.size = z.length := rfl
    have c0 := el_lcS (σ := [some (.ref o), some (.int (b : Int)), some (.str z), none, none, none, none, none, none, none, none, none, none]) (H := H3) (te := tC .non) (t := tYes) (tl := tVar 2) (j := 12) (vs := [12]) (fun _ => true) (fun _ => V.non) (ev_var rfl) (by omega) (fun _ => rfl) (fun _ _ _ _ _ => et_none) (fun _ _ _ _ _ _ => ev_c)
    rw [given_all] at c0
    refine q_asgL (xs := (List.range z.length).map fun r => kO (kst pl kp 0 r)) c0 fun a H4 ha e4 h4 => ?_
    refine q_asgL (xs := vN (unk pl kp 0)) (el_nil (σ := [some (.ref o), some (.int (b : Int)), some (.str z), some (.ref a), none, none, none, none, none, none, none, none, none]) (H := H4)) fun u H5 hu e5 h5 => ?_
    refine q_asgL (xs := vN (vst pl kp 0)) (el_nil (σ := [some (.ref o), some (.int (b : Int)), some (.str z), some (.ref a), some (.ref u), none, none, none, none, none, none, none, none]) (H := H5)) fun v H6 hv e6 h6 => ?_
    have E4 := E3.trans e4
    have haH : H a = none := fresh_back E3 ha
    refine q_forES (z := z) (ea_cons (ev_var rfl) ea_nil) (fun n σ' H' => ∃ (u v : Addr) (x6 x7 x8 x9 x10 x11 : Option V), σ' = [some (.ref o), some (.int (b : Int)), some (.str z), some (.ref a), some (.ref u), some (.ref v), x6, x7, x8, x9, x10, x11, none] ∧ Ex H H' ∧ H u = none ∧ u ≠ a ∧
        H' a = some (.lst ((List.range z.length).map fun r => kO (kst pl kp n r))) ∧ H' u = some (.lst (vN (unk pl kp n))) ∧ H' v = some (.lst (vN (vst pl kp n))))
      (fun H7 e7 => ⟨u, v, none, none, none, none, none, none, rfl, ((E4.trans e5).trans e6).trans e7, fresh_back E4 hu, fun z => by (subst z; rw [hu] at h4; cases h4), e7 _ _ (e6 _ _ (e5 _ _ h4)), e7 _ _ (e6 _ _ h5), e7 _ _ h6⟩) ?_ ?_
    · rintro n c σ' H7 T7 hc ⟨u, v, x6, x7, x8, x9, x10, x11, rfl, e7, hu, ua, ga, gu, gv⟩ hT7
      have n400 : n < z.length := (Array.getElem?_eq_some_iff.mp hc).1
      refine ⟨T7, [.int (n : Nat), .str ⟨#[c]⟩], rfl, st_of upd_same, rfl, _, _, rfl, _, _, rfl, rfl, ?_⟩
      have eN := Ex.new (o := .tup [.int (n : Nat), V.str ⟨#[c]⟩]) hT7
      have E8 := e7.trans eN
      replace ga := eN _ _ ga
      replace gu := eN _ _ gu
      replace gv := eN _ _ gv
      generalize upd H7 T7 (.tup [.int (n : Nat), V.str ⟨#[c]⟩]) = H8 at E8 ga gu gv ⊢
      obtain ⟨o8, w1, w2⟩ := ev_cyc (K := K) (C := C) (σ := [some (.ref o), some (.int (b : Int)), some (.str z), some (.ref a), some (.ref u), some (.ref v), some (.int (n : Int)), some (.str ⟨#[c]⟩), x8, x9, x10, x11, none]) (H := H8) (ta := tFld K (tVar 0) "phases") (tb := tOp (rI (fun _ j => 0 < j) fun i j => .int (i % j)) (tOp (rI0 fun i j => .int (i + j)) (tVar 1) (tVar 6)) (tCB (rLen K) (tCons (tFld K (tVar 0) "phases") tNil))) (i := (b : Int) + (n : Int))
        (ev_fld (ev_var rfl) (E8 _ _ p1) GP.cls GP.phases rfl) (ev_op (ev_op (ev_var rfl) (ev_var rfl) rv_I0) (len rfl E8) (rv_I (by omega))) (ex_t E8 p2) (prow.mono E8) (by omega) (R := fun _ _ => True)
      rw [← plE n] at w2
      refine q_asg w1 fun H9 e9 => ?_
      have kept : Ev (tOp rEq (tVar 7) (tC (.str "."))) [some (.ref o), some (.int (b : Int)), some (.str z), some (.ref a), some (.ref u), some (.ref v), some (.int (n : Int)), some (.str ⟨#[c]⟩), some (.ref o8), x9, x10, x11, none] H9 (.bl (kp n)) := by
        refine ev_is (ev_op (ev_var rfl) ev_c (rv_eq rfl)) (congrArg V.bl ?_)
        have e1 : kp n = (some c == some 46) := by
          rw [← hkp]
          unfold keptAt
          rw [Array.getElem?_toList, hc]
        rw [e1]
        rcases hz c (by simpa using Array.mem_of_getElem? hc) with rfl | rfl <;> decide +kernel
      refine q_asgL (xs := vN (vst pl kp (n + 1))) (el_call (ea_cons (ev_var rfl) (ea_cons (ev_var rfl) (ea_cons (ev_var rfl) (ea_cons kept ea_nil)))) fun HA eA QA qA EA => ⟨v, o8, vst pl kp n, pl n, n, kp n, rfl, sq_of (eA _ _ (e9 _ _ gv)), w2.mono (e9.trans eA), by omega, vst_len n, vst_lt n, fun r HB => qA r HB⟩) fun v' HA hv' eA gv' => ?_
      have EA := (E8.trans e9).trans eA
      have gaA := eA _ _ (e9 _ _ ga)
      have guA := eA _ _ (e9 _ _ gu)
      have v'u : u ≠ v' := fun z => by rw [z] at gu; rw [e9 _ _ gu] at hv'; cases hv'
      have v'a : a ≠ v' := fun z => by rw [z] at ga; rw [e9 _ _ ga] at hv'; cases hv'
      have w3 := w2.mono (e9.trans eA)
      have mu := ev_mute (K := K) (σ := [some (.ref o), some (.int (b : Int)), some (.str z), some (.ref a), some (.ref u), some (.ref v'), some (.int (n : Int)), some (.str ⟨#[c]⟩), some (.ref o8), x9, x10, x11, none]) (ta := tVar 8) G (ev_var rfl) w3
      refine q_cut (M := fun σ' H' => σ' = [some (.ref o), some (.int (b : Int)), some (.str z), some (.ref a), some (.ref u), some (.ref v'), some (.int (n : Int)), some (.str ⟨#[c]⟩), some (.ref o8), x9, x10, x11, none] ∧ Ex H H' ∧ H' a = some (.lst ((List.range z.length).map fun r => kO (kst pl kp n r))) ∧ H' u = some (.lst (vN (unkU pl kp n))) ∧ H' v' = some (.lst (vN (vst pl kp (n + 1))))) ?_ ?_
      · refine s_when (et_not (et_B mu)) (fun hm HB eB => ?_) (fun hm HB eB => ?_)
        · have hp : (pl n).1 = false := by simpa using hm
          refine s_app (K := K) (xs := vN (unk pl kp n)) (eB _ _ guA) (ev_var rfl) (ev_var (v := .int (n : Int)) rfl) (by rw [vN_len]; have : (unk pl kp n).length ≤ n := Nat.le_trans (List.length_filter_le _ _) (by rw [List.length_range]; exact Nat.le_refl n); omega) fun HC eC => ⟨rfl, Ex.mut ((EA.trans eB).trans eC) hu, ?_, ?_, ?_⟩
          · rw [upd_ne ua.symm]
            exact eC _ _ (eB _ _ gaA)
          · rw [upd_same, vN_app, unkU_is, if_neg (by rw [hp]; decide)]
          · rw [upd_ne v'u.symm]
            exact eC _ _ (eB _ _ gv')
        · have hp : (pl n).1 = true := by simpa using hm
          exact ⟨rfl, EA.trans eB, eB _ _ gaA, by rw [unkU_is, if_pos hp]; exact eB _ _ guA, eB _ _ gv'⟩
      · rintro σ' HB ⟨rfl, EB, gaB, guB, gvB⟩
        refine q_asg (v := .int ((0 : Nat) : Int)) ev_c fun HC eC => ?_
        refine q_forL (K := K) (a := v') (xs := vN (vst pl kp (n + 1))) (ev_var rfl) (sq_of (eC _ _ gvB)) (fun i σ' H' => ∃ x10 : Option V, σ' = [some (.ref o), some (.int (b : Int)), some (.str z), some (.ref a), some (.ref u), some (.ref v'), some (.int (n : Int)), some (.str ⟨#[c]⟩), some (.ref o8), some (.int ((((vst pl kp (n + 1)).take i).foldl (fun a b => a ||| b) 0 : Nat) : Int)), x10, x11, none] ∧ Ex HC H')
          (fun HD eD => ⟨x10, rfl, eD⟩) (fun _ _ _ _ ⟨_, _, e⟩ => sq_of (e _ _ (eC _ _ gvB))) ?_ ?_
        · rintro i x σ' HD hx ⟨y10, rfl, eD⟩
          obtain ⟨m, hm, rfl⟩ := vN_get hx
          refine s_asg (ev_or (ev_var rfl) (ev_var rfl)) fun HE eE => ⟨some (.int (m : Int)), ?_, eD.trans eE⟩
          rw [List.take_add_one, hm, List.foldl_append]
          rfl
        · rintro σ' HD ⟨y10, rfl, eD⟩
          rw [vN_len, List.take_length]
          have ED := (EB.trans eC).trans eD
          have bitE : ∀ {r : Nat} {σ : L2.St} {HE : Hp}, σ[9]? = some (some (.int ((orv (vst pl kp (n + 1)) : Nat) : Int))) → σ[11]? = some (some (.int (r : Int))) → Ev (tOp rEq (tOp (rI0 fun i j => .int (Builtin.bitAnd i j)) (tOp (rI (fun _ j => 0 ≤ j) fun i j => .int (i / 2 ^ j.toNat)) (tVar 9) (tVar 11)) (tC (.int 1))) (tC (.int 0))) σ HE (.bl (!(orv (vst pl kp (n + 1))).testBit r)) := fun h9 h11 => by
            refine ev_is (ev_op (ev_bit (ev_var h9) (ev_var h11)) ev_c (rv_eq rfl)) (congrArg V.bl ?_)
            cases (orv (vst pl kp (n + 1))).testBit _ <;> decide
          have uL : (unkU pl kp n).length ≤ n + 1 := Nat.le_trans (List.length_filter_le _ _) (by rw [List.length_range]; exact Nat.le_refl _)
          refine q_forL (K := K) (a := u) (xs := vN (unkU pl kp n)) (ev_var rfl) (sq_of (eD _ _ (eC _ _ guB))) (fun i σ' H' => ∃ x11 : Option V, σ' = [some (.ref o), some (.int (b : Int)), some (.str z), some (.ref a), some (.ref u), some (.ref v'), some (.int (n : Int)), some (.str ⟨#[c]⟩), some (.ref o8), some (.int ((orv (vst pl kp (n + 1)) : Nat) : Int)), y10, x11, none] ∧ Ex H H' ∧
              H' a = some (.lst ((List.range z.length).map fun r => kO (if r ∈ (unkU pl kp n).take i ∧ (orv (vst pl kp (n + 1))).testBit r = false then some n else kst pl kp n r))) ∧ H' u = some (.lst (vN (unkU pl kp n))) ∧ H' v' = some (.lst (vN (vst pl kp (n + 1)))))
            (fun HE eE => ⟨x11, rfl, ED.trans eE, by
              have g := eE _ _ (eD _ _ (eC _ _ gaB))
              rw [g]
              congr 2, eE _ _ (eD _ _ (eC _ _ guB)), eE _ _ (eD _ _ (eC _ _ gvB))⟩) (fun _ _ _ _ ⟨_, _, _, _, h, _⟩ => sq_of h) ?_ ?_
          · rintro i x σ' HE hx ⟨y11, rfl, EE, gaE, guE, gvE⟩
            obtain ⟨r, hr', rfl⟩ := vN_get hx
            have rin := List.mem_of_getElem? hr'
            have rlt := unkU_lt rin
            have tk : (unkU pl kp n).take (i + 1) = (unkU pl kp n).take i ++ [r] := by rw [List.take_add_one, hr']; rfl
            refine s_when (et_test (bitE rfl rfl)) (fun hb HF eF => ?_) (fun hb HF eF => ?_)
            · have br : (orv (vst pl kp (n + 1))).testBit r = false := by simpa using hb
              refine s_setL (j := r) (v := .int (n : Int)) (eF _ _ gaE) (ev_var rfl) (ev_var rfl) (ev_var rfl) (by rw [List.length_map, List.length_range]; omega) fun HG eG => ⟨_, rfl, Ex.mut ((EE.trans eF).trans eG) haH, ?_, ?_, ?_⟩
              · rw [upd_same, range_set]
                congr 2
                refine List.map_congr_left fun k _ => ?_
                rw [tk]
                by_cases ek : k = r
                · rw [if_pos ek, if_pos ⟨List.mem_append.mpr (.inr (List.mem_singleton.mpr ek)), by rw [ek]; exact br⟩]
                  rfl
                · rw [if_neg ek]
                  congr 1
                  by_cases c1 : k ∈ (unkU pl kp n).take i ∧ (orv (vst pl kp (n + 1))).testBit k = false
                  · rw [if_pos c1, if_pos ⟨List.mem_append.mpr (.inl c1.1), c1.2⟩]
                  · rw [if_neg c1, if_neg fun z => c1 ⟨(List.mem_append.mp z.1).resolve_right fun y => ek (List.mem_singleton.mp y), z.2⟩]
              · rw [upd_ne ua]
                exact eG _ _ (eF _ _ guE)
              · rw [upd_ne v'a.symm]
                exact eG _ _ (eF _ _ gvE)
            · have br : (orv (vst pl kp (n + 1))).testBit r = true := by simpa using hb
              refine ⟨_, rfl, EE.trans eF, ?_, eF _ _ guE, eF _ _ gvE⟩
              rw [eF _ _ gaE]
              congr 2
              refine List.map_congr_left fun k _ => ?_
              rw [tk]
              congr 1
              by_cases c1 : k ∈ (unkU pl kp n).take i ∧ (orv (vst pl kp (n + 1))).testBit k = false
              · rw [if_pos c1, if_pos ⟨List.mem_append.mpr (.inl c1.1), c1.2⟩]
              · rw [if_neg c1, if_neg fun z => c1 ⟨(List.mem_append.mp z.1).resolve_right fun y => by
                  rw [List.mem_singleton.mp y, br] at z
                  exact absurd z.2 (by decide), z.2⟩]
          · rintro σ' HE ⟨y11, rfl, EE, gaE, guE, gvE⟩
            rw [vN_len, List.take_length] at gaE
            have gaE2 : HE a = some (.lst ((List.range z.length).map fun r => kO (kst pl kp (n + 1) r))) := by
              rw [gaE]
              congr 2
              exact List.map_congr_left fun r _ => by rw [kst_step]
            have c3 := el_nums (K := K) (σ := [some (.ref o), some (.int (b : Int)), some (.str z), some (.ref a), some (.ref u), some (.ref v'), some (.int (n : Int)), some (.str ⟨#[c]⟩), some (.ref o8), some (.int ((orv (vst pl kp (n + 1)) : Nat) : Int)), y10, y11, none]) (H := HE) (t := tTest (tOp rIsN (tOp (rIxL K) (tVar 3) (tVar 11)) (tC .non))) (te := tVar 11) (tl := tVar 4) (a := u) (l := unkU pl kp n) (j := 11) (vs := [11]) (fun r => (kst pl kp (n + 1) r).isNone) (fun n => n) (ev_var rfl) (sq_of guE) (by omega) (fun _ => rfl)
              (fun r hr' HF eF => et_is (et_test (ev_op (ev_op (ev_var rfl) (ev_var rfl) (rv_ixL (v := kO (kst pl kp (n + 1) r)) (sq_of (eF _ _ gaE2)) (atI_nat (by rw [List.getElem?_map, List.getElem?_range (by have := unkU_lt hr'; omega)]; rfl)))) ev_c (fun HG eG QG qG => ⟨rfl, qG HG (Ex.refl HG)⟩))) (kO_none _))
              (fun r hr' HF eF _ => ev_var rfl)
            rw [map_idN, ← unk_next] at c3
            refine s_asgL c3 fun u' HF hu' eF gu' => ?_
            exact ⟨u', v', _, _, _, _, _, _, rfl, EE.trans eF, fresh_back EE hu', fun z => (by rw [z, gaE2] at hu'; cases hu'), eF _ _ gaE2, gu', eF _ _ gvE⟩
    · rintro σ' H7 ⟨u, v, x6, x7, x8, x9, x10, x11, rfl, e7, hu, ua, ga, gu, gv⟩
      refine s_retR ⟨_, rfl, .inl ⟨a, _, rfl, sq_of ga, fun r hr' => k r _ (fresh_back e7 hr') (e7.trans (Ex.new hr')) ?_⟩⟩
      rw [upd_same]
      subst hpl hkp
      rfl
end
end K19
namespace K19
open PySem L2 Evl Gr StX EnT MkS StK ClX ClK RdX Kn
/-! ### rows of sums in new lists -/
def EvLR (te : TE) (σ : L2.St) (H : Hp) (ss : List (List Nat)) : Prop := ∀ H1, Ex H H1 → ∀ Q : VK, (∀ p xs H2, H1 p = none → Ex H1 H2 → H2 p = some (.lst xs) → TRow H2 xs ss → Q (.ref p) H2) → te σ H1 Q
section
variable {σ : L2.St} {H : Hp} {t : TA} {ss : List (List Nat)} {te : TE}
theorem elr_lst (h : EvAR t σ H ss) (hz : ss.length ≤ 1000) : EvLR (tLst t) σ H ss := fun H1 e Q q =>
  h H1 e _ fun xs H2 e2 row => ⟨sz_of (by rw [row.1]; omega), fun p hp => q p xs _ (fresh_back e2 hp) (e2.trans (Ex.new hp)) upd_same (row.mono (Ex.new hp))⟩
theorem eu_1 {a : Nat} : EvU (tTup (tCons (tC (.int (a : Int))) tNil)) σ H (vN [a]) := eu_tup (ea_cons ev_c ea_nil) (by show 1 ≤ 100000; decide)
theorem eu_2 {a b : Nat} : EvU (tTup (tCons (tC (.int (a : Int))) (tCons (tC (.int (b : Int))) tNil))) σ H (vN [a, b]) := eu_tup (ea_cons ev_c (ea_cons ev_c ea_nil)) (by show 2 ≤ 100000; decide)
theorem eu_3 {a b c : Nat} : EvU (tTup (tCons (tC (.int (a : Int))) (tCons (tC (.int (b : Int))) (tCons (tC (.int (c : Int))) tNil)))) σ H (vN [a, b, c]) := eu_tup (ea_cons ev_c (ea_cons ev_c (ea_cons ev_c ea_nil))) (by show 3 ≤ 100000; decide)
end
def eight : List (List Nat) := [[1], [2], [1, 2], [3], [2, 3], [4], [1, 4], [1, 2, 3]]
theorem eight_ok : ∀ l ∈ eight, AgesOk l := by
  intro l hl
  unfold eight at hl
  simp only [List.mem_cons, List.not_mem_nil, or_false] at hl
  rcases hl with rfl | rfl | rfl | rfl | rfl | rfl | rfl | rfl <;> exact ⟨by decide, by decide, by decide, by decide⟩
theorem TRow.keep {p l : Addr} {cells : List Int} {m : Nat} {H H' : Hp} {xs : List V} {ss : List (List Nat)} (h : TRow H xs ss) (hP : PenAt H p l cells m) (kp : Keep p H H') : TRow H' xs ss := ⟨h.1, fun i x q hx hq => by
  obtain ⟨a, h1, h2⟩ := h.2 i x q hx hq
  exact ⟨a, h1, tup_keep hP kp h2⟩⟩
theorem trow_updL {H : Hp} {D : Addr} {u : HO} {ys : List V} {xs : List V} {ss : List (List Nat)} (h : TRow H xs ss) (hD : H D = some (.lst ys)) : TRow (upd H D u) xs ss := ⟨h.1, fun i x q hx hq => by
  obtain ⟨a, h1, h2⟩ := h.2 i x q hx hq
  exact ⟨a, h1, by rw [upd_ne (fun z => by rw [z, hD] at h2; cases h2)]; exact h2⟩⟩
theorem pen_ne {p l D : Addr} {cells : List Int} {m : Nat} {H : Hp} (hP : PenAt H p l cells m) (hD : H D = none) : D ≠ p ∧ D ≠ l := by
  obtain ⟨_, _, h1, h2, _⟩ := hP
  exact ⟨fun z => (by rw [z, h1] at hD; cases hD), fun z => (by rw [z, h2] at hD; cases hD)⟩
theorem keep_none {p D : Addr} {H H' : Hp} (k : Keep p H H') (hD : H' D = none) (hp : D ≠ p) : H D = none := by
  cases c : H D with
  | none => rfl
  | some u => rw [k _ _ c hp] at hD; cases hD
/-- for .. in range(what a draw leads to) -/
theorem q_forW2 {p l : Addr} {cells : List Int} {σ : L2.St} {H : Hp} {te : TE} {n m j : Nat} {tu tz : TS} {D : Ends} (hw : ∀ Q : VK, (∀ (d : Nat) H1, d < n → PenAt H1 p l cells m → Keep p H H1 → Q (.int (d : Int)) H1) → te σ H Q)
    (k : ∀ (d : Nat) H1, d < n → PenAt H1 p l cells m → Keep p H H1 → tSeq (tFor (iRng1 (tCons (tC (.int (d : Int))) tNil)) (gName j) tu) tz D σ H1) : tSeq (tFor (iRng1 (tCons te tNil)) (gName j) tu) tz D σ H := hw _ fun d H1 hd hP k1 => k d H1 hd hP k1
section
variable {P : Program} {w : World} {K : PySem.W.Frag} {mg : Str → Option Value} {base : Heap}
abbrev sSms : Stmt := top 39
abbrev nSms : List Str := ["_law_pen_here", "_law_found", "_law_some", "_law_turn", "_law_one"]
/-- drawn sums -/
def SmsOk (ss : List (List Nat)) : Prop := ss.Nodup ∧ ss.length ≤ 2 ∧ ∀ l ∈ ss, l ∈ eight
def spSms : Sp := fun vs H Q _ => ∃ (p l : Addr) (cells : List Int) (m : Nat), vs = [.ref p] ∧ PenAt H p l cells m ∧ m + 3 ≤ 50000 ∧ cells.length ≤ 63 ∧
  ∀ f xs ss H', H f = none → H' f = some (.lst xs) → TRow H' xs ss → SmsOk ss → PenAt H' p l cells (m + 3) → Keep p H H' → Q (.ref f) H'
theorem scSms : FnScope nSms ["_law_pen_here"] (defScope sSms) := ⟨rfl, rfl, rfl, by decide +kernel, rfl, by decide +kernel, by decide +kernel⟩
theorem ok_Sms {f fD : Addr} {fd fdD : FuncData} (F : Fun K "_law_sums" "_law_sums" sSms f fd) (S : GlbS mg) (GD : FnOk P w K mg base CX0 1 fD fdD ["_law_pen_here", "_law_top_so"] spDraw) (kD : PySem.W.keepIn K (.ref fD) = true) (bD : Binds K fdD ["_law_pen_here", "_law_top_so"] []) (gD : mg "_law_draw" = some (.ref fD))
    (GP : Gfn P w K mg base 2 "_law_pick" ["_law_pen_here", "_law_some"] spPick) : FnOk P w K mg base CX0 3 f fd ["_law_pen_here"] spSms := by
  obtain ⟨fP, fdP, GP, kP, bP, gP⟩ := GP
  refine F.ok scSms (fun vs H Q E h => ?_) (fun cdv A outer s H vs Q E hr h => ?_)
  · obtain ⟨p, l, cells, m, rfl, _⟩ := h
    rfl
  · obtain ⟨p, l, cells, m, rfl, hP, hm, h63, k⟩ := h
    have r1 := hr.mono (show 1 ≤ 2 by decide)
    have hu : (A.deeper (PyProof.Rows.envOfC "_law_sums" (defScope sSms) s.heap.objs.size f cdv)).units + 65 < cLine := by have := hr.un; omega
    refine ⟨_, (pss_cons (ps_par (i := 1) (j := 2) rfl scSms.nd rfl rfl (by decide) rfl rfl (pa_cons (pe_lst pa_nil) (pa_cons (pe_lst (pa_cons (pe_tup (pa_cons pe_int pa_nil)) (pa_cons (pe_tup (pa_cons pe_int pa_nil)) (pa_cons (pe_tup (pa_cons pe_int (pa_cons pe_int pa_nil))) (pa_cons (pe_tup (pa_cons pe_int pa_nil)) (pa_cons (pe_tup (pa_cons pe_int (pa_cons pe_int pa_nil))) (pa_cons (pe_tup (pa_cons pe_int pa_nil)) (pa_cons (pe_tup (pa_cons pe_int (pa_cons pe_int pa_nil))) (pa_cons (pe_tup (pa_cons pe_int (pa_cons pe_int (pa_cons pe_int pa_nil)))) pa_nil))))))))) pa_nil)) (by rfl))
      (pss_cons (ps_for PassesOwn.never rfl (pi_range1 (by rfl) S.range (pa_cons (pe_call GD r1 (by rfl) gD kD bD .nil pass0 (pa_cons (pv 0) (pa_cons pe_int pa_nil))) pa_nil)) (pg_name (i := 3) scSms.nd rfl (.inl rfl))
        (pss_cons (ps_set (i := 4) scSms.nd rfl (.inl rfl) (pe_call GP hr (by rfl) gP kP bP .nil pass0 (pa_cons (pv 0) (pa_cons (pv 2) pa_nil))))
      (pss_one (ps_if (pt_cmpR (op_notInD hu) (pv 4) (pv 1) (by with_unfolding_all rfl)) (pss_one (ps_expr (pe_bm PySem.F.plainAttrs_list PySem.F.slot_list_append PySem.F.type_list_append mt_append (pv 1) (pa_cons (pv 4) pa_nil)))) pss_nil))))
      (pss_one (ps_ret (pv 1))))), ?_⟩
    refine q_par (cons_i (el_nil (σ := [some (.ref p), none, none, none, none]) (H := H) H (Ex.refl H) _ fun f H1 hf e1 h1 => ?_))
    refine cons_i (elr_lst (σ := [some (.ref p), none, none, none, none]) (H := H1) (ss := eight) (ear_new (eu_1 (a := 1)) (ear_new (eu_1 (a := 2)) (ear_new (eu_2 (a := 1) (b := 2)) (ear_new (eu_1 (a := 3)) (ear_new (eu_2 (a := 2) (b := 3)) (ear_new (eu_1 (a := 4)) (ear_new (eu_2 (a := 1) (b := 4)) (ear_new (eu_3 (a := 1) (b := 2) (c := 3)) ear_nil)))))))) (by decide) H1 (Ex.refl H1) _ fun g ys H2 hg e2 h2 row2 => ?_)
    refine ⟨_, _, rfl, ?_⟩
    have E2 := e1.trans e2
    have hP2 := hP.mono E2 (Nat.le_refl m)
    have fp := pen_ne hP hf
    have gpn := pen_ne hP (fresh_back e1 hg)
    have fg : f ≠ g := fun z => by rw [← z, h1] at hg; cases hg
    refine q_forW2 (p := p) (l := l) (cells := cells) (m := m + 1) (n := 3) (fun Q q => (w_draw (H := H2) (i := 0) (σ := [some (.ref p), some (.ref f), some (.ref g), none, none]) (many := 3) rfl (fun _ _ => ev_c) (by decide) (by decide) h63) m H2 (Keep.of_ex (Ex.refl H2)) hP2 (by omega) _ fun v H3 hv hP3 k3 => by
      obtain ⟨d, rfl, hd⟩ := hv
      exact q d H3 (by omega) hP3 k3) fun d H3 hd hP3 k3 => ?_
    refine q_forR1 (ea_cons ev_c ea_nil) (by omega) (fun i σ' H' => ∃ (x3 x4 : Option V) (xs : List V) (ss : List (List Nat)), σ' = [some (.ref p), some (.ref f), some (.ref g), x3, x4] ∧ PenAt H' p l cells (m + 1 + i) ∧ Keep p H H' ∧ H' f = some (.lst xs) ∧ TRow H' xs ss ∧ ss.Nodup ∧ ss.length ≤ i ∧ (∀ l ∈ ss, l ∈ eight) ∧ H' g = some (.lst ys) ∧ TRow H' ys eight)
      (fun H4 e4 => ⟨none, none, [], [], rfl, hP3.mono e4 (by omega), ((Keep.of_ex E2).trans k3).trans (Keep.of_ex e4), e4 _ _ (k3 _ _ (e2 _ _ h1) fp.1), trow_nil, List.nodup_nil, by simp, fun l hl => (by cases hl), e4 _ _ (k3 _ _ h2 gpn.1), (row2.keep hP2 k3).mono e4⟩) ?_ ?_
    · rintro i σ' H4 hi ⟨x3, x4, xs, ss, rfl, hP4, k4, hf4, row4, nd, ls, sub, hg4, rowg⟩
      refine q_asgR ⟨_, rfl, _, rfl, p, l, g, cells, m + 1 + i, ys, rfl, hP4, by omega, h63, hg4, gpn.1, by rw [rowg.1]; decide, by rw [rowg.1]; decide, fun j x H5 hx hP5 k5 => ?_⟩
      have rowg5 := rowg.keep hP4 k5
      have row5 := row4.keep hP4 k5
      have hf5 := k5 _ _ hf4 fp.1
      have hg5 := k5 _ _ hg4 gpn.1
      have K5 := k4.trans k5
      obtain ⟨a, la, hla, rfl, ha⟩ := rowg5.at hx
      have lin := List.mem_of_getElem? hla
      refine s_when (b := !decide (la ∈ ss)) (et_test fun H6 e6 Q6 q6 => ⟨_, rfl, _, rfl, tD la, ss.map tD, dp_tD (e6 _ _ ha), .lst (sq_of (e6 _ _ hf5)) (trow_dp (row5.mono e6)), low_shaped (tD_low la) (by decide), low_shaped (low_list (n := 1) fun d hd => by
          obtain ⟨q, _, rfl⟩ := List.mem_map.mp hd
          exact tD_low q) (by decide), by rw [tD_any]; exact q6 H6 (Ex.refl H6)⟩) (fun hb H6 e6 => ?_) (fun hb H6 e6 => ?_)
      · have nin : la ∉ ss := by simpa using hb
        refine s_app (K := K) (xs := xs) (e6 _ _ hf5) (ev_var rfl) (ev_var (v := .ref a) rfl) (by rw [row4.1]; omega) fun H7 e7 => ?_
        have E7 := e6.trans e7
        have hf7 := E7 _ _ hf5
        have row7 := trow_updL (u := .lst (xs ++ [.ref a])) (trow_snoc (row5.mono E7) (E7 _ _ ha)) hf7
        refine ⟨_, _, _, ss ++ [la], rfl, ((hP5.mono E7 (Nat.le_refl _)).upd' fp.1 fp.2).le (by omega), (K5.trans (Keep.of_ex E7)).mut hf, upd_same, row7, ?_, by rw [List.length_append]; show ss.length + 1 ≤ _; omega, fun q hq => ?_, by rw [upd_ne fg.symm]; exact E7 _ _ hg5, trow_updL (rowg5.mono E7) hf7⟩
        · rw [List.nodup_append]
          exact ⟨nd, by simp, fun x hx y hy z => nin (by rw [← List.mem_singleton.mp hy, ← z]; exact hx)⟩
        · rcases List.mem_append.mp hq with z | z
          · exact sub q z
          · rw [List.mem_singleton.mp z]
            exact lin
      · exact ⟨_, _, xs, ss, rfl, hP5.mono e6 (by omega), K5.trans (Keep.of_ex e6), e6 _ _ hf5, row5.mono e6, nd, by omega, sub, e6 _ _ hg5, rowg5.mono e6⟩
    · rintro σ' H4 ⟨x3, x4, xs, ss, rfl, hP4, k4, hf4, row4, nd, ls, sub, hg4, rowg⟩
      rw [Int.toNat_natCast] at ls hP4
      exact s_ret (v := .ref f) (ev_var rfl) fun H5 e5 => k f xs ss H5 hf (e5 _ _ hf4) (row4.mono e5) ⟨nd, by omega, sub⟩ (hP4.mono e5 (by omega)) (k4.trans (Keep.of_ex e5))
end
end K19
namespace K19
open PySem L2 Evl Gr StX EnT MkS StK ClX ClK RdX Kn
/-! ### rows of the law's phases -/
def LRow (av : List Addr) (H : Hp) (xs : List V) (ps : List Ph) : Prop := xs.length = ps.length ∧ ∀ (i : Nat) (x : V) (q : Ph), xs[i]? = some x → ps[i]? = some q → ∃ (t s : Addr) (ys : List V), x = V.ref t ∧ H t = some (.tup [.bl q.1, .ref s]) ∧ H s = some (.lst ys) ∧ s ∉ av ∧ TRow H ys q.2
section
variable {av : List Addr} {H H' : Hp} {xs : List V} {ps : List Ph}
theorem LRow.mono (e : Ex H H') (h : LRow av H xs ps) : LRow av H' xs ps := ⟨h.1, fun i x q hx hq => by
  obtain ⟨t, s, ys, h1, h2, h3, h4, h5⟩ := h.2 i x q hx hq
  exact ⟨t, s, ys, h1, e _ _ h2, e _ _ h3, h4, h5.mono e⟩⟩
theorem LRow.keep {p l : Addr} {cells : List Int} {m : Nat} (h : LRow av H xs ps) (ha : p ∈ av) (hP : PenAt H p l cells m) (kp : Keep p H H') : LRow av H' xs ps := ⟨h.1, fun i x q hx hq => by
  obtain ⟨t, s, ys, h1, h2, h3, h4, h5⟩ := h.2 i x q hx hq
  exact ⟨t, s, ys, h1, tup_keep hP kp h2, kp _ _ h3 fun z => h4 (by rw [z]; exact ha), h4, h5.keep hP kp⟩⟩
theorem LRow.more {g : Addr} (h : LRow av H xs ps) (hg : H g = none) : LRow (g :: av) H xs ps := ⟨h.1, fun i x q hx hq => by
  obtain ⟨t, s, ys, h1, h2, h3, h4, h5⟩ := h.2 i x q hx hq
  exact ⟨t, s, ys, h1, h2, h3, fun z => (List.mem_cons.mp z).elim (fun z => by rw [← z, h3] at hg; cases hg) h4, h5⟩⟩
theorem LRow.less {g : Addr} (h : LRow (g :: av) H xs ps) : LRow av H xs ps := ⟨h.1, fun i x q hx hq => by
  obtain ⟨t, s, ys, h1, h2, h3, h4, h5⟩ := h.2 i x q hx hq
  exact ⟨t, s, ys, h1, h2, h3, fun z => h4 (List.mem_cons_of_mem _ z), h5⟩⟩
theorem LRow.upd {D : Addr} {u : HO} {zs : List V} (h : LRow av H xs ps) (hD : D ∈ av) (hl : H D = some (.lst zs)) : LRow av (L2.upd H D u) xs ps := ⟨h.1, fun i x q hx hq => by
  obtain ⟨t, s, ys, h1, h2, h3, h4, h5⟩ := h.2 i x q hx hq
  exact ⟨t, s, ys, h1, by rw [upd_ne (fun z => by rw [z, hl] at h2; cases h2)]; exact h2, by rw [upd_ne (fun z => h4 (by rw [z]; exact hD))]; exact h3, h4, trow_updL h5 hl⟩⟩
theorem LRow.snoc {t s : Addr} {ys : List V} {q : Ph} (h : LRow av H xs ps) (h2 : H t = some (.tup [.bl q.1, .ref s])) (h3 : H s = some (.lst ys)) (h4 : s ∉ av) (h5 : TRow H ys q.2) : LRow av H (xs ++ [.ref t]) (ps ++ [q]) := ⟨by rw [List.length_append, List.length_append, h.1]; rfl, fun i x r hx hr => by
  rcases Nat.lt_or_ge i xs.length with c | c
  · rw [List.getElem?_append_left c] at hx
    rw [List.getElem?_append_left (by rw [← h.1]; exact c)] at hr
    exact h.2 i x r hx hr
  · rw [List.getElem?_append_right c] at hx
    rw [List.getElem?_append_right (by rw [← h.1]; exact c), ← h.1] at hr
    generalize i - xs.length = j at hx hr
    cases j with
    | zero =>
      cases hx
      cases hr
      exact ⟨t, s, ys, rfl, h2, h3, h4, h5⟩
    | succ j => cases hx⟩
theorem lrow_nil : LRow av H [] [] := ⟨rfl, fun i x q hx => by cases hx⟩
theorem LRow.at (h : LRow av H xs ps) {i : Nat} {q : Ph} (hq : ps[i]? = some q) : ∃ (t s : Addr) (ys : List V), xs[i]? = some (.ref t) ∧ H t = some (.tup [.bl q.1, .ref s]) ∧ H s = some (.lst ys) ∧ TRow H ys q.2 := by
  have lt : i < xs.length := by rw [h.1]; exact (List.getElem?_eq_some_iff.mp hq).1
  obtain ⟨t, s, ys, h1, h2, h3, _, h5⟩ := h.2 i _ q (List.getElem?_eq_getElem lt) hq
  exact ⟨t, s, ys, by rw [List.getElem?_eq_getElem lt, h1], h2, h3, h5⟩
end
def cycM (ms : List Bool) (i : Int) : Bool := ms.getD (i % (ms.length : Int)).toNat false
theorem cycM_at {ms : List Bool} (h : 0 < ms.length) (i : Int) : ∃ k : Nat, k < ms.length ∧ i % (ms.length : Int) = (k : Int) ∧ ms[k]? = some (cycM ms i) := by
  have h1 := Int.emod_nonneg i (show (ms.length : Int) ≠ 0 by omega)
  have h2 := Int.emod_lt_of_pos i (show 0 < (ms.length : Int) by omega)
  obtain ⟨k, hk⟩ := Int.eq_ofNat_of_zero_le h1
  refine ⟨k, by omega, hk, ?_⟩
  unfold cycM
  rw [hk, Int.toNat_natCast, List.getD_eq_getElem?_getD, List.getElem?_eq_getElem (by omega)]
  rfl
def goodS (ms : List Bool) (i : Nat) (l : List Nat) : Bool := decide (l.filter (fun a : Nat => cycM ms ((i : Int) - (a : Int))) = [])
theorem goodS_iff {ms : List Bool} {i : Nat} {l : List Nat} : goodS ms i l = true ↔ ∀ a ∈ l, cycM ms ((i : Int) - (a : Int)) = false := by
  unfold goodS
  rw [decide_eq_true_iff, List.filter_eq_nil_iff]
  exact ⟨fun h a ha => by simpa using h a ha, fun h a ha => by simpa using h a ha⟩
/-- a drawn plan -/
def PlnOk (ps : List Ph) : Prop := 1 ≤ ps.length ∧ ps.length ≤ 3 ∧ (∃ p ∈ ps, p.1 = false) ∧ NoTell ps ∧ ∀ p ∈ ps, SmsOk p.2
theorem pln_ok {ms : List Bool} {ps : List Ph} (l1 : 1 ≤ ms.length) (l3 : ms.length ≤ 3) (m0 : ms[0]? = some false) (hl : ps.length = ms.length) (hr : ∀ (j : Nat) (q : Ph), ps[j]? = some q → ms[j]? = some q.1 ∧ (∀ l ∈ q.2, goodS ms j l = true) ∧ SmsOk q.2) : PlnOk ps := by
  have same : ∀ i : Int, (cyc ps i).1 = cycM ms i := fun i => by
    obtain ⟨k, k1, k2, k3⟩ := cyc_at (ps := ps) (by omega) i
    obtain ⟨k', k1', k2', k3'⟩ := cycM_at (ms := ms) (by omega) i
    rw [hl, k2'] at k2
    have : k' = k := by omega
    subst this
    have := (hr _ _ k3).1
    rw [k3'] at this
    exact (Option.some.inj this).symm
  refine ⟨by omega, by omega, ?_, fun i hi l hl' a ha => ?_, fun q hq => ?_⟩
  · have h0 : ps[0]? = some ps[0] := List.getElem?_eq_getElem (by omega)
    refine ⟨ps[0], List.mem_of_getElem? h0, ?_⟩
    have := (hr _ _ h0).1
    rw [m0] at this
    exact (Option.some.inj this).symm
  · rw [same]
    exact goodS_iff.mp ((hr i _ (cyc_small hi)).2.1 l hl') a ha
  · obtain ⟨i, hi⟩ := List.mem_iff_getElem?.mp hq
    exact (hr i q hi).2.2
section
variable {σ : L2.St} {H : Hp} {ta tb : TE} {Q : VK}
theorem w_andV {b : Bool} (ha : Ev ta σ H (.bl b)) (ht : b = true → ∀ H1, Ex H H1 → tb σ H1 Q) (hf : b = false → ∀ H1, Ex H H1 → Q (.bl false) H1) : tAndV ta tb σ H Q := ha H (Ex.refl H) _ fun H2 e2 => ⟨b, rfl, by
  cases b with
  | true =>
    show tb σ H2 Q
    exact ht rfl H2 e2
  | false =>
    show Q (.bl false) H2
    exact hf rfl H2 e2⟩
end
section
variable {P : Program} {w : World} {K : PySem.W.Frag} {mg : Str → Option Value} {base : Heap}
abbrev sPln : Stmt := top 40
abbrev nPln : List Str := ["_law_pen_here", "_law_many", "_law_mutes", "_law_found", "_law_at", "_law_sums_so", "_law_ages", "_law_age"]
def spPln : Sp := fun vs H Q _ => ∃ (p l : Addr) (cells : List Int) (m : Nat), vs = [.ref p] ∧ PenAt H p l cells m ∧ m + 20 ≤ 50000 ∧ cells.length ≤ 63 ∧
  ∀ f xs ps H', H f = none → H' f = some (.lst xs) → LRow [p] H' xs ps → PlnOk ps → PenAt H' p l cells (m + 20) → Keep p H H' → Q (.ref f) H'
theorem scPln : FnScope nPln ["_law_pen_here"] (defScope sPln) := ⟨rfl, rfl, rfl, by decide +kernel, rfl, by decide +kernel, by decide +kernel⟩
theorem ok_Pln {f fD : Addr} {fd fdD : FuncData} (F : Fun K "_law_plain" "_law_plain" sPln f fd) (T : Glb mg) (S : GlbS mg) (GD : FnOk P w K mg base CX0 1 fD fdD ["_law_pen_here", "_law_top_so"] spDraw) (kD : PySem.W.keepIn K (.ref fD) = true) (bD : Binds K fdD ["_law_pen_here", "_law_top_so"] []) (gD : mg "_law_draw" = some (.ref fD))
    (GS : Gfn P w K mg base 3 "_law_sums" ["_law_pen_here"] spSms) : FnOk P w K mg base CX0 4 f fd ["_law_pen_here"] spPln := by
  obtain ⟨fS, fdS, GS, kS, bS, gS⟩ := GS
  refine F.ok scPln (fun vs H Q E h => ?_) (fun cdv A outer s H vs Q E hr h => ?_)
  · obtain ⟨p, l, cells, m, rfl, _⟩ := h
    rfl
  · obtain ⟨p, l, cells, m, rfl, hP, hm, h63, k⟩ := h
    have r1 := hr.mono (show 1 ≤ 3 by decide)
    refine ⟨_, (pss_cons (ps_set (i := 1) scPln.nd rfl (.inr rfl) (pe_op op_add pe_int (pe_call GD r1 (by rfl) gD kD bD .nil pass0 (pa_cons (pv 0) (pa_cons pe_int pa_nil)))))
      (pss_cons (ps_set (i := 2) scPln.nd rfl (.inr rfl) (pe_lc (te := tAndV (tOp (rI0 fun i j => .bl (decide (i > j))) (tVar 4) (tC (.int 0))) (tOp rEq (tCall spDraw [] E0 (tCons (tVar 0) (tCons (tC (.int 3)) tNil))) (tC (.int 0)))) (own := [("_law_at", 4)]) (g := gName 4) rfl scPln.nd (pi_range1 (by rfl) S.range (pa_cons (pv 1) pa_nil)) (blkOk_by (own := [("_law_at", 4)]) (N := nPln) (sc := defScope sPln) (by decide +kernel)) (fun _ _ _ _ _ => pg_name (i := 4) scPln.nd rfl (Or.inl rfl)) (fun _ _ _ _ _ => pts_nil)
        (fun _ _ _ _ _ => pe_and (pe_cmpR op_gt (pv 4) pe_int (nomark _)) (pe_one (pe_cmpR op_eq (pe_call GD r1 (by rfl) gD kD bD .nil pass0 (pa_cons (pv 0) (pa_cons pe_int pa_nil))) pe_int (nomark _))))))
      (pss_cons (ps_set (i := 3) scPln.nd rfl (.inl rfl) (pe_lst pa_nil))
      (pss_cons (ps_for PassesOwn.never rfl (pi_range1 (by rfl) S.range (pa_cons (pv 1) pa_nil)) (pg_name (i := 4) scPln.nd rfl (.inr rfl))
        (pss_cons (ps_set (i := 5) scPln.nd rfl (.inl rfl) (pe_lst pa_nil))
      (pss_cons (ps_for PassesOwn.never rfl (pi_list (pe_call GS hr (by rfl) gS kS bS .nil pass0 (pa_cons (pv 0) pa_nil))) (pg_name (i := 6) scPln.nd rfl (.inl rfl))
            (pss_one (ps_if (pt_cmpR (op_eqD hr.units) (pe_lc (te := tVar 7) (own := [("_law_age", 7)]) (g := gName 7) rfl scPln.nd (pi_tup (pv 6)) (blkOk_by (own := [("_law_age", 7)]) (N := nPln) (sc := defScope sPln) (by decide +kernel)) (fun _ _ _ _ _ => pg_name (i := 7) scPln.nd rfl (Or.inl rfl))
                (fun _ _ _ _ _ => pts_one (pt_val (pe_ix (show IxR _ (rIxL K) from ix_list) (pv 2) (pe_op op_mod (pe_callTy call_int1 (by rfl) T.int (by decide +kernel) (pa_cons (pe_op op_sub (pv 4) (pv 7)) pa_nil)) (pv 1)) (fun _ _ => rfl)))) (fun _ _ _ _ _ => pv 7)) (pe_lst pa_nil) (by with_unfolding_all rfl))
              (pss_one (ps_expr (pe_bm PySem.F.plainAttrs_list PySem.F.slot_list_append PySem.F.type_list_append mt_append (pv 5) (pa_cons (pv 6) pa_nil)))) pss_nil)))
      (pss_one (ps_expr (pe_bm PySem.F.plainAttrs_list PySem.F.slot_list_append PySem.F.type_list_append mt_append (pv 3) (pa_cons (pe_tup (pa_cons (pe_ix (show IxR _ (rIxL K) from ix_list) (pv 2) (pv 4) (fun _ _ => rfl)) (pa_cons (pv 5) pa_nil))) pa_nil)))))))
      (pss_one (ps_ret (pv 3))))))), ?_⟩
    refine q_asgR (op_i (c_i ((w_draw (H := H) (i := 0) (σ := [some (.ref p), none, none, none, none, none, none, none]) (many := 3) rfl (fun _ _ => ev_c) (by decide) (by decide) h63) m H (Keep.of_ex (Ex.refl H)) hP (by omega) _ fun v H1 hv hP1 k1 => ?_)))
    obtain ⟨d, rfl, hd⟩ := hv
    refine ⟨1, (d : Int), rfl, rfl, ?_⟩
    obtain ⟨n, hn, n1, n3⟩ : ∃ n : Nat, (1 : Int) + (d : Int) = (n : Int) ∧ 1 ≤ n ∧ n ≤ 3 := ⟨1 + d, by omega, by omega, by omega⟩
    dsimp only
    rw [hn]
    have pp := hP1
    refine q_asgR ⟨_, rfl, (n : Int), rfl, by omega, by omega, fun D hD => ?_⟩
    have Dp := pen_ne hP1 hD
    have DH := keep_none k1 hD Dp.1
    refine lc_range (lo := 0) (n := (n : Int).toNat) (fun i H' => ∃ ms : List Bool, H' D = some (.lst (ms.map V.bl)) ∧ ms.length = i ∧ (0 < i → ms[0]? = some false) ∧ PenAt H' p l cells (m + 1 + i) ∧ Keep p H H') ⟨[], upd_same, rfl, fun z => absurd z (by decide), hP1.upd' Dp.1 Dp.2, k1.mut DH⟩ (fun i H' hi h => ?_) (fun H2 h => ?_)
    · obtain ⟨ms, h1, h2, h3, hP2, k2⟩ := h
      rw [Int.toNat_natCast] at hi
      refine ⟨rfl, yes_i (A := fun H3 => _) ?_⟩
      have done : ∀ (x : Bool) (H3 : Hp), (i = 0 → x = false) → H3 D = some (.lst (ms.map V.bl)) → PenAt H3 p l cells (m + 1 + (i + 1)) → Keep p H H3 → ∃ acc, H3 D = some (.lst acc) ∧ acc.length < sizeLine ∧ ∃ ms : List Bool, (upd H3 D (.lst (acc ++ [V.bl x]))) D = some (.lst (ms.map V.bl)) ∧ ms.length = i + 1 ∧ (0 < i + 1 → ms[0]? = some false) ∧ PenAt (upd H3 D (.lst (acc ++ [V.bl x]))) p l cells (m + 1 + (i + 1)) ∧ Keep p H (upd H3 D (.lst (acc ++ [V.bl x]))) := fun x H3 hx g1 g2 g3 =>
        ⟨ms.map V.bl, g1, sz_lt (by rw [List.length_map]; omega), ms ++ [x], by rw [upd_same, List.map_append]; rfl, by rw [List.length_append, h2]; rfl, fun _ => by
          by_cases c : i = 0
          · have : ms = [] := List.eq_nil_of_length_eq_zero (by omega)
            rw [this, hx c]
            rfl
          · rw [List.getElem?_append_left (by omega)]
            exact h3 (by omega), g2.upd' Dp.1 Dp.2, g3.mut DH⟩
      refine w_andV (b := decide ((0 : Int) + (i : Int) > 0)) (ev_op (ev_var rfl) ev_c rv_I0) (fun hb H3 e3 => ?_) (fun hb H3 e3 => ?_)
      · have i0 : i ≠ 0 := by have := of_decide_eq_true hb; omega
        refine op_i ((w_draw (H := H3) (i := 0) (σ := [some (.ref p), some (.int (n : Int)), none, none, some (.int (0 + (i : Int))), none, none, none]) (many := 3) rfl (fun _ _ => ev_c) (by decide) (by decide) h63) (m + 1 + i) H3 (Keep.of_ex (Ex.refl H3)) (hP2.mono e3 (Nat.le_refl _)) (by omega) _ fun v H4 hv hP4 k4 => c_i ?_)
        obtain ⟨d', rfl, hd'⟩ := hv
        exact ⟨rfl, done _ H4 (fun z => absurd z i0) (k4 _ _ (e3 _ _ h1) Dp.1) (hP4.le (by omega)) ((k2.trans (Keep.of_ex e3)).trans k4)⟩
      · exact done false H3 (fun _ => rfl) (e3 _ _ h1) (hP2.mono e3 (by omega)) (k2.trans (Keep.of_ex e3))
    · obtain ⟨ms, h1, h2, h3, hP2, k2⟩ := h
      rw [Int.toNat_natCast] at h2 h3 hP2
      have m0 := h3 (by omega)
      refine q_asgL (xs := []) (el_nil (σ := [some (.ref p), some (.int (n : Int)), some (.ref D), none, none, none, none, none]) (H := H2)) fun F0 H3 hF e3 h4 => ?_
      have Fp := pen_ne hP2 hF
      have FH := keep_none k2 hF Fp.1
      have FD : F0 ≠ D := fun z => by rw [z, h1] at hF; cases hF
      have msl : ms.length = n := h2
      refine q_forR1 (j := 4) (n := (n : Int)) (ea_cons (ev_var rfl) ea_nil) (by omega) (fun i σ' H' => ∃ (x4 x5 x6 : Option V) (xs : List V) (ps : List Ph), σ' = [some (.ref p), some (.int (n : Int)), some (.ref D), some (.ref F0), x4, x5, x6, none] ∧ PenAt H' p l cells (m + 1 + n + 3 * i) ∧ Keep p H H' ∧ H' F0 = some (.lst xs) ∧ LRow [F0, p] H' xs ps ∧ ps.length = i ∧
          (∀ (j : Nat) (q : Ph), ps[j]? = some q → ms[j]? = some q.1 ∧ (∀ l ∈ q.2, goodS ms j l = true) ∧ SmsOk q.2) ∧ H' D = some (.lst (ms.map V.bl)))
        (fun H4 e4 => ⟨none, none, none, [], [], rfl, hP2.mono (e3.trans e4) (by omega), (k2.trans (Keep.of_ex e3)).trans (Keep.of_ex e4), e4 _ _ h4, lrow_nil, rfl, fun j q z => (by cases z), e4 _ _ (e3 _ _ h1)⟩) ?_ ?_
      · rintro i σ' H4 hi ⟨x4, x5, x6, xs, ps, rfl, hP4, k4, hF4, row4, pl4, ok4, hD4⟩
        have iN : i < n := by omega
        refine q_asgL (xs := []) (el_nil (σ := [some (.ref p), some (.int (n : Int)), some (.ref D), some (.ref F0), some (.int (i : Int)), x5, x6, none]) (H := H4)) fun g H5 hg e5 h5 => ?_
        have gp := pen_ne hP4 hg
        have gH := keep_none k4 hg gp.1
        have gF : g ≠ F0 := fun z => by rw [z, hF4] at hg; cases hg
        have gD : g ≠ D := fun z => by rw [z, hD4] at hg; cases hg
        have row5 := (row4.more hg).mono e5
        refine ⟨_, rfl, p, l, cells, m + 1 + n + 3 * i, rfl, hP4.mono e5 (Nat.le_refl _), by omega, h63, fun q zs ss H6 hq h6 rowq okq hP6 k6 => ?_⟩
        have K6 := (k4.trans (Keep.of_ex e5)).trans k6
        have hP5 := hP4.mono e5 (Nat.le_refl _)
        have qp := pen_ne hP5 hq
        have qg : q ≠ g := fun z => by rw [z, h5] at hq; cases hq
        refine ⟨q, rfl, ⟨zs, sq_of h6⟩, ?_⟩
        refine for_list (a := q) (xs := zs) (fun j σ' H' => ∃ (x6 : Option V) (ys : List V), σ' = [some (.ref p), some (.int (n : Int)), some (.ref D), some (.ref F0), some (.int (i : Int)), some (.ref g), x6, none] ∧ PenAt H' p l cells (m + 1 + n + 3 * i + 3) ∧ Keep p H H' ∧ H' g = some (.lst ys) ∧ TRow H' ys ((ss.take j).filter (goodS ms i)) ∧ H' q = some (.lst zs) ∧ TRow H' zs ss ∧ H' F0 = some (.lst xs) ∧ LRow [g, F0, p] H' xs ps ∧ H' D = some (.lst (ms.map V.bl)))
          ⟨x6, [], rfl, hP6, K6, k6 _ _ h5 gp.1, by rw [List.take_zero]; exact trow_nil, h6, rowq, k6 _ _ (e5 _ _ hF4) Fp.1, row5.keep (by simp) hP5 k6, k6 _ _ (e5 _ _ hD4) Dp.1⟩ (fun _ _ _ _ ⟨_, _, _, _, _, _, _, h, _⟩ => sq_of h) ?_ ?_
        · rintro j x σ' H7 hx ⟨y6, ys, rfl, hP7, k7, hg7, rowk, hq7, rowz, hF7, rowF, hD7⟩
          obtain ⟨a, la, hla, rfl, ha⟩ := rowz.at hx
          have tk : ss.take (j + 1) = ss.take j ++ [la] := by rw [List.take_add_one, hla]; rfl
          have lin := List.mem_of_getElem? hla
          have l4 := (eight_ok la (okq.2.2 la lin)).2.1
          have c := el_mapT (K := K) (σ := [some (.ref p), some (.int (n : Int)), some (.ref D), some (.ref F0), some (.int (i : Int)), some (.ref g), some (.ref a), none]) (H := H7) (tl := tVar 6) (t := tB (tOp (rIxL K) (tVar 2) (tOp (rI (fun _ j => 0 < j) fun i j => .int (i % j)) (tCB (fun xs H Q => (∃ i, xs = [V.int i] ∧ Q (.int i) H) ∨ ∃ k, xs = [V.bl k] ∧ Q (.int (if k then 1 else 0)) H) (tCons (tOp (rI0 fun i j => .int (i - j)) (tVar 4) (tVar 7)) tNil)) (tVar 1)))) (te := tVar 7) (fun a : Nat => V.int (a : Int)) (l := la) (j := 7) (vs := [7]) (fun a => cycM ms ((i : Int) - (a : Int))) (fun a : Nat => V.int (a : Int)) (etu_var rfl (by rw [← vN_map]; exact st_of ha)) (by omega) (fun _ => rfl)
            (fun b hb H8 e8 => by
              obtain ⟨k', k1', k2', k3'⟩ := cycM_at (ms := ms) (by omega) ((i : Int) - (b : Int))
              refine et_B (ev_op (ev_var rfl) (y := .int (k' : Int)) (ev_is (ev_op (ev_cb (ea_cons (ev_op (ev_var rfl) (ev_var rfl) rv_I0) ea_nil) rc_int) (ev_var rfl) (rv_I (by omega))) (by rw [← msl, k2'])) (rv_ixL (sq_of (e8 _ _ hD7)) (atI_nat (by rw [List.getElem?_map, k3']; rfl))))) (fun b hb H8 e8 _ => ev_var rfl)
          rw [← vN_map] at c
          refine s_when (b := goodS ms i la) (et_is (et_test (ev_eqL (xs := zI (la.filter fun a => cycM ms ((i : Int) - (a : Int)))) (ys := []) c (el_nil (σ := [some (.ref p), some (.int (n : Int)), some (.ref D), some (.ref F0), some (.int (i : Int)), some (.ref g), some (.ref a), none]) (H := H7)))) (decide_eq_decide.mpr ⟨fun z => List.map_eq_nil_iff.mp z, fun z => by rw [z]; rfl⟩)) (fun hb H8 e8 => ?_) (fun hb H8 e8 => ?_)
          · refine s_app (K := K) (xs := ys) (e8 _ _ hg7) (ev_var rfl) (ev_var (v := .ref a) rfl) (by have := rowk.1; have := List.length_filter_le (goodS ms i) (ss.take j); have := List.length_take (i := j) (l := ss); have := okq.2.1; omega) fun H9 e9 => ?_
            have E9 := e8.trans e9
            have hg9 := E9 _ _ hg7
            refine ⟨_, _, rfl, ((hP7.mono E9 (Nat.le_refl _)).upd' gp.1 gp.2), (k7.trans (Keep.of_ex E9)).mut gH, upd_same, ?_, by rw [upd_ne qg]; exact E9 _ _ hq7, trow_updL (rowz.mono E9) hg9, by rw [upd_ne gF.symm]; exact E9 _ _ hF7, (rowF.mono E9).upd (by simp) hg9, by rw [upd_ne gD.symm]; exact E9 _ _ hD7⟩
            rw [tk, List.filter_append, List.filter_cons, if_pos hb]
            exact trow_updL (trow_snoc (rowk.mono E9) (E9 _ _ ha)) hg9
          · refine ⟨_, ys, rfl, hP7.mono e8 (Nat.le_refl _), k7.trans (Keep.of_ex e8), e8 _ _ hg7, ?_, e8 _ _ hq7, rowz.mono e8, e8 _ _ hF7, rowF.mono e8, e8 _ _ hD7⟩
            rw [tk, List.filter_append, List.filter_cons, if_neg (by rw [hb]; decide)]
            show TRow _ _ (_ ++ [])
            rw [List.append_nil]
            exact rowk.mono e8
        · rintro σ' H7 ⟨y6, ys, rfl, hP7, k7, hg7, rowk, hq7, rowz, hF7, rowF, hD7⟩
          rw [rowz.1, List.take_length] at rowk
          have mi : ms[i]? = some ms[i] := List.getElem?_eq_getElem (by omega)
          generalize ms[i] = mb at mi
          refine s_appU (K := K) (xs := xs) (ys := [.bl mb, .ref g]) hF7 (ev_var rfl) (eu_tup (ea_cons (ev_op (ev_var rfl) (ev_var rfl) (rv_ixL (sq_of hD7) (atI_nat (by rw [List.getElem?_map, mi]; rfl)))) (ea_cons (ev_var rfl) ea_nil)) (by show 2 ≤ 100000; decide)) (by rw [row4.1]; omega) fun t H8 ht e8 h8 => ?_
          have hF8 := e8 _ _ hF7
          have gin : g ∉ [F0, p] := fun z => by
            rcases List.mem_cons.mp z with z | z
            · exact gF z
            · exact gp.1 (List.mem_singleton.mp z)
          have row8 : LRow [F0, p] H8 (xs ++ [.ref t]) (ps ++ [(mb, ss.filter (goodS ms i))]) := LRow.snoc (rowF.less.mono e8) h8 (e8 _ _ hg7) gin (rowk.mono e8)
          refine ⟨_, _, _, _, _, rfl, (hP7.mono e8 (by omega)).upd' Fp.1 Fp.2, (k7.trans (Keep.of_ex e8)).mut FH, upd_same, row8.upd (by simp) hF8, by rw [List.length_append, pl4]; rfl, fun j q hq => ?_, by rw [upd_ne FD.symm]; exact e8 _ _ hD7⟩
          rcases Nat.lt_or_ge j ps.length with c | c
          · rw [List.getElem?_append_left c] at hq
            exact ok4 j q hq
          · rw [List.getElem?_append_right c] at hq
            have j0 : j - ps.length = 0 := by
              rcases Nat.eq_zero_or_pos (j - ps.length) with z | z
              · exact z
              · rw [List.getElem?_eq_none (by show 1 ≤ _; omega)] at hq
                cases hq
            rw [j0] at hq
            obtain rfl := Option.some.inj hq
            have ji : j = i := by omega
            subst ji
            exact ⟨mi, fun l hl => (List.mem_filter.mp hl).2, okq.1.filter _, Nat.le_trans (List.length_filter_le _ _) okq.2.1, fun l hl => okq.2.2 l (List.mem_filter.mp hl).1⟩
      · rintro σ' H4 ⟨x4, x5, x6, xs, ps, rfl, hP4, k4, hF4, row4, pl4, ok4, hD4⟩
        rw [Int.toNat_natCast] at hP4 pl4
        exact s_ret (v := .ref F0) (ev_var rfl) fun H5 e5 => k F0 xs ps H5 FH (e5 _ _ hF4) (row4.less.mono e5) (pln_ok (by omega) (by omega) m0 (by omega) ok4) (hP4.mono e5 (by omega)) (k4.trans (Keep.of_ex e5))
end
end K19
namespace K19
open PySem L2 Evl Gr StX EnT MkS StK ClX ClK RdX Kn
/-- the same phases, their sums in any order -/
def Sim (ps qs : List Ph) : Prop := qs.length = ps.length ∧ ∀ (i : Nat) (p q : Ph), ps[i]? = some p → qs[i]? = some q → q.1 = p.1 ∧ q.2.Perm p.2
theorem sim_nil : Sim [] [] := ⟨rfl, fun i p q h => by cases h⟩
theorem Sim.snoc {ps qs : List Ph} {p q : Ph} (h : Sim ps qs) (h1 : q.1 = p.1) (h2 : q.2.Perm p.2) : Sim (ps ++ [p]) (qs ++ [q]) := ⟨by rw [List.length_append, List.length_append, h.1]; rfl, fun i x y hx hy => by
  rcases Nat.lt_or_ge i ps.length with c | c
  · rw [List.getElem?_append_left c] at hx
    rw [List.getElem?_append_left (by rw [h.1]; exact c)] at hy
    exact h.2 i x y hx hy
  · rw [List.getElem?_append_right c] at hx
    rw [List.getElem?_append_right (by rw [h.1]; exact c), h.1] at hy
    generalize i - ps.length = j at hx hy
    cases j with
    | zero =>
      cases hx
      cases hy
      exact ⟨h1, h2⟩
    | succ j => cases hx⟩
theorem Sim.cyc {ps qs : List Ph} (h : Sim ps qs) (h0 : 0 < ps.length) (i : Int) : (cyc qs i).1 = (cyc ps i).1 ∧ (cyc qs i).2.Perm (cyc ps i).2 := by
  obtain ⟨k, k1, k2, k3⟩ := cyc_at (ps := ps) h0 i
  obtain ⟨k', k1', k2', k3'⟩ := cyc_at (ps := qs) (by rw [h.1]; exact h0) i
  rw [h.1, k2] at k2'
  have : k = k' := by omega
  subst this
  exact h.2 k _ _ k3 k3'
theorem sms_ok {ss : List (List Nat)} (h : SmsOk ss) : PhOk ss := ⟨fun l hl => eight_ok l (h.2.2 l hl), by have := h.2.1; omega⟩
theorem Sim.ok {ps qs : List Ph} (h : Sim ps qs) (ok : PlnOk ps) : PlOk qs := by
  obtain ⟨l1, l3, ⟨p, hp, mp⟩, no, _⟩ := ok
  refine ⟨by rw [h.1]; exact l1, by rw [h.1]; omega, ?_, fun i hi l hl a ha => ?_⟩
  · obtain ⟨i, hi⟩ := List.mem_iff_getElem?.mp hp
    have lt : i < qs.length := by rw [h.1]; exact (List.getElem?_eq_some_iff.mp hi).1
    exact ⟨qs[i], List.getElem_mem lt, ((h.2 i p _ hi (List.getElem?_eq_getElem lt)).1).trans mp⟩
  · rw [h.1] at hi
    rw [(h.cyc (by omega) _).1]
    exact no i hi l ((h.cyc (by omega) _).2.mem_iff.mp hl) a ha
section
variable {P : Program} {w : World} {K : PySem.W.Frag} {mg : Str → Option Value} {base : Heap}
/-! ### _law_phase -/
abbrev sPhs : Stmt := top 41
def RetPh (K : PySem.W.Frag) (C : Addr) (p : Ph) (H : Hp) (Q : VK) : Prop := ∀ o ss H', Ex H H' → PhAt K C H' o (p.1, ss) → ss.Perm p.2 → Q (.ref o) H'
def spPhs (K : PySem.W.Frag) (C : Addr) : Sp := fun vs H Q _ => ∃ (t s : Addr) (ys : List V) (p : Ph), vs = [.ref t] ∧ H t = some (.tup [.bl p.1, .ref s]) ∧ H s = some (.lst ys) ∧ TRow H ys p.2 ∧ SmsOk p.2 ∧ RetPh K C p H Q
theorem scPhs : FnScope ["_law_row"] ["_law_row"] (defScope sPhs) := ⟨rfl, rfl, rfl, by decide +kernel, rfl, by decide +kernel, by decide +kernel⟩
theorem ok_Phs {CP C fP fI f : Addr} {fd : FuncData} (F : Fun K "_law_phase" "_law_phase" sPhs f fd) (S : GlbS mg) (G : GPl P w K mg base CP C fP fI) : FnOk P w K mg base CX0 6 f fd ["_law_row"] (spPhs K C) := by
  refine F.ok scPhs (fun vs H Q E h => ?_) (fun cdv A outer s H vs Q E hr h => ?_)
  · obtain ⟨t, s, ys, p, rfl, _⟩ := h
    rfl
  · obtain ⟨t, r, ys, p, rfl, ht, hs, row, ok, k⟩ := h
    refine ⟨_, (pss_cons (ps_if (pt_cmpR op_eq (pe_callB call_len_seq (by rfl) S.len PySem.boot_len (pa_cons (pe_ix (show IxR _ (rIxT K) from ix_tup) (pv 0) pe_int (fun _ _ => rfl)) pa_nil)) pe_int (nomark _))
        (pss_one (ps_ret (pe_makeSK0 (E := E0) G.mC G.initK hr (by rfl) G.gC pass0 (pk_cons (pe_ix (show IxR _ (rIxT K) from ix_tup) (pv 0) pe_int (fun _ _ => rfl)) pk_nil)))) pss_nil)
      (pss_one (ps_ret (pe_ifExp (pt_cmpR op_eq (pe_callB call_len_seq (by rfl) S.len PySem.boot_len (pa_cons (pe_ix (show IxR _ (rIxT K) from ix_tup) (pv 0) pe_int (fun _ _ => rfl)) pa_nil)) pe_int (nomark _))
        (pe_makeSK (E := E0) G.mC G.initK hr (by rfl) G.gC pass0 (pa_cons (pe_ix (show IxR _ (rIxL K) from ix_list) (pe_ix (show IxR _ (rIxT K) from ix_tup) (pv 0) pe_int (fun _ _ => rfl)) pe_int (fun _ _ => rfl)) pa_nil) (pk_cons (pe_ix (show IxR _ (rIxT K) from ix_tup) (pv 0) pe_int (fun _ _ => rfl)) pk_nil))
        (pe_makeSK (E := E0) G.mC G.initK hr (by rfl) G.gC pass0 (pa_cons (pe_ix (show IxR _ (rIxL K) from ix_list) (pe_ix (show IxR _ (rIxT K) from ix_tup) (pv 0) pe_int (fun _ _ => rfl)) pe_int (fun _ _ => rfl)) (pa_cons (pe_ix (show IxR _ (rIxL K) from ix_list) (pe_ix (show IxR _ (rIxT K) from ix_tup) (pv 0) pe_int (fun _ _ => rfl)) pe_int (fun _ _ => rfl)) pa_nil)) (pk_cons (pe_ix (show IxR _ (rIxT K) from ix_tup) (pv 0) pe_int (fun _ _ => rfl)) pk_nil)))))), ?_⟩
    have r0 : ∀ {H1 : Hp}, Ex H H1 → Ev (tOp (rIxT K) (tVar 0) (tC (.int 0))) [some (.ref t)] H1 (.bl p.1) := fun e => ev_op (ev_var rfl) ev_c (rv_ixT (st_of (e _ _ ht)) (atI_nat (j := 0) rfl))
    have r1 : ∀ {H1 : Hp}, Ex H H1 → Ev (tOp (rIxT K) (tVar 0) (tC (.int 1))) [some (.ref t)] H1 (.ref r) := fun e => ev_op (ev_var rfl) ev_c (rv_ixT (st_of (e _ _ ht)) (atI_nat (j := 1) rfl))
    have ln : ∀ {H1 : Hp}, Ex H H1 → Ev (tCB (rLen K) (tCons (tOp (rIxT K) (tVar 0) (tC (.int 1))) tNil)) [some (.ref t)] H1 (.int (p.2.length : Int)) := fun e => ev_is (ev_cb (ea_cons (r1 e) ea_nil) (rc_lenQ (.inl (sq_of (e _ _ hs))))) (by rw [row.1])
    have l2 := ok.2.1
    have end_ : ∀ {te : TE} {H1 : Hp} {ss : List (List Nat)}, Ex H H1 → EvPh K C te [some (.ref t)] H1 (p.1, ss) → ss = p.2 → te [some (.ref t)] H1 Q := fun {te} {H1} {ss} e h es => h H1 (Ex.refl H1) _ fun o ss' H2 e2 at_ pm => k o ss' H2 (e.trans e2) at_ (by rw [← es]; exact pm)
    refine q_when (et_test (ev_op (ln (Ex.refl H)) ev_c (rv_eq rfl))) (fun hb H1 e1 => ?_) (fun hb H1 e1 => ?_)
    · have l0 : p.2.length = 0 := by have := of_decide_eq_true hb; have := V.int.inj this; omega
      have nil : p.2 = [] := List.eq_nil_of_length_eq_zero l0
      exact s_retR (end_ (ss := []) e1 (ep_K ear_nil (ea_cons (r0 e1) ea_nil) ⟨fun l hl => (by cases hl), by decide⟩ List.nodup_nil) nil.symm)
    · have l0 : p.2.length ≠ 0 := fun z => by rw [z] at hb; exact absurd hb (by decide)
      obtain ⟨x, hx⟩ : ∃ x, ys[0]? = some x := ⟨_, List.getElem?_eq_getElem (by rw [row.1]; omega)⟩
      obtain ⟨a, la, hla, rfl, ha⟩ := row.at hx
      have a0 : ∀ {H2 : Hp}, Ex H H2 → Ev (tOp (rIxL K) (tOp (rIxT K) (tVar 0) (tC (.int 1))) (tC (.int 0))) [some (.ref t)] H2 (.ref a) := fun e => ev_op (r1 e) ev_c (rv_ixL (sq_of (e _ _ hs)) (atI_nat (j := 0) hx))
      refine s_retR ?_
      refine et_test (ev_op (ln e1) ev_c (rv_eq rfl)) H1 (Ex.refl H1) _ fun H2 e2 => ?_
      have E2 := e1.trans e2
      by_cases c : p.2.length = 1
      · rw [show decide (V.int (p.2.length : Int) = V.int 1) = true from decide_eq_true (by rw [c]; rfl)]
        have one : p.2 = [la] := by
          match h : p.2, c with
          | [y], _ => rw [h] at hla; cases hla; rfl
        exact iteT (end_ (ss := [la]) E2 (ep_K (ear_var (i := 0) (a0 E2) (E2 _ _ ha) ear_nil) (ea_cons (r0 E2) ea_nil) ⟨fun l hl => (sms_ok ok).1 l (by rw [one]; exact hl), by show 1 ≤ 4; decide⟩ (by simp)) one.symm)
      · rw [show decide (V.int (p.2.length : Int) = V.int 1) = false from decide_eq_false fun z => c (by have := V.int.inj z; omega)]
        obtain ⟨y, hy⟩ : ∃ y, ys[1]? = some y := ⟨_, List.getElem?_eq_getElem (by rw [row.1]; omega)⟩
        obtain ⟨b, lb, hlb, rfl, hb'⟩ := row.at hy
        have b0 : Ev (tOp (rIxL K) (tOp (rIxT K) (tVar 0) (tC (.int 1))) (tC (.int 1))) [some (.ref t)] H2 (.ref b) := ev_op (r1 E2) ev_c (rv_ixL (sq_of (E2 _ _ hs)) (atI_nat (j := 1) hy))
        have two : p.2 = [la, lb] := by
          match h : p.2, l0, c, l2 with
          | [x, y], _, _, _ => rw [h] at hla hlb; cases hla; cases hlb; rfl
          | [], z, _, _ => exact absurd rfl z
          | [_], _, z, _ => exact absurd rfl z
          | _ :: _ :: _ :: _, _, _, z => exact absurd z (by simp only [List.length_cons]; omega)
        exact iteF (end_ (ss := [la, lb]) E2 (ep_K (ear_var (i := 0) (a0 E2) (E2 _ _ ha) (ear_var (i := 0) b0 (E2 _ _ hb') ear_nil)) (ea_cons (r0 E2) ea_nil) ⟨fun l hl => (sms_ok ok).1 l (by rw [two]; exact hl), by show 2 ≤ 4; decide⟩ (by rw [← two]; exact ok.1)) two.symm)
/-! ### _law_even -/
abbrev sEvn : Stmt := top 43
abbrev nEvn : List Str := ["_law_vector", "_law_mask", "_law_found", "_law_left"]
def spEvn : Sp := fun vs H Q _ => ∃ v m : Nat, vs = [.int (v : Int), .int (m : Int)] ∧ v < 2 ^ 420 ∧ RetV (.bl (!pr (v &&& m))) H Q
theorem scEvn : FnScope nEvn ["_law_vector", "_law_mask"] (defScope sEvn) := ⟨rfl, rfl, rfl, by decide +kernel, rfl, by decide +kernel, by decide +kernel⟩
theorem bl_ne (b c : Bool) : (!decide (V.bl b = V.bl c)) = (b ^^ c) := by cases b <;> cases c <;> decide
theorem odd_bit (n : Nat) : decide (V.int ((n &&& 1 : Nat) : Int) = V.int 1) = n.testBit 0 := by
  rw [Nat.and_one_is_mod, Nat.testBit_zero]
  exact decide_eq_decide.mpr ⟨fun z => by have := V.int.inj z; omega, fun z => by rw [z]; rfl⟩
theorem ok_Evn {f : Addr} {fd : FuncData} (F : Fun K "_law_even" "_law_even" sEvn f fd) : FnOk P w K mg base CX0 1 f fd ["_law_vector", "_law_mask"] spEvn := by
  refine F.ok scEvn (fun vs H Q E h => ?_) (fun cdv A outer s H vs Q E hr h => ?_)
  · obtain ⟨v, m, rfl, _⟩ := h
    rfl
  · obtain ⟨v, m, rfl, hv, k⟩ := h
    refine ⟨_, (pss_cons (ps_par (i := 2) (j := 3) rfl scEvn.nd rfl rfl (by decide) rfl rfl (pa_cons pe_bl (pa_cons (pe_op op_and (pv 0) (pv 1)) pa_nil)) (by rfl))
      (pss_cons (ps_while PassesOwn.never (pt_cmpR op_gt (pv 3) pe_int (nomark _)) (pss_one (ps_par (i := 2) (j := 3) rfl scEvn.nd rfl rfl (by decide) rfl rfl (pa_cons (pe_cmpR op_ne (pv 2) (pe_cmpR op_eq (pe_op op_and (pv 3) pe_int) pe_int (nomark _)) (nomark _)) (pa_cons (pe_op op_shr (pv 3) pe_int) pa_nil)) (by rfl))))
      (pss_one (ps_ret (pv 2))))), ?_⟩
    refine q_par (ea_cons (x := .bl true) ev_c (ea_cons (ev_and (ev_var rfl) (ev_var rfl)) ea_nil) H (Ex.refl H) _ fun H1 e1 => ⟨_, _, rfl, ?_⟩)
    refine q_while (fun u σ' H' => ∃ (n : Nat) (b : Bool), u = n ∧ n < 2 ^ 420 ∧ σ' = [some (.int (v : Int)), some (.int (m : Int)), some (.bl b), some (.int (n : Int))] ∧ (b ^^ pr n) = !pr (v &&& m) ∧ Ex H H') (v &&& m) ⟨v &&& m, true, rfl, Nat.lt_of_le_of_lt Nat.and_le_left hv, rfl, by simp, e1⟩ ?_
    rintro n σ' H3 ⟨_, b, rfl, hn, rfl, hb, e3⟩
    refine ⟨_, et_test (ev_op (ev_var rfl) ev_c rv_I0), fun ht H4 e4 => ?_, fun ht H4 e4 => ?_⟩
    · have n0 : 0 < n := by have := of_decide_eq_true ht; omega
      refine ⟨fun σ' H' => σ' = [some (.int (v : Int)), some (.int (m : Int)), some (.bl (b ^^ n.testBit 0)), some (.int ((n / 2 : Nat) : Int))] ∧ Ex H H', fun σ2 H5 h5 => ⟨n / 2, by omega, _, _, rfl, by omega, h5.1, by rw [← hb, pr_half hn]; cases b <;> cases n.testBit 0 <;> cases pr (n / 2) <;> rfl, h5.2⟩, ?_⟩
      refine ea_cons (ev_is (ev_op (ev_var rfl) (ev_is (ev_op (ev_and (a := n) (b := 1) (ev_var rfl) ev_c) ev_c (rv_eq rfl)) (congrArg V.bl (odd_bit n))) (rv_ne rfl)) (congrArg V.bl (bl_ne _ _))) (ea_cons (ev_is (ev_op (ev_var rfl) ev_c (rv_I (by decide))) (by show V.int ((n : Int) / 2 ^ 1) = _; congr 1)) ea_nil) H4 (Ex.refl H4) _ fun H5 e5 => ⟨_, _, rfl, rfl, (e3.trans e4).trans e5⟩
    · have n0 : n = 0 := by have := of_decide_eq_false ht; omega
      subst n0
      refine s_ret (ev_is (ev_var rfl) ?_) fun H5 e5 => k H5 ((e3.trans e4).trans e5)
      rw [← hb, par_pr.zero, Bool.xor_false]
end
end K19
namespace Kn
open K19
section
variable {pl : Nat → Ph} {kp : Nat → Bool}
theorem sst_lt {n : Nat} (h : n ≤ 420) : ∀ v ∈ sst pl kp n, v < 2 ^ n := fun v hv => sp_lt (vst_lt (pl := pl) (kp := kp) n) ((sst_is (fun _ => ⟨rfl, fun _ => Iff.rfl⟩) n h v).mp hv)
theorem sieve_len : ∀ (as : List (List Nat)) (l : List Nat) (n : Nat), (as.foldl (fun l ages => l.filter fun v => !pr (v &&& msk n ages)) l).length ≤ l.length
  | [], l, n => Nat.le_refl _
  | a :: as, l, n => Nat.le_trans (sieve_len as _ n) (List.length_filter_le _ _)
theorem sst_len : ∀ n, (sst pl kp n).length ≤ 2 ^ n
  | 0 => Nat.le_refl 1
  | n + 1 => by
    have ih := sst_len n
    have p2 : 2 ^ (n + 1) = 2 * 2 ^ n := by rw [Nat.pow_succ, Nat.mul_comm]
    show (if kp n then _ else _ : List Nat).length ≤ _
    split
    · exact Nat.le_trans (sieve_len _ _ _) (by omega)
    · split
      · omega
      · rw [List.length_append, List.length_map]
        omega
end
end Kn
namespace K19
open PySem L2 Evl Gr StX EnT MkS StK ClX ClK RdX Kn
/-- when each row is known, as the law tells it -/
def lnV (ps : List Ph) (b : Nat) (z : Str) : List V := (List.range z.length).map fun r => kO (lst (fun n => cyc ps ((b : Int) + (n : Int))) (keptAt z) z.length r)
section
variable {K : PySem.W.Frag} {CP C : Addr} {σ : L2.St} {H : Hp} {t : TA} {E : XK} {Q : VK} {xs : List V} {qs : List Ph}
theorem pl_make (h : EvA t σ H xs) (row : PRow K C H xs qs) (ok : PlOk qs) (q : ∀ o H2, Ex H H2 → PlAt K CP C H2 o qs → Q (.ref o) H2) : tMakeR CP (spPlA K CP C) E t σ H Q :=
  h H (Ex.refl H) _ fun H1 e1 o dx ho hd hn => pl_told ho hd hn (row.mono e1) ok fun o' H2 e2 at_ => q o' H2 (e1.trans e2) at_
end
section
variable {P : Program} {w : World} {K : PySem.W.Frag} {mg : Str → Option Value} {base : Heap}
abbrev sPla : Stmt := top 42
abbrev nPla : List Str := ["_law_plain_here", "_law_some", "_law_row"]
def spPla (K : PySem.W.Frag) (CP C : Addr) : Sp := fun vs H Q _ => ∃ (a : Addr) (av : List Addr) (xs : List V) (ps : List Ph), vs = [.ref a] ∧ H a = some (.lst xs) ∧ LRow av H xs ps ∧ PlnOk ps ∧ ∀ o qs H', Ex H H' → PlAt K CP C H' o qs → Sim ps qs → Q (.ref o) H'
theorem scPla : FnScope nPla ["_law_plain_here"] (defScope sPla) := ⟨rfl, rfl, rfl, by decide +kernel, rfl, by decide +kernel, by decide +kernel⟩
theorem ok_Pla {CP C fP fI f : Addr} {fd : FuncData} (F : Fun K "_law_plan" "_law_plan" sPla f fd) (S : GlbS mg) (G : GPl P w K mg base CP C fP fI) (GH : Gfn P w K mg base 6 "_law_phase" ["_law_row"] (spPhs K C)) : FnOk P w K mg base CX0 7 f fd ["_law_plain_here"] (spPla K CP C) := by
  obtain ⟨fH, fdH, GH, kH, bH, gH⟩ := GH
  refine F.ok scPla (fun vs H Q E h => ?_) (fun cdv A outer s H vs Q E hr h => ?_)
  · obtain ⟨a, av, xs, ps, rfl, _⟩ := h
    rfl
  · obtain ⟨a, av, xs, ps, rfl, ha, row, ok, k⟩ := h
    have r4 := hr.mono (show 4 ≤ 6 by decide)
    refine ⟨_, (pss_cons (ps_setLc (te := tCall (spPhs K C) [] E0 (tCons (tVar 2) tNil)) (i := 1) (own := [("_law_row", 2)]) (g := gName 2) rfl scPla.nd rfl rfl (by rfl) (pi_list (pv 0)) (blkOk_by (own := [("_law_row", 2)]) (N := nPla) (sc := defScope sPla) (by decide +kernel)) (fun _ _ _ _ _ => pg_name (i := 2) scPla.nd rfl (Or.inl rfl)) (fun _ _ _ _ _ => pts_nil)
        (fun _ _ _ _ _ => pe_call GH hr (by rfl) gH kH bH .nil pass0 (pa_cons (pv 2) pa_nil)))
      (pss_cons (ps_if (pt_cmpR op_eq (pe_callB call_len_seq (by rfl) S.len PySem.boot_len (pa_cons (pv 1) pa_nil)) pe_int (nomark _)) (pss_one (ps_ret (pe_makeR (E := E0) G.mP G.initP r4 (by rfl) G.gP pass0 (pa_cons (pe_ix (show IxR _ (rIxL K) from ix_list) (pv 1) pe_int (fun _ _ => rfl)) pa_nil)))) pss_nil)
      (pss_one (ps_ret (pe_ifExp (pt_cmpR op_eq (pe_callB call_len_seq (by rfl) S.len PySem.boot_len (pa_cons (pv 1) pa_nil)) pe_int (nomark _))
        (pe_makeR (E := E0) G.mP G.initP r4 (by rfl) G.gP pass0 (pa_cons (pe_ix (show IxR _ (rIxL K) from ix_list) (pv 1) pe_int (fun _ _ => rfl)) (pa_cons (pe_ix (show IxR _ (rIxL K) from ix_list) (pv 1) pe_int (fun _ _ => rfl)) pa_nil)))
        (pe_makeR (E := E0) G.mP G.initP r4 (by rfl) G.gP pass0 (pa_cons (pe_ix (show IxR _ (rIxL K) from ix_list) (pv 1) pe_int (fun _ _ => rfl)) (pa_cons (pe_ix (show IxR _ (rIxL K) from ix_list) (pv 1) pe_int (fun _ _ => rfl)) (pa_cons (pe_ix (show IxR _ (rIxL K) from ix_list) (pv 1) pe_int (fun _ _ => rfl)) pa_nil))))))))), ?_⟩
    refine q_asgR ⟨_, rfl, a, rfl, ⟨xs, sq_of ha⟩, fun D hD => ?_⟩
    refine lc_it (n := xs.length) (walk_list (K := K) (a := a) (xs := xs)) (fun i H' => Ex H H' ∧ ∃ ys qs, H' D = some (.lst ys) ∧ PRow K C H' ys qs ∧ Sim (ps.take i) qs) ⟨Ex.new hD, [], [], upd_same, prow_nil, by rw [List.take_zero]; exact sim_nil⟩ (fun _ H' _ h => sq_of (h.1 _ _ ha)) (fun i x H' H'' hi h y => ?_) (fun H' h => ?_)
    · obtain ⟨rfl, hxi⟩ := y
      obtain ⟨h1, ys, qs, h2, h3, h4⟩ := h
      refine ⟨rfl, yes_i (A := fun H3 => _) ?_⟩
      have li : i < ps.length := by rw [← row.1]; exact hi
      have hp := List.getElem?_eq_getElem li
      generalize ps[i] = p at hp
      obtain ⟨t, r, zs, t1, t2, t3, _, t5⟩ := row.2 i x p hxi hp
      subst t1
      refine ⟨_, rfl, t, r, zs, p, rfl, h1 _ _ t2, h1 _ _ t3, t5.mono h1, ok.2.2.2.2 p (List.mem_of_getElem? hp), fun o ss H3 e3 ho pm => ?_⟩
      have h2' := e3 _ _ h2
      have ln := h3.1
      have ln2 := h4.1
      rw [List.length_take] at ln2
      refine ⟨ys, h2', sz_lt (by have := ok.2.1; omega), Ex.mut (h1.trans e3) hD, ys ++ [.ref o], qs ++ [(p.1, ss)], upd_same, prow_updL (prow_snoc (h3.mono e3) ho) h2', ?_⟩
      rw [List.take_add_one, hp]
      exact h4.snoc rfl pm
    · obtain ⟨h1, ys, qs, h2, h3, h4⟩ := h
      rw [row.1, List.take_length] at h4
      have lq := h4.1
      have ly := h3.1
      have ok' := h4.ok ok
      have l1 := ok.1
      have l3 := ok.2.1
      have ln : ∀ {H1 : Hp}, Ex H' H1 → Ev (tCB (rLen K) (tCons (tVar 1) tNil)) [some (.ref a), some (.ref D), none] H1 (.int (ys.length : Int)) := fun e => ev_cb (ea_cons (ev_var rfl) ea_nil) (rc_lenQ (.inl (sq_of (e _ _ h2))))
      have ix : ∀ {H1 : Hp} {j : Nat} {x : V}, Ex H' H1 → ys[j]? = some x → Ev (tOp (rIxL K) (tVar 1) (tC (.int (j : Int)))) [some (.ref a), some (.ref D), none] H1 x := fun e hx => ev_op (ev_var rfl) ev_c (rv_ixL (sq_of (e _ _ h2)) (atI_nat hx))
      refine q_when (et_test (ev_op (ln (Ex.refl H')) ev_c (rv_eq rfl))) (fun hb H2 e2 => ?_) (fun hb H2 e2 => ?_)
      · have one : ys.length = 1 := by have := V.int.inj (of_decide_eq_true hb); omega
        match ys, one with
        | [x], _ => exact s_retR (pl_make (ea_cons (ix (j := 0) e2 rfl) ea_nil) (h3.mono e2) ok' fun o H3 e3 at_ => k o qs H3 ((h1.trans e2).trans e3) at_ h4)
      · have n1 : ys.length ≠ 1 := fun z => by rw [z] at hb; exact absurd hb (by decide)
        refine s_retR ?_
        refine et_test (ev_op (ln e2) ev_c (rv_eq rfl)) H2 (Ex.refl H2) _ fun H3 e3 => ?_
        have E3 := e2.trans e3
        by_cases c : ys.length = 2
        · rw [show decide (V.int (ys.length : Int) = V.int 2) = true from decide_eq_true (by rw [c]; rfl)]
          match ys, c with
          | [x, y], _ => exact iteT (pl_make (ea_cons (ix (j := 0) E3 rfl) (ea_cons (ix (j := 1) E3 rfl) ea_nil)) (h3.mono E3) ok' fun o H4 e4 at_ => k o qs H4 ((h1.trans E3).trans e4) at_ h4)
        · rw [show decide (V.int (ys.length : Int) = V.int 2) = false from decide_eq_false fun z => c (by have := V.int.inj z; omega)]
          have c3 : ys.length = 3 := by omega
          match ys, c3 with
          | [x, y, u], _ => exact iteF (pl_make (ea_cons (ix (j := 0) E3 rfl) (ea_cons (ix (j := 1) E3 rfl) (ea_cons (ix (j := 2) E3 rfl) ea_nil))) (h3.mono E3) ok' fun o H4 e4 at_ => k o qs H4 ((h1.trans E3).trans e4) at_ h4)
end
end K19
namespace Kn
open K19
section
variable {pl : Nat → Ph} {kp : Nat → Bool}
variable (pl kp) in
def lg (n r : Nat) : Option Nat := if r = n ∧ kp n = true ∧ (pl n).1 = false then some n else lst pl kp n r
theorem lst_step (n r : Nat) (hr : r ≤ n) : lst pl kp (n + 1) r = if (!kp r && !(pl r).1) = true ∧ (lg pl kp n r).isNone = true ∧ (sst pl kp (n + 1)).filter (fun v => v.testBit r) = [] then some n else lg pl kp n r := by
  show (if r = n ∧ kp n = true ∧ (pl n).1 = false then some n else if r ≤ n ∧ kp r = false ∧ (pl r).1 = false ∧ (lst pl kp n r).isNone = true ∧ ((sst pl kp (n + 1)).all fun v => !v.testBit r) = true then some n else lst pl kp n r) = _
  unfold lg
  by_cases c : r = n ∧ kp n = true ∧ (pl n).1 = false
  · rw [if_pos c, if_pos c]
    split <;> rfl
  · rw [if_neg c, if_neg c]
    have e : (r ≤ n ∧ kp r = false ∧ (pl r).1 = false ∧ (lst pl kp n r).isNone = true ∧ ((sst pl kp (n + 1)).all fun v => !v.testBit r) = true) ↔ ((!kp r && !(pl r).1) = true ∧ (lst pl kp n r).isNone = true ∧ (sst pl kp (n + 1)).filter (fun v => v.testBit r) = []) := by
      rw [List.all_eq_true, List.filter_eq_nil_iff]
      constructor
      · rintro ⟨h1, h2, h3, h4, h5⟩
        exact ⟨by rw [h2, h3]; rfl, h4, fun v hv => by have := h5 v hv; simpa using this⟩
      · rintro ⟨h1, h2, h3⟩
        cases h : kp r <;> rw [h] at h1
        · cases h' : (pl r).1 <;> rw [h'] at h1
          · exact ⟨hr, rfl, rfl, h2, fun v hv => by have := h3 v hv; simpa using this⟩
          · cases h1
        · cases h1
    by_cases d : (r ≤ n ∧ kp r = false ∧ (pl r).1 = false ∧ (lst pl kp n r).isNone = true ∧ ((sst pl kp (n + 1)).all fun v => !v.testBit r) = true)
    · rw [if_pos d, if_pos (e.mp d)]
    · rw [if_neg d, if_neg fun z => d (e.mpr z)]
theorem lst_late {n r : Nat} (hr : n < r) : lst pl kp (n + 1) r = lg pl kp n r := by
  show (if r = n ∧ kp n = true ∧ (pl n).1 = false then some n else if r ≤ n ∧ kp r = false ∧ (pl r).1 = false ∧ (lst pl kp n r).isNone = true ∧ ((sst pl kp (n + 1)).all fun v => !v.testBit r) = true then some n else lst pl kp n r) = _
  unfold lg
  rw [if_neg (fun z => by have := z.1; omega), if_neg (fun z => by have := z.1; omega), if_neg (fun z => by have := z.1; omega)]
end
end Kn
namespace K19
open PySem L2 Evl Gr StX EnT MkS StK ClX ClK RdX Kn
theorem ch_x {c : Nat} (h : c = 46 ∨ c = 120) : decide (V.str ⟨#[c]⟩ = V.str "x") = !(some c == some 46) := by rcases h with rfl | rfl <;> decide +kernel
theorem ch_d {c : Nat} (h : c = 46 ∨ c = 120) : decide (V.str ⟨#[c]⟩ = V.str ".") = (some c == some 46) := by rcases h with rfl | rfl <;> decide +kernel
section
variable {K : PySem.W.Frag} {σ : L2.St} {H : Hp} {ta tb : TE}
/-- xs[i % len(xs)] of the law's phases -/
theorem ev_lcyc {a : Addr} {av : List Addr} {xs : List V} {ps : List Ph} {i : Int} (h : Ev ta σ H (.ref a)) (hb : Ev tb σ H (.int (i % (ps.length : Int)))) (hx : H a = some (.lst xs)) (row : LRow av H xs ps) (h0 : 0 < ps.length) :
    ∃ (t s : Addr) (ys : List V), Ev (tOp (rIxL K) ta tb) σ H (.ref t) ∧ H t = some (.tup [.bl (cyc ps i).1, .ref s]) ∧ H s = some (.lst ys) ∧ TRow H ys (cyc ps i).2 := by
  obtain ⟨k, k1, k2, k3⟩ := cyc_at h0 i
  obtain ⟨t, s, ys, o1, o2, o3, o4⟩ := row.at k3
  rw [k2] at hb
  exact ⟨t, s, ys, ev_op h hb (rv_ixL (sq_of hx) (atI_nat o1)), o2, o3, o4⟩
end
section
variable {P : Program} {w : World} {K : PySem.W.Frag} {mg : Str → Option Value} {base : Heap}
abbrev sLkn : Stmt := top 44
abbrev nLkn : List Str := ["_law_plain_here", "_law_first", "_law_losses_so", "_law_some", "_law_found", "_law_at", "_law_slot", "_law_mute_so", "_law_sums_so", "_law_ages", "_law_mask", "_law_spot", "_law_is_row", "_law_vector", "_law_age"]
def spLkn : Sp := fun vs H Q _ => ∃ (a : Addr) (av : List Addr) (xs : List V) (ps : List Ph) (b : Nat) (z : Str), vs = [.ref a, .int (b : Int), .str z] ∧ H a = some (.lst xs) ∧ LRow av H xs ps ∧ PlnOk ps ∧ b < ps.length ∧ LsOk z ∧ z.length ≤ 10 ∧ RetU (lnV ps b z) H Q
theorem scLkn : FnScope nLkn ["_law_plain_here", "_law_first", "_law_losses_so"] (defScope sLkn) := ⟨rfl, rfl, rfl, by decide +kernel, rfl, by decide +kernel, by decide +kernel⟩
theorem ok_Lkn {f : Addr} {fd : FuncData} (F : Fun K "_law_known" "_law_known" sLkn f fd) (T : Glb mg) (S : GlbS mg) (I : GlbE mg) (GE : Gfn P w K mg base 1 "_law_even" ["_law_vector", "_law_mask"] spEvn) : FnOk P w K mg base CX0 2 f fd ["_law_plain_here", "_law_first", "_law_losses_so"] spLkn := by
  obtain ⟨fE, fdE, GE, kE, bE, gE⟩ := GE
  refine F.ok scLkn (fun vs H Q E h => ?_) (fun cdv A outer s H vs Q E hr h => ?_)
  · obtain ⟨a, av, xs, ps, b, z, rfl, _⟩ := h
    rfl
  · obtain ⟨a, av, xs, ps, b, z, rfl, ha, row, ok, hb, hz, l10, k⟩ := h
    refine ⟨_, (pss_cons (ps_par (i := 3) (j := 4) rfl scLkn.nd rfl rfl (by decide) rfl rfl (pa_cons (pe_lst (pa_cons pe_int pa_nil)) (pa_cons (pe_lc (te := tC .non) (own := [("_law_slot", 6)]) (g := gName 6) rfl scLkn.nd (pi_str (pv 2)) (blkOk_by (own := [("_law_slot", 6)]) (N := nLkn) (sc := defScope sLkn) (by decide +kernel)) (fun _ _ _ _ _ => pg_name (i := 6) scLkn.nd rfl (Or.inl rfl)) (fun _ _ _ _ _ => pts_nil) (fun _ _ _ _ _ => pe_non)) pa_nil)) (by rfl))
      (pss_cons (ps_for PassesOwn.never rfl (EnS.pi_enumS (by rfl) I.enum (pa_cons (pv 2) pa_nil)) (pg_tup rfl (pgs_cons (pg_name (i := 5) scLkn.nd rfl (.inr rfl)) (pgs_cons (pg_name (i := 6) scLkn.nd rfl (.inl rfl)) pgs_nil)))
        (pss_cons (ps_asg (pe_ix (show IxR _ (rIxL K) from ix_list) (pv 0) (pe_op op_mod (pe_callTy call_int1 (by rfl) T.int (by decide +kernel) (pa_cons (pe_op op_add (pv 1) (pv 5)) pa_nil)) (pe_callB call_len_seq (by rfl) S.len PySem.boot_len (pa_cons (pv 0) pa_nil))) (fun _ _ => rfl)) (pg_tup rfl (pgs_cons (pg_name (i := 7) scLkn.nd rfl (.inl rfl)) (pgs_cons (pg_name (i := 8) scLkn.nd rfl (.inl rfl)) pgs_nil))))
      (pss_cut (ps_if (PW.pt (pw_and (pt_cmpR op_eq (pv 6) pe_str (nomark _)) (pw_and1 (pt_not (pt_val (pv 7)))))) (pss_one (ps_set (i := 3) scLkn.nd rfl (.inl rfl) (pe_op op_cat (pv 3) (pe_lc (te := tOp (rI0 fun i j => .int (Builtin.bitOr i j)) (tVar 13) (tOp rShl1 (tC (.int 1)) (tVar 5))) (own := [("_law_vector", 13)]) (g := gName 13) rfl scLkn.nd (pi_list (pv 3)) (blkOk_by (own := [("_law_vector", 13)]) (N := nLkn) (sc := defScope sLkn) (by decide +kernel)) (fun _ _ _ _ _ => pg_name (i := 13) scLkn.nd rfl (Or.inl rfl)) (fun _ _ _ _ _ => pts_nil) (fun _ _ _ _ _ => pe_op op_or (pv 13) (pe_op op_oneShl pe_int (pv 5))))))) pss_nil)
      (pss_cut (ps_if (PW.pt (pw_and (pt_cmpR op_eq (pv 6) pe_str (nomark _)) (pw_and1 (pt_not (pt_val (pv 7)))))) (pss_one (ps_asg (pv 5) (pg_sub (pv 4) (pv 5) set_list))) pss_nil)
      (pss_cut (ps_if (pt_cmpR op_eq (pv 6) pe_str (nomark _))
            (pss_one (ps_for PassesOwn.never rfl (pi_list (pv 8)) (pg_name (i := 9) scLkn.nd rfl (.inl rfl))
              (pss_cons (ps_set (i := 10) scLkn.nd rfl (.inr rfl) (pe_callB (cr_sum rfl) (by rfl) I.sum (by decide +kernel) (pa_cons (pe_lc (te := tOp rShl1 (tC (.int 1)) (tOp (rI0 fun i j => .int (i - j)) (tVar 5) (tVar 14))) (own := [("_law_age", 14)]) (g := gName 14) rfl scLkn.nd (pi_tup (pv 9)) (blkOk_by (own := [("_law_age", 14)]) (N := nLkn) (sc := defScope sLkn) (by decide +kernel)) (fun _ _ _ _ _ => pg_name (i := 14) scLkn.nd rfl (Or.inl rfl)) (fun _ _ _ _ _ => pts_one (pt_cmpR op_le (pv 14) (pv 5) (nomark _))) (fun _ _ _ _ _ => pe_op op_oneShl pe_int (pe_op op_sub (pv 5) (pv 14)))) pa_nil)))
      (pss_one (ps_setLc (te := tVar 13) (i := 3) (own := [("_law_vector", 13)]) (g := gName 13) rfl scLkn.nd rfl (by rfl) (by rfl) (pi_list (pv 3)) (blkOk_by (own := [("_law_vector", 13)]) (N := nLkn) (sc := defScope sLkn) (by decide +kernel)) (fun _ _ _ _ _ => pg_name (i := 13) scLkn.nd rfl (Or.inl rfl)) (fun _ _ _ _ _ => pts_one (pt_val (pe_call GE hr (by rfl) gE kE bE .nil pass0 (pa_cons (pv 13) (pa_cons (pv 10) pa_nil))))) (fun _ _ _ _ _ => pv 13)))))) pss_nil)
      (pss_one (ps_for PassesOwn.never rfl (pi_range1 (by rfl) S.range (pa_cons (pe_op op_add (pv 5) pe_int) pa_nil)) (pg_name (i := 11) scLkn.nd rfl (.inr rfl))
            (pss_cons (ps_set (i := 12) scLkn.nd rfl (.inl rfl) (pe_and (pe_cmpR op_eq (pe_ix (show IxR _ rIxS from ix_str) (pv 2) (pv 11) (fun _ _ => rfl)) pe_str (nomark _)) (pe_one (pe_not (pe_ix (show IxR _ (rIxT K) from ix_tup) (pe_ix (show IxR _ (rIxL K) from ix_list) (pv 0) (pe_op op_mod (pe_callTy call_int1 (by rfl) T.int (by decide +kernel) (pa_cons (pe_op op_add (pv 1) (pv 11)) pa_nil)) (pe_callB call_len_seq (by rfl) S.len PySem.boot_len (pa_cons (pv 0) pa_nil))) (fun _ _ => rfl)) pe_int (fun _ _ => rfl))))))
      (pss_one (ps_if (PW.pt (pw_and (pt_val (pv 12)) (pw_and (pt_cmpR op_isN1 (pe_ix (show IxR _ (rIxL K) from ix_list) (pv 4) (pv 11) (fun _ _ => rfl)) pe_non (nomark _)) (pw_and1 (pt_cmpR (op_eqD hr.units) (pe_lc (te := tVar 13) (own := [("_law_vector", 13)]) (g := gName 13) rfl scLkn.nd (pi_list (pv 3)) (blkOk_by (own := [("_law_vector", 13)]) (N := nLkn) (sc := defScope sLkn) (by decide +kernel)) (fun _ _ _ _ _ => pg_name (i := 13) scLkn.nd rfl (Or.inl rfl))
                  (fun _ _ _ _ _ => pts_one (pt_cmpR op_eq (pe_op op_and (pe_op op_shr (pv 13) (pv 11)) pe_int) pe_int (nomark _))) (fun _ _ _ _ _ => pv 13)) (pe_lst pa_nil) (by with_unfolding_all rfl))))))
                (pss_one (ps_asg (pv 5) (pg_sub (pv 4) (pv 11) set_list))) pss_nil))))))))))
      (pss_one (ps_ret (pe_tupleOf (by rfl) S.tuple (pv 4)))))), ?_⟩
    have l1 := ok.1
    have l3 := ok.2.1
    generalize hpl : (fun n : Nat => cyc ps ((b : Int) + (n : Int))) = pl at *
    have plE : ∀ n : Nat, pl n = cyc ps ((b : Int) + (n : Int)) := fun n => by rw [← hpl]
    generalize hkp : keptAt z = kp at *
    have kpE : ∀ {n c : Nat}, z.cps[n]? = some c → kp n = (some c == some 46) := fun {n c} hc => by
      rw [← hkp]
      unfold keptAt
      rw [Array.getElem?_toList, hc]
    have chE : ∀ {n c : Nat}, z.cps[n]? = some c → c = 46 ∨ c = 120 := fun {n c} hc => hz c (by simpa using Array.mem_of_getElem? hc)
    have sz : z.cps.size = z.length := rfl
    have c0 := el_lcS (σ := [some (.ref a), some (.int (b : Int)), some (.str z), none, none, none, none, none, none, none, none, none, none, none, none]) (te := tC .non) (t := tYes) (tl := tVar 2) (j := 6) (vs := [6]) (fun _ => true) (fun _ => V.non) (ev_var rfl) (by omega) (fun _ => rfl) (fun _ _ _ _ _ => et_none) (fun _ _ _ _ _ _ => ev_c) (H := H)
    rw [given_all] at c0
    refine q_par (cons_i (el_lst (σ := [some (.ref a), some (.int (b : Int)), some (.str z), none, none, none, none, none, none, none, none, none, none, none, none]) (H := H) (vs := vN (sst pl kp 0)) (ea_cons ev_c ea_nil) (by show 1 ≤ 100000; decide) H (Ex.refl H) _ fun S0 H1 hS e1 h1 => ?_))
    refine cons_i (c0 H1 e1 _ fun F0 H2 hF e2 h2 => ?_)
    refine ⟨_, _, rfl, ?_⟩
    have FH := fresh_back e1 hF
    refine q_forES (z := z) (ea_cons (ev_var rfl) ea_nil) (fun n σ' H' => ∃ (S : Addr) (x5 x6 x7 x8 x9 x10 x11 x12 : Option V), σ' = [some (.ref a), some (.int (b : Int)), some (.str z), some (.ref S), some (.ref F0), x5, x6, x7, x8, x9, x10, x11, x12, none, none] ∧ Ex H H' ∧ S ≠ F0 ∧
        H' F0 = some (.lst ((List.range z.length).map fun r => kO (lst pl kp n r))) ∧ H' S = some (.lst (vN (sst pl kp n))))
      (fun H3 e3 => ⟨S0, none, none, none, none, none, none, none, none, rfl, (e1.trans e2).trans e3, fun y => (by rw [y] at h1; rw [h1] at hF; cases hF), e3 _ _ h2, e3 _ _ (e2 _ _ h1)⟩) ?_ ?_
    · rintro n c σ' H3 T3 hc ⟨S, x5, x6, x7, x8, x9, x10, x11, x12, rfl, e3, SF, gF, gS⟩ hT3
      have nL : n < z.length := (Array.getElem?_eq_some_iff.mp hc).1
      refine ⟨T3, [.int (n : Nat), .str ⟨#[c]⟩], rfl, st_of upd_same, rfl, _, _, rfl, _, _, rfl, rfl, ?_⟩
      have eN := Ex.new (o := .tup [.int (n : Nat), V.str ⟨#[c]⟩]) hT3
      have E4 := e3.trans eN
      replace gF := eN _ _ gF
      replace gS := eN _ _ gS
      generalize upd H3 T3 (.tup [.int (n : Nat), V.str ⟨#[c]⟩]) = H4 at E4 gF gS ⊢
      have lenE : ∀ {σ : L2.St} {H1 : Hp}, σ[0]? = some (some (.ref a)) → Ex H H1 → Ev (tCB (rLen K) (tCons (tVar 0) tNil)) σ H1 (.int (ps.length : Int)) := fun h0 e => ev_is (ev_cb (ea_cons (ev_var h0) ea_nil) (rc_lenQ (.inl (sq_of (e _ _ ha))))) (by rw [row.1])
      have at_ : ∀ {σ : L2.St} {H1 : Hp} {j m : Nat}, σ[0]? = some (some (.ref a)) → σ[1]? = some (some (.int (b : Int))) → σ[j]? = some (some (.int (m : Int))) → Ex H H1 → ∃ (t s : Addr) (ys : List V), Ev (tOp (rIxL K) (tVar 0) (tOp (rI (fun _ j => 0 < j) fun i j => .int (i % j)) (tCB (fun xs H Q => (∃ i, xs = [V.int i] ∧ Q (.int i) H) ∨ ∃ k, xs = [V.bl k] ∧ Q (.int (if k then 1 else 0)) H) (tCons (tOp (rI0 fun i j => .int (i + j)) (tVar 1) (tVar j)) tNil)) (tCB (rLen K) (tCons (tVar 0) tNil)))) σ H1 (.ref t) ∧ H1 t = some (.tup [.bl (pl m).1, .ref s]) ∧ H1 s = some (.lst ys) ∧ TRow H1 ys (pl m).2 := fun h0 h1 hj e => by
        rw [plE]
        exact ev_lcyc (ev_var h0) (ev_op (ev_cb (ea_cons (ev_op (ev_var h1) (ev_var hj) rv_I0) ea_nil) rc_int) (lenE h0 e) (rv_I (by omega))) (e _ _ ha) (row.mono e) (by omega)
      obtain ⟨t, r, ys, w1, w2, w3, w4⟩ := at_ (H1 := H) (σ := [some (.ref a), some (.int (b : Int)), some (.str z), some (.ref S), some (.ref F0), some (.int (n : Int)), some (.str ⟨#[c]⟩), x7, x8, x9, x10, x11, x12, none, none]) (j := 5) (m := n) rfl rfl rfl (Ex.refl H)
      refine w1 H4 E4 _ fun H5 e5 => ⟨t, [.bl (pl n).1, .ref r], rfl, st_of (e5 _ _ (E4 _ _ w2)), rfl, _, _, rfl, _, _, rfl, rfl, ?_⟩
      have E5 := E4.trans e5
      have n420 : n ≤ 420 := by omega
      have sLen : (sst pl kp n).length ≤ 1024 := Nat.le_trans (sst_len n) (Nat.pow_le_pow_right (by decide) (by omega : n ≤ 10))
      have slx : ∀ {σ : L2.St} {H1 : Hp}, σ[6]? = some (some (.str ⟨#[c]⟩)) → Ev (tOp rEq (tVar 6) (tC (.str "x"))) σ H1 (.bl (!kp n)) := fun h => ev_is (ev_op (ev_var h) ev_c (rv_eq rfl)) (congrArg V.bl (by rw [ch_x (chE hc), kpE hc]))
      have sld : ∀ {σ : L2.St} {H1 : Hp}, σ[6]? = some (some (.str ⟨#[c]⟩)) → Ev (tOp rEq (tVar 6) (tC (.str "."))) σ H1 (.bl (kp n)) := fun h => ev_is (ev_op (ev_var h) ev_c (rv_eq rfl)) (congrArg V.bl (by rw [ch_d (chE hc), kpE hc]))
      refine q_cut (M := fun σ' H' => ∃ S' : Addr, σ' = [some (.ref a), some (.int (b : Int)), some (.str z), some (.ref S'), some (.ref F0), some (.int (n : Int)), some (.str ⟨#[c]⟩), some (.bl (pl n).1), some (.ref r), x9, x10, x11, x12, none, none] ∧ Ex H5 H' ∧ S' ≠ F0 ∧ H' S' = some (.lst (vN (if kp n = true then sst pl kp n else if (pl n).1 = true then sst pl kp n else sst pl kp n ++ (sst pl kp n).map fun v => v ||| 2 ^ n)))) ?_ ?_
      · refine s_when (et_and (et_test (slx rfl)) fun _ => et_not (et_B (ev_var rfl))) (fun hb H6 e6 => ?_) (fun hb H6 e6 => ?_)
        · have hb2 := hb
          simp only [Bool.and_eq_true, Bool.not_eq_true'] at hb2
          have k0 : kp n = false := hb2.1
          have m0 : (pl n).1 = false := hb2.2
          have gS6 := e6 _ _ (e5 _ _ gS)
          have cc := el_nums (K := K) (σ := [some (.ref a), some (.int (b : Int)), some (.str z), some (.ref S), some (.ref F0), some (.int (n : Int)), some (.str ⟨#[c]⟩), some (.bl (pl n).1), some (.ref r), x9, x10, x11, x12, none, none]) (H := H6) (t := tYes) (te := tOp (rI0 fun i j => .int (Builtin.bitOr i j)) (tVar 13) (tOp rShl1 (tC (.int 1)) (tVar 5))) (tl := tVar 3) (a := S) (l := sst pl kp n) (j := 13) (vs := [13]) (fun _ => true) (fun v => v ||| 2 ^ n) (ev_var rfl) (sq_of gS6) (by omega) (fun _ => rfl) (fun _ _ _ _ => et_none) (fun v hv H7 e7 _ => ev_or (ev_var rfl) (ev_shl1 (ev_var rfl) (by omega)))
          rw [filter_yes] at cc
          refine s_asgL (el_catV (ev_var rfl) gS6 cc (by rw [List.length_map]; omega)) fun S' H7 hS' e7 h7 => ⟨S', rfl, e6.trans e7, fun y => (by rw [y, e6 _ _ (e5 _ _ gF)] at hS'; cases hS'), ?_⟩
          rw [k0, m0, if_neg Bool.false_ne_true, if_neg Bool.false_ne_true]
          exact h7
        · refine ⟨S, rfl, e6, SF, ?_⟩
          rw [e6 _ _ (e5 _ _ gS)]
          congr 3
          cases h : kp n with
          | true => rw [if_pos rfl]
          | false =>
            rw [if_neg Bool.false_ne_true]
            cases h' : (pl n).1 with
            | true => rw [if_pos rfl]
            | false => rw [h, h'] at hb; cases hb
      rintro σ' H6 ⟨S1, rfl, e6, SF1, gS1⟩
      have gF6 := e6 _ _ (e5 _ _ gF)
      have E6 := E5.trans e6
      refine q_cut (M := fun σ' H' => σ' = [some (.ref a), some (.int (b : Int)), some (.str z), some (.ref S1), some (.ref F0), some (.int (n : Int)), some (.str ⟨#[c]⟩), some (.bl (pl n).1), some (.ref r), x9, x10, x11, x12, none, none] ∧ Ex H H' ∧ H' F0 = some (.lst ((List.range z.length).map fun r => kO (lg pl kp n r))) ∧ H' S1 = some (.lst (vN (if kp n = true then sst pl kp n else if (pl n).1 = true then sst pl kp n else sst pl kp n ++ (sst pl kp n).map fun v => v ||| 2 ^ n)))) ?_ ?_
      · refine s_when (et_and (et_test (sld rfl)) fun _ => et_not (et_B (ev_var rfl))) (fun hb H7 e7 => ?_) (fun hb H7 e7 => ?_)
        · have hb2 := hb
          simp only [Bool.and_eq_true, Bool.not_eq_true'] at hb2
          have k1 : kp n = true := hb2.1
          have m0 : (pl n).1 = false := hb2.2
          refine s_setL (j := n) (v := .int (n : Int)) (e7 _ _ gF6) (ev_var rfl) (ev_var rfl) (ev_var rfl) (by rw [List.length_map, List.length_range]; omega) fun H8 e8 => ⟨rfl, Ex.mut ((E6.trans e7).trans e8) FH, ?_, ?_⟩
          · rw [upd_same, range_set]
            congr 2
            refine List.map_congr_left fun q _ => ?_
            unfold lg
            by_cases c1 : q = n
            · rw [if_pos c1, if_pos ⟨c1, k1, m0⟩]
              rfl
            · rw [if_neg c1, if_neg fun y => c1 y.1]
          · rw [upd_ne SF1]
            exact e8 _ _ (e7 _ _ gS1)
        · refine ⟨rfl, E6.trans e7, ?_, e7 _ _ gS1⟩
          rw [e7 _ _ gF6]
          congr 2
          refine List.map_congr_left fun q _ => ?_
          unfold lg
          rw [if_neg]
          rintro ⟨_, h2, h3⟩
          rw [h2, h3] at hb
          cases hb
      rintro σ' H7 ⟨rfl, E7, gF7, gS7⟩
      have gr := E7 _ _ w3
      have row7 := w4.mono E7
      refine q_cut (M := fun σ' H' => ∃ (S' : Addr) (x9 x10 : Option V), σ' = [some (.ref a), some (.int (b : Int)), some (.str z), some (.ref S'), some (.ref F0), some (.int (n : Int)), some (.str ⟨#[c]⟩), some (.bl (pl n).1), some (.ref r), x9, x10, x11, x12, none, none] ∧ Ex H7 H' ∧ S' ≠ F0 ∧ H' S' = some (.lst (vN (sst pl kp (n + 1))))) ?_ ?_
      · refine s_when (et_test (sld rfl)) (fun hb H8 e8 => ?_) (fun hb H8 e8 => ?_)
        · have k1 : kp n = true := hb
          rw [k1, if_pos rfl] at gS7
          have sE : sst pl kp (n + 1) = (pl n).2.foldl (fun l ages => l.filter fun v => !pr (v &&& msk n ages)) (sst pl kp n) := by
            show (if kp n then _ else _) = _
            rw [k1, if_pos rfl]
          refine s_forL (K := K) (a := r) (xs := ys) (ev_var rfl) (sq_of (e8 _ _ gr)) (fun i σ' H' => ∃ (S' : Addr) (x9 x10 : Option V), σ' = [some (.ref a), some (.int (b : Int)), some (.str z), some (.ref S'), some (.ref F0), some (.int (n : Int)), some (.str ⟨#[c]⟩), some (.bl (pl n).1), some (.ref r), x9, x10, x11, x12, none, none] ∧ Ex H7 H' ∧ S' ≠ F0 ∧ H' S' = some (.lst (vN (((pl n).2.take i).foldl (fun l ages => l.filter fun v => !pr (v &&& msk n ages)) (sst pl kp n)))))
            (fun H9 e9 => ⟨S1, x9, x10, rfl, e8.trans e9, SF1, e9 _ _ (e8 _ _ gS7)⟩) (fun _ _ H' _ ⟨_, _, _, _, e, _⟩ => sq_of (e _ _ gr)) ?_ ?_
          · rintro i x σ' H9 hx ⟨S', y9, y10, rfl, e9, SF', gS'⟩
            obtain ⟨g, l, hl, rfl, hg⟩ := row7.at hx
            have hg9 := e9 _ _ hg
            have lin := List.mem_of_getElem? hl
            have l4 : l.length ≤ 1000 := by
              obtain ⟨k', k1', k2', k3'⟩ := cyc_at (ps := ps) (by omega) ((b : Int) + (n : Int))
              have := (eight_ok l ((ok.2.2.2.2 _ (List.mem_of_getElem? k3')).2.2 l (by rw [← plE]; exact lin))).2.1
              omega
            have ml := sieve_len ((pl n).2.take i) (sst pl kp n) n
            have mlt : ∀ v ∈ ((pl n).2.take i).foldl (fun l ages => l.filter fun v => !pr (v &&& msk n ages)) (sst pl kp n), v < 2 ^ 420 := fun v hv => Nat.lt_of_lt_of_le (sst_lt n420 v ((sieve _ _ _ _).mp hv).1) (Nat.pow_le_pow_right (by decide) n420)
            refine q_asg (ev_sumN (el_msk (i := 5) (j := 14) (n := n) (l := l) (etu_var rfl (st_of hg9)) l4 n420 (fun _ => rfl) (fun _ => rfl) (fun _ => rfl))) fun HA eA => ?_
            have cc := el_nums (K := K) (σ := [some (.ref a), some (.int (b : Int)), some (.str z), some (.ref S'), some (.ref F0), some (.int (n : Int)), some (.str ⟨#[c]⟩), some (.bl (pl n).1), some (.ref r), some (.ref g), some (.int ((msk n l : Nat) : Int)), x11, x12, none, none]) (H := HA) (t := tB (tCall spEvn [] E0 (tCons (tVar 13) (tCons (tVar 10) tNil)))) (te := tVar 13) (tl := tVar 3) (a := S') (l := ((pl n).2.take i).foldl (fun l ages => l.filter fun v => !pr (v &&& msk n ages)) (sst pl kp n)) (j := 13) (vs := [13]) (fun v => !pr (v &&& msk n l)) (fun v => v) (ev_var rfl) (sq_of (eA _ _ gS')) (by omega) (fun _ => rfl)
              (fun v hv HB eB => et_B (ev_call (z := .bl (!pr (v &&& msk n l))) (ea_cons (ev_var rfl) (ea_cons (ev_var rfl) ea_nil)) fun HC eC QC qC EC => ⟨v, msk n l, rfl, mlt v hv, qC⟩)) (fun v hv HB eB _ => ev_var rfl)
            rw [map_idN] at cc
            refine s_asgL cc fun S'' HB hS'' eB gS'' => ⟨S'', _, _, rfl, (e9.trans eA).trans eB, fun y => (by rw [y, eA _ _ (e9 _ _ gF7)] at hS''; cases hS''), ?_⟩
            rw [List.take_add_one, hl, List.foldl_append]
            exact gS''
          · rintro σ' H9 ⟨S', y9, y10, rfl, e9, SF', gS'⟩
            rw [row7.1, List.take_length, ← sE] at gS'
            exact ⟨S', y9, y10, rfl, e9, SF', gS'⟩
        · have k0 : kp n = false := hb
          refine ⟨S1, x9, x10, rfl, e8, SF1, ?_⟩
          rw [e8 _ _ gS7]
          congr 3
          show _ = (if kp n then _ else if (pl n).1 then sst pl kp n else sst pl kp n ++ (sst pl kp n).map fun v => v ||| 2 ^ n)
          rw [k0]
          rfl
      rintro σ' H8 ⟨S2, y9, y10, rfl, e8, SF2, gS8⟩
      have gF8 := e8 _ _ gF7
      have E8 := E7.trans e8
      have sLen2 : (sst pl kp (n + 1)).length ≤ 2048 := Nat.le_trans (sst_len (n + 1)) (Nat.pow_le_pow_right (by decide) (by omega : n + 1 ≤ 11))
      refine s_forR1 (j := 11) (n := ((n + 1 : Nat) : Int)) (ea_cons (ev_is (ev_op (ev_var rfl) ev_c rv_I0) (by congr 1)) ea_nil) (by omega) (fun i σ' H' => ∃ (x11 x12 : Option V), σ' = [some (.ref a), some (.int (b : Int)), some (.str z), some (.ref S2), some (.ref F0), some (.int (n : Int)), some (.str ⟨#[c]⟩), some (.bl (pl n).1), some (.ref r), y9, y10, x11, x12, none, none] ∧ Ex H H' ∧ H' S2 = some (.lst (vN (sst pl kp (n + 1)))) ∧ H' F0 = some (.lst ((List.range z.length).map fun r => kO (if r < i then lst pl kp (n + 1) r else lg pl kp n r))))
        (fun H9 e9 => ⟨x11, x12, rfl, E8.trans e9, e9 _ _ gS8, by rw [e9 _ _ gF8]; congr 2⟩) ?_ ?_
      · rintro i σ' H9 hi ⟨y11, y12, rfl, E9, gS9, gF9⟩
        have i10 : i < z.length := by omega
        have hci : z.cps[i]? = some z.cps[i] := Array.getElem?_eq_getElem i10
        generalize z.cps[i] = ci at hci
        have ixz : atI z.cps.toList (i : Int) = some ci := atI_nat (by rw [Array.getElem?_toList]; exact hci)
        obtain ⟨t', r', ys', v1, v2, v3, v4⟩ := at_ (σ := [some (.ref a), some (.int (b : Int)), some (.str z), some (.ref S2), some (.ref F0), some (.int (n : Int)), some (.str ⟨#[c]⟩), some (.bl (pl n).1), some (.ref r), y9, y10, some (.int (i : Int)), y12, none, none]) (j := 11) (m := i) rfl rfl rfl E9
        refine q_asg (v := .bl (!kp i && !(pl i).1)) (ev_andV (ev_is (ev_op (ev_op (ev_var rfl) (ev_var rfl) (rv_ixS (by omega) ixz)) ev_c (rv_eq rfl)) (congrArg V.bl (by rw [ch_x (chE hci), kpE hci]))) fun _ => ev_notV (ev_op v1 ev_c (rv_ixT (st_of v2) (atI_nat (j := 0) rfl)))) fun HA eA => ?_
        have gFA := eA _ _ gF9
        have gSA := eA _ _ gS9
        have cc := el_nums (K := K) (σ := [some (.ref a), some (.int (b : Int)), some (.str z), some (.ref S2), some (.ref F0), some (.int (n : Int)), some (.str ⟨#[c]⟩), some (.bl (pl n).1), some (.ref r), y9, y10, some (.int (i : Int)), some (.bl (!kp i && !(pl i).1)), none, none]) (H := HA) (t := tTest (tOp rEq (tOp (rI0 fun i j => .int (Builtin.bitAnd i j)) (tOp (rI (fun _ j => 0 ≤ j) fun i j => .int (i / 2 ^ j.toNat)) (tVar 13) (tVar 11)) (tC (.int 1))) (tC (.int 1)))) (te := tVar 13) (tl := tVar 3) (a := S2) (l := sst pl kp (n + 1)) (j := 13) (vs := [13]) (fun v => v.testBit i) (fun v => v) (ev_var rfl) (sq_of gSA) (by omega) (fun _ => rfl)
          (fun v hv HB eB => et_test (ev_is (ev_op (ev_bit (ev_var rfl) (ev_var rfl)) ev_c (rv_eq rfl)) (congrArg V.bl (by cases v.testBit i <;> decide)))) (fun v hv HB eB _ => ev_var rfl)
        rw [map_idN] at cc
        have now : ((List.range z.length).map fun r => kO (if r < i then lst pl kp (n + 1) r else lg pl kp n r))[i]? = some (kO (lg pl kp n i)) := by
          rw [List.getElem?_map, List.getElem?_range i10]
          show some (kO (if i < i then _ else _)) = _
          rw [if_neg (Nat.lt_irrefl i)]
        refine s_when (b := (!kp i && !(pl i).1) && ((lg pl kp n i).isNone && decide ((sst pl kp (n + 1)).filter (fun v => v.testBit i) = []))) (et_and (et_B (ev_var rfl)) fun _ => et_and (et_is (et_test (ev_op (ev_op (ev_var rfl) (ev_var rfl) (rv_ixL (sq_of gFA) (atI_nat now))) ev_c (fun HB eB QB qB => ⟨rfl, qB HB (Ex.refl HB)⟩))) (kO_none _)) fun _ => et_is (et_test (ev_eqL (xs := zI ((sst pl kp (n + 1)).filter fun v => v.testBit i)) (ys := []) cc el_nil)) (decide_eq_decide.mpr ⟨fun y => List.map_eq_nil_iff.mp y, fun y => by rw [y]; rfl⟩)) (fun hb HB eB => ?_) (fun hb HB eB => ?_)
        · simp only [Bool.and_eq_true, decide_eq_true_iff] at hb
          have cond := lst_step (pl := pl) (kp := kp) n i (by omega)
          rw [if_pos ⟨by rw [hb.1.1, hb.1.2]; rfl, hb.2.1, hb.2.2⟩] at cond
          refine s_setL (j := i) (v := .int (n : Int)) (eB _ _ gFA) (ev_var rfl) (ev_var rfl) (ev_var rfl) (by rw [List.length_map, List.length_range]; omega) fun HC eC => ⟨_, _, rfl, Ex.mut (((E9.trans eA).trans eB).trans eC) FH, by rw [upd_ne SF2]; exact eC _ _ (eB _ _ gSA), ?_⟩
          rw [upd_same, range_set]
          congr 2
          refine List.map_congr_left fun q _ => ?_
          by_cases c1 : q = i
          · rw [if_pos c1, c1, if_pos (Nat.lt_succ_self i), cond]
            rfl
          · rw [if_neg c1]
            congr 1
            by_cases c2 : q < i
            · rw [if_pos c2, if_pos (by omega)]
            · rw [if_neg c2, if_neg (by omega)]
        · have cond := lst_step (pl := pl) (kp := kp) n i (by omega)
          rw [if_neg (fun y => by rw [y.1, y.2.1, decide_eq_true y.2.2] at hb; cases hb)] at cond
          refine ⟨_, _, rfl, (E9.trans eA).trans eB, eB _ _ gSA, ?_⟩
          rw [eB _ _ gFA]
          congr 2
          refine List.map_congr_left fun q _ => ?_
          congr 1
          by_cases c1 : q = i
          · rw [c1, if_neg (Nat.lt_irrefl i), if_pos (Nat.lt_succ_self i), cond]
          · by_cases c2 : q < i
            · rw [if_pos c2, if_pos (by omega)]
            · rw [if_neg c2, if_neg (by omega)]
      · rintro σ' H9 ⟨y11, y12, rfl, E9, gS9, gF9⟩
        rw [Int.toNat_natCast] at gF9
        refine ⟨S2, _, _, _, _, _, _, _, _, rfl, E9, SF2, ?_, gS9⟩
        rw [gF9]
        congr 2
        refine List.map_congr_left fun q _ => ?_
        congr 1
        by_cases c2 : q < n + 1
        · rw [if_pos c2]
        · rw [if_neg c2, lst_late (by omega)]
    · rintro σ' H3 ⟨S, x5, x6, x7, x8, x9, x10, x11, x12, rfl, e3, SF, gF, gS⟩
      refine s_retR ⟨_, rfl, .inl ⟨F0, _, rfl, sq_of gF, fun r hr' => k r _ (fresh_back e3 hr') (e3.trans (Ex.new hr')) ?_⟩⟩
      rw [upd_same]
      subst hpl hkp
      rfl
end
end K19
namespace Kn
open K19
section
variable {pl pl' : Nat → Ph} {kp kp' : Nat → Bool}
theorem kst_lt : ∀ {n r v : Nat}, kst pl kp n r = some v → v < n
  | 0, r, v, h => by cases h
  | n + 1, r, v, h => by
    have h : (if (decide (r ≤ n) && (!(pl r).1 && ((kst pl kp n r).isNone && !(orv (vst pl kp (n + 1))).testBit r))) = true then some n else kst pl kp n r) = some v := h
    split at h
    · have := Option.some.inj h
      omega
    · have := kst_lt h
      omega
end
end Kn
namespace K19
open PySem L2 Evl Gr StX EnT MkS StK ClX ClK RdX Kn
/-! ### when rows are known, as lists -/
def kD : Option Nat → PyData
  | none => .none
  | some n => .int (n : Int)
abbrev knP (l : List (Option Nat)) : PyData := .tuple (l.map kD)
def knL (ps : List Ph) (b : Nat) (z : Str) : List (Option Nat) := (List.range z.length).map fun r => kst (fun n => cyc ps ((b : Int) + (n : Int))) (keptAt z) z.length r
def lnL (ps : List Ph) (b : Nat) (z : Str) : List (Option Nat) := (List.range z.length).map fun r => lst (fun n => cyc ps ((b : Int) + (n : Int))) (keptAt z) z.length r
theorem knV_is (ps : List Ph) (b : Nat) (z : Str) : knV ps b z = (knL ps b z).map kO := by unfold knV knL; rw [List.map_map]; rfl
theorem lnV_is (ps : List Ph) (b : Nat) (z : Str) : lnV ps b z = (lnL ps b z).map kO := by unfold lnV lnL; rw [List.map_map]; rfl
theorem sim_same {ps qs : List Ph} (h : Sim ps qs) (h0 : 0 < ps.length) (b : Nat) : ∀ n : Nat, (cyc qs ((b : Int) + (n : Int))).1 = (cyc ps ((b : Int) + (n : Int))).1 ∧ ∀ a, a ∈ (cyc qs ((b : Int) + (n : Int))).2 ↔ a ∈ (cyc ps ((b : Int) + (n : Int))).2 := fun n =>
  ⟨(h.cyc h0 _).1, fun a => (h.cyc h0 _).2.mem_iff⟩
theorem kn_same {ps qs : List Ph} (h : Sim ps qs) (h0 : 0 < ps.length) (b : Nat) (z : Str) (hz : z.length ≤ 420) : knL qs b z = lnL ps b z := by
  unfold knL lnL
  exact List.map_congr_left fun r _ => (lst_is (pl := fun n => cyc qs ((b : Int) + (n : Int))) (pl' := fun n => cyc ps ((b : Int) + (n : Int))) (kp := keptAt z) (sim_same h h0 b) z.length hz r).symm
theorem kept_app {z y : Str} {i : Nat} (h : i < z.length) : keptAt (z ++ y) i = keptAt z i := by
  unfold keptAt
  have e : (z ++ y).cps.toList = z.cps.toList ++ y.cps.toList := TL.tl_append z y
  rw [e, List.getElem?_append_left (by rw [Array.length_toList]; exact h)]
/-- longer losses tell the same of earlier slots -/
theorem kn_more {ps : List Ph} {b : Nat} {z : Str} {i v : Nat} (h : (knL ps b z)[i]? = some (some v)) : (knL ps b (z ++ "."))[i]? = some (some v) := by
  have ls : (z ++ ("." : Str)).length = z.length + 1 := by
    have : (z ++ ("." : Str)).cps.toList.length = z.cps.toList.length + 1 := by rw [show (z ++ ("." : Str)).cps.toList = z.cps.toList ++ [46] from TL.tl_append z "."]; simp
    rw [Array.length_toList, Array.length_toList] at this
    exact this
  have lt := (List.getElem?_eq_some_iff.mp h).1
  unfold knL at h lt ⊢
  rw [List.length_map, List.length_range] at lt
  rw [List.getElem?_map, List.getElem?_range lt] at h
  rw [ls, List.getElem?_map, List.getElem?_range (by omega)]
  have h1 : kst (fun n => cyc ps ((b : Int) + (n : Int))) (keptAt z) z.length i = some v := Option.some.inj h
  rw [kst_same (kp' := keptAt (z ++ ".")) z.length (fun j hj => (kept_app hj).symm) i] at h1
  show some (kst _ _ (z.length + 1) i) = _
  rw [kst_on h1 (Nat.le_succ _)]
def Few (l : List (Option Nat)) : Prop := l.length ≤ 400 ∧ ∀ n, some n ∈ l → n < 10 ^ 12
theorem kn_few {ps : List Ph} {b : Nat} {z : Str} (hz : z.length ≤ 400) : Few (knL ps b z) := by
  refine ⟨by unfold knL; rw [List.length_map, List.length_range]; exact hz, fun n hn => ?_⟩
  obtain ⟨r, _, hr⟩ := List.mem_map.mp hn
  have := kst_lt hr
  have : (400 : Nat) < 10 ^ 12 := by decide
  omega
theorem big12 {i : Int} (h : i.natAbs < 10 ^ 12) : i.natAbs.log2 < 40 := by
  rcases Nat.eq_zero_or_pos i.natAbs with z | z
  · rw [z]; decide
  · exact (Nat.log2_lt (by omega)).mpr (Nat.lt_trans h (by decide))
theorem dsAll_kn {K : PySem.W.Frag} {H : Hp} : ∀ l : List (Option Nat), DsAll K H (l.map kO) (l.map kD)
  | [] => .nil
  | none :: l => .cons .non (dsAll_kn l)
  | some n :: l => .cons (.int _) (dsAll_kn l)
theorem dpAll_kn {K : PySem.W.Frag} {H : Hp} : ∀ l : List (Option Nat), DpAll K H (l.map kO) (l.map kD)
  | [] => .nil
  | none :: l => .cons .non (dpAll_kn l)
  | some n :: l => .cons (.int _) (dpAll_kn l)
theorem kD_eqv (x y : Option Nat) : PyData.eqv (kD x) (kD y) = decide (x = y) := by
  cases x with
  | none => cases y <;> simp [kD, PyData.eqv]
  | some n =>
    cases y with
    | none => simp [kD, PyData.eqv]
    | some m =>
      simp only [kD, PyData.eqv]
      rw [Bool.eq_iff_iff, beq_iff_eq, decide_eq_true_iff]
      exact ⟨fun h => by congr 1; omega, fun h => by rw [Option.some.inj h]⟩
theorem kn_eqv (l m : List (Option Nat)) : PyData.eqv (knP l) (knP m) = decide (l = m) := by
  have := eqvAll_map kD kD_eqv l m
  simpa [PyData.eqv] using this
theorem kn_low (l : List (Option Nat)) : Low 1 (knP l) := low_tup (n := 0) fun d hd => by
  obtain ⟨o, _, rfl⟩ := List.mem_map.mp hd
  cases o with
  | none => exact low_non
  | some n => exact low_int _
theorem show_kn : ∀ {l : List (Option Nat)}, (∀ n, some n ∈ l → n < 10 ^ 12) → PyData.showableAll (l.map kD) = true
  | [], _ => by simp [PyData.showableAll]
  | none :: l, h => by simp [PyData.showableAll, PyData.showable, kD, show_kn fun n hn => h n (List.mem_cons_of_mem _ hn)]
  | some n :: l, h => by
    have a := big12 (i := (n : Int)) (by rw [Int.natAbs_natCast]; exact h n List.mem_cons_self)
    rw [Int.natAbs_natCast] at a
    simp [PyData.showableAll, PyData.showable, kD, show_kn fun n hn => h n (List.mem_cons_of_mem _ hn)]
    omega
theorem short_kn : ∀ {l : List (Option Nat)}, (∀ n, some n ∈ l → n < 10 ^ 12) → PyData.leavesShortAll 13 (l.map kD) = true
  | [], _ => by simp [PyData.leavesShortAll]
  | none :: l, h => by
    have : PyData.leavesShort 13 .none = true := by decide +kernel
    simp [PyData.leavesShortAll, kD, this, short_kn fun n hn => h n (List.mem_cons_of_mem _ hn)]
  | some n :: l, h => by
    have a : ((n : Int)).natAbs < 10 ^ 12 := by rw [Int.natAbs_natCast]; exact h n List.mem_cons_self
    simp [PyData.leavesShortAll, PyData.leavesShort, kD, PyData.shown_int_le a, short_kn fun n hn => h n (List.mem_cons_of_mem _ hn)]
theorem weight_kn : ∀ {l : List (Option Nat)}, (∀ n, some n ∈ l → n < 10 ^ 12) → PyData.weightAll (l.map kD) ≤ 41 * l.length
  | [], _ => by simp [PyData.weightAll]
  | none :: l, h => by
    have b := weight_kn fun n hn => h n (List.mem_cons_of_mem _ hn)
    simp only [List.map_cons, PyData.weightAll, PyData.weight, List.length_cons, kD]
    omega
  | some n :: l, h => by
    have a := big12 (i := (n : Int)) (by rw [Int.natAbs_natCast]; exact h n List.mem_cons_self)
    have b := weight_kn fun n hn => h n (List.mem_cons_of_mem _ hn)
    simp only [List.map_cons, PyData.weightAll, PyData.weight, List.length_cons, kD]
    split <;> omega
theorem depth_kn : ∀ l : List (Option Nat), PyData.depthAll (l.map kD) = 0
  | [] => by simp [PyData.depthAll]
  | none :: l => by simp [PyData.depthAll, PyData.depth, kD, depth_kn l]
  | some n :: l => by simp [PyData.depthAll, PyData.depth, kD, depth_kn l]
/-- repr of such a tuple -/
theorem repr_kn {K : PySem.W.Frag} {H : Hp} {r : Addr} {l : List (Option Nat)} {Q : VK} (hr : SqT K H r (l.map kO)) (few : Few l) (k : Q (.str (knP l).shown) H) : rRepr K [.ref r] H Q := by
  refine ⟨_, knP l, rfl, .tup hr (dsAll_kn l), ?_, ?_, ?_, k⟩
  · simp [PyData.showable, show_kn few.2]
  · simp [PyData.depth, depth_kn]
  · exact PyData.shown_fits (B := 13) (by decide) (by decide) (by simp [PyData.leavesShort, short_kn few.2]) (by
      have l1 := weight_kn few.2
      have l3 := few.1
      simp only [PyData.weight]
      omega)
/-! ### losses joined -/
def Sl (z : Str) : Prop := z = "." ∨ z = "x"
theorem joinL_nil' : ∀ (p : List Nat) (r : List (List Nat)), TL.joinL [] (p :: r) = p ++ TL.joinL [] r
  | p, [] => (List.append_nil p).symm
  | p, q :: r => rfl
theorem join_sl {zs : List Str} (h : ∀ z ∈ zs, Sl z) : LsOk (Txt.join "" zs) ∧ (Txt.join "" zs).length = zs.length := by
  have main : ∀ zs : List Str, (∀ z ∈ zs, Sl z) → (∀ c ∈ TL.joinL [] (zs.map TL.tl), c = 46 ∨ c = 120) ∧ (TL.joinL [] (zs.map TL.tl)).length = zs.length := fun zs => by
    induction zs with
    | nil => intro _; exact ⟨fun c hc => (by cases hc), rfl⟩
    | cons z zs ih =>
      intro h
      obtain ⟨h1, h2⟩ := ih fun y hy => h y (List.mem_cons_of_mem _ hy)
      rw [List.map_cons, joinL_nil']
      have tz : TL.tl z = [46] ∨ TL.tl z = [120] := by rcases h z List.mem_cons_self with rfl | rfl; exact .inl (by decide +kernel); exact .inr (by decide +kernel)
      rcases tz with e | e <;> rw [e] <;> refine ⟨fun c hc => ?_, by rw [List.length_append, h2, List.length_cons]; show 1 + zs.length = zs.length + 1; omega⟩
      · rcases List.mem_append.mp hc with y | y
        · exact .inl (List.mem_singleton.mp y)
        · exact h1 c y
      · rcases List.mem_append.mp hc with y | y
        · exact .inr (List.mem_singleton.mp y)
        · exact h1 c y
  obtain ⟨h1, h2⟩ := main zs h
  have e : TL.tl (Txt.join "" zs) = TL.joinL [] (zs.map TL.tl) := by
    rw [TL.join_eq, TL.tl_join]
    have : TL.tl ("" : Str) = [] := by decide +kernel
    rw [this]
  refine ⟨fun c hc => h1 c (by rw [← e]; exact hc), ?_⟩
  rw [TL.len_tl, e, h2]
theorem sum_one {zs : List Str} (h : ∀ z ∈ zs, Sl z) : (zs.map (·.length)).sum = zs.length := by
  induction zs with
  | nil => rfl
  | cons z zs ih =>
    rw [List.map_cons, List.sum_cons, ih fun y hy => h y (List.mem_cons_of_mem _ hy), List.length_cons]
    have : z.length = 1 := by rcases h z List.mem_cons_self with rfl | rfl <;> decide +kernel
    omega
section
variable {K : PySem.W.Frag} {CP C : Addr} {σ : L2.St} {H : Hp} {t : TA} {te tb tz ta : TE} {E : XK} {Q : VK}
/-- known_at(plan, begin, losses) -/
theorem eu_kn {o : Addr} {ps : List Ph} {b : Nat} {z : Str} (h : EvA t σ H [.ref o, .int (b : Int), .str z]) (at_ : PlAt K CP C H o ps) (hb : b < ps.length) (hz : LsOk z) (hl : z.length ≤ 400) : EvU (tCall (spKn K CP C) [] E t) σ H ((knL ps b z).map kO) := fun H1 e Q q =>
  h H1 e _ fun H2 e2 => ⟨o, ps, b, z, rfl, at_.mono (e.trans e2), hb, hz, hl, fun p H3 hp e3 h3 => q p H3 (fresh_back e2 hp) (e2.trans e3) (by rw [← knV_is]; exact h3)⟩
theorem eu_knP {P0 : List Ph} {b : Nat} {z : Str} (h : EvPl K CP C te σ H (fun ps => ps = P0)) (hb' : Ev tb σ H (.int (b : Int))) (hz' : Ev tz σ H (.str z)) (hb : b < P0.length) (hz : LsOk z) (hl : z.length ≤ 400) : EvU (tCall (spKn K CP C) [] E (tCons te (tCons tb (tCons tz tNil)))) σ H ((knL P0 b z).map kO) := fun H1 e Q q =>
  h H1 e _ fun o ps H2 e2 at_ hps => hb' H2 (e.trans e2) _ fun H3 e3 => hz' H3 ((e.trans e2).trans e3) _ fun H4 e4 => by
    subst hps
    exact ⟨o, ps, b, z, rfl, at_.mono (e3.trans e4), hb, hz, hl, fun p H5 hp e5 h5 => q p H5 (fresh_back ((e2.trans e3).trans e4) hp) (((e2.trans e3).trans e4).trans e5) (by rw [← knV_is]; exact h5)⟩
theorem ed_kn {l : List (Option Nat)} (h : EvU te σ H (l.map kO)) : EvD K te σ H (knP l) := fun H1 e Q q => h H1 e _ fun p H2 _ e2 hp => q _ H2 e2 (.tup (st_of hp) (dpAll_kn l))
theorem ev_neKn {l m : List (Option Nat)} (ha : EvU ta σ H (l.map kO)) (hb : EvU tb σ H (m.map kO)) : Ev (tOp (rNeD K) ta tb) σ H (.bl (!decide (l = m))) := by
  have := ev_neD (ed_kn (K := K) ha) (ed_kn hb) (low_shaped (kn_low l) (by decide)) (low_shaped (kn_low m) (by decide))
  rwa [kn_eqv] at this
theorem ev_eqKn {l m : List (Option Nat)} (ha : EvU ta σ H (l.map kO)) (hb : EvU tb σ H (m.map kO)) : Ev (tOp (rEqD K) ta tb) σ H (.bl (decide (l = m))) := by
  have := ev_eqD (ed_kn (K := K) ha) (ed_kn hb) (low_shaped (kn_low l) (by decide)) (low_shaped (kn_low m) (by decide))
  rwa [kn_eqv] at this
theorem epl_cop {sA : TE} (hc : Ev sA σ H (.ref CP)) : EvPl K CP C (tCMeth CP (spCopA K CP C) E0 sA (tCons (tC (.int 1)) tNil)) σ H (fun ps => ps = [(false, [[1]])]) := fun H1 e Q q =>
  hc H1 e _ fun H2 e2 => ⟨rfl, [.ref CP], [.int 1], rfl, rfl, sz_of (by show 1 ≤ 100000; decide), fun p hp => ⟨p, [1], rfl, st_of upd_same, by decide, by decide, by decide, fun o ps H3 e3 at_ hps => by
    obtain ⟨ss, rfl, pm⟩ := hps
    have : ss = [[1]] := pm.eq_singleton
    subst this
    exact q o _ H3 ((e2.trans (Ex.new hp)).trans e3) at_ rfl⟩⟩
theorem epl_two {sA : TE} (hc : Ev sA σ H (.ref CP)) : EvPl K CP C (tCMeth CP (spGrp K CP C) E0 sA (tCons (tC (.int 2)) tNil)) σ H (fun ps => ps = [(false, []), (false, []), (true, [[1, 2]])]) := fun H1 e Q q =>
  hc H1 e _ fun H2 e2 => ⟨rfl, rfl, fun o ps H3 e3 at_ hps => q o ps H3 (e2.trans e3) at_ hps⟩
theorem epl_plain {sA : TE} (hc : Ev sA σ H (.ref CP)) : EvPl K CP C (tCMeth CP (spPlain K CP C) E0 sA tNil) σ H (fun ps => ps = [(false, [])]) := fun H1 e Q q =>
  hc H1 e _ fun H2 e2 => ⟨rfl, rfl, fun o ps H3 e3 at_ hps => q o ps H3 (e2.trans e3) at_ hps⟩
end
/-! ### the fixed checks -/
abbrev bigZ : Str := ("x" : Str) ++ Txt.mul "." 399
theorem bigZ_ok : LsOk bigZ ∧ bigZ.length = 400 ∧ keptAt bigZ 399 = true := by
  unfold LsOk
  refine ⟨by decide +kernel, by decide +kernel, by decide +kernel⟩
theorem big_kn : (knL [(false, [[1]])] 0 bigZ)[399]? = some (some 399) := by
  unfold knL
  rw [bigZ_ok.2.1, List.getElem?_map, List.getElem?_range (by decide)]
  show some (kst _ _ (399 + 1) 399) = _
  rw [kst_kept (by decide) bigZ_ok.2.2 (by
    show (cyc [(false, [[1]])] ((0 : Nat) + (399 : Nat) : Int)).1 = false
    decide +kernel)]
theorem fix_1 : knL [(false, [[1]])] 0 ".x..x" = [some 0, some 2, some 2, some 3, none] := by decide +kernel
theorem fix_2 : knL [(false, []), (false, []), (true, [[1, 2]])] 0 "xx...x" = [none, none, none, some 3, some 4, none] := by decide +kernel
theorem fix_3 : knL [(false, []), (false, []), (true, [[1, 2]])] 2 ".." = [none, some 1] := by decide +kernel
theorem fix_4 : knL [(false, [])] 0 "" = [] := by decide +kernel
theorem ls_1 : LsOk ".x..x" := by unfold LsOk; decide +kernel
theorem ls_2 : LsOk "xx...x" := by unfold LsOk; decide +kernel
theorem ls_3 : LsOk ".." := by unfold LsOk; decide +kernel
theorem ls_4 : LsOk "" := by unfold LsOk; decide +kernel
end K19
namespace K19
open PySem L2 Evl Gr StX EnT MkS StK ClX ClK RdX Kn
section
variable {X : Cx}
/-- a text times a number -/
theorem op_mulS : OpR X (binaryOp .Mult) (fun x y H Q => ∃ a i, x = .str a ∧ y = .int i ∧ MulOk a i ∧ Q (.str (Txt.mul a i)) H) := by
  intro pins s σ H x y v u Q I rx ry h
  obtain ⟨a, i, rfl, rfl, ok, q⟩ := h
  obtain ⟨t, rfl⟩ := rx
  obtain ⟨t2, rfl⟩ := ry
  exact SB.mul ok fun t' k => ⟨.str _, H, I.tok _, ⟨_, rfl⟩, q⟩
end
section
variable {p l : Addr} {cells : List Int} {σ : L2.St} {H : Hp} {ta tb te : TE}
theorem ev_mulS {a : Str} {i : Int} (ha : Ev ta σ H (.str a)) (hb : Ev tb σ H (.int i)) (ok : MulOk a i) : Ev (tOp (fun x y H Q => ∃ a i, x = .str a ∧ y = .int i ∧ MulOk a i ∧ Q (.str (Txt.mul a i)) H) ta tb) σ H (.str (Txt.mul a i)) := ev_op ha hb fun H1 _ Q q => ⟨a, i, rfl, rfl, ok, q H1 (Ex.refl H1)⟩
theorem ev_addS {a b : Str} (ha : Ev ta σ H (.str a)) (hb : Ev tb σ H (.str b)) (hz : a.length + b.length ≤ 100000) : Ev (tOp (fun x y H Q => ∃ i j, x = .str i ∧ y = .str j ∧ i.length + j.length ≤ sizeLine ∧ Q (.str (i ++ j)) H) ta tb) σ H (.str (a ++ b)) := ev_op ha hb fun H1 _ Q q => ⟨a, b, rfl, rfl, sz_of hz, q H1 (Ex.refl H1)⟩
theorem w_pickV {i : Nat} {tr : TA} {xs : List V} (hi : σ[i]? = some (some (.ref p))) (hr : ∀ H1, EvA tr σ H1 xs) (h0 : 0 < xs.length) (h1 : xs.length ≤ 1000) (h63 : cells.length ≤ 63) :
    EvW p l cells 1 (tCall spPick [] E0 (tCons (tVar i) (tCons (tLst tr) tNil))) σ H (fun v => v ∈ xs) := fun m H1 kp hP hm Q q =>
  ⟨_, hi, hr H1 H1 (Ex.refl H1) _ fun H2 e2 => ⟨sz_of (n := xs.length) (by omega), fun a ha => by
    have e3 := e2.trans (Ex.new (o := .lst xs) ha)
    have hap : a ≠ p := by
      obtain ⟨k, r, hp, _⟩ := hP
      intro z
      rw [z, e2 _ _ hp] at ha
      cases ha
    refine ⟨p, l, a, cells, m, xs, rfl, hP.mono e3 (Nat.le_refl m), by omega, h63, upd_same, hap, h0, by omega, fun j x H3 hx hP3 k3 => ?_⟩
    exact q _ H3 (List.mem_of_getElem? hx) hP3 ((Keep.of_ex e3).trans k3)⟩⟩
end
theorem PhAt.keep {K : PySem.W.Frag} {C : Addr} {p l : Addr} {cells : List Int} {m : Nat} {H H' : Hp} {o : Addr} {q : Ph} (h : PhAt K C H o q) (hP : PenAt H p l cells m) (kp : Keep p H H') : PhAt K C H' o q := by
  obtain ⟨dx, r, xs, h1, h2, h3, h4⟩ := h
  have hp : ∃ ys, H p = some (.lst ys) := by obtain ⟨_, _, z, _⟩ := hP; exact ⟨_, z⟩
  obtain ⟨ys, hp⟩ := hp
  exact ⟨dx, r, xs, kp _ _ h1 (fun z => by rw [z, hp] at h1; cases h1), sqt_keep hP kp h2, h3.keep hP kp, h4⟩
theorem PlAt.keep {K : PySem.W.Frag} {CP C : Addr} {p l : Addr} {cells : List Int} {m : Nat} {H H' : Hp} {o : Addr} {ps : List Ph} (h : PlAt K CP C H o ps) (hP : PenAt H p l cells m) (kp : Keep p H H') : PlAt K CP C H' o ps := by
  obtain ⟨dx, r, xs, h1, h2, h3, h4⟩ := h
  have hp : ∃ ys, H p = some (.lst ys) := by obtain ⟨_, _, z, _⟩ := hP; exact ⟨_, z⟩
  obtain ⟨ys, hp⟩ := hp
  refine ⟨dx, r, xs, kp _ _ h1 (fun z => by rw [z, hp] at h1; cases h1), sqt_keep hP kp h2, ⟨h3.1, fun i x q hx hq => ?_⟩, h4⟩
  obtain ⟨b, b1, b2⟩ := h3.2 i x q hx hq
  exact ⟨b, b1, b2.keep hP kp⟩
theorem PlAt.updL {K : PySem.W.Frag} {CP C D : Addr} {u : HO} {ys : List V} {H : Hp} {o : Addr} {ps : List Ph} (h : PlAt K CP C H o ps) (hD : H D = some (.lst ys)) : PlAt K CP C (upd H D u) o ps := by
  obtain ⟨dx, r, xs, h1, h2, h3, h4⟩ := h
  exact ⟨dx, r, xs, by rw [upd_ne (fun z => by rw [z, hD] at h1; cases h1)]; exact h1, sqt_updL h2 hD, prow_updL h3 hD, h4⟩
theorem dot_len : ("." : Str).length = 1 := by decide +kernel
theorem mul_ok : MulOk "." 399 := by unfold MulOk; decide +kernel
section
variable {K : PySem.W.Frag} {CP C : Addr} {σ : L2.St} {H : Hp} {t : TA} {te tb tz ta : TE} {E : XK} {Q : VK}
theorem eu_lk {a : Addr} {av : List Addr} {xs : List V} {ps : List Ph} {b : Nat} {z : Str} (h : EvA t σ H [.ref a, .int (b : Int), .str z]) (ha : H a = some (.lst xs)) (row : LRow av H xs ps) (ok : PlnOk ps) (hb : b < ps.length) (hz : LsOk z) (hl : z.length ≤ 10) : EvU (tCall spLkn [] E t) σ H ((lnL ps b z).map kO) := fun H1 e Q q =>
  h H1 e _ fun H2 e2 => ⟨a, av, xs, ps, b, z, rfl, (e.trans e2) _ _ ha, row.mono (e.trans e2), ok, hb, hz, hl, fun p H3 hp e3 h3 => q p H3 (fresh_back e2 hp) (e2.trans e3) (by rw [← lnV_is]; exact h3)⟩
theorem ev_reprU {l : List (Option Nat)} (h : EvU te σ H (l.map kO)) (few : Few l) : Ev (tCB (rRepr K) (tCons te tNil)) σ H (.str (knP l).shown) := fun H1 e Q q =>
  h H1 e _ fun p H2 _ e2 hp => repr_kn (st_of hp) few (q H2 e2)
theorem ev_ixU {xs : List V} {i : Nat} {v : V} (h : EvU ta σ H xs) (hx : xs[i]? = some v) : Ev (tOp (rIxT K) ta (tC (.int (i : Int)))) σ H v := fun H1 e Q q =>
  h H1 e _ fun p H2 _ e2 hp => ⟨p, xs, (i : Int), v, rfl, rfl, st_of hp, atI_nat hx, q H2 e2⟩
theorem eu_knN {P0 : List Ph} {b : Nat} {z : Str} (h : EvPl K CP C te σ H (fun ps => ps = P0)) (hz' : Ev tz σ H (.str z)) (hb' : Ev tb σ H (.int (b : Int))) (hb : b < P0.length) (hz : LsOk z) (hl : z.length ≤ 400) :
    EvU (tCallN 0 3 (spKn K CP C) (fun vs zs => vs ++ [zs.getD 0 .non, zs.getD 2 .non, zs.getD 1 .non]) E tNil (tCons te (tCons tz (tCons tb tNil)))) σ H ((knL P0 b z).map kO) := fun H1 e Q q =>
  h H1 e _ fun o ps H2 e2 at_ hps => hz' H2 (e.trans e2) _ fun H3 e3 => hb' H3 ((e.trans e2).trans e3) _ fun H4 e4 => by
    subst hps
    exact ⟨rfl, rfl, o, ps, b, z, rfl, at_.mono (e3.trans e4), hb, hz, hl, fun p H5 hp e5 h5 => q p H5 (fresh_back ((e2.trans e3).trans e4) hp) (((e2.trans e3).trans e4).trans e5) (by rw [← knV_is]; exact h5)⟩
end
structure PName (K : PySem.W.Frag) (mg : Str → Option Value) (CP : Addr) (mc : Value) : Prop where
  g : mg "Plan" = some (.ref CP)
  rd : CRead K CP mc
section
variable {P : Program} {w : World} {K : PySem.W.Frag} {mg : Str → Option Value} {base : Heap}
abbrev sLaw : Stmt := top 45
abbrev nLaw : List Str := ["_law_script", "_law_pen_here", "_law_lap", "_law_plain_here", "_law_made", "_law_first", "_law_again", "_law_losses_so", "_law_due", "_law_more", "_law_slot", "_law_at", "_law_one"]
def spLaw (K : PySem.W.Frag) : Sp := fun vs H Q _ => ∃ (a : Addr) (ns : List Int), vs = [.ref a] ∧ SqL K H a (ns.map V.int) ∧ ns.length ≤ 63 ∧ ∀ H', Q (.bl true) H'
theorem scLaw : FnScope nLaw ["_law_script"] (defScope sLaw) := ⟨rfl, rfl, rfl, by decide +kernel, rfl, by decide +kernel, by decide +kernel⟩
theorem ok_Law {CP C fP fI pC fC pG fG pN fN f : Addr} {mc : Value} {fd fdG fdN : FuncData} (F : Fun K "law" "law" sLaw f fd) (S : GlbS mg) (I : GlbE mg) (repr_ : mg "repr" = none) (N : PName K mg CP mc) (G : GPl P w K mg base CP C fP fI)
    (hC : CMet K CP mc "copies" pC fC) (FC : FnR P w K mg base CX0 6 fC (spCopA K CP C)) (hG : CMet K CP mc "groups" pG fG) (FG : FnOk P w K mg base CX0 6 fG fdG ["cls", "size"] (spGrp K CP C)) (bG : Binds K fdG ["cls", "size"] []) (hN : CMet K CP mc "plain" pN fN) (FN : FnOk P w K mg base CX0 6 fN fdN ["cls"] (spPlain K CP C)) (bN : Binds K fdN ["cls"] [])
    (GPe : Gfn P w K mg base 1 "_law_pen" ["_law_script"] (spPen K)) (GDr : Gfn P w K mg base 1 "_law_draw" ["_law_pen_here", "_law_top_so"] spDraw) (GPi : Gfn P w K mg base 2 "_law_pick" ["_law_pen_here", "_law_some"] spPick)
    (GPn : Gfn P w K mg base 4 "_law_plain" ["_law_pen_here"] spPln) (GPa : Gfn P w K mg base 7 "_law_plan" ["_law_plain_here"] (spPla K CP C)) (GLk : Gfn P w K mg base 2 "_law_known" ["_law_plain_here", "_law_first", "_law_losses_so"] spLkn)
    {fK : Addr} {fdK : FuncData} (FK : FnOk P w K mg base CX0 4 fK fdK ["plan", "begin", "losses"] (spKn K CP C)) (kK : PySem.W.keepIn K (.ref fK) = true) (bK : Binds K fdK ["plan", "begin", "losses"] []) (gK : mg "known_at" = some (.ref fK))
    (nK : KBn K fdK ["plan", "begin", "losses"] 0 ["plan", "losses", "begin"] (fun us ws => us ++ [ws.getD 0 .none, ws.getD 2 .none, ws.getD 1 .none]) (fun vs zs => vs ++ [zs.getD 0 .non, zs.getD 2 .non, zs.getD 1 .non])) :
    FnG P w K mg base 8 f fd ["_law_script"] (spLaw K) := by
  obtain ⟨f1, fd1, G1, k1, b1, g1⟩ := GPe
  obtain ⟨f2, fd2, G2, k2, b2, g2⟩ := GDr
  obtain ⟨f3, fd3, G3, k3, b3, g3⟩ := GPi
  obtain ⟨f4, fd4, G4, k4, b4, g4⟩ := GPn
  obtain ⟨f5, fd5, G5, k5, b5, g5⟩ := GPa
  obtain ⟨f6, fd6, G6, k6, b6, g6⟩ := GLk
  refine fnG_of F scLaw (fun vs H Q E h => ?_) (fun cdv A outer s H vs Q E gd hr h => ?_)
  · obtain ⟨a, ns, rfl, _⟩ := h
    rfl
  · obtain ⟨a, ns, rfl, hS, h63, k⟩ := h
    have r1 := hr.mono (show 1 ≤ 7 by decide)
    have r2 := hr.mono (show 2 ≤ 7 by decide)
    have r4 := hr.mono (show 4 ≤ 7 by decide)
    have r6 := hr.mono (show 6 ≤ 7 by decide)
    have hu : (A.deeper (PyProof.Rows.envOfC "law" (defScope sLaw) s.heap.objs.size f cdv)).units + 64 < cLine := by have := hr.un; omega
    refine ⟨_, (pss_cons (ps_set (i := 1) scLaw.nd rfl (.inr rfl) (pe_call G1 r1 (by rfl) g1 k1 b1 .nil pass0 (pa_cons (pv 0) pa_nil)))
      (pss_cons (ps_for PassesOwn.never rfl (pi_range1 (by rfl) S.range (pa_cons pe_int pa_nil)) (pg_name (i := 2) scLaw.nd rfl (.inl rfl))
        (pss_cons (ps_set (i := 3) scLaw.nd rfl (.inl rfl) (pe_call G4 r4 (by rfl) g4 k4 b4 .nil pass0 (pa_cons (pv 1) pa_nil)))
      (pss_cons (ps_par (i := 4) (j := 5) rfl scLaw.nd rfl rfl (by decide) rfl rfl (pa_cons (pe_call G5 hr (by rfl) g5 k5 b5 .nil pass0 (pa_cons (pv 3) pa_nil)) (pa_cons (pe_call G2 r1 (by rfl) g2 k2 b2 .nil pass0 (pa_cons (pv 1) (pa_cons (pe_callB call_len_seq (by rfl) S.len PySem.boot_len (pa_cons (pv 3) pa_nil)) pa_nil))) pa_nil)) (by rfl))
      (pss_one (ps_for PassesOwn.never rfl (pi_range1 (by rfl) S.range (pa_cons pe_int pa_nil)) (pg_name (i := 6) scLaw.nd rfl (.inl rfl))
            (pss_cons (ps_set (i := 7) scLaw.nd rfl (.inl rfl) (pe_join pe_str (pe_lc (own := [("_law_slot", 10)]) (g := gName 10) rfl scLaw.nd (pi_range1 (by rfl) S.range (pa_cons (pe_call G2 r1 (by rfl) g2 k2 b2 .nil pass0 (pa_cons (pv 1) (pa_cons pe_int pa_nil))) pa_nil)) (blkOk_by (own := [("_law_slot", 10)]) (N := nLaw) (sc := defScope sLaw) (by decide +kernel))
                (fun _ _ _ _ _ => pg_name (i := 10) scLaw.nd rfl (Or.inl rfl)) (fun _ _ _ _ _ => pts_nil) (fun _ _ _ _ _ => pe_call G3 r2 (by rfl) g3 k3 b3 .nil pass0 (pa_cons (pv 1) (pa_cons (pe_lst (pa_cons pe_str (pa_cons pe_str (pa_cons pe_str pa_nil)))) pa_nil))))))
      (pss_cons (ps_set (i := 8) scLaw.nd rfl (.inl rfl) (pe_call G6 r2 (by rfl) g6 k6 b6 .nil pass0 (pa_cons (pv 3) (pa_cons (pv 5) (pa_cons (pv 7) pa_nil)))))
      (pss_cons (ps_if (pt_cmpR op_ne (pe_callB (call_reprD gd hu) (by rfl) repr_ (by decide +kernel) (pa_cons (pe_call FK r4 (by rfl) gK kK bK .nil pass0 (pa_cons (pv 4) (pa_cons (pv 5) (pa_cons (pv 7) pa_nil)))) pa_nil)) (pe_callB (call_reprD gd hu) (by rfl) repr_ (by decide +kernel) (pa_cons (pv 8) pa_nil)) (nomark _)) (pss_one (ps_ret pe_bl)) pss_nil)
      (pss_cons (ps_set (i := 9) scLaw.nd rfl (.inr rfl) (pe_call FK r4 (by rfl) gK kK bK .nil pass0 (pa_cons (pv 4) (pa_cons (pv 5) (pa_cons (pe_op op_add_str (pv 7) pe_str) pa_nil)))))
      (pss_one (ps_if (pt_cmpR (op_neD hu) (pe_lc (te := tVar 11) (own := [("_law_at", 11), ("_law_one", 12)]) (g := gTup K 2 (gCons (gName 11) (gCons (gName 12) gNil))) rfl scLaw.nd (pi_enumT (by rfl) I.enum (pa_cons (pv 8) pa_nil)) (blkOk_by (own := [("_law_at", 11), ("_law_one", 12)]) (N := nLaw) (sc := defScope sLaw) (by decide +kernel))
                  (fun _ _ _ _ _ => pg_tup rfl (pgs_cons (pg_name (i := 11) scLaw.nd rfl (Or.inl rfl)) (pgs_cons (pg_name (i := 12) scLaw.nd rfl (Or.inl rfl)) pgs_nil))) (fun _ _ _ _ _ => pts_one (PW.pt (pw_and (pt_cmpR op_notN1 (pv 12) pe_non (nomark _)) (pw_and1 (pt_cmpR op_ne (pe_ix (show IxR _ (rIxT K) from ix_tup) (pv 9) (pv 11) (fun _ _ => rfl)) (pv 12) (nomark _)))))) (fun _ _ _ _ _ => pv 11)) (pe_lst pa_nil) (by with_unfolding_all rfl)) (pss_one (ps_ret pe_bl)) pss_nil)))))))))))
      (pss_cons (ps_if (pt_cmpR op_ne (pe_ix (show IxR _ (rIxT K) from ix_tup) (pe_call FK r4 (by rfl) gK kK bK .nil pass0 (pa_cons (pe_cmeth (E := E0) (pe_glob (v := .ref CP) (by rfl) N.g rfl) N.rd hC FC r6 pass0 (pa_cons pe_int pa_nil)) (pa_cons pe_int (pa_cons (pe_op op_add_str pe_str (pe_op op_mulS pe_str pe_int)) pa_nil)))) pe_int (fun _ _ => rfl)) pe_int (nomark _)) (pss_one (ps_ret pe_bl)) pss_nil)
      (pss_cons (ps_if (PW.pt (pw_or (pt_cmpR (op_neD hu) (pe_call FK r4 (by rfl) gK kK bK .nil pass0 (pa_cons (pe_cmeth (E := E0) (pe_glob (v := .ref CP) (by rfl) N.g rfl) N.rd hC FC r6 pass0 (pa_cons pe_int pa_nil)) (pa_cons pe_int (pa_cons pe_str pa_nil)))) (pe_tup (pa_cons pe_int (pa_cons pe_int (pa_cons pe_int (pa_cons pe_int (pa_cons pe_non pa_nil)))))) (nomark _))
          (pw_or1 (pt_cmpR (op_neD hu) (pe_call FK r4 (by rfl) gK kK bK .nil pass0 (pa_cons (pe_cmeth (E := E0) (pe_glob (v := .ref CP) (by rfl) N.g rfl) N.rd hG (fnR0 FG bG) r6 pass0 (pa_cons pe_int pa_nil)) (pa_cons pe_int (pa_cons pe_str pa_nil)))) (pe_tup (pa_cons pe_non (pa_cons pe_non (pa_cons pe_non (pa_cons pe_int (pa_cons pe_int (pa_cons pe_non pa_nil))))))) (nomark _))))) (pss_one (ps_ret pe_bl)) pss_nil)
      (pss_one (ps_ret (pe_and (pe_cmpR (op_eqD hu) (pe_callK0 FK r4 (by rfl) gK kK nK (pk_cons (pe_cmeth (E := E0) (pe_glob (v := .ref CP) (by rfl) N.g rfl) N.rd hG (fnR0 FG bG) r6 pass0 (pa_cons pe_int pa_nil)) (pk_cons pe_str (pk_cons pe_int pk_nil)))) (pe_tup (pa_cons pe_non (pa_cons pe_int pa_nil))) (nomark _))
        (pe_one (pe_cmpR (op_eqD hu) (pe_call FK r4 (by rfl) gK kK bK .nil pass0 (pa_cons (pe_cmeth0 (E := E0) (pe_glob (v := .ref CP) (by rfl) N.g rfl) N.rd hN (fnR0 FN bN) r6 pass0) (pa_cons pe_int (pa_cons pe_str pa_nil)))) (pe_tup pa_nil) (nomark _)))))))))), ?_⟩
    refine q_call (ea_cons (ev_var rfl) ea_nil) fun H1 e1 => ⟨a, ns, rfl, ex_l e1 hS, h63, fun p l H2 hp hl e2 hP => ?_⟩
    refine q_forR1 (j := 2) (n := 6) (ea_cons ev_c ea_nil) (by decide) (fun i σ' H' => ∃ x2 x3 x4 x5 x6 x7 x8 x9 : Option V, σ' = [some (.ref a), some (.ref p), x2, x3, x4, x5, x6, x7, x8, x9, none, none, none] ∧ PenAt H' p l ns (65 * i)) (fun H3 e3 => ⟨none, none, none, none, none, none, none, none, rfl, hP.mono e3 (by omega)⟩) ?_ ?_
    · rintro i σ' H3 hi ⟨x2, x3, x4, x5, x6, x7, x8, x9, rfl, hP3⟩
      refine q_asgR ⟨_, rfl, p, l, ns, 65 * i, rfl, hP3, by omega, h63, fun F0 xs ps H4 hF h4 row ok hP4 k4 => ?_⟩
      have Fp := (pen_ne hP3 hF).1
      have l1 := ok.1
      have l3 := ok.2.1
      refine q_par (cons_i ⟨_, rfl, F0, [p], xs, ps, rfl, h4, row, ok, fun o qs H5 e5 at5 sim => ?_⟩)
      refine cons_i ((w_draw (H := H5) (i := 1) (σ := [some (.ref a), some (.ref p), some (.int (i : Int)), some (.ref F0), x4, x5, x6, x7, x8, x9, none, none, none]) (many := (ps.length : Int)) rfl (fun H6 kp => ev_is (ev_cb (ea_cons (ev_var rfl) ea_nil) (rc_lenQ (.inl (sq_of (kp _ _ (e5 _ _ h4) Fp))))) (by rw [row.1])) (by omega) (by omega) h63) (65 * i + 20) H5 (Keep.of_ex (Ex.refl H5)) (hP4.mono e5 (Nat.le_refl _)) (by omega) _ fun v H6 hv hP6 k6 => ?_)
      obtain ⟨b, rfl, hb⟩ := hv
      have hP5 := hP4.mono e5 (Nat.le_refl _)
      have at6 := at5.keep hP5 k6
      have row6 := (row.mono e5).keep (by simp) hP5 k6
      have h6 := k6 _ _ (e5 _ _ h4) Fp
      refine ⟨_, _, rfl, ?_⟩
      have lq := sim.1
      refine s_forR1 (j := 6) (n := 4) (ea_cons ev_c ea_nil) (by decide) (fun j σ' H' => ∃ x6 x7 x8 x9 : Option V, σ' = [some (.ref a), some (.ref p), some (.int (i : Int)), some (.ref F0), some (.ref o), some (.int (b : Int)), x6, x7, x8, x9, none, none, none] ∧ PenAt H' p l ns (65 * i + 21 + 11 * j) ∧ H' F0 = some (.lst xs) ∧ LRow [p] H' xs ps ∧ PlAt K CP C H' o qs)
        (fun H7 e7 => ⟨x6, x7, x8, x9, rfl, hP6.mono e7 (by omega), e7 _ _ h6, row6.mono e7, at6.mono e7⟩) ?_ ?_
      · rintro j σ' H7 hj ⟨y6, y7, y8, y9, rfl, hP7, h7, row7, at7⟩
        refine q_asgR ⟨⟨_, rfl⟩, ?_⟩
        refine (w_draw (H := H7) (i := 1) (σ := [some (.ref a), some (.ref p), some (.int (i : Int)), some (.ref F0), some (.ref o), some (.int (b : Int)), some (.int (j : Int)), y7, y8, y9, none, none, none]) (many := 11) rfl (fun _ _ => ev_c) (by decide) (by decide) h63) (65 * i + 21 + 11 * j) H7 (Keep.of_ex (Ex.refl H7)) hP7 (by omega) _ fun v H8 hv hP8 k8 => ?_
        obtain ⟨n, rfl, hn⟩ := hv
        refine ⟨(n : Int), rfl, by omega, by omega, fun Dl hD => ?_⟩
        have Dn := pen_ne hP8 hD
        have h8 := k8 _ _ h7 Fp
        have row8 := row7.keep (by simp) hP7 k8
        have at8 := at7.keep hP7 k8
        have e9 := Ex.new (o := .lst []) hD
        refine lc_range (lo := 0) (n := (n : Int).toNat) (fun i' H' => ∃ zs : List Str, H' Dl = some (.lst (zs.map V.str)) ∧ zs.length = i' ∧ (∀ z ∈ zs, Sl z) ∧ PenAt H' p l ns (65 * i + 21 + 11 * j + 1 + i') ∧ H' F0 = some (.lst xs) ∧ LRow [Dl, p] H' xs ps ∧ PlAt K CP C H' o qs ∧ Dl ≠ F0) ⟨[], upd_same, rfl, fun y hy => absurd hy (by simp), hP8.upd' Dn.1 Dn.2, e9 _ _ h8, (row8.more hD).mono e9, at8.mono e9, fun z => (by rw [z, h8] at hD; cases hD)⟩ (fun i' H' hi' q => ?_) (fun H' q => ?_)
        · obtain ⟨zs, hg, hlen, hbz, hP9, h9, row9, at9, DF⟩ := q
          rw [Int.toNat_natCast] at hi'
          refine ⟨rfl, yes_i (A := fun H3 => _) ?_⟩
          refine (w_pickV (H := H') (i := 1) (σ := [some (.ref a), some (.ref p), some (.int (i : Int)), some (.ref F0), some (.ref o), some (.int (b : Int)), some (.int (j : Int)), y7, y8, y9, some (.int (0 + (i' : Int))), none, none]) (xs := [V.str ".", .str ".", .str "x"]) rfl (fun H3 => ea_cons ev_c (ea_cons ev_c (ea_cons ev_c ea_nil))) (by decide) (by decide) h63) (65 * i + 21 + 11 * j + 1 + i') H' (Keep.of_ex (Ex.refl H')) hP9 (by omega) _ fun v HA hv hPA kA => ?_
          have one : ∃ y, v = .str y ∧ Sl y := by
            simp only [List.mem_cons, List.not_mem_nil, or_false] at hv
            rcases hv with rfl | rfl | rfl
            · exact ⟨_, rfl, .inl rfl⟩
            · exact ⟨_, rfl, .inl rfl⟩
            · exact ⟨_, rfl, .inr rfl⟩
          obtain ⟨y, rfl, hy⟩ := one
          have gA := kA _ _ hg Dn.1
          have avD := row9.keep (by simp) hP9 kA
          refine ⟨zs.map V.str, gA, sz_lt (by rw [List.length_map]; omega), zs ++ [y], by rw [upd_same, List.map_append]; rfl, by rw [List.length_append, hlen]; rfl, fun x hx => ?_, (hPA.upd' Dn.1 Dn.2).le (by omega), by rw [upd_ne DF.symm]; exact kA _ _ h9 Fp, avD.upd (by simp) gA, (at9.keep hP9 kA).updL gA, DF⟩
          rcases List.mem_append.mp hx with z | z
          · exact hbz x z
          · rw [List.mem_singleton.mp z]
            exact hy
        · obtain ⟨zs, hg, hlen, hbz, hP9, h9, row9, at9, DF⟩ := q
          rw [Int.toNat_natCast] at hlen hP9
          obtain ⟨lz, ll⟩ := join_sl hbz
          have so := sum_one hbz
          refine ⟨"", Dl, zs, rfl, rfl, .inl (sq_of hg), ?_, ?_⟩
          · have : ("" : Str).length = 0 := by decide +kernel
            rw [this]
            omega
          generalize Txt.join "" zs = z at lz ll
          have z10 : z.length ≤ 10 := by omega
          have bN : b < ps.length := by omega
          have bQ : b < qs.length := by omega
          have st7 : ([some (.ref a), some (.ref p), some (.int (i : Int)), some (.ref F0), some (.ref o), some (.int (b : Int)), some (.int (j : Int)), y7, y8, y9, none, none, none] : L2.St).set 7 (some (.str z)) = [some (.ref a), some (.ref p), some (.int (i : Int)), some (.ref F0), some (.ref o), some (.int (b : Int)), some (.int (j : Int)), some (.str z), y8, y9, none, none, none] := rfl
          refine q_asgU (eu_lk (σ := [some (.ref a), some (.ref p), some (.int (i : Int)), some (.ref F0), some (.ref o), some (.int (b : Int)), some (.int (j : Int)), some (.str z), y8, y9, none, none, none]) (H := H') (ea_cons (ev_var rfl) (ea_cons (ev_var rfl) (ea_cons (ev_var rfl) ea_nil))) h9 row9 ok bN lz z10) fun d HA hd eA hdA => ?_
          have same := kn_same sim (by omega) b z (by omega)
          have few : Few (lnL ps b z) := by rw [← same]; exact kn_few (by omega)
          have left : ∀ {HB : Hp}, Ex HA HB → Ev (tCB (rRepr K) (tCons (tCall (spKn K CP C) [] E0 (tCons (tVar 4) (tCons (tVar 5) (tCons (tVar 7) tNil)))) tNil)) [some (.ref a), some (.ref p), some (.int (i : Int)), some (.ref F0), some (.ref o), some (.int (b : Int)), some (.int (j : Int)), some (.str z), some (.ref d), y9, none, none, none] HB (.str (knP (lnL ps b z)).shown) := fun eB => by
            rw [← same]
            exact ev_reprU (eu_kn (ea_cons (ev_var rfl) (ea_cons (ev_var rfl) (ea_cons (ev_var rfl) ea_nil))) (at9.mono (eA.trans eB)) bQ lz (by omega)) (by rw [same]; exact few)
          have right : ∀ {HB : Hp}, Ex HA HB → Ev (tCB (rRepr K) (tCons (tVar 8) tNil)) [some (.ref a), some (.ref p), some (.int (i : Int)), some (.ref F0), some (.ref o), some (.int (b : Int)), some (.int (j : Int)), some (.str z), some (.ref d), y9, none, none, none] HB (.str (knP (lnL ps b z)).shown) := fun eB H1 e1 Q1 q1 => ⟨_, rfl, repr_kn (st_of (e1 _ _ (eB _ _ hdA))) few (q1 H1 (Ex.refl H1))⟩
          refine q_when (b := false) (et_is (et_test (ev_op (left (Ex.refl HA)) (right (Ex.refl HA)) (rv_ne rfl))) (by rw [decide_eq_true rfl]; rfl)) (fun y => absurd y (by decide)) (fun _ HB eB => ?_)
          have z1 : (z ++ ("." : Str)).length = z.length + 1 := by
            have : (z ++ ("." : Str)).cps.toList.length = z.cps.toList.length + 1 := by rw [show (z ++ ("." : Str)).cps.toList = z.cps.toList ++ [46] from TL.tl_append z "."]; simp
            rw [Array.length_toList, Array.length_toList] at this
            exact this
          have lz1 : LsOk (z ++ ".") := fun c hc => by
            rw [show (z ++ ("." : Str)).cps.toList = z.cps.toList ++ [46] from TL.tl_append z "."] at hc
            rcases List.mem_append.mp hc with y | y
            · exact lz c y
            · exact .inl (List.mem_singleton.mp y)
          refine q_asgU (eu_kn (σ := [some (.ref a), some (.ref p), some (.int (i : Int)), some (.ref F0), some (.ref o), some (.int (b : Int)), some (.int (j : Int)), some (.str z), some (.ref d), y9, none, none, none]) (H := HB) (z := z ++ ".") (ea_cons (ev_var rfl) (ea_cons (ev_var rfl) (ea_cons (ev_addS (ev_var rfl) ev_c (by rw [dot_len]; omega)) ea_nil))) (at9.mono (eA.trans eB)) bQ lz1 (by omega)) fun g HC hgC eC hgg => ?_
          have EC := (eA.trans eB).trans eC
          have hdC := eC _ _ (eB _ _ hdA)
          have lnlen : (lnL ps b z).length = z.length := by unfold lnL; rw [List.length_map, List.length_range]
          have cc := el_enT (K := K) (σ := [some (.ref a), some (.ref p), some (.int (i : Int)), some (.ref F0), some (.ref o), some (.int (b : Int)), some (.int (j : Int)), some (.str z), some (.ref d), some (.ref g), none, none, none]) (H := HC) (ta := tCons (tVar 8) tNil) (a := d) (xs := (lnL ps b z).map kO) (i := 11) (j := 12) (vs := [11, 12]) (t := tAnd (tTest (tOp rNotN (tVar 12) (tC .non))) (tTest (tOp rNe (tOp (rIxT K) (tVar 9) (tVar 11)) (tVar 12)))) (te := tVar 11) (fun _ => false) (fun _ => V.non) (ea_cons (ev_var rfl) ea_nil) (st_of hdC) (by rw [List.length_map, lnlen]; omega) (fun _ _ => rfl)
            (fun q x HD eD hx => by
              obtain ⟨ov, hov, rfl⟩ := nth_map hx
              cases ov with
              | none => exact et_and (a := false) (b := false) (et_is (et_test (ev_op (ev_var rfl) ev_c (fun HE eE QE qE => ⟨rfl, qE HE (Ex.refl HE)⟩))) (by decide)) fun y => absurd y (by decide)
              | some v =>
                have more := kn_more (ps := qs) (b := b) (z := z) (i := q) (v := v) (by rw [same]; exact hov)
                exact et_and (a := true) (b := false) (et_is (et_test (ev_op (ev_var rfl) ev_c (fun HE eE QE qE => ⟨rfl, qE HE (Ex.refl HE)⟩))) (by rw [kO_none]; rfl)) fun _ => et_is (et_test (ev_op (ev_op (ev_var rfl) (ev_var rfl) (rv_ixT (v := .int (v : Int)) (st_of (eD _ _ hgg)) (atI_nat (by rw [List.getElem?_map, more]; rfl)))) (ev_var rfl) (rv_ne rfl))) (by show (!decide (V.int (v : Int) = V.int (v : Int))) = false; rw [decide_eq_true rfl]; rfl))
            (fun q x HD eD hx hf => by cases hf)
          rw [given_none] at cc
          refine s_when (b := false) (et_is (et_test (ev_neD (K := K) (d := .list []) (e := .list []) (ed_L cc fun _ _ => .nil) (ed_L el_nil fun _ _ => .nil) (by decide +kernel) (by decide +kernel))) (by decide +kernel)) (fun y => absurd y (by decide)) (fun _ HD eD => ?_)
          have ED := EC.trans eD
          exact ⟨_, _, _, _, rfl, hP9.mono ED (by omega), ED _ _ h9, row9.less.mono ED, at9.mono ED⟩
      · rintro σ' H7 ⟨y6, y7, y8, y9, rfl, hP7, h7, row7, at7⟩
        exact ⟨_, _, _, _, _, _, _, _, rfl, hP7.le (by show 65 * i + 21 + 11 * 4 ≤ _; omega)⟩
    · rintro σ' H3 ⟨x2, x3, x4, x5, x6, x7, x8, x9, rfl, hP3⟩
      refine q_when (b := false) (et_is (et_test (ev_op (ev_ixU (i := 399) (v := .int 399) (eu_knP (P0 := [(false, [[1]])]) (b := 0) (z := bigZ) (epl_cop ev_c) ev_c (ev_addS ev_c (ev_mulS ev_c ev_c mul_ok) (by decide +kernel)) (by decide) bigZ_ok.1 (by rw [bigZ_ok.2.1]; omega)) (by rw [List.getElem?_map, big_kn]; rfl)) ev_c (rv_ne rfl))) (by decide)) (fun y => absurd y (by decide)) (fun _ H4 e4 => ?_)
      refine q_when (b := false) (et_is (et_or (et_test (ev_neKn (l := knL [(false, [[1]])] 0 ".x..x") (m := [some 0, some 2, some 2, some 3, none]) (eu_knP (P0 := [(false, [[1]])]) (b := 0) (epl_cop ev_c) ev_c ev_c (by decide) ls_1 (by decide +kernel)) (eu_tup (ea_cons ev_c (ea_cons ev_c (ea_cons ev_c (ea_cons ev_c (ea_cons ev_c ea_nil))))) (by show 5 ≤ 100000; decide)))) fun _ => et_test (ev_neKn (l := knL [(false, []), (false, []), (true, [[1, 2]])] 0 "xx...x") (m := [none, none, none, some 3, some 4, none]) (eu_knP (P0 := [(false, []), (false, []), (true, [[1, 2]])]) (b := 0) (epl_two ev_c) ev_c ev_c (by decide) ls_2 (by decide +kernel)) (eu_tup (ea_cons ev_c (ea_cons ev_c (ea_cons ev_c (ea_cons ev_c (ea_cons ev_c (ea_cons ev_c ea_nil)))))) (by show 6 ≤ 100000; decide)))) (by rw [fix_1, fix_2]; decide)) (fun y => absurd y (by decide)) (fun _ H5 e5 => ?_)
      refine s_ret (v := .bl true) (ev_is (ev_andV (ev_eqKn (l := knL [(false, []), (false, []), (true, [[1, 2]])] 2 "..") (m := [none, some 1]) (eu_knN (P0 := [(false, []), (false, []), (true, [[1, 2]])]) (b := 2) (epl_two ev_c) ev_c ev_c (by decide) ls_3 (by decide +kernel)) (eu_tup (ea_cons ev_c (ea_cons ev_c ea_nil)) (by show 2 ≤ 100000; decide))) fun _ => ev_eqKn (l := knL [(false, [])] 0 "") (m := []) (eu_knP (P0 := [(false, [])]) (b := 0) (epl_plain ev_c) ev_c ev_c (by decide) ls_4 (by decide +kernel)) (eu_tup ea_nil (by show 0 ≤ 100000; decide))) (by rw [fix_3, fix_4]; decide)) fun H6 e6 => k H6
end
end K19
namespace L2
open PySem PySem.Spec PyProof.Rows
/-! ### the law's end, for a law that is walked where no repr runs -/
/-- the law's end from a heap in which nothing but the script may be tracked -/
theorem lawG_core {P : Program} {w : World} {K : PySem.W.Frag} {mg mb : Str → Option Value} {k : Nat} {fa a : Addr} {fd : FuncData} {x : Str} {sp : Sp} {s : Shared} {vs : List Value} {ns : List Int} {H : Hp}
    (KX : K.In s.heap) (hns : s.heap.Ns mainGlobals mg) (hb : s.heap.Ns builtinsNs mb) (hbb : ∀ x : Str, x ≠ "__name__" → mb x = bootBuiltins x) (hlim : s.heap.NoLimit) (hg : s.gens = #[])
    (ha : s.heap.get? a = some { cls := .type "list", data := .seq vs.toArray }) (hr : Room k callerA)
    (F : ∀ base : Heap, K.In base → base.Ns mainGlobals mg → FnG P w K mg base k fa fd [x] sp) (hbind : ∀ (s : Shared) (u : Value), BindsTo s fd ⟨[u], []⟩ [(x, u)])
    (hO : Only H) (hok : HOk P w H s.heap) (hA : ∀ b, H b ≠ none → b = a) (hK : H a ≠ none → K.lookup a = none)
    (hsp : sp [.ref a] H (fun v _ => v = .bl true) E0) :
    codeAny (model P w) callerA (.call (.ref fa) ⟨[.ref a], []⟩) (fun r s' => r = .ok (.ret (.bool true)) ∧ OldK s.heap s'.heap ∧ s'.os = s.os ∧ AllBare s'.gens) s := by
  have apart : ∀ {b : Addr} {o : Obj}, s.heap.get? b = some o → (b = a → False) → (hidT s.heap H).get? b = some o := fun {b o} e n => hidT_get e (Classical.byContradiction fun z => n (hA b z))
  have space : ∀ {b : Addr} {m : Str → Option Value}, s.heap.Ns b m → (hidT s.heap H).Ns b m := fun {b m} ⟨o, es, ep, e, d, r⟩ => ⟨o, es, ep, apart e fun z => by
    subst z
    rw [ha] at e
    cases e
    exact Data.noConfusion (show Data.seq vs.toArray _ = Data.dict es ep from d), d, r⟩
  have inb : K.In (hidT s.heap H) := fun b o e => hidT_get (KX b o e) (Classical.byContradiction fun z => by
    obtain rfl := hA b z
    rw [hK z] at e
    cases e)
  have world : Mod K mg (hidT s.heap H) := ⟨inb, space hns, ⟨mb, space hb, hbb⟩, hlim.elim fun mc z => ⟨mc, space z.1, z.2⟩⟩
  have start0 : Env0 P w K mg (hidT s.heap H) callerA [] s H := ⟨rfl, world, fun _ _ z => of_hidT z, Nat.le_of_eq (hidT_size _ _), trivial, fun b hb => absurd hb List.not_mem_nil, hok, .of_eq hg⟩
  refine codeAny_mono ((F _ inb (space hns)).run callerA [] s H ⟨[.ref a], []⟩ [.ref a] [.ref a] _ E0 rfl hr start0 (hbind s (.ref a)) (.cons rfl .nil) hsp) fun r s' h => ?_
  cases r with
  | error e => exact (show False from h).elim
  | ok fl =>
    cases fl with
    | next => exact False.elim h
    | brk => exact False.elim h
    | cont => exact False.elim h
    | ret u =>
      obtain ⟨v, H', os, bare, un, hok', r', q⟩ := h
      obtain rfl : v = .bl true := q
      obtain rfl : u = Value.bool true := r'
      refine ⟨rfl, OldK.of_keep fun b o e => ?_, os, bare⟩
      rcases hO b with z | ⟨ob, xs, z⟩
      · exact un.keep b o e z List.not_mem_nil List.not_mem_nil
      · have e1 := (hok b _ z).1
        have e2 := (hok' b _ (un.frzs b ob _ z)).1
        rw [e] at e1
        cases e1
        exact e2
theorem lawG_call {P : Program} {w : World} {K : PySem.W.Frag} {mg mb : Str → Option Value} {k : Nat} {fa a : Addr} {fd : FuncData} {x : Str} {sp : Sp} {s : Shared} {vs : List Value} {ns : List Int}
    (KX : K.In s.heap) (hns : s.heap.Ns mainGlobals mg) (hb : s.heap.Ns builtinsNs mb) (hbb : ∀ x : Str, x ≠ "__name__" → mb x = bootBuiltins x) (hlim : s.heap.NoLimit) (hg : s.gens = #[])
    (ha : s.heap.get? a = some { cls := .type "list", data := .seq vs.toArray }) (hi : IntsAre vs ns) (hl : ns.length ≤ sizeLine) (hr : Room k callerA)
    (F : ∀ base : Heap, K.In base → base.Ns mainGlobals mg → FnG P w K mg base k fa fd [x] sp) (hbind : ∀ (s : Shared) (u : Value), BindsTo s fd ⟨[u], []⟩ [(x, u)])
    (hsp : ∀ H : Hp, Only H → SqL K H a (ns.map V.int) → sp [.ref a] H (fun v _ => v = .bl true) E0) :
    codeAny (model P w) callerA (.call (.ref fa) ⟨[.ref a], []⟩) (fun r s' => r = .ok (.ret (.bool true)) ∧ OldK s.heap s'.heap ∧ s'.os = s.os ∧ AllBare s'.gens) s := by
  have rv := vals_ints hi
  cases hk : K.lookup a with
  | some o =>
    have e := KX a o hk
    rw [ha] at e
    cases e
    have hS : SqL K (fun _ => none) a (ns.map V.int) := .inr ⟨_, vs.toArray, _, hk, rfl, rfl, rfl, by rw [List.size_toArray, hi.length]; exact hl, by simpa using rv⟩
    exact lawG_core (ns := ns) KX hns hb hbb hlim hg ha hr F hbind (fun _ => .inl rfl) (fun b u z => by cases (show (none : Option HO) = some u from z)) (fun b z => absurd rfl z) (fun z => absurd rfl z) (hsp _ (fun _ => .inl rfl) hS)
  | none =>
    let ob : Obj := { cls := .type "list", data := .seq vs.toArray }
    let H : Hp := upd (fun _ => none) a (.frz ob (.lst (ns.map V.int)))
    have hO : Only H := fun b => by
      by_cases z : b = a
      · exact .inr ⟨_, _, by rw [z]; exact upd_same⟩
      · exact .inl (upd_ne z)
    have only : ∀ b, H b ≠ none → b = a := fun b z => Classical.byContradiction fun n => z (upd_ne n)
    refine lawG_core (ns := ns) (H := H) KX hns hb hbb hlim hg ha hr F hbind hO (fun b u z => ?_) only (fun _ => hk) (hsp H hO (.inl (.inr ⟨ob, upd_same⟩)))
    obtain rfl := only b (by rw [z]; simp)
    cases upd_same.symm.trans z
    exact ⟨ha, by rw [List.length_map]; exact hl, vs, _, rv, ha⟩
theorem walkG_of {l : PySem.W.OpenLaw} {n k : Nat} {q : Program} {loose : List Str} {XP : (Str → Option Value) → Heap → Prop} {YP : World → Heap → Prop} {d : DefRec} {K : Params → PySem.W.Frag} {sp : World → Sp} {x : Str}
    (hn : l.most = some n) (hn2 : n ≤ sizeLine) (hdf : d.params.defaults = []) (hr : Room k callerA)
    (hY : ∀ (w : World) (h : Heap), YP w h → (K w.params).In h)
    (F : ∀ (w : World) (mg : Str → Option Value) (fa : Addr) (h : Heap), (K w.params).In h → h.Ns mainGlobals mg → mg d.name = some (.ref fa) →
      ∃ fd : FuncData, (∀ (s : Shared) (u : Value), BindsTo s fd ⟨[u], []⟩ [(x, u)]) ∧ ∀ base : Heap, (K w.params).In base → base.Ns mainGlobals mg → FnG l.prog w (K w.params) mg base k fa fd [x] (sp w))
    (hsp : ∀ (w : World) (H : Hp) (a : Addr) (ns : List Int), ns.length ≤ n → Only H → SqL (K w.params) H a (ns.map V.int) → sp w [.ref a] H (fun v _ => v = .bl true) E0) :
    PySem.W.WalkO q loose XP YP l.row.toRowW d [] (fun f vs => PySem.call f vs) := by
  refine Att.attach_call hn hdf fun w s₀ s₁ mg mb fa o pm cd doc a vs ns G Y ho hd hcd hmg hobj hints hlen hg => ?_
  obtain ⟨fd, hb, hF⟩ := F w mg fa _ (hY w _ Y) G.T.g hmg
  exact lawG_call (hY w _ Y) G.T.g G.T.b G.T.builtins G.T.nolimit hg hobj hints (Nat.le_trans hlen hn2) hr hF hb fun H hO hS => hsp w H a ns hlen hO hS
end L2
namespace K19
open PySem L2 Evl Gr StX EnT MkS StK ClX ClK RdX Kn
structure FQ (K : PySem.W.Frag) (x y : Str) (st : Stmt) (f : Addr) : Prop where
  l : ∃ (oc : Value) (od : Option Addr) (kV doc pm : Value) (an : Option Addr) (cdv ct : Value) (osl : Array (Option Value)),
    K.lookup f = some ⟨oc, od, .func (PySem.W.fnOf x y (defArgs st) (defBody st) (defScope st) .none kV doc pm an cdv ct), osl⟩ ∧ PySem.W.codeIn K cdv y = true
  k : PySem.W.keepIn K (.ref f) = true
theorem FQ.fn {K : PySem.W.Frag} {x y : Str} {st : Stmt} {f : Addr} (h : FQ K x y st f) : ∃ fd, Fun K x y st f fd := by
  obtain ⟨oc, od, kV, doc, pm, an, cdv, ct, osl, h1, h2⟩ := h.l
  exact ⟨_, fun_mk h1 h2 h.k⟩
theorem vals_getD : ∀ {zs : List V} {ws : List Value} (i : Nat), Vals zs ws → RelV (zs.getD i .non) (ws.getD i .none)
  | _, _, _, .nil => rfl
  | _, _, 0, .cons r _ => r
  | _, _, i + 1, .cons _ t => vals_getD i t
theorem all_mk {l : PySem.W.OpenLaw} {w : World} {K : PySem.W.Frag} {h : Heap} {mg : Str → Option Value} {fa fInt fWi fSl fLo fAs fSu fTe fOd fHe fMs fVb fKn fPe fDr fPi fSm fPn fPh fPa fEv fLk fLa C CP mC D mP pN mN pO mO pG mG : Addr} {mc : Value} (X : K.In h) (G : h.Ns mainGlobals mg) (hfa : mg "law" = some (.ref fa))
    (aInt : PySem.W.nsIn K mainGlobals "is_integer" = some (some (.ref fInt)))
    (hInt : FQ K "is_integer" "is_integer" (top 1) fInt)
    (aWi : PySem.W.nsIn K mainGlobals "is_within" = some (some (.ref fWi)))
    (hWi : FQ K "is_within" "is_within" (top 2) fWi)
    (aSl : PySem.W.nsIn K mainGlobals "is_slots" = some (some (.ref fSl)))
    (hSl : FQ K "is_slots" "is_slots" (top 13) fSl)
    (aLo : PySem.W.nsIn K mainGlobals "is_losses" = some (some (.ref fLo)))
    (hLo : FQ K "is_losses" "is_losses" (top 14) fLo)
    (aAs : PySem.W.nsIn K mainGlobals "is_ascending" = some (some (.ref fAs)))
    (hAs : FQ K "is_ascending" "is_ascending" (top 19) fAs)
    (aSu : PySem.W.nsIn K mainGlobals "is_sum" = some (some (.ref fSu)))
    (hSu : FQ K "is_sum" "is_sum" (top 20) fSu)
    (aTe : PySem.W.nsIn K mainGlobals "tells_mute" = some (some (.ref fTe)))
    (hTe : FQ K "tells_mute" "tells_mute" (top 26) fTe)
    (aOd : PySem.W.nsIn K mainGlobals "is_odd" = some (some (.ref fOd)))
    (hOd : FQ K "is_odd" "is_odd" (top 29) fOd)
    (aHe : PySem.W.nsIn K mainGlobals "heard_vectors" = some (some (.ref fHe)))
    (hHe : FQ K "heard_vectors" "heard_vectors" (top 30) fHe)
    (aMs : PySem.W.nsIn K mainGlobals "masks_at" = some (some (.ref fMs)))
    (hMs : FQ K "masks_at" "masks_at" (top 32) fMs)
    (aVb : PySem.W.nsIn K mainGlobals "vectors_behind" = some (some (.ref fVb)))
    (hVb : FQ K "vectors_behind" "vectors_behind" (top 33) fVb)
    (aKn : PySem.W.nsIn K mainGlobals "known_at" = some (some (.ref fKn)))
    (hKn : FQ K "known_at" "known_at" (top 34) fKn)
    (aPe : PySem.W.nsIn K mainGlobals "_law_pen" = some (some (.ref fPe)))
    (hPe : FQ K "_law_pen" "_law_pen" (top 36) fPe)
    (aDr : PySem.W.nsIn K mainGlobals "_law_draw" = some (some (.ref fDr)))
    (hDr : FQ K "_law_draw" "_law_draw" (top 37) fDr)
    (aPi : PySem.W.nsIn K mainGlobals "_law_pick" = some (some (.ref fPi)))
    (hPi : FQ K "_law_pick" "_law_pick" (top 38) fPi)
    (aSm : PySem.W.nsIn K mainGlobals "_law_sums" = some (some (.ref fSm)))
    (hSm : FQ K "_law_sums" "_law_sums" (top 39) fSm)
    (aPn : PySem.W.nsIn K mainGlobals "_law_plain" = some (some (.ref fPn)))
    (hPn : FQ K "_law_plain" "_law_plain" (top 40) fPn)
    (aPh : PySem.W.nsIn K mainGlobals "_law_phase" = some (some (.ref fPh)))
    (hPh : FQ K "_law_phase" "_law_phase" (top 41) fPh)
    (aPa : PySem.W.nsIn K mainGlobals "_law_plan" = some (some (.ref fPa)))
    (hPa : FQ K "_law_plan" "_law_plan" (top 42) fPa)
    (aEv : PySem.W.nsIn K mainGlobals "_law_even" = some (some (.ref fEv)))
    (hEv : FQ K "_law_even" "_law_even" (top 43) fEv)
    (aLk : PySem.W.nsIn K mainGlobals "_law_known" = some (some (.ref fLk)))
    (hLk : FQ K "_law_known" "_law_known" (top 44) fLk)
    (aLa : PySem.W.nsIn K mainGlobals "law" = some (some (.ref fLa)))
    (hLa : FQ K "law" "law" (top 45) fLa)
    (aC : PySem.W.nsIn K mainGlobals "Phase" = some (some (.ref C)))
    (clsC : Cls K C)
    (mkC : PySem.W.makesIn K C = true)
    (kpC : PySem.W.keepIn K (.ref C) = true)
    (ccC : PySem.W.findIn K (.ref C) "__class__" = some (some (.builtin "object.__class__")))
    (obC : PySem.W.mroIn K C (.type "object") = some true)
    (aCP : PySem.W.nsIn K mainGlobals "Plan" = some (some (.ref CP)))
    (clsCP : Cls K CP)
    (mkCP : PySem.W.makesIn K CP = true)
    (kpCP : PySem.W.keepIn K (.ref CP) = true)
    (ccCP : PySem.W.findIn K (.ref CP) "__class__" = some (some (.builtin "object.__class__")))
    (obCP : PySem.W.mroIn K CP (.type "object") = some true)
    (nsu : NoAttr K C "sums")
    (nmu : NoAttr K C "mute")
    (nph : NoAttr K CP "phases")
    (aIC : PySem.W.findIn K (.ref C) "__init__" = some (some (.ref mC)))
    (tIC : PySem.W.isFn K (.ref mC) = true)
    (hIC : FunD K "__init__" "Phase.__init__" (sPh 0) mC D)
    (hD : PySem.W.nsIn K D "mute" = some (some (.bool false)))
    (aIP : PySem.W.findIn K (.ref CP) "__init__" = some (some (.ref mP)))
    (tIP : PySem.W.isFn K (.ref mP) = true)
    (hIP : FQ K "__init__" "Plan.__init__" (sPl 0) mP)
    (rd : PySem.W.readsIn K CP mc = true)
    (ga : PySem.W.specialIn K (.ref CP) "__getattribute__" = some (some (.builtin "type.__getattribute__")))
    (tN : CMet K CP mc "plain" pN mN)
    (hN : FQ K "plain" "Plan.plain" (sPl 1) mN)
    (tO : CMet K CP mc "copies" pO mO)
    (hO : FQ K "copies" "Plan.copies" (sPl 2) mO)
    (tG : CMet K CP mc "groups" pG mG)
    (hG : FQ K "groups" "Plan.groups" (sPl 3) mG)
    (cs : PySem.W.specialIn K (.builtin "object.__class__") "__get__" = some (some (.builtin "getset_descriptor.__get__")))
    (ct : PySem.W.takesIn K (.builtin "object.__class__") = some true)
    (zA : ∃ t, PySem.W.nsIn K mainGlobals "MOST_AGE" = some (some (.int 4 t)))
    (zS : ∃ t, PySem.W.nsIn K mainGlobals "MOST_SUMS" = some (some (.int 4 t)))
    (zP : ∃ t, PySem.W.nsIn K mainGlobals "MOST_PHASES" = some (some (.int 4 t)))
    (zL : ∃ t, PySem.W.nsIn K mainGlobals "MOST_SLOTS" = some (some (.int 400 t)))
    (z_isinstance : PySem.W.nsIn K mainGlobals "isinstance" = some (none))
    (z_int : PySem.W.nsIn K mainGlobals "int" = some (none))
    (z_bool : PySem.W.nsIn K mainGlobals "bool" = some (none))
    (z_str : PySem.W.nsIn K mainGlobals "str" = some (none))
    (z_len : PySem.W.nsIn K mainGlobals "len" = some (none))
    (z_abs : PySem.W.nsIn K mainGlobals "abs" = some (none))
    (z_list : PySem.W.nsIn K mainGlobals "list" = some (none))
    (z_range : PySem.W.nsIn K mainGlobals "range" = some (none))
    (z_tuple : PySem.W.nsIn K mainGlobals "tuple" = some (none))
    (z_enumerate : PySem.W.nsIn K mainGlobals "enumerate" = some (none))
    (z_sorted : PySem.W.nsIn K mainGlobals "sorted" = some (none))
    (z_any : PySem.W.nsIn K mainGlobals "any" = some (none))
    (z_all : PySem.W.nsIn K mainGlobals "all" = some (none))
    (z_sum : PySem.W.nsIn K mainGlobals "sum" = some (none))
    (z_repr : PySem.W.nsIn K mainGlobals "repr" = some (none))
    : ∃ fd : FuncData, (∀ (s : Shared) (v : Value), BindsTo s fd ⟨[v], []⟩ [("_law_script", v)]) ∧ ∀ base : Heap, K.In base → base.Ns mainGlobals mg → FnG l.prog w K mg base 8 fa fd ["_law_script"] (spLaw K) := by
  have eLa := hfa.symm.trans (PySem.W.mg_of X G aLa)
  cases eLa
  have gInt := PySem.W.mg_of X G aInt
  obtain ⟨dInt, FInt⟩ := hInt.fn
  have bInt : Binds K dInt ["value"] [] := FInt.binds fun _ _ _ _ _ _ us hl => match us, hl with | [_], _ => rfl
  have gWi := PySem.W.mg_of X G aWi
  obtain ⟨dWi, FWi⟩ := hWi.fn
  have bWi : Binds K dWi ["value", "least", "most"] [] := FWi.binds fun _ _ _ _ _ _ us hl => match us, hl with | [_, _, _], _ => rfl
  have gSl := PySem.W.mg_of X G aSl
  obtain ⟨dSl, FSl⟩ := hSl.fn
  have bSl : Binds K dSl ["value"] [] := FSl.binds fun _ _ _ _ _ _ us hl => match us, hl with | [_], _ => rfl
  have gLo := PySem.W.mg_of X G aLo
  obtain ⟨dLo, FLo⟩ := hLo.fn
  have bLo : Binds K dLo ["value"] [] := FLo.binds fun _ _ _ _ _ _ us hl => match us, hl with | [_], _ => rfl
  have gAs := PySem.W.mg_of X G aAs
  obtain ⟨dAs, FAs⟩ := hAs.fn
  have bAs : Binds K dAs ["values"] [] := FAs.binds fun _ _ _ _ _ _ us hl => match us, hl with | [_], _ => rfl
  have gSu := PySem.W.mg_of X G aSu
  obtain ⟨dSu, FSu⟩ := hSu.fn
  have bSu : Binds K dSu ["value"] [] := FSu.binds fun _ _ _ _ _ _ us hl => match us, hl with | [_], _ => rfl
  have gTe := PySem.W.mg_of X G aTe
  obtain ⟨dTe, FTe⟩ := hTe.fn
  have bTe : Binds K dTe ["phases", "at"] [] := FTe.binds fun _ _ _ _ _ _ us hl => match us, hl with | [_, _], _ => rfl
  have gOd := PySem.W.mg_of X G aOd
  obtain ⟨dOd, FOd⟩ := hOd.fn
  have bOd : Binds K dOd ["vector"] [] := FOd.binds fun _ _ _ _ _ _ us hl => match us, hl with | [_], _ => rfl
  have gHe := PySem.W.mg_of X G aHe
  obtain ⟨dHe, FHe⟩ := hHe.fn
  have bHe : Binds K dHe ["vectors", "mask"] [] := FHe.binds fun _ _ _ _ _ _ us hl => match us, hl with | [_, _], _ => rfl
  have gMs := PySem.W.mg_of X G aMs
  obtain ⟨dMs, FMs⟩ := hMs.fn
  have bMs : Binds K dMs ["phase", "at"] [] := FMs.binds fun _ _ _ _ _ _ us hl => match us, hl with | [_, _], _ => rfl
  have gVb := PySem.W.mg_of X G aVb
  obtain ⟨dVb, FVb⟩ := hVb.fn
  have bVb : Binds K dVb ["vectors", "phase", "at", "is_kept"] [] := FVb.binds fun _ _ _ _ _ _ us hl => match us, hl with | [_, _, _, _], _ => rfl
  have gKn := PySem.W.mg_of X G aKn
  obtain ⟨dKn, FKn⟩ := hKn.fn
  have bKn : Binds K dKn ["plan", "begin", "losses"] [] := FKn.binds fun _ _ _ _ _ _ us hl => match us, hl with | [_, _, _], _ => rfl
  have gPe := PySem.W.mg_of X G aPe
  obtain ⟨dPe, FPe⟩ := hPe.fn
  have bPe : Binds K dPe ["_law_script"] [] := FPe.binds fun _ _ _ _ _ _ us hl => match us, hl with | [_], _ => rfl
  have gDr := PySem.W.mg_of X G aDr
  obtain ⟨dDr, FDr⟩ := hDr.fn
  have bDr : Binds K dDr ["_law_pen_here", "_law_top_so"] [] := FDr.binds fun _ _ _ _ _ _ us hl => match us, hl with | [_, _], _ => rfl
  have gPi := PySem.W.mg_of X G aPi
  obtain ⟨dPi, FPi⟩ := hPi.fn
  have bPi : Binds K dPi ["_law_pen_here", "_law_some"] [] := FPi.binds fun _ _ _ _ _ _ us hl => match us, hl with | [_, _], _ => rfl
  have gSm := PySem.W.mg_of X G aSm
  obtain ⟨dSm, FSm⟩ := hSm.fn
  have bSm : Binds K dSm ["_law_pen_here"] [] := FSm.binds fun _ _ _ _ _ _ us hl => match us, hl with | [_], _ => rfl
  have gPn := PySem.W.mg_of X G aPn
  obtain ⟨dPn, FPn⟩ := hPn.fn
  have bPn : Binds K dPn ["_law_pen_here"] [] := FPn.binds fun _ _ _ _ _ _ us hl => match us, hl with | [_], _ => rfl
  have gPh := PySem.W.mg_of X G aPh
  obtain ⟨dPh, FPh⟩ := hPh.fn
  have bPh : Binds K dPh ["_law_row"] [] := FPh.binds fun _ _ _ _ _ _ us hl => match us, hl with | [_], _ => rfl
  have gPa := PySem.W.mg_of X G aPa
  obtain ⟨dPa, FPa⟩ := hPa.fn
  have bPa : Binds K dPa ["_law_plain_here"] [] := FPa.binds fun _ _ _ _ _ _ us hl => match us, hl with | [_], _ => rfl
  have gEv := PySem.W.mg_of X G aEv
  obtain ⟨dEv, FEv⟩ := hEv.fn
  have bEv : Binds K dEv ["_law_vector", "_law_mask"] [] := FEv.binds fun _ _ _ _ _ _ us hl => match us, hl with | [_, _], _ => rfl
  have gLk := PySem.W.mg_of X G aLk
  obtain ⟨dLk, FLk⟩ := hLk.fn
  have bLk : Binds K dLk ["_law_plain_here", "_law_first", "_law_losses_so"] [] := FLk.binds fun _ _ _ _ _ _ us hl => match us, hl with | [_, _, _], _ => rfl
  obtain ⟨oc, od, kV, doc, pm, an, cdv, ct', osl, lkL, cdL⟩ := hLa.l
  have FLa := fun_mk (st := top 45) lkL cdL hLa.k
  obtain ⟨eIP, MIP⟩ := hIP.fn
  obtain ⟨eN, MN⟩ := hN.fn
  obtain ⟨eO, MO⟩ := hO.fn
  obtain ⟨eG, MG⟩ := hG.fn
  have cN : Binds K eN ["cls"] [] := MN.binds fun _ _ _ _ _ _ us hl => match us, hl with | [_], _ => rfl
  have cG : Binds K eG ["cls", "size"] [] := MG.binds fun _ _ _ _ _ _ us hl => match us, hl with | [_, _], _ => rfl
  have m_isinstance := PySem.W.mg_none_of X G z_isinstance
  have m_int := PySem.W.mg_none_of X G z_int
  have m_bool := PySem.W.mg_none_of X G z_bool
  have m_str := PySem.W.mg_none_of X G z_str
  have m_len := PySem.W.mg_none_of X G z_len
  have m_abs := PySem.W.mg_none_of X G z_abs
  have m_list := PySem.W.mg_none_of X G z_list
  have m_range := PySem.W.mg_none_of X G z_range
  have m_tuple := PySem.W.mg_none_of X G z_tuple
  have m_enumerate := PySem.W.mg_none_of X G z_enumerate
  have m_sorted := PySem.W.mg_none_of X G z_sorted
  have m_any := PySem.W.mg_none_of X G z_any
  have m_all := PySem.W.mg_none_of X G z_all
  have m_sum := PySem.W.mg_none_of X G z_sum
  have m_repr := PySem.W.mg_none_of X G z_repr
  have TT : GlbT mg := ⟨m_isinstance, m_int, m_bool, m_str, m_len⟩
  have TS : GlbS mg := ⟨m_len, m_range, m_tuple, m_list⟩
  have TG : Glb mg := ⟨m_int, m_abs, m_len, m_list⟩
  have TE : GlbE mg := ⟨m_enumerate, m_sorted, m_any, m_all, m_sum⟩
  have gC := PySem.W.mg_of X G aC
  have gCP := PySem.W.mg_of X G aCP
  have hA : ∃ t, mg "MOST_AGE" = some (.int 4 t) := zA.imp fun _ e => PySem.W.mg_of X G e
  have hS : ∃ t, mg "MOST_SUMS" = some (.int 4 t) := zS.imp fun _ e => PySem.W.mg_of X G e
  have hP : ∃ t, mg "MOST_PHASES" = some (.int 4 t) := zP.imp fun _ e => PySem.W.mg_of X G e
  have hL : ∃ t, mg "MOST_SLOTS" = some (.int 400 t) := zL.imp fun _ e => PySem.W.mg_of X G e
  have GC : PhC K C := ⟨clsC, nsu, nmu⟩
  have GP : PlC K CP := ⟨clsCP, nph⟩
  have IC : GIsi K C := ⟨ccC, cs, ct, obC⟩
  have IP : GIsi K CP := ⟨ccCP, cs, ct, obCP⟩
  have MkC : Mk K C mC := ⟨mkC, aIC, tIC, kpC⟩
  have MkP : Mk K CP mP := ⟨mkCP, aIP, tIP, kpCP⟩
  have kn : KBn K dKn ["plan", "begin", "losses"] 0 ["plan", "losses", "begin"] (fun us ws => us ++ [ws.getD 0 .none, ws.getD 2 .none, ws.getD 1 .none]) (fun vs zs => vs ++ [zs.getD 0 .non, zs.getD 2 .non, zs.getD 1 .non]) := by
    obtain ⟨oc, od, kV, doc, pm, an, cdv, ct, osl, rfl, lk, hcd⟩ := FKn.ex
    exact ⟨fun s us ws _ l1 l2 => .of_eq (match us, l1, ws, l2 with | [], _, [_, _, _], _ => rfl), fun r1 r2 => r1.append (.cons (vals_getD 0 r2) (.cons (vals_getD 2 r2) (.cons (vals_getD 1 r2) .nil)))⟩
  refine ⟨PySem.W.fnOf "law" "law" (defArgs sLaw) (defBody sLaw) (defScope sLaw) .none kV doc pm an cdv ct', fun s v => .of_eq rfl, fun base _ _ => ?_⟩
  have oWi : FnOk l.prog w K mg base CX0 2 fWi dWi ["value", "least", "most"] (spWithin K) := ok_within FWi TT FInt bInt gInt
  have GWi : Gfn l.prog w K mg base 2 "is_within" ["value", "least", "most"] (spWithin K) := ⟨_, _, oWi, hWi.k, bWi, gWi⟩
  have oSl : FnOk l.prog w K mg base CX0 1 fSl dSl ["value"] (spIsl) := ok_Isl FSl TT
  have GSl : Gfn l.prog w K mg base 1 "is_slots" ["value"] (spIsl) := ⟨_, _, oSl, hSl.k, bSl, gSl⟩
  have oLo : FnOk l.prog w K mg base CX0 2 fLo dLo ["value"] (spIsl) := ok_Ilo FLo TT hL GSl
  have GLo : Gfn l.prog w K mg base 2 "is_losses" ["value"] (spIsl) := ⟨_, _, oLo, hLo.k, bLo, gLo⟩
  have oAs : FnOk l.prog w K mg base CX0 1 fAs dAs ["values"] (spAsc K) := ok_Asc FAs TS m_all
  have GAs : Gfn l.prog w K mg base 1 "is_ascending" ["values"] (spAsc K) := ⟨_, _, oAs, hAs.k, bAs, gAs⟩
  have oSu : FnOk l.prog w K mg base CX0 3 fSu dSu ["value"] (spSum K) := ok_Sum FSu TT TS m_all hA GWi GAs
  have GSu : Gfn l.prog w K mg base 3 "is_sum" ["value"] (spSum K) := ⟨_, _, oSu, hSu.k, bSu, gSu⟩
  have oTe : FnOk l.prog w K mg base CX0 1 fTe dTe ["phases", "at"] (spTel K C) := ok_Tel FTe GC TS TE
  have GTe : Gfn l.prog w K mg base 1 "tells_mute" ["phases", "at"] (spTel K C) := ⟨_, _, oTe, hTe.k, bTe, gTe⟩
  have GG : GPl l.prog w K mg base CP C mP mC := ⟨gCP, gC, MkP, MkC, ok_Pl MIP GP GC IC gC TT TS TE hP GTe, made_PhK hIC GC TT TS TE hS GSu, made_PhD hIC hD GC TT TS TE hS GSu, GP, GC⟩
  have oN : FnOk l.prog w K mg base CX0 6 mN eN ["cls"] (spPlain K CP C) := ok_Plain MN GG
  have oO : FnR l.prog w K mg base CX0 6 mO (spCopA K CP C) := ok_Cop MO GG
  have oG : FnOk l.prog w K mg base CX0 6 mG eG ["cls", "size"] (spGrp K CP C) := ok_Grp MG GG TS GWi
  have oOd : FnOk l.prog w K mg base CX0 1 fOd dOd ["vector"] (spOdd) := ok_Odd FOd
  have GOd : Gfn l.prog w K mg base 1 "is_odd" ["vector"] (spOdd) := ⟨_, _, oOd, hOd.k, bOd, gOd⟩
  have oHe : FnOk l.prog w K mg base CX0 2 fHe dHe ["vectors", "mask"] (spHear K) := ok_Hear FHe oOd hOd.k bOd gOd
  have GHe : Gfn l.prog w K mg base 2 "heard_vectors" ["vectors", "mask"] (spHear K) := ⟨_, _, oHe, hHe.k, bHe, gHe⟩
  have oMs : FnOk l.prog w K mg base CX0 1 fMs dMs ["phase", "at"] (spMsk K C) := ok_Msk FMs GC TE
  have GMs : Gfn l.prog w K mg base 1 "masks_at" ["phase", "at"] (spMsk K C) := ⟨_, _, oMs, hMs.k, bMs, gMs⟩
  have oVb : FnOk l.prog w K mg base CX0 3 fVb dVb ["vectors", "phase", "at", "is_kept"] (spVbh K C) := ok_Vbh FVb GC TS GMs GHe
  have GVb : Gfn l.prog w K mg base 3 "vectors_behind" ["vectors", "phase", "at", "is_kept"] (spVbh K C) := ⟨_, _, oVb, hVb.k, bVb, gVb⟩
  have oKn : FnOk l.prog w K mg base CX0 4 fKn dKn ["plan", "begin", "losses"] (spKn K CP C) := ok_Kn FKn GP IP gCP GC TT TS TE GWi GLo GVb
  have GKn : Gfn l.prog w K mg base 4 "known_at" ["plan", "begin", "losses"] (spKn K CP C) := ⟨_, _, oKn, hKn.k, bKn, gKn⟩
  have oPe : FnOk l.prog w K mg base CX0 1 fPe dPe ["_law_script"] (spPen K) := ok_pen FPe TG
  have GPe : Gfn l.prog w K mg base 1 "_law_pen" ["_law_script"] (spPen K) := ⟨_, _, oPe, hPe.k, bPe, gPe⟩
  have oDr : FnOk l.prog w K mg base CX0 1 fDr dDr ["_law_pen_here", "_law_top_so"] (spDraw) := ok_draw FDr TG
  have GDr : Gfn l.prog w K mg base 1 "_law_draw" ["_law_pen_here", "_law_top_so"] (spDraw) := ⟨_, _, oDr, hDr.k, bDr, gDr⟩
  have oPi : FnOk l.prog w K mg base CX0 2 fPi dPi ["_law_pen_here", "_law_some"] (spPick) := ok_pick FPi TG FDr bDr gDr
  have GPi : Gfn l.prog w K mg base 2 "_law_pick" ["_law_pen_here", "_law_some"] (spPick) := ⟨_, _, oPi, hPi.k, bPi, gPi⟩
  have oSm : FnOk l.prog w K mg base CX0 3 fSm dSm ["_law_pen_here"] (spSms) := ok_Sms FSm TS oDr hDr.k bDr gDr GPi
  have GSm : Gfn l.prog w K mg base 3 "_law_sums" ["_law_pen_here"] (spSms) := ⟨_, _, oSm, hSm.k, bSm, gSm⟩
  have oPn : FnOk l.prog w K mg base CX0 4 fPn dPn ["_law_pen_here"] (spPln) := ok_Pln FPn TG TS oDr hDr.k bDr gDr GSm
  have GPn : Gfn l.prog w K mg base 4 "_law_plain" ["_law_pen_here"] (spPln) := ⟨_, _, oPn, hPn.k, bPn, gPn⟩
  have oPh : FnOk l.prog w K mg base CX0 6 fPh dPh ["_law_row"] (spPhs K C) := ok_Phs FPh TS GG
  have GPh : Gfn l.prog w K mg base 6 "_law_phase" ["_law_row"] (spPhs K C) := ⟨_, _, oPh, hPh.k, bPh, gPh⟩
  have oPa : FnOk l.prog w K mg base CX0 7 fPa dPa ["_law_plain_here"] (spPla K CP C) := ok_Pla FPa TS GG GPh
  have GPa : Gfn l.prog w K mg base 7 "_law_plan" ["_law_plain_here"] (spPla K CP C) := ⟨_, _, oPa, hPa.k, bPa, gPa⟩
  have oEv : FnOk l.prog w K mg base CX0 1 fEv dEv ["_law_vector", "_law_mask"] (spEvn) := ok_Evn FEv
  have GEv : Gfn l.prog w K mg base 1 "_law_even" ["_law_vector", "_law_mask"] (spEvn) := ⟨_, _, oEv, hEv.k, bEv, gEv⟩
  have oLk : FnOk l.prog w K mg base CX0 2 fLk dLk ["_law_plain_here", "_law_first", "_law_losses_so"] (spLkn) := ok_Lkn FLk TG TS TE GEv
  have GLk : Gfn l.prog w K mg base 2 "_law_known" ["_law_plain_here", "_law_first", "_law_losses_so"] (spLkn) := ⟨_, _, oLk, hLk.k, bLk, gLk⟩
  exact ok_Law (mc := mc) FLa TS TE m_repr ⟨gCP, ⟨rd, ga⟩⟩ GG tO oO tG oG cG tN oN cN GPe GDr GPi GPn GPa GLk oKn hKn.k bKn gKn kn
end K19
namespace K19
open PySem L2 Evl
theorem walk {l : PySem.W.OpenLaw} {q : Program} {loose : List Str} {XP : (Str → Option Value) → Heap → Prop} {YP : World → Heap → Prop} {d : DefRec} {K : Params → PySem.W.Frag} (hn : l.most = some 63) (hdf : d.params.defaults = [])
    (hY : ∀ (w : World) (h : Heap), YP w h → (K w.params).In h)
    (F : ∀ (w : World) (mg : Str → Option Value) (fa : Addr) (h : Heap), (K w.params).In h → h.Ns mainGlobals mg → mg d.name = some (.ref fa) →
      ∃ fd : FuncData, (∀ (s : Shared) (u : Value), BindsTo s fd ⟨[u], []⟩ [("_law_script", u)]) ∧ ∀ base : Heap, (K w.params).In base → base.Ns mainGlobals mg → FnG l.prog w (K w.params) mg base 8 fa fd ["_law_script"] (spLaw (K w.params))) :
    PySem.W.WalkO q loose XP YP l.row.toRowW d [] (fun f vs => PySem.call f vs) :=
  walkG_of (n := 63) (k := 8) (x := "_law_script") (sp := fun w => spLaw (K w.params)) hn (by decide) hdf ⟨rfl, by decide, by decide⟩ hY F (fun w H a ns hl _ hS => ⟨a, ns, rfl, hS, hl, fun _ => rfl⟩)
end K19
open PySem PySem.W PyProof.Rows
set_option maxRecDepth 100000 in
set_option maxHeartbeats 0 in
theorem PySem.Challenge.cw_layerpost_k19_rows_known_slot_by_slot_holds : PySem.Challenge.rw_layerpost_k19_rows_known_slot_by_slot.Holds := by
  w_on; o_law; k_head; (case hw => w_witness2)
  k_fill
  refine K19.walk (l := PySem.Challenge.rw_layerpost_k19_rows_known_slot_by_slot) rfl rfl (fun w h Y => PySem.W.kIn_of Y) ?F
  case F =>
    intro w mg fa h KX G hmg
    refine' K19.all_mk KX G hmg ?qaInt ?qhInt ?qaWi ?qhWi ?qaSl ?qhSl ?qaLo ?qhLo ?qaAs ?qhAs ?qaSu ?qhSu ?qaTe ?qhTe ?qaOd ?qhOd ?qaHe ?qhHe ?qaMs ?qhMs ?qaVb ?qhVb ?qaKn ?qhKn ?qaPe ?qhPe ?qaDr ?qhDr ?qaPi ?qhPi ?qaSm ?qhSm ?qaPn ?qhPn ?qaPh ?qhPh ?qaPa ?qhPa ?qaEv ?qhEv ?qaLk ?qhLk ?qaLa ?qhLa ?qaC ?qclsC ?qmkC ?qkpC ?qccC ?qobC ?qaCP ?qclsCP ?qmkCP ?qkpCP ?qccCP ?qobCP ?qnsu ?qnmu ?qnph ?qaIC ?qtIC ?qhIC ?qhD ?qaIP ?qtIP ?qhIP ?qrd ?qga ?qtN ?qhN ?qtO ?qhO ?qtG ?qhG ?qcs ?qct ?qzA ?qzS ?qzP ?qzL ?qz_isinstance ?qz_int ?qz_bool ?qz_str ?qz_len ?qz_abs ?qz_list ?qz_range ?qz_tuple ?qz_enumerate ?qz_sorted ?qz_any ?qz_all ?qz_sum ?qz_repr
    (case qaInt => k_is)
    (case qhInt => exact ⟨⟨_, _, _, _, _, _, _, _, _, by k_is, by k_is⟩, by k_is⟩)
    (case qaWi => k_is)
    (case qhWi => exact ⟨⟨_, _, _, _, _, _, _, _, _, by k_is, by k_is⟩, by k_is⟩)
    (case qaSl => k_is)
    (case qhSl => exact ⟨⟨_, _, _, _, _, _, _, _, _, by k_is, by k_is⟩, by k_is⟩)
    (case qaLo => k_is)
    (case qhLo => exact ⟨⟨_, _, _, _, _, _, _, _, _, by k_is, by k_is⟩, by k_is⟩)
    (case qaAs => k_is)
    (case qhAs => exact ⟨⟨_, _, _, _, _, _, _, _, _, by k_is, by k_is⟩, by k_is⟩)
    (case qaSu => k_is)
    (case qhSu => exact ⟨⟨_, _, _, _, _, _, _, _, _, by k_is, by k_is⟩, by k_is⟩)
    (case qaTe => k_is)
    (case qhTe => exact ⟨⟨_, _, _, _, _, _, _, _, _, by k_is, by k_is⟩, by k_is⟩)
    (case qaOd => k_is)
    (case qhOd => exact ⟨⟨_, _, _, _, _, _, _, _, _, by k_is, by k_is⟩, by k_is⟩)
    (case qaHe => k_is)
    (case qhHe => exact ⟨⟨_, _, _, _, _, _, _, _, _, by k_is, by k_is⟩, by k_is⟩)
    (case qaMs => k_is)
    (case qhMs => exact ⟨⟨_, _, _, _, _, _, _, _, _, by k_is, by k_is⟩, by k_is⟩)
    (case qaVb => k_is)
    (case qhVb => exact ⟨⟨_, _, _, _, _, _, _, _, _, by k_is, by k_is⟩, by k_is⟩)
    (case qaKn => k_is)
    (case qhKn => exact ⟨⟨_, _, _, _, _, _, _, _, _, by k_is, by k_is⟩, by k_is⟩)
    (case qaPe => k_is)
    (case qhPe => exact ⟨⟨_, _, _, _, _, _, _, _, _, by k_is, by k_is⟩, by k_is⟩)
    (case qaDr => k_is)
    (case qhDr => exact ⟨⟨_, _, _, _, _, _, _, _, _, by k_is, by k_is⟩, by k_is⟩)
    (case qaPi => k_is)
    (case qhPi => exact ⟨⟨_, _, _, _, _, _, _, _, _, by k_is, by k_is⟩, by k_is⟩)
    (case qaSm => k_is)
    (case qhSm => exact ⟨⟨_, _, _, _, _, _, _, _, _, by k_is, by k_is⟩, by k_is⟩)
    (case qaPn => k_is)
    (case qhPn => exact ⟨⟨_, _, _, _, _, _, _, _, _, by k_is, by k_is⟩, by k_is⟩)
    (case qaPh => k_is)
    (case qhPh => exact ⟨⟨_, _, _, _, _, _, _, _, _, by k_is, by k_is⟩, by k_is⟩)
    (case qaPa => k_is)
    (case qhPa => exact ⟨⟨_, _, _, _, _, _, _, _, _, by k_is, by k_is⟩, by k_is⟩)
    (case qaEv => k_is)
    (case qhEv => exact ⟨⟨_, _, _, _, _, _, _, _, _, by k_is, by k_is⟩, by k_is⟩)
    (case qaLk => k_is)
    (case qhLk => exact ⟨⟨_, _, _, _, _, _, _, _, _, by k_is, by k_is⟩, by k_is⟩)
    (case qaLa => k_is)
    (case qhLa => exact ⟨⟨_, _, _, _, _, _, _, _, _, by k_is, by k_is⟩, by k_is⟩)
    (case qaC => k_is)
    (case qclsC => exact ⟨by k_is, by k_is, by k_is, by k_is⟩)
    (case qmkC => k_is)
    (case qkpC => k_is)
    (case qccC => k_is)
    (case qobC => k_is)
    (case qaCP => k_is)
    (case qclsCP => exact ⟨by k_is, by k_is, by k_is, by k_is⟩)
    (case qmkCP => k_is)
    (case qkpCP => k_is)
    (case qccCP => k_is)
    (case qobCP => k_is)
    (case qnsu => exact (by unfold L2.NoAttr; k_is))
    (case qnmu => exact (by unfold L2.NoAttr; k_is))
    (case qnph => exact (by unfold L2.NoAttr; k_is))
    (case qaIC => k_is)
    (case qtIC => k_is)
    (case qhIC => exact ⟨⟨_, _, _, _, _, _, _, _, by k_is, by k_is⟩⟩)
    (case qhD => k_is)
    (case qaIP => k_is)
    (case qtIP => k_is)
    (case qhIP => exact ⟨⟨_, _, _, _, _, _, _, _, _, by k_is, by k_is⟩, by k_is⟩)
    (case qrd => exact (show PySem.W.readsIn _ _ (.type "type") = true by k_is))
    (case qga => k_is)
    (case qtN => exact ⟨by k_is, ⟨_, by k_is⟩, by k_is⟩)
    (case qhN => exact ⟨⟨_, _, _, _, _, _, _, _, _, by k_is, by k_is⟩, by k_is⟩)
    (case qtO => exact ⟨by k_is, ⟨_, by k_is⟩, by k_is⟩)
    (case qhO => exact ⟨⟨_, _, _, _, _, _, _, _, _, by k_is, by k_is⟩, by k_is⟩)
    (case qtG => exact ⟨by k_is, ⟨_, by k_is⟩, by k_is⟩)
    (case qhG => exact ⟨⟨_, _, _, _, _, _, _, _, _, by k_is, by k_is⟩, by k_is⟩)
    (case qcs => k_is)
    (case qct => k_is)
    (case qzA => exact ⟨_, by k_is⟩)
    (case qzS => exact ⟨_, by k_is⟩)
    (case qzP => exact ⟨_, by k_is⟩)
    (case qzL => exact ⟨_, by k_is⟩)
    (case qz_isinstance => k_is)
    (case qz_int => k_is)
    (case qz_bool => k_is)
    (case qz_str => k_is)
    (case qz_len => k_is)
    (case qz_abs => k_is)
    (case qz_list => k_is)
    (case qz_range => k_is)
    (case qz_tuple => k_is)
    (case qz_enumerate => k_is)
    (case qz_sorted => k_is)
    (case qz_any => k_is)
    (case qz_all => k_is)
    (case qz_sum => k_is)
    (case qz_repr => k_is)
