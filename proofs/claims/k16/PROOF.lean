import PyProof.Rows.All
import Wide.All
import OpenK.AllK
import Wide.FinOn
import HandS.ForMost
import HandS.Evl
import HandS.Dict
import HandS.TupLen
import KE.KDictKeyed
import KE.KeyNested
import HandS.Wide
import HandS.Star
import HandS.SlotsOwn
import HandS.OwnEq
import KE.KOpsOwn
import HandS.Iter
import HandS.IterVal
import HandS.Records
import HandS.TupMul
import KE.KOwnIter
import HandS.Style
import HandS.Codes
import PyProof.ReprRoads
import HandS.Walk
import KE.GoesMore
import KE.GoesEnum
import HandS.IsInst
import HandS.StrMore
import HandS.Defaults
import HandS.ClsMeth
import HandS.TupAny
import HandS.Conv
import HandS.Keys
import HandS.Text
import HandS.Deep
import PyProof.P3In
import HandS.DictComp
import HandS.List
import HandS.Comp
import PyProof.Rows.InDataRows
import HandS.ForExc
import HandS.ExcInit
import HandS.ExcValue
import HandS.ExcField
import KE.KExcIs
import HandS.ExcIs
import HandS.WordsExc
import HandS.RaiseMore
import KE.KCallOwn
import HandS.CallLocal
import PyProof.EqAt
import PyProof.EqKinds
import PyProof.NeKinds
import HandS.Base
import HandS.Call
import HandS.MakeKwOnly
import HandS.SetFor
import HandS.Strs
import HandS.TupSets
import HandS.SortKw
import HandS.Sort
import HandS.SortInts
import KE.BitLaws
import HandS.TryOnly
import HandS.Steps
import KE.KDictDisplayH
import HandS.Lambda
import HandS.EndTab
import HandS.MakeKw
import KE.KNest
import PySem.Challenge.RW_layerpost_k16_whole_loss_rules_joined
set_option Elab.async false
set_option linter.all false
set_option maxRecDepth 100000
set_option maxHeartbeats 8000000
/-! dicts that number tuples of ints and None: k not in d, d[k], d[k] = len(d), len(d) -/
namespace DnX
open PySem PySem.Spec PyProof.Rows L2
def nkV : V → NestedKey
  | .int i => .num i
  | _ => .none
def FlatK : V → Prop
  | .int _ => True
  | .non => True
  | _ => False
theorem nk_inj : ∀ {v u : V}, FlatK v → FlatK u → nkV v = nkV u → v = u := fun {v u} hv hu h => by
  cases v <;> cases u <;> first | exact hv.elim | exact hu.elim | rfl | (cases h; rfl) | cases h
theorem nks_inj : ∀ {k m : List V}, (∀ v ∈ k, FlatK v) → (∀ v ∈ m, FlatK v) → k.map nkV = m.map nkV → k = m
  | [], [], _, _, _ => rfl
  | [], _ :: _, _, _, h => by cases h
  | _ :: _, [], _, _, h => by cases h
  | v :: k, u :: m, hv, hu, h => by
    rw [List.map_cons, List.map_cons] at h
    obtain ⟨h1, h2⟩ := List.cons.inj h
    rw [nk_inj (hv _ List.mem_cons_self) (hu _ List.mem_cons_self) h1, nks_inj (fun x hx => hv x (List.mem_cons_of_mem _ hx)) (fun x hx => hu x (List.mem_cons_of_mem _ hx)) h2]
abbrev NK (k : List V) : NestedKey := .tup (k.map nkV)
theorem all_is {h : Heap} : ∀ {k : List V} {us : List Value}, Vals k us → (∀ v ∈ k, FlatK v) → NestedAll h (k.map nkV) us
  | _, _, .nil, _ => .nil
  | v :: _, _, .cons r t, hf => by
    refine .cons ?_ (all_is t fun x hx => hf x (List.mem_cons_of_mem _ hx))
    have hv := hf _ List.mem_cons_self
    cases v with
    | int i =>
      obtain ⟨t, rfl⟩ := r
      exact .int i t
    | non =>
      cases r
      exact .none
    | _ => exact hv.elim
theorem depth_one (v : V) : (nkV v).depth ≤ 1 := by cases v <;> simp [nkV, NestedKey.depth]
theorem depth_all : ∀ k : List V, NestedKey.depthAll (k.map nkV) ≤ 1
  | [] => by simp [NestedKey.depthAll]
  | v :: k => by
    rw [List.map_cons, NestedKey.depthAll]
    have a := depth_one v
    have b := depth_all k
    omega
theorem depth_flat (k : List V) : (NK k).depth ≤ 8 := by
  have := depth_all k
  rw [NestedKey.depth]
  omega
/-- what stands at a -/
def NumO (P : Program) (w : World) (a : Addr) (xs : List (NestedKey × Addr × Value)) : HO := .ext fun h => (a == sysModules) = false ∧ ∃ o es ep, h.get? a = some o ∧ o.ExactDict ∧ o.data = .dict es ep ∧ es.toList = xs.map (entryOfKey (nestedKind P w))
/-- the entries of ks, numbered from n -/
def Ent (H : Hp) (n : Nat) : List (List V) → List (NestedKey × Addr × Value) → Prop
  | [], [] => True
  | k :: ks, x :: xs => (x.1 = NK k ∧ H x.2.1 = some (.tup k) ∧ ∃ t, x.2.2 = .int (n : Int) t) ∧ Ent H (n + 1) ks xs
  | _, _ => False
def Nums (P : Program) (w : World) (H : Hp) (a : Addr) (ks : List (List V)) : Prop := ks.length ≤ sizeLine ∧ ks.Nodup ∧ (∀ k ∈ ks, ∀ v ∈ k, FlatK v) ∧ ∃ xs, Ent H 0 ks xs ∧ (H a = some (NumO P w a xs) ∨ (ks = [] ∧ H a = some (.dT [])))
theorem ent_mono {H H' : Hp} (e : ∀ b xs, H b = some (.tup xs) → H' b = some (.tup xs)) : ∀ {n : Nat} {ks : List (List V)} {xs : List (NestedKey × Addr × Value)}, Ent H n ks xs → Ent H' n ks xs
  | _, [], [], _ => True.intro
  | _, _ :: _, _ :: _, ⟨⟨h1, h2, h3⟩, t⟩ => ⟨⟨h1, e _ _ h2, h3⟩, ent_mono e t⟩
  | _, [], _ :: _, h => h.elim
  | _, _ :: _, [], h => h.elim
theorem ent_len {H : Hp} : ∀ {n : Nat} {ks : List (List V)} {xs : List (NestedKey × Addr × Value)}, Ent H n ks xs → xs.length = ks.length
  | _, [], [], _ => rfl
  | _, _ :: _, _ :: _, ⟨_, t⟩ => by rw [List.length_cons, List.length_cons, ent_len t]
  | _, [], _ :: _, h => h.elim
  | _, _ :: _, [], h => h.elim
theorem ent_snoc {H : Hp} {k : List V} {b : Addr} {t : Tok} (hb : H b = some (.tup k)) : ∀ {n : Nat} {ks : List (List V)} {xs : List (NestedKey × Addr × Value)}, Ent H n ks xs → Ent H n (ks ++ [k]) (xs ++ [(NK k, b, .int ((n + ks.length : Nat) : Int) t)])
  | n, [], [], _ => ⟨⟨rfl, hb, t, rfl⟩, True.intro⟩
  | n, m :: ks, x :: xs, ⟨h, r⟩ => ⟨h, by
    have := ent_snoc (t := t) hb r
    rw [show n + 1 + ks.length = n + (m :: ks).length by rw [List.length_cons]; omega] at this
    exact this⟩
  | _, [], _ :: _, h => h.elim
  | _, _ :: _, [], h => h.elim
theorem ent_no {H : Hp} {k : List V} (fk : ∀ v ∈ k, FlatK v) : ∀ {n : Nat} {ks : List (List V)} {xs : List (NestedKey × Addr × Value)}, Ent H n ks xs → (∀ m ∈ ks, ∀ v ∈ m, FlatK v) → k ∉ ks → atKey xs (NK k) = none
  | _, [], [], _, _, _ => rfl
  | n, m :: ks, x :: xs, ⟨⟨h1, _⟩, t⟩, fs, no => by
    have ih := ent_no fk t (fun m hm => fs m (List.mem_cons_of_mem _ hm)) (fun z => no (List.mem_cons_of_mem _ z))
    unfold atKey at ih ⊢
    have ne : ¬ x.1 = NK k := fun z => no (by
      rw [h1] at z
      have := nks_inj (fs m List.mem_cons_self) fk (NestedKey.tup.inj z)
      rw [this]
      exact List.mem_cons_self)
    rw [List.find?_cons_of_neg (by simpa using ne)]
    exact ih
  | _, [], _ :: _, h, _, _ => h.elim
  | _, _ :: _, [], h, _, _ => h.elim
theorem ent_yes {H : Hp} {k : List V} (fk : ∀ v ∈ k, FlatK v) : ∀ {n : Nat} {ks : List (List V)} {xs : List (NestedKey × Addr × Value)}, Ent H n ks xs → (∀ m ∈ ks, ∀ v ∈ m, FlatK v) → k ∈ ks → ∃ b t, atKey xs (NK k) = some (b, .int ((n + ks.idxOf k : Nat) : Int) t)
  | n, m :: ks, x :: xs, ⟨⟨h1, _, t, h3⟩, r⟩, fs, yes => by
    by_cases c : m = k
    · subst c
      refine ⟨x.2.1, t, ?_⟩
      unfold atKey
      rw [List.find?_cons_of_pos (by simpa using h1), List.idxOf_cons_self]
      show some (x.2.1, x.2.2) = _
      rw [h3]
      rfl
    · obtain ⟨b, u, ih⟩ := ent_yes fk r (fun m hm => fs m (List.mem_cons_of_mem _ hm)) ((List.mem_cons.mp yes).resolve_left fun z => c z.symm)
      have ne : ¬ x.1 = NK k := fun z => c (by
        rw [h1] at z
        exact nks_inj (fs m List.mem_cons_self) fk (NestedKey.tup.inj z))
      refine ⟨b, u, ?_⟩
      unfold atKey at ih ⊢
      rw [List.find?_cons_of_neg (by simpa using ne), ih, List.idxOf_cons, show (m == k) = false from beq_eq_false_iff_ne.mpr c, cond_false, show n + (ks.idxOf k + 1) = n + 1 + ks.idxOf k by omega]
  | _, [], [], _, _, h => by cases h
  | _, [], _ :: _, h, _, _ => h.elim
  | _, _ :: _, [], h, _, _ => h.elim
theorem ent_keys {H : Hp} : ∀ {n : Nat} {ks : List (List V)} {xs : List (NestedKey × Addr × Value)}, Ent H n ks xs → xs.map (·.1) = ks.map NK ∧ ∀ x ∈ xs, ∃ k ∈ ks, x.1 = NK k ∧ H x.2.1 = some (.tup k)
  | _, [], [], _ => ⟨rfl, fun x hx => by cases hx⟩
  | _, m :: ks, x :: xs, ⟨⟨h1, h2, _⟩, t⟩ => by
    obtain ⟨a, b⟩ := ent_keys t
    refine ⟨by rw [List.map_cons, List.map_cons, h1, a], fun y hy => ?_⟩
    rcases List.mem_cons.mp hy with rfl | hy
    · exact ⟨m, List.mem_cons_self, h1, h2⟩
    · obtain ⟨k, hk, r⟩ := b y hy
      exact ⟨k, List.mem_cons_of_mem _ hk, r⟩
  | _, [], _ :: _, h => h.elim
  | _, _ :: _, [], h => h.elim
section
variable {X : Cx} {pins : List (Addr × Obj)} {σ : L2.St} {H : Hp} {s : Shared} {a b : Addr} {ks : List (List V)} {k : List V}
theorem key_at (I : Inv X pins σ H s) (hb : H b = some (.tup k)) (fk : ∀ v ∈ k, FlatK v) : (nestedKind X.prog X.w).is s.heap (NK k) b := by
  obtain ⟨_, its, r, o, h1, h2, n, h3⟩ := I.hok b _ hb
  exact ⟨.tup h1 h2 h3 (by simpa using all_is r fk), depth_flat k⟩
theorem keys_nd (nd : ks.Nodup) (fs : ∀ k ∈ ks, ∀ v ∈ k, FlatK v) : (ks.map NK).Nodup := by
  induction ks with
  | nil => exact List.nodup_nil
  | cons m ks ih =>
    obtain ⟨n1, n2⟩ := List.nodup_cons.mp nd
    rw [List.map_cons, List.nodup_cons]
    refine ⟨fun hm => ?_, ih n2 fun k hk => fs k (List.mem_cons_of_mem _ hk)⟩
    obtain ⟨j, hj, e⟩ := List.mem_map.mp hm
    rw [nks_inj (fs j (List.mem_cons_of_mem _ hj)) (fs m List.mem_cons_self) (NestedKey.tup.inj e)] at hj
    exact n1 hj
theorem dict_at (I : Inv X pins σ H s) (h : Nums X.prog X.w H a ks) : ∃ xs, Ent H 0 ks xs ∧ s.heap.DictOfH (nestedKind X.prog X.w) a xs ∧ Mut (H a) ∧ (a == sysModules) = false := by
  obtain ⟨z, nd, fs, xs, en, h⟩ := h
  obtain ⟨e1, e2⟩ := ent_keys en
  have is_ : ∀ x ∈ xs, (nestedKind X.prog X.w).is s.heap x.1 x.2.1 := fun x hx => by
    obtain ⟨m, hm, h1, h2⟩ := e2 x hx
    rw [h1]
    exact key_at I h2 (fs m hm)
  have nd' : (xs.map (·.1)).Nodup := by rw [e1]; exact keys_nd nd fs
  rcases h with h | ⟨rfl, h⟩
  · obtain ⟨⟨hd, o, es, ep, h1, h2, h3, h4⟩, _⟩ := I.hok a _ h
    exact ⟨xs, en, ⟨o, es, ep, h1, h2, h3, h4, is_, nd'⟩, (by rw [h]; exact True.intro), hd⟩
  · cases xs with
    | cons x xs => exact en.elim
    | nil =>
      obtain ⟨_, hd, ys, r, o, es, ep, h1, h2, h3, h4, _⟩ := I.hok a _ h
      cases r
      exact ⟨[], en, ⟨o, es, ep, h1, h2, h3, h4, is_, nd'⟩, (by rw [h]; exact True.intro), hd⟩
end
def rNiN (X : Cx) : R2 := fun y x H Q => ∃ a b ks k, x = .ref a ∧ y = .ref b ∧ Nums X.prog X.w H a ks ∧ H b = some (.tup k) ∧ (∀ v ∈ k, FlatK v) ∧ Q (.bl (!decide (k ∈ ks))) H
theorem op_niN {X : Cx} (hu : X.A.in1.units + 8 < cLine) : OpR X (compareOp .NotIn) (rNiN X) := by
  intro pins s σ H y x v u Q I ry rx h
  obtain ⟨a, b, ks, k, rfl, rfl, hN, hb, fk, q⟩ := h
  cases (show u = Value.ref a from rx)
  cases (show v = Value.ref b from ry)
  obtain ⟨xs, en, dd, _, hd⟩ := dict_at I hN
  have fs := hN.2.2.1
  show wpAny _ _ (do return Value.bool (!(← contains (.ref a) (.ref b)))) _ _ s
  refine wpAny_bind (wpAny_contains_heap (knd := nestedKind X.prog X.w) hu (key_at I hb fk) hd dd (wpAny_pure ⟨.bl _, H, I.tok _, rfl, ?_⟩))
  have e : (!(atKey xs (NK k)).isSome) = !decide (k ∈ ks) := by
    by_cases c : k ∈ ks
    · obtain ⟨b', t, h⟩ := ent_yes fk en fs c
      rw [h, decide_eq_true c]
      rfl
    · rw [ent_no fk en fs c, decide_eq_false c]
      rfl
  rw [e]
  exact q
def tNGet (X : Cx) (td ty : TE) : TE := fun σ H Q => td σ H fun x H1 => ty σ H1 fun y H2 => ∃ a b ks k, x = .ref a ∧ y = .ref b ∧ Nums X.prog X.w H2 a ks ∧ H2 b = some (.tup k) ∧ k ∈ ks ∧ Q (.int (ks.idxOf k : Nat)) H2
theorem pe_nget {X : Cx} {o i : Expr} {td ty : TE} {pos : Pos} (hu : X.A.in1.units + 8 < cLine) (ho : PE X o td) (hi : PE X i ty) (hs : NoSl i) : PE X (.Subscript o i pos) (tNGet X td ty) := by
  refine ⟨fun pins s σ H Q I h => subD_of PySem.F.slot_dict_getitem.lookup hs (thn (ho.run pins s σ H _ I h) fun u s1 ⟨x, H1, I1, rx, q1⟩ => thn (hi.run pins s1 σ H1 _ I1 q1) fun iv s2 ⟨y, H2, I2, ry, a, b, ks, k, ex, ey, hN, hb, hk, q2⟩ => ?_)⟩
  subst ex ey
  cases (show u = Value.ref a from rx)
  cases (show iv = Value.ref b from ry)
  obtain ⟨xs, en, dd, _, _⟩ := dict_at I2 hN
  have fs := hN.2.2.1
  obtain ⟨b', t, e⟩ := ent_yes (fs k hk) en fs hk
  refine ⟨dd.typeIs, wpAny_getItem_heap (knd := nestedKind X.prog X.w) hu (key_at I2 hb (fs k hk)) dd e ⟨.int (ks.idxOf k : Nat), H2, I2.tok _, ⟨t, by rw [Nat.zero_add]⟩, q2⟩⟩
def sNPut (X : Cx) (td ty tv : TE) : TS := fun D σ H => tv σ H fun v H1 => td σ H1 fun x H2 => ty σ H2 fun y H3 => ∃ a b ks k, x = .ref a ∧ y = .ref b ∧ v = .int (ks.length : Nat) ∧ Nums X.prog X.w H3 a ks ∧ H3 b = some (.tup k) ∧ (∀ v ∈ k, FlatK v) ∧ k ∉ ks ∧ ks.length < sizeLine ∧
  ∀ u, Nums X.prog X.w (upd H3 a u) a (ks ++ [k]) → D.nx σ (upd H3 a u)
theorem ps_nput {X : Cx} {o i value : Expr} {td ty tv : TE} {pos pos' : Pos} (hu : X.A.in1.units + 8 < cLine) (ho : PE X o td) (hi : PE X i ty) (hv : PE X value tv) (hs : swapsWith value (some (.Subscript o i pos')) pos.line X.env = pure false) :
    PS X (.Assign [.Subscript o i pos'] value pos) (sNPut X td ty tv) := by
  refine ⟨fun pins s σ H D I h => wpAny_Assign_Subscript (thn (hv.run pins s σ H _ I h) fun r s1 ⟨v, H1, I1, rv, q1⟩ => thn (ho.run pins s1 σ H1 _ I1 q1) fun u s2 ⟨x, H2, I2, rx, q2⟩ => thn (hi.run pins s2 σ H2 _ I2 q2) fun iv s3 ⟨y, H3, I3, ry, a, b, ks, k, ex, ey, ev, hN, hb, fk, hk, hz, q3⟩ => ?_) hs⟩
  subst ex ey ev
  cases (show u = Value.ref a from rx)
  cases (show iv = Value.ref b from ry)
  obtain ⟨t, et⟩ := (show ∃ t, r = Value.int ((ks.length : Nat) : Int) t from rv)
  subst et
  obtain ⟨xs, en, dd, mu, hd⟩ := dict_at I3 hN
  have nd := hN.2.1
  have fs := hN.2.2.1
  have no := ent_no fk en fs hk
  have nab : ∀ c ys, H3 c = some (.tup ys) → c ≠ a := fun c ys hc z => by
    rw [z] at hc
    rw [hc] at mu
    exact mu
  refine wpAny_setItem_heap (knd := nestedKind X.prog X.w) (hsz := by rw [ent_len en]; omega) hu (key_at I3 hb fk) dd fun h' dd' same => ?_
  rw [storedH_new no] at dd'
  obtain ⟨q, es, ep, hq, h2, h3, h4, _, _⟩ := dd'
  have en' : Ent (upd H3 a (NumO X.prog X.w a (xs ++ [(NK k, b, .int ((ks.length : Nat) : Int) t)]))) 0 (ks ++ [k]) (xs ++ [(NK k, b, .int ((ks.length : Nat) : Int) t)]) := by
    have := ent_snoc (t := t) hb en
    rw [Nat.zero_add] at this
    exact ent_mono (fun c ys hc => by rw [upd_ne (nab c ys hc)]; exact hc) this
  have new_ : ObjOk X.prog X.w (upd H3 a (NumO X.prog X.w a (xs ++ [(NK k, b, .int ((ks.length : Nat) : Int) t)]))) h' a (NumO X.prog X.w a (xs ++ [(NK k, b, .int ((ks.length : Nat) : Int) t)])) :=
    ⟨⟨hd, q, es, ep, hq, h2, h3, h4⟩, ⟨q, hq⟩, fun h1 h2 ⟨hd', o', es', ep', g1, g2⟩ kp => ⟨hd', o', es', ep', kp o' g1, g2⟩⟩
  refine ⟨σ, _, d_write I3 mu same ⟨q, hq⟩ new_, q3 _ ⟨(by rw [List.length_append]; show ks.length + 1 ≤ _; omega), List.nodup_append.mpr ⟨nd, by simp, fun x hx y hy => by rw [List.mem_singleton.mp hy]; exact fun z => hk (z ▸ hx)⟩, fun m hm => ?_, _, en', .inl upd_same⟩⟩
  rcases List.mem_append.mp hm with z | z
  · exact fs m z
  · rw [List.mem_singleton.mp z]
    exact fk
def rLenN (X : Cx) : List V → Hp → VK → Prop := fun xs H Q => ∃ a ks, xs = [.ref a] ∧ Nums X.prog X.w H a ks ∧ Q (.int (ks.length : Nat)) H
theorem call_lenN {X : Cx} : CallR X (.builtin "len") (rLenN X) := by
  intro pins s σ H xs us Q I r h
  obtain ⟨a, ks, rfl, hN, q⟩ := h
  obtain ⟨u, rfl, rx⟩ := vals1 r
  cases (show u = Value.ref a from rx)
  obtain ⟨ys, en, dd, _, hd⟩ := dict_at I hN
  have e := ent_len en
  have z := hN.1
  refine call_len_dictH hd dd (by rw [e]; rw [sizeLine_eq] at z; omega) ⟨.int (ys.length : Nat), H, I.tok _, ⟨_, rfl⟩, ?_⟩
  rw [e]
  exact q
theorem nums_nil {P : Program} {w : World} {H : Hp} {a : Addr} (h : H a = some (.dT [])) : Nums P w H a [] := ⟨Nat.zero_le _, List.nodup_nil, (fun k hk => by cases hk), [], True.intro, .inr ⟨rfl, h⟩⟩
end DnX
namespace K16
open PySem L2 Evl
def top (i : Nat) : Stmt := PySem.Challenge.pw_layerpost_k16_whole_loss_rules_joined.main.body.getD i (.Pass ⟨0, 0, 0, 0⟩)
abbrev sPen : Stmt := top 36
abbrev sDraw : Stmt := top 37
abbrev sPick : Stmt := top 38
/-! ### the pen: a list of the cells, the place, the rest -/
def PenAt (H : Hp) (p l : Addr) (cells : List Int) (m : Nat) : Prop :=
  ∃ (k : Nat) (r : Int), H p = some (.lst [.ref l, .int (k : Int), .int r]) ∧ H l = some (.lst (cells.map V.int)) ∧ k ≤ m
/-- all but p is as it was -/
def Keep (p : Addr) (H H' : Hp) : Prop := ∀ b o, H b = some o → b ≠ p → H' b = some o
theorem Keep.of_ex {p : Addr} {H H' : Hp} (e : Ex H H') : Keep p H H' := fun b o h _ => e b o h
theorem Keep.trans {p : Addr} {H H1 H2 : Hp} (a : Keep p H H1) (b : Keep p H1 H2) : Keep p H H2 := fun c o h n => b c o (a c o h n) n
theorem Keep.upd {p : Addr} {H : Hp} {o : HO} : Keep p H (upd H p o) := fun b u h n => by rw [upd_ne n]; exact h
theorem PenAt.mono {H H' : Hp} {p l : Addr} {cells : List Int} {m n : Nat} (h : PenAt H p l cells m) (e : Ex H H') (hm : m ≤ n) : PenAt H' p l cells n := by
  obtain ⟨k, r, h1, h2, h3⟩ := h
  exact ⟨k, r, e _ _ h1, e _ _ h2, by omega⟩
theorem PenAt.ne {H : Hp} {p l : Addr} {cells : List Int} {m : Nat} (h : PenAt H p l cells m) : l ≠ p := by
  obtain ⟨k, r, h1, h2, _⟩ := h
  refine ne_of h2 h1 ?_
  intro z
  have z2 := HO.lst.inj z
  cases cells with
  | nil => exact absurd z2 (by simp)
  | cons c cs => exact absurd (List.cons.inj z2).1 (by intro q; cases q)
structure Glb (mg : Str → Option Value) : Prop where
  int : mg "int" = none
  abs : mg "abs" = none
  len : mg "len" = none
  list : mg "list" = none
def spDraw : Sp := fun vs H Q _ => ∃ (p l : Addr) (cells : List Int) (m : Nat) (many : Int), vs = [.ref p, .int many] ∧ PenAt H p l cells m ∧ m ≤ 50000 ∧ cells.length ≤ 63 ∧ 0 < many ∧ many ≤ 1000000000 ∧
  ∀ d H', 0 ≤ d → d < many → PenAt H' p l cells (m + 1) → Keep p H H' → Q (.int d) H'
theorem scDraw : FnScope ["_law_pen_here", "_law_top_so", "_law_digit", "_law_at", "_law_cell", "_law_great", "_law_mixed"] ["_law_pen_here", "_law_top_so"] (defScope sDraw) := ⟨rfl, rfl, rfl, by decide +kernel, rfl, by decide +kernel, by decide +kernel⟩
theorem rc_int {i : Int} {H : Hp} : RC (fun xs H Q => (∃ i, xs = [V.int i] ∧ Q (.int i) H) ∨ ∃ k, xs = [V.bl k] ∧ Q (.int (if k then 1 else 0)) H) [.int i] H (.int i) := fun H1 _ _ q => .inl ⟨i, rfl, q H1 (Ex.refl H1)⟩
theorem rc_intB {b : Bool} {H : Hp} : RC (fun xs H Q => (∃ i, xs = [V.int i] ∧ Q (.int i) H) ∨ ∃ k, xs = [V.bl k] ∧ Q (.int (if k then 1 else 0)) H) [.bl b] H (.int (if b then 1 else 0)) := fun H1 _ _ q => .inr ⟨b, rfl, q H1 (Ex.refl H1)⟩
theorem rc_abs {i : Int} {H : Hp} : RC (fun xs H Q => ∃ i, xs = [V.int i] ∧ Q (.int (if i < 0 then -i else i)) H) [.int i] H (.int (if i < 0 then -i else i)) := fun H1 _ _ q => ⟨i, rfl, q H1 (Ex.refl H1)⟩
theorem rc_len {K : PySem.W.Frag} {p : Addr} {xs : List V} {H : Hp} (h : SqL K H p xs) : RC (fun xs H Q => ∃ p ys, xs = [V.ref p] ∧ (SqL K H p ys ∨ SqT K H p ys) ∧ Q (.int ys.length) H) [.ref p] H (.int (xs.length : Int)) := fun H1 e _ q => ⟨p, xs, rfl, .inl (ex_l e h), q H1 (Ex.refl H1)⟩
theorem dpAll_ints {K : PySem.W.Frag} {H : Hp} : ∀ (ns : List Int), DpAll K H (ns.map V.int) (ns.map PyData.int)
  | [] => .nil
  | n :: ns => .cons (.int n) (dpAll_ints ns)
section
variable {P : Program} {w : World} {K : PySem.W.Frag} {mg : Str → Option Value} {base : Heap}
theorem shaped_nil : SeqAt.shaped (.list []) = true := by decide +kernel
theorem canLay_ints : ∀ (ns : List Int), PyData.canLayAll0 (ns.map PyData.int) = true
  | [] => by simp [PyData.canLayAll0]
  | n :: ns => by simp [PyData.canLayAll0, PyData.canLay0, canLay_ints ns]
theorem depth_ints : ∀ (ns : List Int), PyData.depthAll (ns.map PyData.int) = 0
  | [] => rfl
  | n :: ns => by simp [PyData.depthAll, PyData.depth, depth_ints ns]
theorem shaped_ints (ns : List Int) : SeqAt.shaped (.list (ns.map PyData.int)) = true := by
  unfold SeqAt.shaped
  simp [PyData.canLay0, canLay_ints, PyData.depth, depth_ints]
/-- xs != [], xs a list of ints -/
theorem ev_neNil {σ : L2.St} {H : Hp} {ta : TE} {l : Addr} {cells : List Int} (ha : Ev ta σ H (.ref l)) (h : SqL K H l (cells.map V.int)) :
    ∃ b : Bool, Ev (tOp (rNeD K) ta (tLst tNil)) σ H (.bl b) ∧ (b = true → cells ≠ []) := by
  refine ⟨!(PyData.eqv (.list (cells.map PyData.int)) (.list [])), ev_opL (xs := []) ha (el_lst ea_nil (by decide)) (fun p H1 h1 e => ?_), ?_⟩
  · exact fun H2 e2 Q q => ⟨_, _, .lst (ex_l (e.trans e2) h) (dpAll_ints cells), .lst (sq_of (e2 _ _ h1)) .nil, shaped_ints cells, shaped_nil, q H2 (Ex.refl H2)⟩
  · intro hb hc
    subst hc
    exact absurd hb (by decide +kernel)
end
end K16
namespace K16
open PySem L2 Evl
section
variable {P : Program} {w : World} {K : PySem.W.Frag} {mg : Str → Option Value} {base : Heap}
theorem emod_bd (a b : Int) (h : 0 < b) : 0 ≤ a % b ∧ a % b < b := ⟨Int.emod_nonneg a (by omega), Int.emod_lt_of_pos a h⟩
theorem mul_bd {a b A B : Int} (a0 : 0 ≤ a) (aA : a ≤ A) (b0 : 0 ≤ b) (bB : b ≤ B) : 0 ≤ a * b ∧ a * b ≤ A * B := ⟨Int.mul_nonneg a0 b0, Int.mul_le_mul aA bB b0 (by omega)⟩
/-- the last part of a draw: the mixing -/
theorem ok_draw {f : Addr} {fd : FuncData} (F : Fun K "_law_draw" "_law_draw" sDraw f fd) (T : Glb mg) : FnOk P w K mg base CX0 1 f fd ["_law_pen_here", "_law_top_so"] spDraw := by
  refine F.ok scDraw (fun vs H Q E h => ?_) (fun cdv A outer s H vs Q E hr h => ?_)
  · obtain ⟨p, l, cells, m, many, rfl, _⟩ := h
    rfl
  · obtain ⟨p, l, cells, m, many, rfl, hp, hm, h63, hm0, hm1, k⟩ := h
    refine ⟨_, pss_cons (ps_if (pt_cmpR op_gt (pe_ix ix_list (pv 0) pe_int (fun _ _ => rfl)) pe_int (nomark _)) (pss_cons (ps_set (i := 2) scDraw.nd rfl (.inl rfl) (pe_op op_mod (pe_callTy call_int1 (by rfl) T.int (by decide +kernel) (pa_cons (pe_ix ix_list (pv 0) pe_int (fun _ _ => rfl)) pa_nil)) (pv 1)))
      (pss_cons (ps_asg (pe_op op_fdiv (pe_callTy call_int1 (by rfl) T.int (by decide +kernel) (pa_cons (pe_ix ix_list (pv 0) pe_int (fun _ _ => rfl)) pa_nil)) (pv 1)) (pg_sub (pv 0) pe_int set_list))
      (pss_one (ps_ret (pv 2))))) pss_nil)
      (pss_cons (ps_set (i := 3) scDraw.nd rfl (.inl rfl) (pe_ix ix_list (pv 0) pe_int (fun _ _ => rfl)))
      (pss_cons (ps_asg (pe_op op_add (pv 3) pe_int) (pg_sub (pv 0) pe_int set_list))
      (pss_cons (ps_set (i := 4) scDraw.nd rfl (.inl rfl) (pe_op op_add (pe_op op_mul pe_int (pv 3)) pe_int))
      (pss_cut (ps_if (pt_cmpR (op_neD hr.units) (pe_ix ix_list (pv 0) pe_int (fun _ _ => rfl)) (pe_lst pa_nil) (nomark _)) (pss_one (ps_set (i := 4) scDraw.nd rfl (.inl rfl) (pe_ix ix_list (pe_ix ix_list (pv 0) pe_int (fun _ _ => rfl)) (pe_op op_mod (pe_callTy call_int1 (by rfl) T.int (by decide +kernel) (pa_cons (pv 3) pa_nil)) (pe_callB call_len_seq (by rfl) T.len PySem.boot_len (pa_cons (pe_ix ix_list (pv 0) pe_int (fun _ _ => rfl)) pa_nil))) (fun _ _ => rfl)))) pss_nil)
      (pss_cons (ps_if (PW.pt (pw_and (pt_cmpR op_lt (pv 3) (pe_callB call_len_seq (by rfl) T.len PySem.boot_len (pa_cons (pe_ix ix_list (pv 0) pe_int (fun _ _ => rfl)) pa_nil)) (nomark _)) (pw_and1 (pt_cmpR op_ge (pe_callB call_abs (by rfl) T.abs (by decide +kernel) (pa_cons (pv 4) pa_nil)) (pe_op op_pow pe_int pe_int) (nomark _))))) (pss_cons (ps_set (i := 5) scDraw.nd rfl (.inl rfl) (pe_op op_add (pe_op op_mul pe_int (pe_op op_sub (pe_callB call_abs (by rfl) T.abs (by decide +kernel) (pa_cons (pv 4) pa_nil)) (pe_op op_pow pe_int pe_int))) (pe_callTy call_int1 (by rfl) T.int (by decide +kernel) (pa_cons (pe_cmpR op_lt (pv 4) pe_int (nomark _)) pa_nil))))
      (pss_cons (ps_asg (pe_op op_fdiv (pe_callTy call_int1 (by rfl) T.int (by decide +kernel) (pa_cons (pv 5) pa_nil)) (pv 1)) (pg_sub (pv 0) pe_int set_list))
      (pss_one (ps_ret (pe_op op_mod (pe_callTy call_int1 (by rfl) T.int (by decide +kernel) (pa_cons (pv 5) pa_nil)) (pv 1)))))) pss_nil)
      (pss_cons (ps_set (i := 6) scDraw.nd rfl (.inl rfl) (pe_op op_mod (pe_callTy call_int1 (by rfl) T.int (by decide +kernel) (pa_cons (pe_op op_pow (pe_op op_add (pe_op op_add (pe_op op_mod (pe_callTy call_int1 (by rfl) T.int (by decide +kernel) (pa_cons (pv 4) pa_nil)) pe_int) (pe_op op_mul pe_int (pv 3))) pe_int) pe_int) pa_nil)) pe_int))
      (pss_cons (ps_set (i := 6) scDraw.nd rfl (.inl rfl) (pe_op op_mod (pe_callTy call_int1 (by rfl) T.int (by decide +kernel) (pa_cons (pe_op op_pow (pe_op op_add (pe_op op_add (pe_op op_mul (pv 6) (pe_op op_add (pe_op op_mul pe_int (pv 3)) pe_int)) (pe_op op_mul (pe_op op_mul pe_int (pv 3)) (pv 3))) pe_int) pe_int) pa_nil)) pe_int))
      (pss_one (ps_ret (pe_op op_mod (pe_callTy call_int1 (by rfl) T.int (by decide +kernel) (pa_cons (pe_op op_fdiv (pv 6) pe_int) pa_nil)) (pv 1))))))))))), ?_⟩
    have hpl := hp.ne
    obtain ⟨n, r, h1, h2, hn⟩ := hp
    have many1 : many < 1073741824 := by omega
    refine q_when (et_test (ev_op (ev_op (ev_var rfl) ev_c (rv_ixL (sq_of h1) (atI_nat (j := 2) rfl))) ev_c rv_I0)) (fun hb H1 e1 => ?_) (fun hb H1 e1 => ?_)
    · -- the rest gives a digit
      have r0 : 0 < r := of_decide_eq_true hb
      have g1 := e1 _ _ h1
      refine q_asg (ev_op (ev_cb (ea_cons (ev_op (ev_var rfl) ev_c (rv_ixL (sq_of g1) (atI_nat (j := 2) rfl))) ea_nil) rc_int) (ev_var rfl) (rv_I hm0)) fun H2 e2 => ?_
      have g2 := e2 _ _ g1
      refine q_setL (j := 2) g2 (ev_op (ev_cb (ea_cons (ev_op (ev_var rfl) ev_c (rv_ixL (sq_of g2) (atI_nat (j := 2) rfl))) ea_nil) rc_int) (ev_var rfl) (rv_I ⟨hm0, many1⟩)) (ev_var rfl) ev_c (by show 2 < 3; decide) fun H3 e3 => ?_
      refine s_ret (ev_var rfl) fun H4 e4 => ?_
      have key : ∀ b o, H b = some o → b ≠ p → H4 b = some o := fun b o hb hbp => e4 b o (by rw [upd_ne hbp]; exact e3 _ _ (e2 _ _ (e1 _ _ hb)))
      exact k _ H4 (emod_bd _ _ hm0).1 (emod_bd _ _ hm0).2 ⟨n, _, e4 _ _ upd_same, key _ _ h2 hpl, by omega⟩ key
    · -- at = pen[1]; pen[1] = at + 1
      have g1 := e1 _ _ h1
      refine q_asg (ev_op (ev_var rfl) ev_c (rv_ixL (sq_of g1) (atI_nat (j := 1) rfl))) fun H2 e2 => ?_
      have g2 := e2 _ _ g1
      refine q_setL (j := 1) g2 (ev_op (ev_var rfl) ev_c rv_I0) (ev_var rfl) ev_c (by show 1 < 3; decide) fun H3 e3 => ?_
      have g3 := e3 _ _ g2
      have hl3 : H3 l = some (.lst (cells.map V.int)) := e3 _ _ (e2 _ _ (e1 _ _ h2))
      have kp3 : ∀ b o, H b = some o → b ≠ p → (upd H3 p (.lst ([V.ref l, V.int (n : Int), V.int r].set 1 (V.int ((n : Int) + 1))))) b = some o := fun b o hb hbp => by
        rw [upd_ne hbp]; exact e3 _ _ (e2 _ _ (e1 _ _ hb))
      generalize hH : upd H3 p (.lst ([V.ref l, V.int (n : Int), V.int r].set 1 (V.int ((n : Int) + 1)))) = J at kp3
      have j1 : J p = some (.lst [V.ref l, V.int ((n + 1 : Nat) : Int), V.int r]) := by
        rw [← hH, upd_same]
        rfl
      have j2 : J l = some (.lst (cells.map V.int)) := kp3 _ _ h2 hpl
      have hn0 : (0 : Int) ≤ (n : Int) ∧ (n : Int) ≤ 50000 := ⟨by omega, by omega⟩
      -- cell = 53705 * at + 4291
      refine q_asg (ev_op (ev_op ev_c (ev_var rfl) (rv_I (.inl ⟨by decide, by decide⟩))) ev_c rv_I0) fun H4 e4 => ?_
      have j41 := e4 _ _ j1
      have j42 := e4 _ _ j2
      -- if pen[0] != []: cell = ..
      obtain ⟨bn, evn, hne⟩ := ev_neNil (K := K) (σ := [some (V.ref p), some (V.int many), none, some (V.int (n : Int)), some (V.int (53705 * (n : Int) + 4291)), none, none]) (H := H4) (cells := cells) (l := l)
        (ta := tOp (rIxL K) (tVar 0) (tC (V.int 0))) (ev_op (ev_var rfl) ev_c (rv_ixL (sq_of j41) (atI_nat (j := 0) rfl))) (sq_of j42)
      refine q_cut (M := fun σ' H' => ∃ c : Int, σ' = [some (V.ref p), some (V.int many), none, some (V.int (n : Int)), some (V.int c), none, none] ∧ Ex H4 H') (s_when (et_test evn) (fun hb H5 e5 => ?_) (fun hb H5 e5 => ⟨_, rfl, e5⟩)) ?_
      · have hlen : 0 < cells.length := List.length_pos_iff.mpr (hne hb)
        have hi : 0 ≤ (n : Int) % (cells.length : Int) ∧ (n : Int) % (cells.length : Int) < (cells.length : Int) := emod_bd _ _ (by omega)
        obtain ⟨i, ei⟩ := Int.eq_ofNat_of_zero_le hi.1
        have il : i < cells.length := by have := hi.2; omega
        have lm : ((cells.map V.int).length : Int) = (cells.length : Int) := by rw [List.length_map]
        refine s_asg (v := V.int (cells[i])) (ev_op (y := V.int (i : Int)) (ev_op (ev_var rfl) ev_c (rv_ixL (sq_of (e5 _ _ j41)) (atI_nat (j := 0) rfl)))
          (ev_is (ev_op (ev_cb (ea_cons (ev_var rfl) ea_nil) rc_int) (ev_cb (ea_cons (ev_op (ev_var rfl) ev_c (rv_ixL (sq_of (e5 _ _ j41)) (atI_nat (j := 0) rfl))) ea_nil) (rc_len (sq_of (e5 _ _ j42)))) (rv_I (by rw [lm]; omega))) (by show V.int ((n : Int) % ((cells.map V.int).length : Int)) = _; rw [lm, ei]))
          (rv_ixL (sq_of (e5 _ _ j42)) (atI_nat (by rw [List.getElem?_map, List.getElem?_eq_getElem il]; rfl)))) fun H6 e6 => ⟨_, rfl, e5.trans e6⟩
      rintro σ' H5 ⟨c, rfl, e5⟩
      have k1 := e5 _ _ j41
      have k2 := e5 _ _ j42
      have kp5 : ∀ b o, H b = some o → b ≠ p → H5 b = some o := fun b o hb hbp => e5 _ _ (e4 _ _ (kp3 _ _ hb hbp))
      have lm : ((cells.map V.int).length : Int) = (cells.length : Int) := by rw [List.length_map]
      refine q_when (et_and (et_test (ev_op (ev_var rfl) (ev_cb (ea_cons (ev_op (ev_var rfl) ev_c (rv_ixL (sq_of k1) (atI_nat (j := 0) rfl))) ea_nil) (rc_len (sq_of k2))) rv_I0))
        (fun _ => et_test (ev_op (ev_cb (ea_cons (ev_var rfl) ea_nil) rc_abs) (ev_op ev_c ev_c (rv_I ⟨by decide, by decide, by decide⟩)) rv_I0))) (fun hb H6 e6 => ?_) (fun hb H6 e6 => ?_)
      · -- a great cell
        refine q_asg (ev_op (ev_op ev_c (ev_op (ev_cb (ea_cons (ev_var rfl) ea_nil) rc_abs) (ev_op ev_c ev_c (rv_I ⟨by decide, by decide, by decide⟩)) rv_I0) (rv_I (.inl ⟨by decide, by decide⟩))) (ev_cb (ea_cons (ev_op (ev_var rfl) ev_c rv_I0) ea_nil) rc_intB) rv_I0) fun H7 e7 => ?_
        have k7 := e7 _ _ (e6 _ _ k1)
        refine q_setL (j := 2) k7 (ev_op (ev_cb (ea_cons (ev_var rfl) ea_nil) rc_int) (ev_var rfl) (rv_I ⟨hm0, many1⟩)) (ev_var rfl) ev_c (by show 2 < 3; decide) fun H8 e8 => ?_
        refine s_ret (ev_op (ev_cb (ea_cons (ev_var rfl) ea_nil) rc_int) (ev_var rfl) (rv_I hm0)) fun H9 e9 => ?_
        have key : ∀ b o, H b = some o → b ≠ p → H9 b = some o := fun b o hb hbp => e9 _ _ (by rw [upd_ne hbp]; exact e8 _ _ (e7 _ _ (e6 _ _ (kp5 _ _ hb hbp))))
        exact k _ H9 (emod_bd _ _ hm0).1 (emod_bd _ _ hm0).2 ⟨n + 1, _, e9 _ _ upd_same, key _ _ h2 hpl, by omega⟩ key
      · -- mixed
        have b1 := emod_bd c 2147483579 (by decide)
        refine q_asg (ev_op (ev_cb (ea_cons (ev_op (ev_op (ev_op (ev_op (ev_cb (ea_cons (ev_var rfl) ea_nil) rc_int) ev_c (rv_I (by decide))) (ev_op ev_c (ev_var rfl) (rv_I (.inl ⟨by decide, by decide⟩))) rv_I0) ev_c rv_I0) ev_c
          (rv_I ⟨by decide, by decide, by omega⟩)) ea_nil) rc_int) ev_c (rv_I (by decide))) fun H7 e7 => ?_
        generalize hx : (c % 2147483579 + 53682 * (n : Int) + 4302) ^ (5 : Int).toNat % 2147483549 = x
        have b2 : 0 ≤ x ∧ x < 2147483549 := by rw [← hx]; exact emod_bd _ _ (by decide)
        have b3 := mul_bd b2.1 (by omega : x ≤ 2147483549) (by omega : 0 ≤ 2 * (n : Int) + 149) (by omega : 2 * (n : Int) + 149 ≤ 100151)
        have b4 := mul_bd (by omega : 0 ≤ 40399 * (n : Int)) (by omega : 40399 * (n : Int) ≤ 2021100000) hn0.1 hn0.2
        refine q_asg (ev_op (ev_cb (ea_cons (ev_op (ev_op (ev_op (ev_op (ev_var rfl) (ev_op (ev_op ev_c (ev_var rfl) (rv_I (.inl ⟨by decide, by decide⟩))) ev_c rv_I0) (rv_I (.inl ⟨by omega, by omega⟩)))
            (ev_op (ev_op ev_c (ev_var rfl) (rv_I (.inl ⟨by decide, by decide⟩))) (ev_var rfl) (rv_I (.inl ⟨by omega, by omega⟩))) rv_I0) ev_c rv_I0) ev_c (rv_I ⟨by decide, by decide, by omega⟩)) ea_nil) rc_int) ev_c (rv_I (by decide))) fun H8 e8 => ?_
        refine s_ret (ev_op (ev_cb (ea_cons (ev_op (ev_var rfl) ev_c (rv_I ⟨by decide, by decide⟩)) ea_nil) rc_int) (ev_var rfl) (rv_I hm0)) fun H9 e9 => ?_
        have k9 := e9 _ _ (e8 _ _ (e7 _ _ (e6 _ _ k1)))
        have key : ∀ b o, H b = some o → b ≠ p → H9 b = some o := fun b o hb hbp => e9 _ _ (e8 _ _ (e7 _ _ (e6 _ _ (kp5 _ _ hb hbp))))
        exact k _ H9 (emod_bd _ _ hm0).1 (emod_bd _ _ hm0).2 ⟨n + 1, _, k9, key _ _ h2 hpl, by omega⟩ key
end
end K16
namespace K16
open PySem L2 Evl
section
variable {P : Program} {w : World} {K : PySem.W.Frag} {mg : Str → Option Value} {base : Heap}
/-! ### _law_pen -/
def spPen (K : PySem.W.Frag) : Sp := fun vs H Q _ => ∃ (a : Addr) (ns : List Int), vs = [.ref a] ∧ SqL K H a (ns.map V.int) ∧ ns.length ≤ 63 ∧
  ∀ p l H', H p = none → H l = none → Ex H H' → PenAt H' p l ns 0 → Q (.ref p) H'
theorem scPen : FnScope ["_law_script"] ["_law_script"] (defScope sPen) := ⟨rfl, rfl, rfl, by decide +kernel, rfl, by decide +kernel, by decide +kernel⟩
theorem cut63 (xs : List V) (h : xs.length ≤ 63) : cutV xs none (some 63) = xs := by
  have e1 : HT.sIx xs.length 0 none = 0 := rfl
  have e2 : HT.sIx xs.length xs.length (some 63) = min 63 xs.length := rfl
  unfold cutV
  rw [e1, e2, List.drop_zero, Nat.sub_zero, Nat.min_eq_right h, List.take_length]
theorem ok_pen {f : Addr} {fd : FuncData} (F : Fun K "_law_pen" "_law_pen" sPen f fd) (T : Glb mg) : FnOk P w K mg base CX0 1 f fd ["_law_script"] (spPen K) := by
  refine F.ok scPen (fun vs H Q E h => ?_) (fun cdv A outer s H vs Q E hr h => ?_)
  · obtain ⟨a, ns, rfl, _⟩ := h
    rfl
  · obtain ⟨a, ns, rfl, hS, hl, k⟩ := h
    refine ⟨_, pss_one (ps_ret (pe_lst (pa_cons (pe_callTy call_list_of (by rfl) T.list (by decide +kernel) (pa_cons (pe_slice sl_list (pv 0) po_none (po_some pe_int)) pa_nil)) (pa_cons pe_int (pa_cons pe_int pa_nil))))), ?_⟩
    have ev := el_sl (K := K) (σ := [some (V.ref a)]) (H := H) (tl := tNoPart) (th := tPart (tC (.int 63))) (ev_var (i := 0) rfl) eo_none (eo_some ev_c) hS
    rw [cut63 _ (by rw [List.length_map]; exact hl)] at ev
    refine ev H (Ex.refl H) _ fun q H1 hq e1 h1 => ?_
    refine ⟨q, _, rfl, .inl (sq_of h1), fun l hl1 => ?_⟩
    refine ⟨by show 3 ≤ sizeLine; decide, fun p hp => ?_⟩
    have hp1 : p ≠ l := fun z => by
      rw [z, upd_same] at hp
      cases hp
    have hpn : H1 p = none := by rw [upd_ne hp1] at hp; exact hp
    exact k p l _ (fresh_back e1 hpn) (fresh_back e1 hl1) ((e1.trans (Ex.new hl1)).trans (Ex.new hp)) ⟨0, 0, upd_same, by rw [upd_ne hp1.symm, upd_same], Nat.le_refl _⟩
/-! ### _law_pick -/
def spPick : Sp := fun vs H Q _ => ∃ (p l a : Addr) (cells : List Int) (m : Nat) (xs : List V), vs = [.ref p, .ref a] ∧ PenAt H p l cells m ∧ m ≤ 50000 ∧ cells.length ≤ 63 ∧ H a = some (.lst xs) ∧ a ≠ p ∧ 0 < xs.length ∧ xs.length ≤ 1000000 ∧
  ∀ (i : Nat) x H', xs[i]? = some x → PenAt H' p l cells (m + 1) → Keep p H H' → Q x H'
theorem scPick : FnScope ["_law_pen_here", "_law_some"] ["_law_pen_here", "_law_some"] (defScope sPick) := ⟨rfl, rfl, rfl, by decide +kernel, rfl, by decide +kernel, by decide +kernel⟩
theorem ok_pick {f fD : Addr} {fd fdD : FuncData} (F : Fun K "_law_pick" "_law_pick" sPick f fd) (T : Glb mg) (FD : Fun K "_law_draw" "_law_draw" sDraw fD fdD) (bD : Binds K fdD ["_law_pen_here", "_law_top_so"] []) (gD : mg "_law_draw" = some (.ref fD)) :
    FnOk P w K mg base CX0 2 f fd ["_law_pen_here", "_law_some"] spPick := by
  have GD : FnOk P w K mg base CX0 1 fD fdD ["_law_pen_here", "_law_top_so"] spDraw := ok_draw FD T
  refine F.ok scPick (fun vs H Q E h => ?_) (fun cdv A outer s H vs Q E hr h => ?_)
  · obtain ⟨p, l, a, cells, m, xs, rfl, _⟩ := h
    rfl
  · obtain ⟨p, l, a, cells, m, xs, rfl, hp, hm, h63, ha, hap, hx0, hx1, k⟩ := h
    refine ⟨_, pss_one (ps_ret (pe_ix ix_list (pv 1) (pe_call GD hr (by rfl) gD FD.kp bD .nil pass0 (pa_cons (pv 0) (pa_cons (pe_callB call_len_seq (by rfl) T.len PySem.boot_len (pa_cons (pv 1) pa_nil)) pa_nil))) (fun _ _ => rfl))), ?_⟩
    refine ⟨_, rfl, _, rfl, _, rfl, a, xs, rfl, .inl (sq_of ha), p, l, cells, m, (xs.length : Int), rfl, hp, hm, h63, by omega, by omega, fun d H' d0 d1 hp' kp => ?_⟩
    obtain ⟨i, rfl⟩ := Int.eq_ofNat_of_zero_le d0
    have hi : i < xs.length := by omega
    have ei : xs[i]? = some xs[i] := List.getElem?_eq_getElem hi
    exact ⟨a, xs, (i : Int), xs[i], rfl, rfl, sq_of (kp _ _ ha hap), atI_nat ei, k i _ H' ei hp' kp⟩
end
end K16
/-! operators of own classes, for instances with a dict or with slots -/
namespace OpX
open PySem PySem.Spec PyProof.Rows L2 StX
section
variable {prog : Program} {w : World} {A : Around} {E : Value → Shared → Prop} {s : Shared} {K : PySem.W.Frag} {x y C f L : Addr} {h₀ : Heap} {m : Str → Option Value} {ox oy : Obj} {od od' : Option Obj}
/-- some answer came -/
def Told (Q : Value → Shared → Prop) (r : Option Value) (s' : Shared) : Prop := ∃ v, r = some v ∧ Q v s'
/-- what an operator's first try told is the operator's word -/
theorem told_pure {M : Model} {B : Around} {F : Value → Shared → Prop} {Q : Value → Shared → Prop} {t : Sem (Option Value)} {k : Option Value → Sem Value} {s' : Shared} (h : wpAny M B t (Told Q) F s') (hk : ∀ v, k (some v) = pure v) : wpAny M B (t >>= k) Q F s' :=
  wpAny_bind (wpAny_mono h (fun r s'' ⟨v, e, q⟩ => by rw [e, hk]; exact wpAny_pure q) fun _ _ z => z)
open Builtin in
/-- object's own != asks the class's == and turns its bool about -/
theorem turned {Q : Value → Shared → Prop} {b : Value} (hu : A.in1.units < cLine) (X : K.In s.heap) (I : PySem.W.InstAt s.heap x ox C od) (hm : PySem.W.mroIn K C (.type "object") = some true)
    (hs : PySem.W.findIn K (.ref C) "__eq__" = some (some (.ref f))) (hf : PySem.W.isFn K (.ref f) = true)
    (h : wpAny (model prog w) A.in1 (call (.ref f) [.ref x, b]) (fun r s' => ∃ c, r = .bool c ∧ Q (.bool (!c)) s') E s) : wpAny (model prog w) A (call (.builtin "object.__ne__") [.ref x, b]) Q E s := by
  refine wpAny_call (codeAny_call_builtin PySem.F.slot_object_ne.plain PySem.F.entry_object_ne (PySem.W.check_slot (i := "object.__ne__") (owner := "object") (n := "__ne__") (by decide +kernel) (by decide +kernel) (I.type.andThen (PySem.W.looks_mroIn X hm)) (PySem.F.args_object_ne_2 _ _) ?_))
  show wpAny _ _ (Builtin.«object.__ne__» _) _ _ _
  unfold Builtin.«object.__ne__»
  exact wpAny_bind (m := slotArgs "__ne__" 1 _) (wpAny_pure (wpAny_bind (m := cRoomFor _ _) (wpAny_cRoomFor hu (wpAny_bind (m := callSpecialIfBound? (.ref x) (Str.ofString "__eq__") _)
    (PySem.W.ifBound_K X I hs hf (wpAny_mono h (fun r s' ⟨c, e, q⟩ => by
      subst e
      exact wpAny_bind (m := truthy (.bool c)) (wpAny_truthy_bool (wpAny_pure q))) fun _ _ z => z))))))
/-- x != y, both of one class that has an own == and object's != -/
theorem ne_same {Q : Value → Shared → Prop} (hu : A.units < cLine) (hu1 : A.in1.units < cLine) (X : K.In s.heap) (I : PySem.W.InstAt s.heap x ox C od) (J : PySem.W.InstAt s.heap y oy C od')
    (hne : PySem.W.findIn K (.ref C) "__ne__" = some (some (.builtin "object.__ne__"))) (hm : PySem.W.mroIn K C (.type "object") = some true) (hs : PySem.W.findIn K (.ref C) "__eq__" = some (some (.ref f))) (hf : PySem.W.isFn K (.ref f) = true)
    (h : wpAny (model prog w) A.in1 (call (.ref f) [.ref x, .ref y]) (fun r s' => ∃ c, r = .bool c ∧ Q (.bool (!c)) s') E s) : wpAny (model prog w) A (richCompare .NotEq (.ref x) (.ref y)) Q E s := by
  have word := turned (Q := fun v s' => Q v s' ∧ ∃ c, v = .bool c) hu1 X I hm hs hf (wpAny_mono h (fun r s' ⟨c, e, q⟩ => ⟨c, e, q, _, rfl⟩) fun _ _ z => z)
  have bnd : PySem.W.Looks (model prog w) s.heap (bindSpecial (.builtin "object.__ne__") (.ref x)) (.builtin "object.__ne__", [.ref x]) := PySem.W.Looks.of_pure (PySem.F.slot_object_ne.bind _)
  have asked : wpAny (model prog w) A (call (.builtin "object.__ne__") ([.ref x] ++ [.ref y]) >>= fun v => pure (some v)) (Told fun v s' => Q v s' ∧ ∃ c, v = .bool c) E s := wpAny_bind (wpAny_mono word (fun v s' q => wpAny_pure ⟨v, rfl, q⟩) fun _ _ z => z)
  have tried : wpAny (model prog w) A (tryCompare (.ref x) (cmpInfo .NotEq).2.1 (.ref y)) (Told Q) E s := by
    unfold tryCompare callSpecialIfBound? bindSpecialIfBound?
    refine wpAny_bind (wpAny_holding (wpAny_bind (wpAny_bind (wpAny_bind (I.type.here ((PySem.W.looks_findIn X hne).here (wpAny_bind (wpAny_askSetting (wpAny_ite ?_)))))))))
    split
    · refine wpAny_bind (bnd.here (wpAny_pure ?_))
      exact wpAny_mono asked (fun r s' ⟨v, e, q, c, ec⟩ => by
        subst e ec
        exact wpAny_pure ⟨_, rfl, q⟩) fun _ _ z => z
    · refine wpAny_tryCatch (wpAny_bind (bnd.here (wpAny_pure ?_)))
      exact wpAny_mono asked (fun r s' ⟨v, e, q, c, ec⟩ => by
        subst e ec
        exact wpAny_pure ⟨_, rfl, q⟩) fun _ _ z => z
  have same : (Value.ref C != Value.ref C) = false := by simp
  unfold richCompare
  rw [oneThing_ref]
  refine wpAny_holding (wpAny_bind (wpAny_cRoomFor hu (wpAny_bind (I.type.here (wpAny_bind (J.type.here ?_))))))
  rw [same, if_neg Bool.false_ne_true]
  exact wpAny_bind (wpAny_pure (told_pure tried fun _ => rfl))
end
section
variable {X : Cx} {CX : CXT} {n : Nat} {C g : Addr} {sp : Sp} {E : XK}
/-- x op y: both of the class at C -/
def rS (X : Cx) (C : Addr) (sp : Sp) (E : XK) : R2 := fun x y H Q => ∃ a b, x = .ref a ∧ y = .ref b ∧ InsC X H a C ∧ InsC X H b C ∧ sp [.ref a, .ref b] H Q E
/-- x op i: x of the class at C, i an int -/
def rI (X : Cx) (C : Addr) (sp : Sp) (E : XK) : R2 := fun x y H Q => ∃ a i, x = .ref a ∧ y = .int i ∧ InsC X H a C ∧ sp [.ref a, .int i] H Q E
/-- i op x: the reflected one -/
def rR (X : Cx) (C : Addr) (sp : Sp) (E : XK) : R2 := fun x y H Q => ∃ a i, x = .int i ∧ y = .ref a ∧ InsC X H a C ∧ sp [.ref a, .int i] H Q E
/-- the def of an operator -/
structure Has (K : PySem.W.Frag) (C g : Addr) (name : Str) : Prop where
  at_ : PySem.W.findIn K (.ref C) name = some (some (.ref g))
  fn : PySem.W.isFn K (.ref g) = true
theorem run_own {pins : List (Addr × Obj)} {σ : L2.St} {H : Hp} {s : Shared} {Q : VK} {us : List Value} {vs : List V} (F : FnR X.prog X.w X.K X.mg X.base CX n g sp) (hr : Room n X.A) (hx : Passes CX X E) (I : Inv X pins σ H s) (r : Vals vs us)
    (q : sp vs H Q E) : wpAny (model X.prog X.w) X.A (call (.ref g) us) (PySem.W.CmpBack (EP X pins σ Q)) X.xe s := by
  refine wpAny_mono (wpAny_call (run_fnR F hr hx I r q)) (fun w s' z => ?_) fun _ _ x => x
  obtain ⟨z', H', I', rz, qz⟩ := z
  exact SlX.cmpback rz ⟨z', H', I', rz, qz⟩
theorem op_binS {op : Operator} (hc : PySem.W.selfFirst X.K C = true) (h : Has X.K C g (PySem.dunder op.info.2)) (F : FnR X.prog X.w X.K X.mg X.base CX n g sp) (hr : Room n X.A) (hx : Passes CX X E) :
    OpR X (binaryOp op) (rS X C sp E) := by
  intro pins s σ H x y v u Q I rx ry hq
  obtain ⟨a, b, rfl, rfl, ha, hb, q⟩ := hq
  cases (show v = Value.ref a from rx)
  cases (show u = Value.ref b from ry)
  obtain ⟨ox, od, J, _⟩ := insC_at I ha
  obtain ⟨ox', od', J', _⟩ := insC_at I hb
  obtain ⟨m, hF⟩ := I.fr
  exact PySem.W.binop_K hF I.ok.mod.kin J J'.type hc h.at_ h.fn (run_own (us := [.ref a, .ref b]) (vs := [.ref a, .ref b]) F hr hx I (.cons rfl (.cons rfl .nil)) q)
theorem op_binI {op : Operator} {fo ro rc : Option Value} (hc : PySem.W.selfFirst X.K C = true) (h : Has X.K C g (PySem.dunder op.info.2)) (hrf : PySem.W.findIn X.K (.ref C) (dunderR op.info.2) = some rc) (hp : rc = none ∨ ∃ g : Addr, rc = some (.ref g))
    (h1 : PySem.W.findIn X.K (.type "int") (PySem.dunder op.info.2) = some fo) (h2 : PySem.W.findIn X.K (.type "int") (dunderR op.info.2) = some ro) (hsub : PySem.W.subIn X.K (.type "int") (.ref C) = some false)
    (F : FnR X.prog X.w X.K X.mg X.base CX n g sp) (hr : Room n X.A) (hx : Passes CX X E) : OpR X (binaryOp op) (rI X C sp E) := by
  intro pins s σ H x y v u Q I rx ry hq
  obtain ⟨a, i, rfl, rfl, ha, q⟩ := hq
  cases (show v = Value.ref a from rx)
  obtain ⟨t, e⟩ := (show ∃ t, u = Value.int i t from ry)
  subst e
  obtain ⟨ox, od, J, _⟩ := insC_at I ha
  obtain ⟨m, hF⟩ := I.fr
  exact PySem.W.ksp_binT (T := "int") hF I.ok.mod.kin J rfl hc h.at_ h.fn hrf hp h1 h2 hsub (run_own (us := [.ref a, .int i t]) (vs := [.ref a, .int i]) F hr hx I (.cons rfl (.cons ⟨t, rfl⟩ .nil)) q)
/-- x == y: x of the class at C; y an instance of a class that is not below C -/
def rEqO (X : Cx) (C : Addr) (sp : Sp) (E : XK) : R2 := fun x y H Q => ∃ a b C', x = .ref a ∧ y = .ref b ∧ InsC X H a C ∧ InsC X H b C' ∧ PySem.W.notFirst X.K C (.ref C') = true ∧ sp [.ref a, .ref b] H Q E
theorem op_eqO {op : CmpOp} (hop : ∀ a b, compareOp op a b = richCompare op a b) (h : Has X.K C g (cmpInfo op).2.1) (F : FnR X.prog X.w X.K X.mg X.base CX n g sp)
    (hr : Room n X.A) (hx : Passes CX X E) : OpR X (compareOp op) (rEqO X C sp E) := by
  intro pins s σ H x y v u Q I rx ry hq
  obtain ⟨a, b, C', rfl, rfl, ha, hb, hn, q⟩ := hq
  cases (show v = Value.ref a from rx)
  cases (show u = Value.ref b from ry)
  obtain ⟨ox, od, J, _⟩ := insC_at I ha
  obtain ⟨ox', od', J', _⟩ := insC_at I hb
  obtain ⟨m, hF⟩ := I.fr
  rw [hop]
  exact PySem.W.cmp_K (op := op) (tb := .ref C') hr.units0 hF I.ok.mod.kin J J'.type hn h.at_ h.fn (run_own (us := [.ref a, .ref b]) (vs := [.ref a, .ref b]) F hr hx I (.cons rfl (.cons rfl .nil)) q)
/-- x != y, both of the class at C, which has an own == -/
def rNeO (X : Cx) (C : Addr) (sp : Sp) (E : XK) : R2 := fun x y H Q => ∃ a b, x = .ref a ∧ y = .ref b ∧ InsC X H a C ∧ InsC X H b C ∧ sp [.ref a, .ref b] H (fun v H' => ∃ c, v = .bl c ∧ Q (.bl (!c)) H') E
theorem op_neO (h : Has X.K C g "__eq__") (hne : PySem.W.findIn X.K (.ref C) "__ne__" = some (some (.builtin "object.__ne__"))) (hm : PySem.W.mroIn X.K C (.type "object") = some true) (F : FnR X.prog X.w X.K X.mg X.base CX n g sp)
    (hr : Room (n + 1) X.A) (hx : Passes CX X E) : OpR X (compareOp .NotEq) (rNeO X C sp E) := fun pins s σ H x y v u Q I rx ry ⟨a, b, ex, ey, ha, hb, q⟩ => by
  subst ex ey
  cases (show v = Value.ref a from rx)
  cases (show u = Value.ref b from ry)
  obtain ⟨ox, od, J, _⟩ := insC_at I ha
  obtain ⟨ox', od', J', _⟩ := insC_at I hb
  refine ne_same hr.units0 hr.in1.units0 I.kIn J J' hne hm h.at_ h.fn (wpAny_mono (wpAny_call (SlX.run_at (us := [.ref a, .ref b]) (ws := [.ref a, .ref b]) F hr.in1 I.env0.in1 hx I (.cons rfl (.cons rfl .nil)) q)) (fun r s' back => ?_) fun _ _ z => z)
  obtain ⟨_, H', I', rr, c, ec, qc⟩ := back
  subst ec
  cases (show r = Value.bool c from rr)
  exact ⟨c, rfl, .bl (!c), H', I', rfl, qc⟩
end
end OpX
/-! operators of own classes: an int on the left, +=, in, len, truth, [] -/
namespace OpX
open PySem PySem.Spec PyProof.Rows L2 StX
section
variable {prog : Program} {w : World} {A : Around} {E : Value → Shared → Prop} {s : Shared} {K : PySem.W.Frag} {x C f L : Addr} {h₀ : Heap} {m : Str → Option Value} {ox : Obj} {od : Option Obj} {b tb : Value}
open Builtin in
/-- an int does not know an instance -/
theorem intMul_ref {Q : Value → Shared → Prop} {i : Int} {t : Tok} (ho : s.heap.get? x = some ox) (hd : ox.data = .plain) (h : Q .notImplemented s) : wpAny (model prog w) A (call (.builtin "int.__mul__") [.int i t, .ref x]) Q E s := by
  refine wpAny_call (codeAny_call_builtin PySem.F.slot_int_mul.plain PySem.F.entry_int_mul (PySem.F.slot_int_mul.check _ _ _ _ _ _ _ _ (typeIs_int _ _ _) (PySem.F.args_int_mul_2 _ _) ?_))
  unfold Builtin.«int.__mul__»
  unfold Int.intBinary
  refine wpAny_bind (m := slotArgs "__mul__" 1 _) (wpAny_pure ?_)
  refine wpAny_bind (m := Int.intOfSelf _) (wpAny_bind (m := asInt? _) (wpAny_pure (wpAny_pure ?_)))
  refine wpAny_bind (m := asInt? (.ref x)) (wpAny_bind (wpAny_load ho ?_))
  rw [hd]
  exact wpAny_pure (wpAny_bind (wpAny_rule (wpAny_pure h)))
/-- i * x, x of a class with * on both sides: an int declines, the class's reflected one is asked -/
theorem bin1_rint {i : Int} {t : Tok} {g : Addr} {Q : Value → Shared → Prop} (X : K.In s.heap) (I : PySem.W.InstAt s.heap x ox C od) (hd : ox.data = .plain) (hc : PySem.W.selfFirst K C = true) (hm : PySem.W.findIn K (.ref C) (PySem.dunder "mul") = some (some (.ref g)))
    (hs : PySem.W.findIn K (.ref C) (dunderR "mul") = some (some (.ref f))) (hf : PySem.W.isFn K (.ref f) = true) (hsub : PySem.W.subIn K (.ref C) (.type "int") = some false)
    (h : wpAny (model prog w) A (call (.ref f) [.ref x, .int i t]) (PySem.W.CmpBack Q) E s) : wpAny (model prog w) A (binaryOp1 "mul" (.int i t) (.ref x)) (Told Q) E s := by
  obtain ⟨cd, rest, hcd, hmm⟩ := PySem.W.ksp_first hc
  have mine := PySem.W.fills_K (M := model prog w) X hcd hmm hm
  have apart := PySem.W.looks_subIn (M := model prog w) X hsub
  have plainInt : numberSlotInPython (.type "int") "mul" = pure false := rfl
  have unlike : (Value.type "int" == Value.ref C) = false := by simp
  have answer := PySem.W.ksp_try (name := dunderR "mul") X I hs hf h
  unfold binaryOp1
  refine wpAny_bind (wpAny_typeOf (typeIs_int _ _ _) (wpAny_bind (I.type.here (wpAny_bind (wpAny_of_eq PySem.F.fills_int_mul ?_)))))
  simp only [unlike, Bool.false_eq_true, if_false]
  refine wpAny_bind (mine.here ?_)
  simp only [Bool.and_self, if_true]
  refine wpAny_bind (apart.here ?_)
  simp only [plainInt, Bool.not_false, Bool.and_self, Bool.false_eq_true, if_true, if_false, pure_bind]
  refine wpAny_bind (wpAny_tryMethod_declines (typeIs_int _ _ _) PySem.F.slot_int_mul (intMul_ref I.at_ hd ⟨rfl, ?_⟩))
  simp only [pure_bind]
  exact wpAny_bind (wpAny_mono answer (fun r s' ⟨v, e, q⟩ => by
    subst e
    exact wpAny_bind (wpAny_rule (wpAny_pure ⟨v, rfl, q⟩))) fun _ _ z => z)
/-- x op y, both of one class with an own op -/
theorem bin1_same {nm : String} {y : Addr} {oy : Obj} {od' : Option Obj} {Q : Value → Shared → Prop} (X : K.In s.heap) (I : PySem.W.InstAt s.heap x ox C od) (J : PySem.W.InstAt s.heap y oy C od') (hc : PySem.W.selfFirst K C = true)
    (hs : PySem.W.findIn K (.ref C) (PySem.dunder nm) = some (some (.ref f))) (hf : PySem.W.isFn K (.ref f) = true) (h : wpAny (model prog w) A (call (.ref f) [.ref x, .ref y]) (PySem.W.CmpBack Q) E s) :
    wpAny (model prog w) A (binaryOp1 nm (.ref x) (.ref y)) (Told Q) E s := by
  obtain ⟨cd, rest, hcd, hmm⟩ := PySem.W.ksp_first hc
  have answer := PySem.W.ksp_try (name := PySem.dunder nm) X I hs hf h
  have alike : (Value.ref C == Value.ref C) = true := by simp
  unfold binaryOp1
  refine wpAny_bind (I.type.here (wpAny_bind (J.type.here (wpAny_bind ((PySem.W.fills_K (M := model prog w) X hcd hmm hs).here ?_)))))
  simp only [alike, pure_bind, Bool.and_false, Bool.false_and, Bool.false_eq_true, if_true, if_false]
  exact wpAny_bind (wpAny_mono answer (fun r s' ⟨v, e, q⟩ => by
    subst e
    exact wpAny_pure ⟨v, rfl, q⟩) fun _ _ z => z)
theorem mul_of_bin1 {M : Model} {a b : Value} {Q : Value → Shared → Prop} (h : wpAny M A (binaryOp1 "mul" a b) (Told Q) E s) : wpAny M A (binaryOp .Mult a b) Q E s := by
  unfold binaryOp
  exact wpAny_holding (told_pure (t := binaryOp1 "mul" a b) h fun _ => rfl)
/-- a class of the text whose only base is object, without an own in-place operator -/
structure NoI (K : PySem.W.Frag) (C : Addr) (nm : String) : Prop where
  mro : (PySem.W.clsIn K C).any (fun cd => cd.mro == [.ref C, .type "object"]) = true
  own : PySem.W.findIn K (.ref C) (dunderI nm) = some none
  obj : PySem.W.findIn K (.type "object") (dunderI nm) = some none
theorem fillsI_no {M : Model} {h : Heap} {nm : String} {add : Bool} (X : K.In h) (N : NoI K C nm) : PySem.W.Looks M h (fillsInplaceSlot (.ref C) nm add) false := by
  intro A Q E s k q
  obtain ⟨cd, hc, hm⟩ := PySem.W.any_some N.mro
  have hm' : cd.mro = [.ref C, .type "object"] := beq_iff_eq.mp hm
  unfold fillsInplaceSlot
  refine wpAny_bind ((PySem.W.looks_clsIn X hc).andThen (f := fun cd => pure cd.mro) .now A _ E s k ?_)
  rw [hm', List.anyM_cons]
  refine wpAny_bind (wpAny_bind (PySem.W.looks_findIn X N.own A _ E s k (wpAny_pure ?_)))
  simp only [Bool.false_eq_true, if_false]
  rw [List.anyM_cons]
  refine wpAny_bind (wpAny_bind (PySem.W.looks_findIn X N.obj A _ E s k (wpAny_pure ?_)))
  simp only [Bool.false_eq_true, if_false]
  exact wpAny_pure q
theorem inp_of_bin1 {op : Operator} {b : Value} {Q : Value → Shared → Prop} (X : K.In s.heap) (I : PySem.W.InstAt s.heap x ox C od) (N : NoI K C op.info.2) (h : wpAny (model prog w) A (binaryOp1 op.info.2 (.ref x) b) (Told Q) E s) :
    wpAny (model prog w) A (inplaceOp op (.ref x) b) Q E s := by
  unfold inplaceOp
  refine wpAny_holding (wpAny_bind (I.type.here (wpAny_bind ((fillsI_no X N).here ?_))))
  rw [if_neg Bool.false_ne_true]
  exact told_pure h fun _ => rfl
end
section
variable {X : Cx} {CX : CXT} {n : Nat} {C g g' : Addr} {sp : Sp} {E : XK}
theorem op_rmul (hc : PySem.W.selfFirst X.K C = true) (hm : PySem.W.findIn X.K (.ref C) (PySem.dunder "mul") = some (some (.ref g'))) (h : Has X.K C g (dunderR "mul")) (hsub : PySem.W.subIn X.K (.ref C) (.type "int") = some false)
    (F : FnR X.prog X.w X.K X.mg X.base CX n g sp) (hr : Room n X.A) (hx : Passes CX X E) : OpR X (binaryOp .Mult) (rR X C sp E) := by
  intro pins s σ H x y v u Q I rx ry hq
  obtain ⟨a, i, rfl, rfl, ha, q⟩ := hq
  cases (show u = Value.ref a from ry)
  obtain ⟨t, e⟩ := (show ∃ t, v = Value.int i t from rx)
  subst e
  obtain ⟨ox, od, J, hd⟩ := insC_at I ha
  exact mul_of_bin1 (bin1_rint I.kIn J hd hc hm h.at_ h.fn hsub (run_own (us := [.ref a, .int i t]) (vs := [.ref a, .int i]) F hr hx I (.cons rfl (.cons ⟨t, rfl⟩ .nil)) q))
theorem op_inS {op : Operator} (hc : PySem.W.selfFirst X.K C = true) (N : NoI X.K C op.info.2) (h : Has X.K C g (PySem.dunder op.info.2)) (F : FnR X.prog X.w X.K X.mg X.base CX n g sp) (hr : Room n X.A) (hx : Passes CX X E) :
    OpR X (inplaceOp op) (rS X C sp E) := by
  intro pins s σ H x y v u Q I rx ry hq
  obtain ⟨a, b, rfl, rfl, ha, hb, q⟩ := hq
  cases (show v = Value.ref a from rx)
  cases (show u = Value.ref b from ry)
  obtain ⟨ox, od, J, _⟩ := insC_at I ha
  obtain ⟨ox', od', J', _⟩ := insC_at I hb
  exact inp_of_bin1 I.kIn J N (bin1_same I.kIn J J' hc h.at_ h.fn (run_own (us := [.ref a, .ref b]) (vs := [.ref a, .ref b]) F hr hx I (.cons rfl (.cons rfl .nil)) q))
end
end OpX
/-! own containers: len, truth by len, in, [..], for .. in over iter(a tuple); a tuple taken once -/
namespace OwC
open PySem PySem.Spec PyProof.Rows L2 StX OpX ItX
section
variable {prog : Program} {w : World} {A : Around} {E : Value → Shared → Prop} {s : Shared} {K : PySem.W.Frag} {x C f : Addr} {ox : Obj} {od : Option Obj}
open Builtin in
/-- a class without __bool__, with __len__: its objects' truth is that of their length -/
theorem truth_len {g : Value} {Q : Bool → Shared → Prop} (X : K.In s.heap) (I : PySem.W.InstAt s.heap x ox C od) (nb : PySem.W.findIn K (.ref C) "__bool__" = some none) (hl : PySem.W.findIn K (.ref C) "__len__" = some (some (.ref f))) (hf : PySem.W.isFn K (.ref f) = true)
    (h : wpAny (model prog w) A.in1 (call (.ref f) [.ref x]) (fun v s' => ∃ n t, v = .int n t ∧ 0 ≤ n ∧ n < 2 ^ 63 ∧ ∀ tk, Q (n != 0) { s' with toks := tk }) E s) : wpAny (model prog w) A (truthy (.ref x)) Q E s := by
  have asked : wpAny (model prog w) A (runValue (.builtin "len" ⟨[.ref x], []⟩)) (fun r s' => ∃ n t, r = .int n t ∧ Q (n != 0) s') E s := by
    refine wpAny_runValue (codeAny_builtin entry_len ?_)
    rw [Around.under_plainId plain_len _]
    unfold Builtin.«len»
    refine wpAny_bind (m := oneArg "len" _) (wpAny_pure (wpAny_bind (m := callSpecial? (.ref x) (Str.ofString "__len__")) (PySem.W.special_fn X I hl (beq_iff_eq.mp hf) (wpAny_mono h (fun r s' back => ?_) fun _ _ z => z))))
    obtain ⟨n, t, rfl, n0, n1, q⟩ := back
    refine wpAny_bind (wpAny_holding (wpAny_pure (wpAny_bind (wpAny_letGo ?_))))
    have low : ¬ n < 0 := Int.not_lt.mpr n0
    have high : ¬ n ≥ 2 ^ 63 := Int.not_le.mpr n1
    simp only [low, high, if_false]
    exact wpAny_bind (wpAny_mkInt (wpAny_pure ⟨n, _, rfl, q _⟩))
  unfold truthy
  refine wpAny_bind (m := callSpecial? (.ref x) (Str.ofString "__bool__")) (wpAny_bind (wpAny_bind (I.type.here ((PySem.W.looks_findIn X nb).here (wpAny_pure ?_)))))
  refine wpAny_bind (wpAny_bind (I.type.here ((PySem.W.looks_findIn X hl).here ?_)))
  rw [if_neg (show ¬ (some (Value.ref f)).isNone = true from Bool.false_ne_true)]
  refine wpAny_bind (wpAny_mono asked (fun r s' ⟨n, t, e, q⟩ => ?_) fun _ _ z => z)
  subst e
  exact wpAny_pure q
end
section
variable {X : Cx} {CX : CXT} {n : Nat} {C g : Addr} {sp : Sp} {E : XK}
/-- len(x), x of the class at C -/
def rLenO (X : Cx) (C : Addr) (sp : Sp) (E : XK) : List V → Hp → VK → Prop := fun xs H Q => ∃ a, xs = [.ref a] ∧ InsC X H a C ∧ sp [.ref a] H (fun v H' => ∃ i : Int, v = .int i ∧ 0 ≤ i ∧ i < 2 ^ 63 ∧ Q (.int i) H') E
theorem call_lenO (h : Has X.K C g "__len__") (F : FnR X.prog X.w X.K X.mg X.base CX n g sp) (hr : Room (n + 1) X.A) (hx : Passes CX X E) : CallR X (.builtin "len") (rLenO X C sp E) := by
  intro pins s σ H xs us Q I r hq
  obtain ⟨a, rfl, ha, q⟩ := hq
  obtain ⟨u, rfl, ru⟩ := vals1 r
  cases (show u = Value.ref a from ru)
  obtain ⟨ox, od, J, _⟩ := insC_at I ha
  obtain ⟨m, hF⟩ := I.fr
  refine PySem.W.len_K hF I.ok.mod.kin J h.at_ h.fn (wpAny_mono (wpAny_call (SlX.run_at (us := [.ref a]) (ws := [.ref a]) F hr.in1 I.env0.in1 hx I (.cons rfl .nil) q)) (fun v s' back => ?_) fun _ _ z => z)
  obtain ⟨v', H', I', rv, i, ei, h0, h1, qi⟩ := back
  subst ei
  obtain ⟨t, et⟩ := (show ∃ t, v = Value.int i t from rv)
  subst et
  exact ⟨⟨h0, h1⟩, .int i, H', I'.tok _, ⟨_, rfl⟩, qi⟩
/-- the truth of x, x of the class at C -/
def rTruO (X : Cx) (C : Addr) (sp : Sp) (E : XK) : V → Hp → (Bool → Hp → Prop) → Prop := fun x H Q => ∃ a, x = .ref a ∧ InsC X H a C ∧ sp [.ref a] H (fun v H' => ∃ i : Int, v = .int i ∧ 0 ≤ i ∧ i < 2 ^ 63 ∧ Q (i != 0) H') E
theorem tru_own (h : Has X.K C g "__len__") (nb : PySem.W.findIn X.K (.ref C) "__bool__" = some none) (F : FnR X.prog X.w X.K X.mg X.base CX n g sp) (hr : Room (n + 1) X.A) (hx : Passes CX X E) : TruR X (rTruO X C sp E) := by
  intro pins s σ H x v Q I rx hq
  obtain ⟨a, rfl, ha, q⟩ := hq
  cases (show v = Value.ref a from rx)
  obtain ⟨ox, od, J, _⟩ := insC_at I ha
  refine truth_len (g := .ref g) I.kIn J nb h.at_ h.fn (wpAny_mono (wpAny_call (SlX.run_at (us := [.ref a]) (ws := [.ref a]) F hr.in1 I.env0.in1 hx I (.cons rfl .nil) q)) (fun v s' back => ?_) fun _ _ z => z)
  obtain ⟨v', H', I', rv, i, ei, h0, h1, qi⟩ := back
  subst ei
  obtain ⟨t, et⟩ := (show ∃ t, v = Value.int i t from rv)
  exact ⟨i, t, et, h0, h1, fun tk => ⟨H', I'.tok tk, qi⟩⟩
/-- y in x, x of the class at C -/
def rInO (X : Cx) (C : Addr) (sp : Sp) (E : XK) : R2 := fun y x H Q => ∃ a, x = .ref a ∧ InsC X H a C ∧ sp [.ref a, y] H (fun v H' => ∃ b, v = .bl b ∧ Q (.bl b) H') E
theorem op_inO (h : Has X.K C g "__contains__") (F : FnR X.prog X.w X.K X.mg X.base CX n g sp) (hr : Room n X.A) (hx : Passes CX X E) : OpR X (compareOp .In) (rInO X C sp E) := by
  intro pins s σ H y x v u Q I ry rx hq
  obtain ⟨a, rfl, ha, q⟩ := hq
  cases (show u = Value.ref a from rx)
  obtain ⟨ox, od, J, _⟩ := insC_at I ha
  obtain ⟨m, hF⟩ := I.fr
  refine PySem.W.in_K hF I.ok.mod.kin J h.at_ h.fn (wpAny_mono (wpAny_call (run_fnR (us := [.ref a, v]) (vs := [.ref a, y]) F hr hx I (.cons rfl (.cons ry .nil)) q)) (fun r s' back => ?_) fun _ _ z => z)
  obtain ⟨r', H', I', rr, b, eb, qb⟩ := back
  subst eb
  cases (show r = Value.bool b from rr)
  exact wpAny_truthy_bool ⟨.bl b, H', I', rfl, qb⟩
/-- x[y], x of the class at C -/
def rIxO (X : Cx) (C : Addr) (sp : Sp) (E : XK) : R2 := fun x y H Q => ∃ a, x = .ref a ∧ InsC X H a C ∧ sp [.ref a, y] H Q E
theorem ix_own (h : Has X.K C g "__getitem__") (hf : PySem.W.fnIn X.K g = true) (F : FnR X.prog X.w X.K X.mg X.base CX n g sp) (hr : Room (n + 1) X.A) (hx : Passes CX X E) {value slice : Expr}
    (hsl : ∀ x i, subscripted slice true (.ref x) i = runValue (.builtin "lifetime.subscript" ⟨[.ref x, i], []⟩)) {pins : List (Addr × Obj)} {s : Shared} {σ : L2.St} {H : Hp} {x y : V} {v u : Value} {Q : VK} (I : Inv X pins σ H s) (rx : RelV x v) (ry : RelV y u)
    (hq : rIxO X C sp E x y H Q) : wpAny (model X.prog X.w) X.A (subscriptTail value slice v u) (EP X pins σ Q) X.xe s := by
  obtain ⟨a, rfl, ha, q⟩ := hq
  cases (show v = Value.ref a from rx)
  obtain ⟨ox, od, J, _⟩ := insC_at I ha
  obtain ⟨m, hF⟩ := I.fr
  exact PySem.W.sub_K hF I.ok.mod.kin J h.at_ hf h.fn (wpAny_call (SlX.run_at (us := [.ref a, u]) (ws := [.ref a, y]) F hr.in1 I.env0.in1 hx I (.cons rfl (.cons ry .nil)) q)) (hsl _ _)
theorem pe_ixO {a b : Expr} {ta tb : TE} {pos : Pos} (h : Has X.K C g "__getitem__") (hf : PySem.W.fnIn X.K g = true) (F : FnR X.prog X.w X.K X.mg X.base CX n g sp) (hr : Room (n + 1) X.A) (hx : Passes CX X E) (ha : PE X a ta) (hb : PE X b tb)
    (hsl : ∀ x i, subscripted b true (.ref x) i = runValue (.builtin "lifetime.subscript" ⟨[.ref x, i], []⟩) := by intro _ _; with_unfolding_all rfl) : PE X (.Subscript a b pos) (tOp (rIxO X C sp E) ta tb) := by
  refine ⟨fun pins s σ H Q I hq => ?_⟩
  exact Subscript_ (binT ha hb I hq fun v u s2 x y H2 I2 rx ry q => ix_own h hf F hr hx hsl I2 rx ry q)
end
/-! ### iter(a tuple), and walks over objects whose __iter__ gives one -/
abbrev tIt (t : Addr) : Obj := { cls := .type "tuple_iterator", data := .fields #[.ref t, .int 0 0] }
/-- the iterator of the tuple at t, as it begins, at it -/
def ItT (t it : Addr) : HO := .ext fun h => h.IsTupleIter it t 0
theorem itT_ok {P : Program} {w : World} {H : Hp} {h : Heap} {t it : Addr} (e : h.get? it = some (tIt t)) : ObjOk P w H h it (ItT t it) := ⟨⟨_, e, rfl, rfl⟩, ⟨_, e⟩, fun _ _ q k => q.at fun o z => k o z⟩
theorem iter_tup {prog : Program} {w : World} {A : Around} {E : Value → Shared → Prop} {s : Shared} {t : Addr} {items : Array Value} {Q : Value → Shared → Prop} (ht : s.heap.IsTuple t items) (h : Q (.ref s.heap.objs.size) { s with heap := s.heap.push (tIt t) }) :
    wpAny (model prog w) A (call (.builtin "iter") [.ref t]) Q E s :=
  Calls.call_function_entry (by decide +kernel) (by decide +kernel) PySem.W.kdk_entry_iter (PySem.W.kdk_args_iter (.ref t)) (by
    unfold Builtin.«iter»
    exact wpAny_bind (m := someArgs "iter" 1 2 _) (wpAny_of_eq (a := [Value.ref t]) (by first | rfl | kernel_rfl!) (wpAny_bind (m := pyIter (.ref t)) (wpAny_pyIter_tuple ht (wpAny_pure ⟨_, rfl, h⟩)))))
/-- something that H knows stands at n or above -/
def Old (n : Nat) (H : Hp) : Prop := ∃ b u, H b = some u ∧ n ≤ b
def rIterT (K : PySem.W.Frag) : List V → Hp → VK → Prop := fun xs H Q => ∃ t ys n, xs = [.ref t] ∧ SqT K H t ys ∧ Old n H ∧ ∀ it, H it = none → n ≤ it → Q (.ref it) (upd H it (ItT t it))
/-- tuple(a list), told with its age -/
def rTupA (K : PySem.W.Frag) (n : Nat) : List V → Hp → VK → Prop := fun xs H Q => ∃ l ys, xs = [.ref l] ∧ SqL K H l ys ∧ ∀ p, H p = none → n ≤ p → Q (.ref p) (upd H p (.tup ys))
section
variable {X : Cx} {CX : CXT} {n : Nat} {C g : Addr} {sp : Nat → Sp} {E : XK}
theorem call_iterT : CallR X (.builtin "iter") (rIterT X.K) := by
  intro pins s σ H xs us Q I r hq
  obtain ⟨t, ys, n, rfl, ht, ⟨b, u0, hb, nb⟩, q⟩ := hq
  obtain ⟨u, rfl, ru⟩ := vals1 r
  cases (show u = Value.ref t from ru)
  obtain ⟨its, rv, at_, _⟩ := I.tuple ht
  have far : n ≤ s.heap.objs.size := Nat.le_trans nb (Nat.le_of_lt (I.hok.lt hb))
  exact iter_tup (items := its.toArray) at_ ⟨.ref s.heap.objs.size, _, I.laid (t' := s.toks) (fun b u e => Heap.get?_push_of_some _ e) (Nat.le_refl _) (itT_ok (Heap.get?_push_size _ rfl)), rfl, q _ (I.hok.fresh (Nat.le_refl _)) far⟩
/-- tl gives an object of the class at C; its __iter__ hands back the iterator of a tuple at t, made anew -/
def iOwn (X : Cx) (C : Addr) (sp : Nat → Sp) (E : XK) (tl : TE) : TI := fun σ H R => tl σ H fun x H1 => ∃ a, x = .ref a ∧ InsC X H1 a C ∧
  sp X.s_0.heap.objs.size [.ref a] H1 (fun v H2 => ∃ it t, v = .ref it ∧ H2 it = some (ItT t it) ∧ X.s_0.heap.objs.size ≤ it ∧ R (Itt X.K t) (dropH H2 it)) E
theorem pi_own {tg l : Expr} {tl : TE} (h : Has X.K C g "__iter__") (F : ∀ m, FnR X.prog X.w X.K X.mg X.base CX n g (sp m)) (hr : Room n X.A) (hx : Passes CX X E) (hl : PE X l tl) : PI X tg l (iOwn X C sp E tl) := by
  refine ⟨fun pins s σ H R I hq => ?_⟩
  refine thn (hl.run pins s σ H _ I hq) fun v s1 ⟨x, H1, I1, r1, a, ex, ha, q⟩ => ?_
  subst ex
  cases (show v = Value.ref a from r1)
  obtain ⟨ox, od, J, _⟩ := insC_at I1 ha
  obtain ⟨m, hF⟩ := I1.fr
  refine PySem.W.owit_iter hF I1.ok.mod.kin J h.at_ h.fn (wpAny_mono (wpAny_call (run_fnR (us := [.ref a]) (vs := [.ref a]) (F _) hr hx I1 (.cons rfl .nil) q)) (fun u s2 back => ?_) fun _ _ z => z)
  obtain ⟨v2, H2, I2, r2, it, t, e2, hit, age, k⟩ := back
  subst e2
  cases (show u = Value.ref it from r2)
  have st : s2.heap.IsTupleIter it t 0 := (I2.hok it _ hit).1
  unfold PySem.W.OwitIt
  refine wpAny_specialOf (name := Str.ofString "__next__") st.typeIs PySem.F.slot_tuple_iterator_next.lookup ?_
  refine ⟨it, [it], _, _, dropH H2 it, rfl, inv_drop I2 hit, turn_tuple t it, st, fun b hb => ?_, k⟩
  obtain rfl := List.mem_singleton.mp hb
  exact inv_fp I2 hit age
theorem call_tupA : CallR X (.type "tuple") (rTupA X.K X.s_0.heap.objs.size) := fun pins s σ H xs us Q I r hq => by
  obtain ⟨l, ys, rfl, hl, q⟩ := hq
  obtain ⟨u, rfl, ru⟩ := vals1 r
  cases (show u = Value.ref l from ru)
  obtain ⟨its, rv, pl, hz⟩ := I.list hl
  exact call_tuple_list pl.isList (fun h' kp => by
    have J : Inv X pins σ H { s with heap := h' } := I.kept (t' := s.toks) kp
    exact ⟨.ref h'.objs.size, _, J.laid (t' := s.toks) (fun b o e => Heap.get?_push_of_some _ e) (Nat.le_refl _) (show ObjOk X.prog X.w _ _ _ (.tup ys) from ⟨hz, its, rv, IsTup.new _ _⟩), rfl, q _ (J.hok.fresh (Nat.le_refl _)) J.sz⟩) (by
    have len := rv.length
    rw [List.size_toArray]
    omega)
end
end OwC
/-! (x, y): the tuple stands at an address of this call's own -/
namespace OwC
open PySem PySem.Spec PyProof.Rows L2 StX
def tTupA (n : Nat) (t : TA) : TE := fun σ H Q => t σ H fun zs H1 => zs.length ≤ sizeLine ∧ ∀ p, H1 p = none → n ≤ p → Q (.ref p) (upd H1 p (.tup zs))
theorem pe_tupA {X : Cx} {es : List Expr} {t : TA} {k1} {pos : Pos} (all : PA X es t) : PE X (.Tuple es k1 pos) (tTupA X.s_0.heap.objs.size t) := by
  refine ⟨fun pins s0 σ H Q I0 h => ?_⟩
  refine wpAny_Tuple_spliced (thn (all.run pos pins s0 σ H _ I0 h) fun us s ⟨zs, G, J, rz, few, k⟩ => ⟨by rw [← rz.length]; exact few, ?_⟩)
  have J2 := J.laid (t' := s.toks) (fun b o e => Heap.get?_push_of_some _ e) (Nat.le_refl _) (show ObjOk X.prog X.w _ _ _ (.tup zs) from ⟨few, us, rz, IsTup.new _ _⟩)
  exact ⟨.ref s.heap.objs.size, _, J2, rfl, k _ (J.hok.fresh (Nat.le_refl _)) J.sz⟩
end OwC
namespace L2
open PySem PySem.Spec PyProof.Rows
/-! ### defs that are called where no repr runs (the law, and what it calls): FnG -/
def Qt (A : Around) : Prop := A.guards = some []
theorem Qt.deeper {A : Around} (h : Qt A) (env : Env) : Qt (A.deeper env) := h
structure FnG (P : Program) (w : World) (K : PySem.W.Frag) (mg : Str → Option Value) (base : Heap) (k : Nat) (f : Addr) (fd : FuncData) (ps : List Str) (sp : Sp) : Prop where
  len : ∀ vs H Q E, sp vs H Q E → vs.length = ps.length
  run : ∀ (A : Around) (outer : List Env) (s : Shared) (H : Hp) (args : Args) (us : List Value) (vs : List V) (Q : VK) (E : XK), Qt A → Room k A → Env0 P w K mg base A outer s H → BindsTo s fd args (ps.zip us) → Vals vs us → sp vs H Q E →
    codeAny (model P w) A (.call (.ref f) args) (CR CX0 outer P w H s Q E) s
/-- a def whose body is walked where no repr runs -/
theorem fnG_of {P : Program} {w : World} {K : PySem.W.Frag} {mg : Str → Option Value} {base : Heap} {k : Nat} {f : Addr} {fd : FuncData} {x qual : Str} {st : Stmt} {N ps : List Str} {sp : Sp} (F : Fun K x qual st f fd) (S : FnScope N ps (defScope st))
    (len : ∀ vs H Q E, sp vs H Q E → vs.length = ps.length)
    (hbody : ∀ (cdv : Value) (A : Around) (outer : List Env) (s : Shared) (H : Hp) (vs : List V) (Q : VK) (E : XK), Qt A → Room k (A.deeper (envOfC qual (defScope st) s.heap.objs.size f cdv)) → sp vs H Q E →
      ∃ t, PSs (cxOf CX0 P w K mg base N qual (defScope st) f cdv A outer s H E).nox (defBody st) t ∧ t { nx := fun _ H' => Q .non H', rt := Q } (start N vs) H) : FnG P w K mg base (k + 1) f fd ps sp := by
  obtain ⟨oc, od, kV, doc, pm, an, cdv, ct, osl, rfl, lk, hcd⟩ := F.ex
  refine ⟨len, fun A outer s H args us vs Q E gd room e0 bound rel hsp => ?_⟩
  obtain ⟨t, ht, hq⟩ := hbody cdv A outer s H vs Q E gd (room.deeper _) hsp
  have many := len _ _ _ _ hsp
  have inK : K.In s.heap := e0.mod.kin.keeps fun b o e => (e0.bs b o e).1
  have free : s.heap.NoLimit := e0.mod.nolimit.keeps fun b o e => (e0.bs b o e).1
  refine codeAny_call_function room.depth (inK _ _ lk) rfl S.co S.gen rfl (PySem.W.codeRec_of inK hcd) (bound _ _ _ _ ?_)
  have kinds : ∀ y ∈ ps.zip us, (defScope st).names.lookup y.1 = some .local ∨ ((defScope st).names.lookup y.1 = some .cell ∧ ((cellsFrom (s.heap.objs.size + 1) (defScope st).names []).lookup y.1).isSome = true) := by
    rintro ⟨n, v⟩ hy
    exact (S.par n (List.of_mem_zip hy).1).imp id fun q => ⟨q, PySem.W.cellsFrom_some _ _ _ (.inl q)⟩
  refine wpAny_newFunctionEnv_cells S.kind kinds fun env he s1 x => ?_
  cases he
  refine ⟨free.keeps x.toInCall.keep, codeAny_func ?_⟩
  refine wpAny_mono (ht.nox.run [] s1 (start N vs) H _ (inv_start S room.hd e0 many rel x) hq) (fun fl s' hs => ?_) fun e s' hs => hs
  cases fl with
  | ret u =>
    obtain ⟨v, σ', H', J, rv, q⟩ := hs
    exact ⟨v, H', J.os, J.bare, J.base, J.hok, rv, q⟩
  | next =>
    obtain ⟨σ', H', J, q⟩ := hs
    exact ⟨V.non, H', J.os, J.bare, J.base, J.hok, rfl, q⟩
  | brk => exact (hs.choose_spec.choose_spec.2).elim
  | cont => exact (hs.choose_spec.choose_spec.2).elim
section
variable {X : Cx} {k : Nat} {f : Addr} {fd : FuncData} {ps : List Str} {sp : Sp} {x : Str} {p pos : Pos} {e : Expr} {es : List Expr} {t : TA}
theorem pe_callG (F : FnG X.prog X.w X.K X.mg X.base k f fd ps sp) (gd : Qt X.A) (hr : Room k X.A) (hg : Gl X x) (hm : X.mg x = some (.ref f)) (hk : PySem.W.keepIn X.K (.ref f) = true) (hb : Binds X.K fd ps [])
    (ha : PA X (e :: es) t) (hdb : (x == ("__debug__" : Str)) = false := by decide) (he : starEach (e :: es) X.env = (false, eval e X.env) :: starEach es X.env := by rfl) (hpl : (backTo pos (starEach es X.env)).any (·.1) = false := by rfl) :
    PE X (.Call (.Name x p) (e :: es) [] pos) (tCall sp [] E0 t) := by
  refine ⟨fun pins s σ H Q I h => ?_⟩
  refine wpAny_Call_Name_kw (ld_glob I hg hm ?_ hdb)
  refine PySem.W.callWith_K (h₀ := X.base) I.ok.mod.kin hk (thn (ha.run pos pins s σ H _ I h) fun us s1 ⟨vs, H1, I1, r, q⟩ => ⟨I1.kIn, ?_⟩) he hpl
  have q0 : sp vs H1 Q E0 := by simpa using q
  have many : us.length = ps.length := r.length.symm.trans (F.len _ _ _ _ q0)
  have bd : BindsTo s1 fd ⟨us, []⟩ (ps.zip us) := by simpa using hb s1 us I1.kIn (by simpa using many)
  show wpAny _ _ (call (.ref f) us) _ _ _
  refine wpAny_call (codeAny_mono (F.run X.A X.stack s1 H1 ⟨us, []⟩ us vs Q E0 gd hr I1.env0 bd r q0) fun res s' hq => ?_)
  cases res with
  | error er => exact (show False from hq).elim
  | ok fl =>
    cases fl with
    | next => exact False.elim hq
    | brk => exact False.elim hq
    | cont => exact False.elim hq
    | ret u => exact I1.after hq
end

/-! ### repr of data -/
mutual
inductive Ds (K : PySem.W.Frag) (H : Hp) : V → PyData → Prop
  | non : Ds K H .non .none
  | bl (b : Bool) : Ds K H (.bl b) (.bool b)
  | int (i : Int) : Ds K H (.int i) (.int i)
  | str (x : Str) : Ds K H (.str x) (.str x)
  | lst {a : Addr} {xs : List V} {ds : List PyData} : SqL K H a xs → a ≠ sysModules → DsAll K H xs ds → Ds K H (.ref a) (.list ds)
  | tup {a : Addr} {xs : List V} {ds : List PyData} : SqT K H a xs → DsAll K H xs ds → Ds K H (.ref a) (.tuple ds)
  | one {a : Addr} {x : Str} {i : Int} : H a = some (.dK [(.inr x, .int i)]) → Ds K H (.ref a) (.dict [(.str x, .int i)])
  | emp {a : Addr} : H a = some (.dK []) → Ds K H (.ref a) (.dict [])
inductive DsAll (K : PySem.W.Frag) (H : Hp) : List V → List PyData → Prop
  | nil : DsAll K H [] []
  | cons {v : V} {vs : List V} {d : PyData} {ds : List PyData} : Ds K H v d → DsAll K H vs ds → DsAll K H (v :: vs) (d :: ds)
end
section
variable {X : Cx} {pins : List (Addr × Obj)} {σ : St} {H : Hp} {s : Shared}
theorem pairs_one {P : Program} {w : World} {x : Str} {i : Int} {es : List DictEntry} {vs : List (Key × Value)} (hp : Pairs (mixKind P w) es vs) (kv : KV [((Sum.inr x : Key), V.int i)] vs) (h : Heap) :
    ReadsAll h (es.map (·.key)) [.str x] [] ∧ ReadsAll h (es.map (·.val)) [.int i] [] := by
  cases kv with
  | cons k1 k2 =>
    cases k2
    rename_i q
    obtain ⟨k, u⟩ := q
    obtain ⟨e1, e2⟩ := k1
    simp only at e1 e2
    subst e1
    obtain ⟨t, rfl⟩ := e2
    cases hp with
    | cons i1 i2 i3 =>
      rename_i e es'
      cases i3
      rcases keyIs_shape (show keyIs (Sum.inr x) e.key = true from i1) with ⟨j, t', e3, e4⟩ | ⟨y, t', e3, e4⟩
      · cases e3
      · cases e3
        rw [List.map_cons, List.map_nil, e4, List.map_cons, List.map_nil, i2]
        exact ⟨ReadsAll.cons (as := []) (bs := []) (Reads.str x t') ReadsAll.nil, ReadsAll.cons (as := []) (bs := []) (Reads.int i t) ReadsAll.nil⟩
theorem pairs_nil {P : Program} {w : World} {es : List DictEntry} (hp : Pairs (mixKind P w) es ([] : List (Key × Value))) (h : Heap) : ReadsAll h (es.map (·.key)) [] [] ∧ ReadsAll h (es.map (·.val)) [] [] := by
  cases hp
  exact ⟨ReadsAll.nil, ReadsAll.nil⟩
mutual
theorem Ds.reads (I : Inv X pins σ H s) : ∀ (d : PyData) (v : V) (u : Value), Ds X.K H v d → RelV v u → ∃ as, Reads s.heap u d as ∧ sysModules ∉ as
  | .none, _, _, h, r => by
    cases h
    cases r
    exact ⟨_, Reads.none, by simp⟩
  | .bool b, _, _, h, r => by
    cases h
    cases r
    exact ⟨_, Reads.bool b, by simp⟩
  | .int i, _, _, h, r => by
    cases h
    obtain ⟨t, rfl⟩ := r
    exact ⟨_, Reads.int i t, by simp⟩
  | .str x, _, _, h, r => by
    cases h
    obtain ⟨t, rfl⟩ := r
    exact ⟨_, Reads.str x t, by simp⟩
  | .list ds, _, _, h, r => by
    cases h with
    | lst hs hne ha =>
      cases r
      obtain ⟨its, rv, ⟨o, n, ho, hc, _, hd⟩, _⟩ := I.list hs
      obtain ⟨as, hr, hq⟩ := Ds.readsAll I ds _ its ha rv
      exact ⟨_, Reads.list ho hc hd hr, by simp only [List.mem_cons, not_or]; exact ⟨Ne.symm hne, hq⟩⟩
  | .tuple ds, _, _, h, r => by
    cases h with
    | tup hs ha =>
      cases r
      obtain ⟨its, rv, ⟨o, ho, hc, n, hd⟩, _⟩ := I.tuple hs
      obtain ⟨as, hr, hq⟩ := Ds.readsAll I ds _ its ha rv
      exact ⟨_, Reads.tuple ho hc hd hr, hq⟩
  | .dict _, _, _, h, r => by
    cases h with
    | @one a x i h =>
      cases r
      obtain ⟨_, ns, vs, kv, o, es, ep, ho, hx, hd, _, hp, _⟩ := (show ObjOk X.prog X.w H s.heap a (.dK [(.inr x, .int i)]) from I.hok a _ h)
      obtain ⟨r1, r2⟩ := pairs_one hp kv s.heap
      exact ⟨_, Reads.dict ho hx.1 hd r1 r2, by
        simp only [List.append_nil, List.mem_cons, List.not_mem_nil, or_false]
        exact fun z => absurd (beq_iff_eq.mpr z.symm) (by rw [ns]; decide)⟩
    | @emp a h =>
      cases r
      obtain ⟨_, ns, vs, kv, o, es, ep, ho, hx, hd, _, hp, _⟩ := (show ObjOk X.prog X.w H s.heap a (.dK []) from I.hok a _ h)
      cases kv
      obtain ⟨r1, r2⟩ := pairs_nil hp s.heap
      exact ⟨_, Reads.dict ho hx.1 hd r1 r2, by
        simp only [List.append_nil, List.mem_cons, List.not_mem_nil, or_false]
        exact fun z => absurd (beq_iff_eq.mpr z.symm) (by rw [ns]; decide)⟩
theorem Ds.readsAll (I : Inv X pins σ H s) : ∀ (ds : List PyData) (vs : List V) (us : List Value), DsAll X.K H vs ds → Vals vs us → ∃ as, ReadsAll s.heap us ds as ∧ sysModules ∉ as
  | [], _, _, h, r => by
    cases h
    cases r
    exact ⟨_, ReadsAll.nil, by simp⟩
  | d :: ds, _, _, h, r => by
    cases h with
    | cons h1 h2 =>
      cases r with
      | cons r1 r2 =>
        obtain ⟨as, q1, n1⟩ := Ds.reads I d _ _ h1 r1
        obtain ⟨bs, q2, n2⟩ := Ds.readsAll I ds _ _ h2 r2
        exact ⟨_, ReadsAll.cons q1 q2, by rw [List.mem_append]; exact fun z => z.elim n1 n2⟩
end
end
/-- repr(x), x such data -/
def rRepr (K : PySem.W.Frag) : List V → Hp → VK → Prop := fun xs H Q => ∃ (x : V) (d : PyData), xs = [x] ∧ Ds K H x d ∧ d.showable = true ∧ d.depth ≤ 60 ∧ d.shown.length ≤ sizeLine ∧ Q (.str d.shown) H
theorem call_reprD {X : Cx} (gd : Qt X.A) (hu : X.A.units + 64 < cLine) : CallR X (.builtin "repr") (rRepr X.K) := by
  intro pins s σ H xs us Q I r h
  obtain ⟨x, d, rfl, hd, sh, dp, sz, q⟩ := h
  obtain ⟨u, rfl, ru⟩ := vals1 r
  obtain ⟨as, rd, ns⟩ := Ds.reads I d x u hd ru
  cases rd with
  | none => exact PySem.P.repr_of_none ⟨.str _, H, I.tok _, ⟨_, rfl⟩, q⟩
  | bool b => exact PySem.P.repr_of_bool ⟨.str _, H, I.tok _, ⟨_, rfl⟩, q⟩
  | int i t => exact PySem.P.repr_of_int (of_decide_eq_true sh) ⟨.str _, H, I.tok _, ⟨_, rfl⟩, q⟩
  | str z t => exact PySem.P.repr_of_str ⟨.str _, H, I.tok _, ⟨_, rfl⟩, q⟩ sz
  | list h1 h2 h3 h4 => exact repr_of_reads' (Reads.list h1 h2 h3 h4) sh (fun _ => ns) gd (by omega) (fun _ _ z => z) (fun h' u tk k => ⟨.str _, H, I.kept k, ⟨_, rfl⟩, q⟩) sz
  | tuple h1 h2 h3 h4 => exact repr_of_reads' (Reads.tuple h1 h2 h3 h4) sh (fun _ => ns) gd (by omega) (fun _ _ z => z) (fun h' u tk k => ⟨.str _, H, I.kept k, ⟨_, rfl⟩, q⟩) sz
  | dict h1 h2 h3 h4 h5 => exact repr_of_reads' (Reads.dict h1 h2 h3 h4 h5) sh (fun _ => ns) gd (by omega) (fun _ _ z => z) (fun h' u tk k => ⟨.str _, H, I.kept k, ⟨_, rfl⟩, q⟩) sz
/-- a list display, whose place is known not to be the table of modules -/
def tLstS (t : TA) : TE := fun σ H Q => t σ H fun xs H1 => xs.length ≤ sizeLine ∧ ∀ l, H1 l = none → l ≠ sysModules → Q (.ref l) (upd H1 l (.lst xs))
theorem pe_lstS {X : Cx} {es : List Expr} {t : TA} {pos : Pos} (h : PA X es t) : PE X (.List es pos) (tLstS t) := by
  refine ⟨fun pins s σ H Q I hq => ?_⟩
  refine wpAny_List_spliced (thn (h.run pos pins s σ H _ I hq) fun us s1 ⟨xs, H1, I1, r, z, q⟩ => ⟨by rw [← r.length]; exact z, ?_⟩)
  have far : s1.heap.objs.size ≠ sysModules := by
    have z1 : (3 : Nat) < X.base.objs.size := I1.mod.glob.lt
    have z2 := I1.ok.bsz
    have z3 := I1.sz
    show s1.heap.objs.size ≠ 1
    omega
  exact ⟨.ref s1.heap.objs.size, _, I1.laid (t' := s1.toks) (o := .lst xs) (fun b u e => Heap.get?_push_of_some _ e) (Nat.le_refl _) ⟨z, us, 0, r, Heap.get?_push_size _ rfl⟩, rfl, q _ (I1.hok.fresh (Nat.le_refl _)) far⟩
end L2
/-! enumerate over a tuple -/
namespace EnT
open PySem PySem.Spec PyProof.Rows L2
/-- the iterator of a tuple, as it begins -/
abbrev tupIt (t : Addr) : Obj := { cls := .type "tuple_iterator", data := .fields #[.ref t, .int 0 0] }
/-- the enumeration over the iterator at n, as it begins -/
abbrev enuAt (n : Addr) : Obj := { cls := .type "enumerate", data := .fields #[.none, .bool false, .ref n, rawInt 0, .none, .none] }
set_option maxHeartbeats 2000000 in
theorem new_enumT (t : Addr) (its : Array Value) : Meets (Builtin.«enumerate.__new__» ⟨[.type "enumerate", .ref t], []⟩)
    (fun _ R s => s.heap.IsTuple t its ∧ R (.ok (.ret (.ref (s.heap.push (tupIt t)).objs.size))) { s with heap := (s.heap.push (tupIt t)).push (enuAt s.heap.objs.size) }) := Meets.of_wp fun P w A R s hh => by
  rcases s with ⟨hp, gs, ds, tk, sys⟩
  rcases hh with ⟨hT, goal⟩
  have kind := sub_enumerate
  have begin_ : ∀ {B : Around} {E : Value → Shared → Prop} {Q : Value → Shared → Prop}, Q (.ref hp.objs.size) ⟨hp.push (tupIt t), gs, ds, tk, sys⟩ → wpAny (model P w) B (pyIter (.ref t)) Q E ⟨hp, gs, ds, tk, sys⟩ := fun q => wpAny_pyIter_tuple hT q
  wp_walk using begin_
  refine wpAny_stack_any (fun _ => wpAny_pure ?_)
  split
  next c _ _ _ _ _ => cases (c == Value.type "enumerate") <;> (wp_walk using begin_; exact ⟨_, rfl, goal⟩)
  next => (wp_walk using begin_; exact ⟨_, rfl, goal⟩)
theorem call_enumT {P : Program} {w : World} {A : Around} {E : Value → Shared → Prop} {s : Shared} {t : Addr} {its : Array Value} {Q : Value → Shared → Prop} (hT : s.heap.IsTuple t its)
    (k : ∀ h', IsEnum h' (s.heap.objs.size + 1) s.heap.objs.size 0 .none → h'.IsTupleIter s.heap.objs.size t 0 → (∀ b o, s.heap.get? b = some o → h'.get? b = some o) → Q (.ref (s.heap.objs.size + 1)) { s with heap := h' }) :
    wpAny (model P w) A (call (.type "enumerate") [.ref t]) Q E s := by
  have sz : (s.heap.push (tupIt t)).objs.size = s.heap.objs.size + 1 := Heap.size_push ..
  have at1 : ((s.heap.push (tupIt t)).push (enuAt s.heap.objs.size)).get? (s.heap.objs.size + 1) = some (enuAt s.heap.objs.size) := sz ▸ Heap.get?_push_size (s.heap.push (tupIt t)) rfl
  have at0 : ((s.heap.push (tupIt t)).push (enuAt s.heap.objs.size)).get? s.heap.objs.size = some (tupIt t) := Heap.get?_push_of_some _ (Heap.get?_push_size _ rfl)
  refine callType_new F.called_enumerate (by decide) (F.typeCall_enumerate_1 _) (F.newCall_enumerate_1 _) (fun obj => F.args_object_init_2 obj _) F.entry_enumerate_new (new_enumT t its) ⟨hT, ?_⟩
  show _ ∧ _
  rw [sz]
  exact ⟨⟨_, at1, rfl⟩, k _ at1 ⟨_, at0, rfl, rfl⟩ fun b o e => Heap.get?_push_of_some _ (Heap.get?_push_of_some _ e)⟩
/-- the tuple at a, turn by turn: each item with its place, in a new pair -/
def Itn (K : PySem.W.Frag) (a : Addr) : It where
  go i H := ∃ (ys : List V) (y : V), SqT K H a ys ∧ ys[i]? = some y
  yld i H v H' := ∃ T y, v = .ref T ∧ H T = none ∧ H' = upd H T (.tup [.int (i : Nat), y]) ∧ ∀ ys, SqT K H a ys → ys[i]? = some y
  stop i H := ∃ ys : List V, SqT K H a ys ∧ ys.length = i
theorem turn_enumT {P : Program} {w : World} {K : PySem.W.Frag} {elts : List Expr} {kk : Nat} {tpos : Pos} (a e it : Addr) :
    Turn P w K (.Tuple elts kk tpos) (Itn K a) [e, it] e (fun i h => (∃ old, IsEnum h e it ((i : Nat) : Int) old) ∧ h.IsTupleIter it a i) where
  mem := List.mem_cons_self ..
  obj := fun i h ⟨⟨old, he⟩, o, ho, _, hd⟩ b hb => by
    rcases List.mem_cons.mp hb with rfl | hb
    · exact ⟨_, he, fun v q => nomatch q⟩
    · obtain rfl := List.mem_singleton.mp hb
      exact ⟨o, ho, fun v q => by rw [hd] at q; cases q⟩
  keep := fun i h h' ⟨⟨old, he⟩, hi⟩ k => ⟨⟨old, k e (List.mem_cons_self ..) _ he⟩, hi.at fun o q => k it (by simp) o q⟩
  item := by
    rintro X rfl rfl rfl hc i pins s σ H E I hf ⟨⟨old, he⟩, hit⟩ ⟨ys, y, hq, hy⟩
    obtain ⟨its, rv, p, hz⟩ := I.tuple hq
    have ht : s.heap.IsTuple a its.toArray := p
    obtain ⟨u, hu, ru⟩ := rv.get hy
    have len : i < its.length := (List.getElem?_eq_some_iff.mp hu).1
    have ai : a ≠ it := fun z => by
      obtain ⟨o1, g1, c1, _⟩ := ht
      obtain ⟨o2, g2, c2, _⟩ := id hit
      rw [z, g2] at g1
      rw [← Option.some.inj g1, c2] at c1
      exact absurd c1 (by decide)
    have ei : e ≠ it := fun z => by
      obtain ⟨o2, g2, c2, _⟩ := id hit
      have g1 : s.heap.get? e = _ := he
      rw [z, g2] at g1
      rw [Option.some.inj g1] at c2
      exact absurd (show Value.type "enumerate" = Value.type "tuple_iterator" from c2) (by decide)
    have ea : e ≠ a := fun z => by
      obtain ⟨o2, g2, c2, _⟩ := ht
      have g1 : s.heap.get? e = _ := he
      rw [z, g2] at g1
      rw [Option.some.inj g1] at c2
      exact absurd (show Value.type "enumerate" = Value.type "tuple" from c2) (by decide)
    refine wpAny_pyNext_enum_itemD (Draws.tuple (A := X.A.in1) (I.ok.hd hc) it a ai its.toArray) he ⟨hit, ht⟩ (by simpa using len) ei (by simp [ei, ea]) fun x h' tk hx ho hst hT sz1 hk => ?_
    have xu : x = u := by
      have : its[i]? = some x := by simpa using hx
      rw [hu] at this
      exact (Option.some.inj this).symm
    subst xu
    have hel : e < s.heap.objs.size := Heap.lt_size he
    have hil : it < s.heap.objs.size := by obtain ⟨_, q, _⟩ := hit; exact Heap.lt_size q
    refine ⟨_, rfl, wpAny_letOwnedTupleGo_enum (s := { s with heap := h', toks := tk + 1 }) ho fun h2 he2 sb => ?_⟩
    have pair : h2.get? s.heap.objs.size = some { cls := .type "tuple", data := .seq #[.int i tk, x] } := (sb.2 _ (Nat.ne_of_gt hel)).trans hT
    have new : ObjOk X.prog X.w (upd H s.heap.objs.size (.tup [.int (i : Nat), y])) h2 s.heap.objs.size (.tup [.int (i : Nat), y]) :=
      ⟨by show 2 ≤ sizeLine; decide, [.int i tk, x], .cons ⟨_, rfl⟩ (.cons ru .nil), ⟨_, pair, rfl, _, rfl⟩⟩
    have J : Inv X pins σ (upd H s.heap.objs.size (.tup [.int (i : Nat), y])) { s with heap := h2, toks := tk + 1 } :=
      I.turnedNew (ch := [e, it]) (fun b o hb q => (sb.2 b fun z => hb (by simp [z])).trans (hk b o (fun z => hb (by simp [z])) (fun z => hb (by simp [z])) q)) hf (Nat.le_refl _) new
    refine ⟨.ref s.heap.objs.size, _, J, rfl, ⟨_, y, rfl, I.hok.fresh (Nat.le_refl _), rfl, fun zs hz => by rw [I.tuple_inj hz hq]; exact hy⟩, ⟨⟨x, ?_⟩, hst.1.at fun o q => (sb.2 it (Ne.symm ei)).trans q⟩, fun b hb => ?_⟩
    · have e1 : ((i + 1 : Nat) : Int) = (i : Int) + 1 := rfl
      rw [e1]
      exact he2
    · have lt : b < s.heap.objs.size := by
        rcases List.mem_cons.mp hb with rfl | hb
        · exact hel
        · obtain rfl := List.mem_singleton.mp hb
          exact hil
      rw [upd_ne (Nat.ne_of_lt lt)]
      exact (hf b hb).1
  done := by
    rintro X rfl rfl rfl hc i pins s σ H E I hf ⟨⟨old, he⟩, hit⟩ ⟨ys, hq, hy⟩
    obtain ⟨its, rv, p, hz⟩ := I.tuple hq
    have ht : s.heap.IsTuple a its.toArray := p
    have hl := rv.length
    obtain ⟨f0, f1, f2, f3, f4, f5⟩ := hf it (by simp)
    have ai : a ≠ it := fun z => by
      obtain ⟨o1, g1, c1, _⟩ := ht
      obtain ⟨o2, g2, c2, _⟩ := id hit
      rw [z, g2] at g1
      rw [← Option.some.inj g1, c2] at c1
      exact absurd c1 (by decide)
    have hi : its.toArray.size = i := by rw [List.size_toArray]; omega
    exact wpAny_pyNext_enum_endD (Draws.tuple (A := X.A.in1) (I.ok.hd hc) it a ai its.toArray) he (hi.symm ▸ ⟨hit, ht⟩) fun h' eb => ⟨rfl, I.turned (t' := s.toks) (fun b o hb z => eb b o hb z) f0 f1 f3 f4 f5⟩
  self := fun A i s Q E ⟨⟨_, he⟩, _⟩ h => wpAny_pyIter_enum he h
/-- enumerate(a tuple) -/
def iEnumT (K : PySem.W.Frag) (ta : TA) : TI := fun σ H R => ta σ H fun vs H1 => ∃ a ys, vs = [.ref a] ∧ SqT K H1 a ys ∧ R (Itn K a) H1
theorem pi_enumT {X : Cx} {e : Expr} {ta : TA} {p pos tpos : Pos} {elts : List Expr} {kk : Nat} (hg : Gl X "enumerate") (hm : X.mg "enumerate" = none) (ha : PA X [e] ta)
    (one : starEach [e] X.env = [(false, eval e X.env)] := by rfl) : PI X (.Tuple elts kk tpos) (.Call (.Name "enumerate" p) [e] [] pos) (iEnumT X.K ta) := by
  refine ⟨fun pins s σ H R I h => Call_ (ld_blt I hg hm boot_enumerate (PyProof.Rows.callWith_type1 (thn (ha.run pos pins s σ H _ I h) fun us s1 ⟨vs, H1, J, r1, a, ys, ev, hq, q⟩ => ?_) one rfl))⟩
  subst ev
  rcases r1 with _ | ⟨r, r0⟩
  cases r0
  cases r
  obtain ⟨its, rv, at_, hz⟩ := J.tuple hq
  refine call_enumT (its := its.toArray) at_ fun h' he hit hk => wpAny_pyIter_enum he ?_
  refine ⟨s1.heap.objs.size + 1, [s1.heap.objs.size + 1, s1.heap.objs.size], _, _, H1, rfl, J.kept (t' := s1.toks) hk, turn_enumT a _ _, ⟨⟨.none, he⟩, hit⟩, fun b hb => ?_, q⟩
  have le : s1.heap.objs.size ≤ b := by
    rcases List.mem_cons.mp hb with rfl | hb
    · exact Nat.le_succ _
    · exact Nat.le_of_eq (List.mem_singleton.mp hb).symm
  exact J.fpOk le (J.hok.fresh le)
theorem walk_enumT {K : PySem.W.Frag} {a : Addr} {ys : List V} : Walk (Itn K a) ys.length (fun H => SqT K H a ys) (YPair (fun i => some (.int (i : Nat))) (fun i => ys[i]?)) :=
  ⟨fun i _ hi q => ⟨ys, ys[i], q, List.getElem?_eq_getElem hi⟩, fun _ q => ⟨ys, q, rfl⟩, fun i H v H' _ q ⟨T, y, h1, h2, h3, h4⟩ => ⟨T, .int (i : Nat), y, h1, h2, h3, rfl, h4 ys q⟩⟩
end EnT
/-! sequences that come round: periods, borders of a row, the least period, the normal form of a growth -/
namespace Gr
/-! ### periods of a sequence -/
def Pd {α : Type} (d : Nat → α) (q : Nat) : Prop := ∀ k, d (k + q) = d k
section
variable {α : Type} {d : Nat → α} {p q n : Nat}
theorem Pd.zero : Pd d 0 := fun _ => rfl
theorem Pd.mul (h : Pd d q) : ∀ j k, d (k + j * q) = d k
  | 0, k => by rw [Nat.zero_mul, Nat.add_zero]
  | j + 1, k => by rw [Nat.succ_mul, ← Nat.add_assoc, h, Pd.mul h j]
theorem Pd.mod (h : Pd d q) (k : Nat) : d (k % q) = d k := by
  have e := Nat.mod_add_div k q
  rw [Nat.mul_comm] at e
  have := Pd.mul h (k / q) (k % q)
  rw [e] at this
  exact this.symm
theorem Pd.sub (hp : Pd d p) (hq : Pd d q) (h : p ≤ q) : Pd d (q - p) := fun k => by
  have e : k + (q - p) + p = k + q := by omega
  rw [← hp (k + (q - p)), e, hq]
theorem Pd.rem (hp : Pd d p) (hq : Pd d q) : Pd d (q % p) := fun k => by
  have e : k + q % p + q / p * p = k + q := by
    have := Nat.mod_add_div q p
    rw [Nat.mul_comm] at this
    omega
  rw [← Pd.mul hp (q / p) (k + q % p), e, hq]
theorem Pd.gcd : ∀ (p q : Nat), Pd d p → Pd d q → Pd d (Nat.gcd p q) := by
  intro p
  induction p using Nat.strongRecOn with
  | ind p ih =>
    intro q hp hq
    rcases Nat.eq_zero_or_pos p with h | h
    · rw [h, Nat.gcd_zero_left]
      exact hq
    · rw [Nat.gcd_rec]
      exact ih (q % p) (Nat.mod_lt _ h) p (hp.rem hq) hp
/-- the least one -/
structure Least (d : Nat → α) (p : Nat) : Prop where
  pos : 0 < p
  pd : Pd d p
  le : ∀ q, 0 < q → Pd d q → p ≤ q
end
/-! ### rows -/
def at' (g : List Int) (i : Nat) : Int := g.getD i 0
/-- the row, again and again -/
def dif (g : List Int) (k : Nat) : Int := at' g (k % g.length)
/-- within the row what stands p further on is the same -/
def Per (g : List Int) (p : Nat) : Prop := ∀ i, i + p < g.length → at' g (i + p) = at' g i
section
variable {g : List Int} {p q : Nat}
theorem dif_pd : Pd (dif g) g.length := fun k => by unfold dif; rw [Nat.add_mod_right]
theorem dif_lt {k : Nat} (h : k < g.length) : dif g k = at' g k := by unfold dif; rw [Nat.mod_eq_of_lt h]
theorem Pd.per (h : Pd (dif g) p) : Per g p := fun i hi => by
  have := h i
  rwa [dif_lt hi, dif_lt (by omega)] at this
theorem Per.mul (h : Per g p) : ∀ j i, i + j * p < g.length → at' g (i + j * p) = at' g i
  | 0, i, _ => by rw [Nat.zero_mul, Nat.add_zero]
  | j + 1, i, hi => by
    rw [Nat.succ_mul, ← Nat.add_assoc] at hi ⊢
    rw [h _ hi, Per.mul h j i (by omega)]
theorem Per.pd (h : Per g p) (hp : 0 < p) (hd : p ∣ g.length) (hn : 0 < g.length) : Pd (dif g) p := fun k => by
  obtain ⟨c, hc⟩ := hd
  have hr : k % g.length < g.length := Nat.mod_lt _ hn
  unfold dif
  rw [Nat.add_mod]
  generalize k % g.length = r at hr
  have hpn : p ≤ g.length := by
    rcases c with _ | c
    · rw [Nat.mul_zero] at hc; omega
    · rw [hc]; exact Nat.le_mul_of_pos_right p (Nat.succ_pos c)
  rcases Nat.lt_or_ge p g.length with h1 | h1
  · rw [Nat.mod_eq_of_lt h1]
    rcases Nat.lt_or_ge (r + p) g.length with h2 | h2
    · rw [Nat.mod_eq_of_lt h2]
      exact h r h2
    · rw [Nat.mod_eq_sub_mod h2, Nat.mod_eq_of_lt (by omega)]
      rcases c with _ | c
      · rw [Nat.mul_zero] at hc; omega
      have e : r + p - g.length + c * p = r := by
        have : p * (c + 1) = c * p + p := by rw [Nat.mul_comm, Nat.succ_mul]
        omega
      have z := h.mul c (r + p - g.length) (by rw [e]; exact hr)
      rw [e] at z
      exact z.symm
  · have e : p = g.length := Nat.le_antisymm hpn h1
    rw [e, Nat.mod_self, Nat.add_zero, Nat.mod_eq_of_lt hr]
end
/-! ### borders: the longest one of each beginning -/
/-- w signs at the end of the first m are the first w -/
def Bd (g : List Int) (m w : Nat) : Prop := w < m ∧ ∀ i, i < w → at' g (m - w + i) = at' g i
structure Lb (g : List Int) (m w : Nat) : Prop where
  bd : Bd g m w
  top : ∀ v, Bd g m v → v ≤ w
section
variable {g : List Int} {m w v : Nat}
theorem bd_zero (h : 0 < m) : Bd g m 0 := ⟨h, fun i hi => absurd hi (Nat.not_lt_zero i)⟩
theorem lb_one : Lb g 1 0 := ⟨bd_zero Nat.one_pos, fun v h => by have := h.1; omega⟩
theorem bd_succ : Bd g (m + 1) (v + 1) ↔ Bd g m v ∧ at' g m = at' g v := by
  constructor
  · rintro ⟨h, a⟩
    have hv : v < m := by omega
    refine ⟨⟨hv, fun i hi => ?_⟩, ?_⟩
    · have := a i (by omega)
      rwa [show m + 1 - (v + 1) + i = m - v + i by omega] at this
    · have := a v (by omega)
      rwa [show m + 1 - (v + 1) + v = m by omega] at this
  · rintro ⟨⟨h, a⟩, e⟩
    refine ⟨by omega, fun i hi => ?_⟩
    rw [show m + 1 - (v + 1) + i = m - v + i by omega]
    rcases Nat.lt_or_ge i v with h1 | h1
    · exact a i h1
    · have : i = v := by omega
      subst this
      rw [show m - i + i = m by omega]
      exact e
/-- a border of a border, and the other way round -/
theorem bd_trans (h : Bd g m w) (h2 : Bd g w v) : Bd g m v := by
  refine ⟨Nat.lt_trans h2.1 h.1, fun i hi => ?_⟩
  have := h.2 (w - v + i) (by have := h2.1; omega)
  rw [show m - w + (w - v + i) = m - v + i by have := h.1; have := h2.1; omega] at this
  rw [this]
  exact h2.2 i hi
theorem bd_down (h : Bd g m w) (h2 : Bd g m v) (hv : v < w) : Bd g w v := by
  refine ⟨hv, fun i hi => ?_⟩
  have a := h.2 (w - v + i) (by omega)
  rw [show m - w + (w - v + i) = m - v + i by have := h.1; omega] at a
  rw [← a]
  exact h2.2 i hi
/-- what the search for the next border keeps: a border, and none that goes on is longer -/
def Srch (g : List Int) (m w : Nat) : Prop := Bd g m w ∧ ∀ v, Bd g m v → at' g m = at' g v → v ≤ w
theorem srch_start (h : Lb g m w) : Srch g m w := ⟨h.bd, fun v b _ => h.top v b⟩
theorem srch_step (h : Srch g m w) (hw : 0 < w) (hne : at' g m ≠ at' g w) {w' : Nat} (b : Lb g w w') : Srch g m w' ∧ w' < w :=
  ⟨⟨bd_trans h.1 b.bd, fun v hv e => by
    have h1 := h.2 v hv e
    have h2 : v ≠ w := fun z => hne (z ▸ e)
    exact b.top v (bd_down h.1 hv (by omega))⟩, b.bd.1⟩
theorem srch_yes (h : Srch g m w) (e : at' g m = at' g w) : Lb g (m + 1) (w + 1) := by
  refine ⟨bd_succ.mpr ⟨h.1, e⟩, fun v hv => ?_⟩
  rcases v with _ | v
  · exact Nat.zero_le _
  · obtain ⟨a, b⟩ := bd_succ.mp hv
    exact Nat.succ_le_succ (h.2 v a b)
theorem srch_no (h : Srch g m 0) (e : at' g m ≠ at' g 0) : Lb g (m + 1) 0 := by
  refine ⟨bd_zero (Nat.succ_pos m), fun v hv => ?_⟩
  rcases v with _ | v
  · exact Nat.le_refl _
  · obtain ⟨a, b⟩ := bd_succ.mp hv
    have : v = 0 := Nat.le_zero.mp (h.2 v a b)
    subst this
    exact absurd b e
end
/-! ### the least period of a row, by its longest border -/
section
variable {g : List Int} {b : Nat}
theorem Per.bd {p : Nat} (h : Per g p) (hp : 0 < p) (hn : p ≤ g.length) : Bd g g.length (g.length - p) := by
  refine ⟨by omega, fun i hi => ?_⟩
  have := h i (by omega)
  rw [show g.length - (g.length - p) + i = i + p by omega]
  exact this
theorem Bd.per (h : Bd g g.length b) : Per g (g.length - b) := fun i hi => by
  have := h.2 i (by have := h.1; omega)
  rwa [Nat.add_comm] at this
theorem least_of (hn : 0 < g.length) (h : Lb g g.length b) : Least (dif g) (if g.length % (g.length - b) = 0 then g.length - b else g.length) := by
  have hb := h.bd.1
  have hq : 0 < g.length - b := by omega
  have per := h.bd.per
  have top : ∀ p, 0 < p → p ≤ g.length → Per g p → g.length - b ≤ p := fun p hp hpn pp => by
    have := h.top _ (pp.bd hp hpn)
    omega
  -- each period of the endless row has a divisor of the length below it that is one too
  have down : ∀ q, 0 < q → Pd (dif g) q → ∃ c, 0 < c ∧ c ∣ g.length ∧ c ≤ q ∧ c ≤ g.length ∧ Pd (dif g) c := fun q hq0 hqd =>
    ⟨Nat.gcd q g.length, Nat.gcd_pos_of_pos_left _ hq0, Nat.gcd_dvd_right _ _, Nat.gcd_le_left _ hq0, Nat.gcd_le_right _ hn, Pd.gcd q g.length hqd dif_pd⟩
  by_cases e : g.length % (g.length - b) = 0
  · rw [if_pos e]
    refine ⟨hq, per.pd hq (Nat.dvd_of_mod_eq_zero e) hn, fun q hq0 hqd => ?_⟩
    obtain ⟨c, c0, _, cq, cn, cd⟩ := down q hq0 hqd
    exact Nat.le_trans (top c c0 cn cd.per) cq
  · rw [if_neg e]
    refine ⟨hn, dif_pd, fun q hq0 hqd => ?_⟩
    obtain ⟨c, c0, cv, cq, cn, cd⟩ := down q hq0 hqd
    rcases Nat.lt_or_ge c g.length with h1 | h1
    · exfalso
      have h2 : g.length - b ≤ c := top c c0 cn cd.per
      obtain ⟨z, hz⟩ := cv
      have h3 : c + c ≤ g.length := by
        rcases z with _ | _ | z
        · rw [Nat.mul_zero] at hz; omega
        · rw [Nat.mul_one] at hz; omega
        · rw [hz, show z + 1 + 1 = z + 2 from rfl, Nat.mul_add, Nat.mul_two]; omega
      have pd : Pd (dif g) (g.length - b) := fun k => by
        have r : k % c < c := Nat.mod_lt _ c0
        have a : dif g (k % c) = dif g k := cd.mod k
        have a2 : dif g (k + (g.length - b)) = dif g (k % c + (g.length - b)) := by
          have e1 := Nat.mod_add_div k c
          rw [Nat.mul_comm] at e1
          have := cd.mul (k / c) (k % c + (g.length - b))
          rw [show k % c + (g.length - b) + k / c * c = k + (g.length - b) by omega] at this
          exact this
        rw [a2, ← a, dif_lt (by omega), dif_lt (by omega)]
        exact per _ (by omega)
      have q2 := Pd.gcd (g.length - b) g.length pd dif_pd
      have g0 : 0 < Nat.gcd (g.length - b) g.length := Nat.gcd_pos_of_pos_left _ hq
      have l1 := top _ g0 (Nat.gcd_le_right _ hn) q2.per
      have l2 := Nat.gcd_le_left (g.length) hq
      have e2 : Nat.gcd (g.length - b) g.length = g.length - b := Nat.le_antisymm l2 l1
      exact e (Nat.mod_eq_zero_of_dvd (e2 ▸ Nat.gcd_dvd_right (g.length - b) g.length))
    · exact Nat.le_trans h1 cq
end
end Gr
namespace Gr
/-! ### sums of beginnings -/
def acc (d : Nat → Int) : Nat → Int
  | 0 => 0
  | n + 1 => acc d n + d n
theorem acc_add (d : Nat → Int) (m : Nat) : ∀ n, acc d (m + n) = acc d m + acc (fun k => d (m + k)) n
  | 0 => by rw [Nat.add_zero]; exact (Int.add_zero _).symm
  | n + 1 => by
    rw [← Nat.add_assoc]
    show acc d (m + n) + d (m + n) = acc d m + (acc _ n + d (m + n))
    rw [acc_add d m n, Int.add_assoc]
theorem acc_congr {d e : Nat → Int} : ∀ n, (∀ k, k < n → d k = e k) → acc d n = acc e n
  | 0, _ => rfl
  | n + 1, h => by
    show acc d n + d n = acc e n + e n
    rw [acc_congr n fun k hk => h k (by omega), h n (Nat.lt_succ_self n)]
theorem acc_mul {d : Nat → Int} {p : Nat} (h : Pd d p) : ∀ j r, acc d (j * p + r) = j * acc d p + acc d r
  | 0, r => by rw [Nat.zero_mul, Nat.zero_add]; show acc d r = ((0 : Nat) : Int) * _ + _; rw [Int.natCast_zero, Int.zero_mul, Int.zero_add]
  | j + 1, r => by
    rw [Nat.succ_mul, show j * p + p + r = p + (j * p + r) by omega, acc_add]
    rw [acc_congr (e := d) (j * p + r) fun k _ => by rw [Nat.add_comm p k]; exact h k]
    rw [acc_mul h j r]
    rw [show ((j + 1 : Nat) : Int) = (j : Int) + 1 from rfl, Int.add_mul, Int.one_mul]
    omega
/-! ### growths -/
/-- the last one of a row -/
def lst (t : List Int) : Int := at' t (t.length - 1)
/-- the value at a number, by told values and gains -/
def val (t g : List Int) (n : Nat) : Int := if n < t.length then at' t n else lst t + acc (dif g) (n - t.length + 1)
section
variable {t t' g g' : List Int} {n : Nat}
theorem val_lt (h : n < t.length) : val t g n = at' t n := if_pos h
/-- from the last told value on -/
theorem val_ge (h0 : 0 < t.length) (k : Nat) : val t g (t.length - 1 + k) = lst t + acc (dif g) k := by
  unfold val
  rcases Nat.eq_zero_or_pos k with h | h
  · subst h
    rw [if_pos (by omega)]
    show at' t (t.length - 1 + 0) = lst t + 0
    rw [Int.add_zero]
    rfl
  · rw [if_neg (by omega), show t.length - 1 + k - t.length + 1 = k by omega]
theorem val_step (h0 : 0 < t.length) (k : Nat) : val t g (t.length - 1 + k + 1) - val t g (t.length - 1 + k) = dif g k := by
  rw [Nat.add_assoc, val_ge h0, val_ge h0]
  show lst t + (acc (dif g) k + dif g k) - (lst t + acc (dif g) k) = dif g k
  omega
/-- the rounds taken at once -/
theorem val_far (h0 : 0 < t.length) (hn : t.length ≤ n) : val t g n = lst t + ((n - t.length + 1) / g.length : Nat) * acc (dif g) g.length + acc (dif g) ((n - t.length + 1) % g.length) := by
  unfold val
  rw [if_neg (by omega)]
  have e := Nat.mod_add_div (n - t.length + 1) g.length
  rw [Nat.mul_comm, Nat.add_comm] at e
  rw [← e, acc_mul dif_pd, e, Int.add_assoc]
/-- the normal form -/
structure NF (t g : List Int) : Prop where
  told : 0 < t.length
  gains : 0 < g.length
  least : Least (dif g) g.length
  few : t.length = 1 ∨ at' t (t.length - 1) - at' t (t.length - 2) ≠ lst g
/-- by how much the values rise -/
def rise (t g : List Int) (n : Nat) : Int := val t g (n + 1) - val t g n
theorem rise_ge (h0 : 0 < t.length) (h : t.length - 1 ≤ n) : rise t g n = dif g (n - (t.length - 1)) := by
  have := val_step (g := g) h0 (n - (t.length - 1))
  rwa [show t.length - 1 + (n - (t.length - 1)) = n by omega] at this
/-- the number of gains is the least number by which the rises come round at last -/
theorem least_end (h : NF t g) {q : Nat} (hq : 0 < q) {m : Nat} (hm : ∀ n, m ≤ n → rise t g (n + q) = rise t g n) : g.length ≤ q := by
  refine h.least.le q hq fun k => ?_
  have a := hm (t.length - 1 + (k + m * g.length)) (by have : m ≤ m * g.length := Nat.le_mul_of_pos_right m h.gains; omega)
  rw [rise_ge h.told (by omega), rise_ge h.told (by omega)] at a
  rw [show t.length - 1 + (k + m * g.length) + q - (t.length - 1) = k + q + m * g.length by omega, show t.length - 1 + (k + m * g.length) - (t.length - 1) = k + m * g.length by omega] at a
  rwa [dif_pd.mul, dif_pd.mul] at a
theorem end_pd (h : NF t g) (n : Nat) (hn : t.length - 1 ≤ n) : rise t g (n + g.length) = rise t g n := by
  rw [rise_ge h.told (by omega), rise_ge h.told hn, show n + g.length - (t.length - 1) = n - (t.length - 1) + g.length by omega]
  exact dif_pd _
theorem at_eq_of {a b : List Int} (hl : a.length = b.length) (h : ∀ i, i < a.length → at' a i = at' b i) : a = b := by
  refine List.ext_getElem? fun i => ?_
  rcases Nat.lt_or_ge i a.length with h1 | h1
  · have := h i h1
    unfold at' at this
    rw [List.getD_eq_getElem?_getD, List.getD_eq_getElem?_getD] at this
    rw [List.getElem?_eq_getElem h1, List.getElem?_eq_getElem (hl ▸ h1)] at this ⊢
    exact congrArg some this
  · rw [List.getElem?_eq_none h1, List.getElem?_eq_none (hl ▸ h1)]
theorem told_le (h : NF t g) (h' : NF t' g') (e : ∀ n, val t g n = val t' g' n) (eg : g.length = g'.length) : t'.length ≤ t.length := by
  rcases Nat.lt_or_ge t.length t'.length with hl | hl
  · exfalso
    have re : ∀ n, rise t g n = rise t' g' n := fun n => by unfold rise; rw [e, e]
    rcases h'.few with z | z
    · have := h.told; omega
    · apply z
      have t0 := h.told
      have a : rise t' g' (t'.length - 2) = at' t' (t'.length - 1) - at' t' (t'.length - 2) := by
        unfold rise
        rw [show t'.length - 2 + 1 = t'.length - 1 by omega, val_lt (by omega), val_lt (by omega)]
      have b : rise t' g' (t'.length - 2 + g.length) = lst g' := by
        have g0 := h.gains
        rw [rise_ge h'.told (by omega), show t'.length - 2 + g.length - (t'.length - 1) = g'.length - 1 by omega, dif_lt (by omega)]
        rfl
      rw [← a, ← b, ← re, ← re]
      exact (end_pd h _ (by omega)).symm
  · exact hl
/-- one normal form -/
theorem nf_one (h : NF t g) (h' : NF t' g') (e : ∀ n, val t g n = val t' g' n) : t = t' ∧ g = g' := by
  have re : ∀ n, rise t g n = rise t' g' n := fun n => by unfold rise; rw [e, e]
  have l1 : g.length ≤ g'.length := least_end h h'.gains (m := t'.length - 1) fun n hn => by rw [re, re]; exact end_pd h' n hn
  have l2 : g'.length ≤ g.length := least_end h' h.gains (m := t.length - 1) fun n hn => by rw [← re, ← re]; exact end_pd h n hn
  have eg : g.length = g'.length := Nat.le_antisymm l1 l2
  have et : t.length = t'.length := Nat.le_antisymm (told_le h' h (fun n => (e n).symm) eg.symm) (told_le h h' e eg)
  refine ⟨at_eq_of et fun i hi => ?_, at_eq_of eg fun i hi => ?_⟩
  · have := e i
    rwa [val_lt hi, val_lt (et ▸ hi)] at this
  · have a := rise_ge (g := g) h.told (n := t.length - 1 + i) (by omega)
    have b := rise_ge (g := g') h'.told (n := t.length - 1 + i) (by omega)
    rw [re, b, show t.length - 1 + i - (t.length - 1) = i by omega, show t.length - 1 + i - (t'.length - 1) = i by omega, dif_lt hi, dif_lt (eg ▸ hi)] at a
    exact a.symm
end
/-! ### told values that the gains give anyway -/
section
variable {t g : List Int} {s : Nat}
/-- the gain that would be i steps ahead of the first one -/
def back (g : List Int) (s : Nat) : Int := at' g (g.length - 1 - s % g.length)
/-- the last s told values are those that the gains give -/
def Spr (t g : List Int) (s : Nat) : Prop := s < t.length ∧ ∀ i, i < s → at' t (t.length - 1 - i) - at' t (t.length - 1 - i - 1) = back g i
theorem spr_zero (h : 0 < t.length) : Spr t g 0 := ⟨h, fun i hi => absurd hi (Nat.not_lt_zero i)⟩
theorem spr_step (h : Spr t g s) (hs : s < t.length - 1) (e : at' t (t.length - 1 - s) - at' t (t.length - 1 - s - 1) = back g s) : Spr t g (s + 1) :=
  ⟨by omega, fun i hi => by
    rcases Nat.lt_or_ge i s with z | z
    · exact h.2 i z
    · rw [show i = s by omega]
      exact e⟩
/-- told values and gains without the last s told values -/
def cutT (t : List Int) (s : Nat) : List Int := t.take (t.length - s)
def cutG (g : List Int) (s : Nat) : List Int := g.drop (g.length - s % g.length) ++ g.take (g.length - s % g.length)
theorem cutT_len (hs : s < t.length) : (cutT t s).length = t.length - s := by
  unfold cutT
  rw [List.length_take]
  omega
theorem cutG_len : (cutG g s).length = g.length := by
  unfold cutG
  rw [List.length_append, List.length_drop, List.length_take]
  omega
theorem at_take {l : List Int} {n i : Nat} (h : i < n) : at' (l.take n) i = at' l i := by
  unfold at'
  rw [List.getD_eq_getElem?_getD, List.getD_eq_getElem?_getD, List.getElem?_take_of_lt h]
theorem at_drop {l : List Int} {n i : Nat} : at' (l.drop n) i = at' l (n + i) := by
  unfold at'
  rw [List.getD_eq_getElem?_getD, List.getD_eq_getElem?_getD, List.getElem?_drop]
theorem at_app {a b : List Int} {i : Nat} : at' (a ++ b) i = if i < a.length then at' a i else at' b (i - a.length) := by
  unfold at'
  rw [List.getD_eq_getElem?_getD, List.getD_eq_getElem?_getD, List.getD_eq_getElem?_getD]
  by_cases h : i < a.length
  · rw [if_pos h, List.getElem?_append_left h]
  · rw [if_neg h, List.getElem?_append_right (by omega)]
/-- the gains turned: each one s places later -/
theorem dif_cut (hg : 0 < g.length) (k : Nat) : dif (cutG g s) (k + s) = dif g k := by
  have hr : s % g.length < g.length := Nat.mod_lt _ hg
  have hk : k % g.length < g.length := Nat.mod_lt _ hg
  unfold dif
  rw [cutG_len, Nat.add_mod]
  unfold cutG
  generalize s % g.length = r at hr ⊢
  generalize k % g.length = q at hk ⊢
  rw [at_app, List.length_drop, show g.length - (g.length - r) = r by omega]
  rcases Nat.lt_or_ge (q + r) g.length with h | h
  · rw [Nat.mod_eq_of_lt h, if_neg (by omega), at_take (by omega), show q + r - r = q by omega]
  · rw [Nat.mod_eq_sub_mod h, Nat.mod_eq_of_lt (by omega), if_pos (by omega), at_drop, show g.length - r + (q + r - g.length) = q by omega]
theorem dif_cut' (hg : 0 < g.length) {k : Nat} (h : s ≤ k) : dif (cutG g s) k = dif g (k - s) := by
  have := dif_cut (s := s) hg (k - s)
  rwa [show k - s + s = k by omega] at this
/-- the gain i places ahead of the first one, told of the turned ones -/
theorem back_cut (hg : 0 < g.length) {i : Nat} (hi : i < s) : dif (cutG g s) (s - 1 - i) = back g i := by
  have p := (dif_pd (g := cutG g s)).mul (i + 1) (s - 1 - i)
  rw [cutG_len] at p
  rw [← p, dif_cut' hg (by have : i + 1 ≤ (i + 1) * g.length := Nat.le_mul_of_pos_right _ hg; omega)]
  unfold dif back
  congr 1
  have hr : i % g.length < g.length := Nat.mod_lt _ hg
  have e := Nat.mod_add_div i g.length
  generalize i % g.length = r at hr e ⊢
  generalize i / g.length = c at e
  have e3 : (i + 1) * g.length = i * g.length + g.length := by rw [Nat.add_mul, Nat.one_mul]
  have e5 : c * g.length = g.length * c := Nat.mul_comm _ _
  have i0 : i ≤ i * g.length := Nat.le_mul_of_pos_right _ hg
  have cl : c ≤ i := by
    have := Nat.le_mul_of_pos_left c hg
    omega
  -- the number of whole rounds left
  have e4 : s - 1 - i + (i + 1) * g.length - s = g.length - 1 - r + (i - c) * g.length := by
    have : (i - c) * g.length = i * g.length - c * g.length := Nat.sub_mul _ _ _
    have le2 : c * g.length ≤ i * g.length := Nat.mul_le_mul_right _ cl
    omega
  rw [e4, Nat.add_mul_mod_self_right, Nat.mod_eq_of_lt (by omega)]
theorem back_zero (hg : 0 < g.length) : back g 0 = lst g := by
  unfold back lst
  rw [Nat.zero_mod, Nat.sub_zero]
/-- what stands s places ahead of the last told value, by the gains -/
theorem spr_told (h : Spr t g s) : ∀ i, i ≤ s → at' t (t.length - 1 - s + i) = lst (cutT t s) + acc (fun k => back g (s - 1 - k)) i
  | 0, _ => by
    have := h.1
    show _ = lst (cutT t s) + 0
    unfold lst
    rw [cutT_len h.1, Int.add_zero]
    unfold cutT
    rw [at_take (by omega), Nat.add_zero, show t.length - s - 1 = t.length - 1 - s by omega]
  | i + 1, hi => by
    have h1 := h.1
    have a := spr_told h i (by omega)
    have b := h.2 (s - 1 - i) (by omega)
    rw [show t.length - 1 - (s - 1 - i) = t.length - 1 - s + (i + 1) by omega, show t.length - 1 - s + (i + 1) - 1 = t.length - 1 - s + i by omega, a] at b
    show _ = lst (cutT t s) + (acc _ i + back g (s - 1 - i))
    omega
/-- the same values -/
theorem val_cut (hg : 0 < g.length) (h : Spr t g s) (n : Nat) : val (cutT t s) (cutG g s) n = val t g n := by
  have h1 := h.1
  have len := cutT_len (t := t) h1
  rcases Nat.lt_or_ge n (t.length - s) with a | a
  · rw [val_lt (by omega), val_lt (by omega)]
    unfold cutT
    rw [at_take a]
  · obtain ⟨k, rfl⟩ : ∃ k, n = t.length - s - 1 + k := ⟨n - (t.length - s - 1), by omega⟩
    have v := val_ge (g := cutG g s) (t := cutT t s) (by omega) k
    rw [len] at v
    rw [v]
    have b : ∀ i, i < s → dif (cutG g s) i = back g (s - 1 - i) := fun i hi => by
      have := back_cut (g := g) (s := s) hg (i := s - 1 - i) (by omega)
      rwa [show s - 1 - (s - 1 - i) = i by omega] at this
    rcases Nat.lt_or_ge k (s + 1) with c | c
    · rw [val_lt (by omega), show t.length - s - 1 + k = t.length - 1 - s + k by omega, spr_told h k (by omega), acc_congr k fun i hi => b i (by omega)]
    · obtain ⟨j, rfl⟩ : ∃ j, k = s + j := ⟨k - s, by omega⟩
      rw [acc_add, acc_congr s b, acc_congr (e := dif g) j fun i _ => by rw [Nat.add_comm s i]; exact dif_cut hg i]
      have l := spr_told h s (Nat.le_refl s)
      rw [show t.length - 1 - s + s = t.length - 1 by omega] at l
      rw [show t.length - s - 1 + (s + j) = t.length - 1 + j by omega, val_ge (by omega)]
      unfold lst at l ⊢
      rw [l]
      omega
theorem least_cut (hg : 0 < g.length) (h : Least (dif g) g.length) : Least (dif (cutG g s)) (cutG g s).length := by
  refine ⟨by rw [cutG_len]; exact hg, dif_pd, fun q hq hp => ?_⟩
  rw [cutG_len]
  refine h.le q hq fun k => ?_
  have := hp (k + s)
  rw [show k + s + q = k + q + s by omega, dif_cut hg, dif_cut hg] at this
  exact this
/-- the search of told values has come to its end: the normal form -/
theorem nf_cut (hg : 0 < g.length) (l : Least (dif g) g.length) (h : Spr t g s) (e : s = t.length - 1 ∨ at' t (t.length - 1 - s) - at' t (t.length - 1 - s - 1) ≠ back g s) : NF (cutT t s) (cutG g s) := by
  have h1 := h.1
  have len := cutT_len (t := t) h1
  refine ⟨by omega, by rw [cutG_len]; exact hg, least_cut hg l, ?_⟩
  rcases e with e | e
  · left
    omega
  · by_cases z : t.length - s = 1
    · left
      omega
    · right
      rw [len]
      unfold cutT
      rw [at_take (by omega), at_take (by omega), show t.length - s - 1 = t.length - 1 - s by omega, show t.length - s - 2 = t.length - 1 - s - 1 by omega]
      have q : lst (cutG g s) = back g s := by
        have a := back_cut (g := g) (s := s + 1) hg (i := s) (Nat.lt_succ_self s)
        have r : dif (cutG g (s + 1)) (s + 1 - 1 - s) = dif (cutG g s) (g.length - 1) := by
          rw [show s + 1 - 1 - s = 0 by omega]
          have p := (dif_pd (g := cutG g (s + 1))).mul (s + 1) 0
          rw [cutG_len] at p
          have m : s + 1 ≤ (s + 1) * g.length := Nat.le_mul_of_pos_right _ hg
          rw [← p, dif_cut' hg (by omega)]
          have p2 := (dif_pd (g := cutG g s)).mul s (g.length - 1)
          rw [cutG_len] at p2
          have m2 : s ≤ s * g.length := Nat.le_mul_of_pos_right _ hg
          have e3 : (s + 1) * g.length = s * g.length + g.length := by rw [Nat.add_mul, Nat.one_mul]
          rw [← p2, dif_cut' hg (by omega)]
          congr 1
          omega
        rw [r, dif_lt (by rw [cutG_len]; omega)] at a
        unfold lst
        rw [cutG_len]
        exact a
      rw [q]
      exact e
end
end Gr
namespace Gr
/-! ### told values and gains of a sequence that rises in rounds at last -/
section
variable {f : Nat → Int} {b l : Nat}
def pT (f : Nat → Int) (b : Nat) : List Int := (List.range b).map f
def pG (f : Nat → Int) (b l : Nat) : List Int := (List.range l).map fun k => f (b + k) - f (b + k - 1)
theorem pT_len : (pT f b).length = b := by unfold pT; rw [List.length_map, List.length_range]
theorem pG_len : (pG f b l).length = l := by unfold pG; rw [List.length_map, List.length_range]
theorem at_map_range {h : Nat → Int} {n i : Nat} (hi : i < n) : at' ((List.range n).map h) i = h i := by
  unfold at'
  rw [List.getD_eq_getElem?_getD, List.getElem?_map, List.getElem?_range hi]
  rfl
theorem val_parted (hb : 0 < b) (hl : 0 < l) (h : ∀ n, b - 1 ≤ n → f (n + l + 1) - f (n + l) = f (n + 1) - f n) (n : Nat) : val (pT f b) (pG f b l) n = f n := by
  have lt := pT_len (f := f) (b := b)
  have lg := pG_len (f := f) (b := b) (l := l)
  rcases Nat.lt_or_ge n b with a | a
  · rw [val_lt (by omega)]
    exact at_map_range a
  · obtain ⟨k, rfl⟩ : ∃ k, n = b - 1 + k := ⟨n - (b - 1), by omega⟩
    have v := val_ge (t := pT f b) (g := pG f b l) (by omega) k
    rw [lt] at v
    rw [v]
    have d : ∀ i, dif (pG f b l) i = f (b - 1 + i + 1) - f (b - 1 + i) := fun i => by
      unfold dif
      rw [lg]
      have hi : i % l < l := Nat.mod_lt _ hl
      have e : at' (pG f b l) (i % l) = f (b + i % l) - f (b + i % l - 1) := at_map_range hi
      rw [e, show b + i % l = b - 1 + i % l + 1 by omega, Nat.add_sub_cancel]
      have p : Pd (fun i => f (b - 1 + i + 1) - f (b - 1 + i)) l := fun i => by
        have := h (b - 1 + i) (by omega)
        rw [show b - 1 + i + l = b - 1 + (i + l) by omega] at this
        exact this
      exact p.mod i
    have la : lst (pT f b) = f (b - 1) := by
      unfold lst
      rw [lt]
      exact at_map_range (by omega)
    rw [la]
    clear v
    induction k with
    | zero => show f (b - 1) + 0 = f (b - 1 + 0); rw [Int.add_zero, Nat.add_zero]
    | succ k ih =>
      show f (b - 1) + (acc _ k + dif (pG f b l) k) = f (b - 1 + (k + 1))
      have ih' : f (b - 1) + acc (dif (pG f b l)) k = f (b - 1 + k) := by
        rcases Nat.lt_or_ge (b - 1 + k) b with c | c
        · have : k = 0 := by omega
          subst this
          show f (b - 1) + 0 = f (b - 1 + 0)
          rw [Int.add_zero, Nat.add_zero]
        · exact ih c
      rw [d k, ← Int.add_assoc, ih', ← Nat.add_assoc]
      omega
end
/-! ### sums -/
section
variable {t g t' g' : List Int}
/-- rises of a growth come round behind its told values, by each number of which its gains are a divisor -/
theorem rise_pd (h0 : 0 < t.length) {l n : Nat} (hd : g.length ∣ l) (hn : t.length - 1 ≤ n) : val t g (n + l + 1) - val t g (n + l) = val t g (n + 1) - val t g n := by
  have a := rise_ge (g := g) h0 (n := n + l) (by omega)
  have b := rise_ge (g := g) h0 hn
  unfold rise at a b
  rw [a, b, show n + l - (t.length - 1) = n - (t.length - 1) + l by omega]
  obtain ⟨c, rfl⟩ := hd
  rw [Nat.mul_comm]
  exact dif_pd.mul c _
theorem val_sum (h0 : 0 < t.length) (h0' : 0 < t'.length) {b l : Nat} (hb : t.length ≤ b) (hb' : t'.length ≤ b) (hl : 0 < l) (hd : g.length ∣ l) (hd' : g'.length ∣ l) (n : Nat) :
    val (pT (fun n => val t g n + val t' g' n) b) (pG (fun n => val t g n + val t' g' n) b l) n = val t g n + val t' g' n := by
  refine val_parted (by omega) hl (fun n hn => ?_) n
  have a := rise_pd (g := g) h0 (l := l) (n := n) hd (by omega)
  have c := rise_pd (g := g') h0' (l := l) (n := n) hd' (by omega)
  omega
/-! ### each value so many times -/
def sc (k : Int) (l : List Int) : List Int := l.map fun x => k * x
theorem sc_len {k : Int} {l : List Int} : (sc k l).length = l.length := List.length_map _
theorem sc_at {k : Int} {l : List Int} {i : Nat} : at' (sc k l) i = k * at' l i := by
  unfold at' sc
  rw [List.getD_eq_getElem?_getD, List.getD_eq_getElem?_getD, List.getElem?_map]
  cases l[i]? with
  | none => show (0 : Int) = k * 0; rw [Int.mul_zero]
  | some x => rfl
theorem acc_sc {k : Int} {d : Nat → Int} : ∀ n, acc (fun i => k * d i) n = k * acc d n
  | 0 => (Int.mul_zero k).symm
  | n + 1 => by
    show acc _ n + k * d n = k * (acc d n + d n)
    rw [acc_sc n, Int.mul_add]
theorem val_sc {k : Int} {n : Nat} : val (sc k t) (sc k g) n = k * val t g n := by
  have d : dif (sc k g) = fun i => k * dif g i := funext fun i => by unfold dif; rw [sc_len, sc_at]
  unfold val
  rw [sc_len]
  by_cases h : n < t.length
  · rw [if_pos h, if_pos h, sc_at]
  · rw [if_neg h, if_neg h, d, acc_sc, Int.mul_add]
    unfold lst
    rw [sc_len, sc_at]
/-! ### begun later -/
/-- the gains turned the other way -/
def rot (g : List Int) (r : Nat) : List Int := g.drop r ++ g.take r
theorem rot_len {r : Nat} (h : r ≤ g.length) : (rot g r).length = g.length := by
  unfold rot
  rw [List.length_append, List.length_drop, List.length_take]
  omega
theorem dif_rot {r : Nat} (h : r < g.length) (k : Nat) : dif (rot g r) k = dif g (k + r) := by
  unfold dif
  rw [rot_len (Nat.le_of_lt h), Nat.add_mod, Nat.mod_eq_of_lt h]
  have hk : k % g.length < g.length := Nat.mod_lt _ (by omega)
  generalize k % g.length = q at hk ⊢
  unfold rot
  rw [at_app, List.length_drop]
  rcases Nat.lt_or_ge (q + r) g.length with c | c
  · rw [Nat.mod_eq_of_lt c, if_pos (by omega), at_drop, Nat.add_comm]
  · rw [Nat.mod_eq_sub_mod c, Nat.mod_eq_of_lt (by omega), if_neg (by omega), at_take (by omega)]
    congr 1
    omega
/-- still within the told values -/
theorem val_shift1 {m : Nat} (hm : m < t.length) (n : Nat) : val (t.drop m) g n = val t g (n + m) := by
  have l : (t.drop m).length = t.length - m := List.length_drop
  rcases Nat.lt_or_ge n (t.length - m) with a | a
  · rw [val_lt (by omega), val_lt (by omega), at_drop, Nat.add_comm]
  · obtain ⟨k, rfl⟩ : ∃ k, n = t.length - m - 1 + k := ⟨n - (t.length - m - 1), by omega⟩
    have v := val_ge (t := t.drop m) (g := g) (by omega) k
    rw [l] at v
    rw [v, show t.length - m - 1 + k + m = t.length - 1 + k by omega, val_ge (by omega)]
    unfold lst
    rw [l, at_drop, show m + (t.length - m - 1) = t.length - 1 by omega]
/-- behind them -/
theorem val_shift2 {m : Nat} (h0 : 0 < t.length) (hg : 0 < g.length) (hm : t.length ≤ m) (n : Nat) : val [val t g m] (rot g ((m - t.length + 1) % g.length)) n = val t g (n + m) := by
  have hr : (m - t.length + 1) % g.length < g.length := Nat.mod_lt _ hg
  have v := val_ge (t := [val t g m]) (g := rot g ((m - t.length + 1) % g.length)) Nat.one_pos n
  rw [show [val t g m].length - 1 + n = n from Nat.zero_add n] at v
  rw [v, show n + m = t.length - 1 + (m - t.length + 1 + n) by omega, val_ge h0, acc_add]
  have e : lst [val t g m] = lst t + acc (dif g) (m - t.length + 1) := by
    show val t g m = _
    have := val_ge (g := g) h0 (m - t.length + 1)
    rwa [show t.length - 1 + (m - t.length + 1) = m by omega] at this
  rw [e, Int.add_assoc]
  congr 2
  refine acc_congr n fun k _ => ?_
  rw [dif_rot hr]
  have p := (dif_pd (g := g)).mul ((m - t.length + 1) / g.length) (k + (m - t.length + 1) % g.length)
  have q := Nat.mod_add_div (m - t.length + 1) g.length
  rw [Nat.mul_comm] at q
  rw [← p]
  congr 1
  omega
end
end Gr
namespace L2
open PySem PySem.Spec PyProof.Rows
section
variable {X : Cx} {k : Nat} {f : Addr} {fd : FuncData} {ps ks : List Str} {sp : Sp} {x : Str} {p pos : Pos} {kws : List Keyword} {tk : TA} {g : List Value → List Value → List Value} {gV : List V → List V → List V}
/-- f(k = v, ..), keywords alone -/
theorem pe_callK0 (F : FnOk X.prog X.w X.K X.mg X.base CX0 k f fd ps sp) (hr : Room k X.A) (hg : Gl X x) (hm : X.mg x = some (.ref f)) (hk : PySem.W.keepIn X.K (.ref f) = true) (hb : KBn X.K fd ps 0 ks g gV) (hkw : PK X kws tk)
    (hall : (backToKw pos (keywordEach kws X.env)).all (·.1.isSome) = true := by rfl) (hks : (backToKw pos (keywordEach kws X.env)).filterMap (·.1) = ks := by rfl) (hdb : (x == ("__debug__" : Str)) = false := by decide)
    (hpl : ((backTo pos (starEach [] X.env)).any (·.1) || (backToKw pos (keywordEach kws X.env)).any (·.1.isNone)) = false := by rfl) :
    PE X (.Call (.Name x p) [] kws pos) (tCallN 0 ks.length sp gV E0 tNil tk) := by
  refine ⟨fun pins s σ H Q I h => ?_⟩
  refine wpAny_Call_Name_kw (ld_glob I hg hm ?_ hdb)
  refine PySem.W.callWith_KW0 (h₀ := X.base) I.ok.mod.kin hk hall ?_ hpl
  refine thn (hkw.run pos pins s σ H _ I h) fun ws s2 ⟨zs, H2, I2, rz, l1, l2, q2⟩ => ⟨I2.kIn, ?_⟩
  rw [hks]
  exact run_fnN (us := []) (vs := []) F hr hb pass0 I2 .nil rz rfl l2 q2
/-- how a def without defaults binds keywords alone -/
theorem Fun.kb {K : PySem.W.Frag} {x qual : Str} {st : Stmt} {f : Addr} {fd : FuncData} {ps ks : List Str} (F : Fun K x qual st f fd) (n : Nat) (g : {α : Type} → List α → List α → List α)
    (hrel : ∀ {vs zs : List V} {us ws : List Value}, Vals vs us → Vals zs ws → Vals (g vs zs) (g us ws))
    (h : ∀ (kV doc pm : Value) (an : Option Addr) (cdv ct : Value) (us ws : List Value), us.length = n → ws.length = ks.length → bindArgs (PySem.W.fnOf x qual (defArgs st) (defBody st) (defScope st) .none kV doc pm an cdv ct) ⟨us, ks.zip ws⟩ = pure (ps.zip (g us ws))) :
    KBn K fd ps n ks (fun us ws => g us ws) (fun vs zs => g vs zs) := by
  obtain ⟨oc, od, kV, doc, pm, an, cdv, ct, osl, rfl, lk, hcd⟩ := F.ex
  exact ⟨fun s us ws _ l1 l2 => .of_eq (h kV doc pm an cdv ct us ws l1 l2), fun r1 r2 => hrel r1 r2⟩
end
end L2
namespace K16
open PySem L2 Evl
abbrev sIsInt : Stmt := top 2
abbrev sWithin : Stmt := top 3
structure GlbT (mg : Str → Option Value) : Prop where
  inst : mg "isinstance" = none
  int : mg "int" = none
  bool : mg "bool" = none
  str : mg "str" = none
  len : mg "len" = none
theorem tyx_mono {K : PySem.W.Frag} {H H' : Hp} {x : V} {t : Value} (e : Ex H H') (h : TyX K H x t) : TyX K H' x t := by
  cases h with
  | base b =>
    refine .base ?_
    cases b with
    | non => exact .non
    | bl b => exact .bl b
    | int i => exact .int i
    | str x => exact .str x
    | flt x => exact .flt x
    | lst q => exact .lst (e _ _ q)
    | frz q => exact .frz (e _ _ q)
    | tup q => exact .tup (e _ _ q)
    | dK q => exact .dK (e _ _ q)
    | dT q => exact .dT (e _ _ q)
    | ins q a b c d f => exact .ins (e _ _ q) a b c d f
  | byt b => exact .byt b
  | set q => exact .set (e _ _ q)
  | kList q c => exact .kList q c
  | kTuple q c => exact .kTuple q c
  | kDict q c => exact .kDict q c
  | fTuple q => exact .fTuple (e _ _ q)
  | fDict q => exact .fDict (e _ _ q)
theorem rc_isi {K : PySem.W.Frag} {H : Hp} {x : V} {a b : String} {r : Bool} (h : TyX K H x (.type a)) (hk : kitB a b = some r) : RC (rIsi K) [x, .ty b] H (.bl r) := fun H1 e _ q => ⟨x, .ty b, .type a, .type b, r, rfl, .ty b, tyx_mono e h, kit_ty hk, q H1 (Ex.refl H1)⟩
section
variable {P : Program} {w : World} {K : PySem.W.Frag} {mg : Str → Option Value} {base : Heap}
/-! ### is_integer -/
def spIsInt (K : PySem.W.Frag) : Sp := fun vs H Q _ => ∃ (x : V) (T : String) (a b : Bool), vs = [x] ∧ TyX K H x (.type T) ∧ kitB T "int" = some a ∧ kitB T "bool" = some b ∧ RetV (.bl (a && !b)) H Q
theorem scIsInt : FnScope ["value"] ["value"] (defScope sIsInt) := ⟨rfl, rfl, rfl, by decide +kernel, rfl, by decide +kernel, by decide +kernel⟩
theorem ok_isInt {f : Addr} {fd : FuncData} (F : Fun K "is_integer" "is_integer" sIsInt f fd) (T : GlbT mg) : FnOk P w K mg base CX0 1 f fd ["value"] (spIsInt K) := by
  refine F.ok scIsInt (fun vs H Q E h => ?_) (fun cdv A outer s H vs Q E hr h => ?_)
  · obtain ⟨x, t, a, b, rfl, _⟩ := h
    rfl
  · obtain ⟨x, t, a, b, rfl, ht, ha, hb, k⟩ := h
    refine ⟨_, pss_one (ps_ret (pe_and (pe_callB call_isi (by rfl) T.inst (by decide +kernel) (pa_cons (pv 0) (pa_cons (pe_bltn (v := .ty "int") (by rfl) T.int (by decide +kernel) rfl) pa_nil)))
      (pe_one (pe_not (pe_callB call_isi (by rfl) T.inst (by decide +kernel) (pa_cons (pv 0) (pa_cons (pe_bltn (v := .ty "bool") (by rfl) T.bool (by decide +kernel) rfl) pa_nil))))))), ?_⟩
    exact s_ret (ev_andV (ev_cb (ea_cons (ev_var rfl) (ea_cons ev_c ea_nil)) (rc_isi ht ha)) fun _ => ev_notV (ev_cb (ea_cons (ev_var rfl) (ea_cons ev_c ea_nil)) (rc_isi ht hb))) k
/-! ### is_within -/
def spWithin (K : PySem.W.Frag) : Sp := fun vs H Q _ => (∃ i lo hi : Int, vs = [.int i, .int lo, .int hi] ∧ RetV (.bl (decide (lo ≤ i) && decide (i ≤ hi))) H Q) ∨
  ∃ (x y z : V) (T : String) (a b : Bool), vs = [x, y, z] ∧ TyX K H x (.type T) ∧ kitB T "int" = some a ∧ kitB T "bool" = some b ∧ (a && !b) = false ∧ RetV (.bl false) H Q
theorem scWithin : FnScope ["value", "least", "most"] ["value", "least", "most"] (defScope sWithin) := ⟨rfl, rfl, rfl, by decide +kernel, rfl, by decide +kernel, by decide +kernel⟩
theorem spv_isInt {H : Hp} {x : V} {t : String} {a b : Bool} (ht : TyX K H x (.type t)) (ha : kitB t "int" = some a) (hb : kitB t "bool" = some b) : SpV (spIsInt K) [x] H (.bl (a && !b)) := fun H1 e Q q E => ⟨x, t, a, b, rfl, tyx_mono e ht, ha, hb, q⟩
theorem kit_int_int : kitB "int" "int" = some true := by decide +kernel
theorem kit_int_bool : kitB "int" "bool" = some false := by decide +kernel
theorem ev_chain {σ : L2.St} {H : Hp} {ta tb tc : TE} {i j l : Int} {f g : Int → Int → Bool} (ha : Ev ta σ H (.int i)) (hb : Ev tb σ H (.int j)) (hc : Ev tc σ H (.int l)) :
    Ev (tChain (rI0 fun i j => .bl (f i j)) (rI0 fun i j => .bl (g i j)) ta tb tc) σ H (.bl (f i j && g j l)) := fun H1 e Q q =>
  ha H1 e _ fun H2 e2 => hb H2 (e.trans e2) _ fun H3 e3 => ⟨i, j, rfl, rfl, f i j, rfl, by
    cases h : f i j with
    | true =>
      simp only [h, Bool.true_and] at q
      exact hc H3 ((e.trans e2).trans e3) _ fun H4 e4 => ⟨j, l, rfl, rfl, q H4 ((e2.trans e3).trans e4)⟩
    | false =>
      simp only [h, Bool.false_and] at q
      exact q H3 (e2.trans e3)⟩
theorem ok_within {f fI : Addr} {fd fdI : FuncData} (F : Fun K "is_within" "is_within" sWithin f fd) (T : GlbT mg) (FI : Fun K "is_integer" "is_integer" sIsInt fI fdI) (bI : Binds K fdI ["value"] []) (gI : mg "is_integer" = some (.ref fI)) :
    FnOk P w K mg base CX0 2 f fd ["value", "least", "most"] (spWithin K) := by
  have GI : FnOk P w K mg base CX0 1 fI fdI ["value"] (spIsInt K) := ok_isInt FI T
  refine F.ok scWithin (fun vs H Q E h => ?_) (fun cdv A outer s H vs Q E hr h => ?_)
  · rcases h with ⟨i, lo, hi, rfl, _⟩ | ⟨x, y, z, t, a, b, rfl, _⟩ <;> rfl
  · have body : ∀ {x y z : V}, vs = [x, y, z] → ∀ {r : Bool}, Ev (tAndV (tCall (spIsInt K) [] E0 (tCons (tVar 0) tNil)) (tChain (rI0 fun i j => .bl (decide (i ≤ j))) (rI0 fun i j => .bl (decide (i ≤ j))) (tVar 1) (tVar 0) (tVar 2))) [some x, some y, some z] H (.bl r) → RetV (.bl r) H Q →
        ∃ t, PSs (cxOf CX0 P w K mg base ["value", "least", "most"] "is_within" (defScope sWithin) f cdv A outer s H E).nox (defBody sWithin) t ∧ t { nx := fun _ H' => Q .non H', rt := Q } (start ["value", "least", "most"] vs) H := by
      rintro x y z rfl r ev k
      exact ⟨_, pss_one (ps_ret (pe_and (pe_call GI hr (by rfl) gI FI.kp bI .nil pass0 (pa_cons (pv 0) pa_nil)) (pe_one (pe_chain op_le op_le (pv 1) (pv 0) (pv 2))))), s_ret ev k⟩
    rcases h with ⟨i, lo, hi, rfl, k⟩ | ⟨x, y, z, t, a, b, rfl, ht, ha, hb, hn, k⟩
    · refine body rfl (ev_andV (a := true) (ev_call (z := .bl true) (ea_cons (ev_var rfl) ea_nil) (spv_isInt (.base (.int i)) kit_int_int kit_int_bool)) fun _ => ev_chain (ev_var rfl) (ev_var rfl) (ev_var rfl)) k
    · refine body rfl (r := false) (ev_andV (a := false) (b := false) (ev_call (ea_cons (ev_var rfl) ea_nil) (by have q := spv_isInt ht ha hb; rw [hn] at q; exact q)) fun z => absurd z (by decide)) k
end
end K16
namespace L2
open PySem PySem.Spec PyProof.Rows
section
variable {X : Cx}
def tNo : TS := fun _ _ _ => False
theorem ps_no {st : Stmt} : PS X st tNo := ⟨fun _ _ _ _ _ _ h => h.elim⟩
end
theorem PI.or {X : Cx} {tg e : Expr} {w1 w2 : TI} (h1 : PI X tg e w1) (h2 : PI X tg e w2) : PI X tg e (fun σ H R => w1 σ H R ∨ w2 σ H R) := ⟨fun pins s σ H R I h => h.elim (h1.run pins s σ H R I) (h2.run pins s σ H R I)⟩
end L2
namespace K16
open PySem L2 Evl Gr
def Sq (K : PySem.W.Frag) (H : Hp) (a : Addr) (xs : List V) : Prop := SqL K H a xs ∨ SqT K H a xs
theorem Sq.mono {K : PySem.W.Frag} {H H' : Hp} {a : Addr} {xs : List V} (e : Ex H H') (h : Sq K H a xs) : Sq K H' a xs := h.elim (fun h => .inl (ex_l e h)) fun h => .inr (ex_t e h)
def vI (g : List Int) : List V := g.map V.int
theorem vI_len {g : List Int} : (vI g).length = g.length := List.length_map _
theorem vI_get {g : List Int} {i : Nat} (h : i < g.length) : (vI g)[i]? = some (V.int (at' g i)) := by
  unfold vI at'
  rw [List.getElem?_map, List.getD_eq_getElem?_getD, List.getElem?_eq_getElem h]
  rfl
theorem rv_ix {K : PySem.W.Frag} {H : Hp} {p : Addr} {xs : List V} {i : Int} {v : V} (h : Sq K H p xs) (ha : atI xs i = some v) : RV (rIx K) (.ref p) (.int i) H v := fun H1 e Q q => by
  rcases h with h | h
  · exact .inl ⟨p, xs, i, v, rfl, rfl, ex_l e h, ha, q H1 (Ex.refl H1)⟩
  · exact .inr (.inl ⟨p, xs, i, v, rfl, rfl, ex_t e h, ha, q H1 (Ex.refl H1)⟩)
theorem rc_lenQ {K : PySem.W.Frag} {p : Addr} {xs : List V} {H : Hp} (h : Sq K H p xs) : RC (fun xs H Q => ∃ p ys, xs = [V.ref p] ∧ (SqL K H p ys ∨ SqT K H p ys) ∧ Q (.int ys.length) H) [.ref p] H (.int (xs.length : Int)) := fun H1 e _ q => ⟨p, xs, rfl, h.mono e, q H1 (Ex.refl H1)⟩
theorem st_asI {K : PySem.W.Frag} {H : Hp} {a : Addr} {g : List Int} (h : H a = some (.lst (vI g))) : Sq K H a (vI g) := .inl (sq_of h)
theorem atI_vI {g : List Int} {i : Nat} (h : i < g.length) : atI (vI g) (i : Int) = some (V.int (at' g i)) := atI_nat (vI_get h)
theorem atI_vlast {g : List Int} (h : 0 < g.length) : atI (vI g) (-1) = some (V.int (at' g (g.length - 1))) := by
  have e : ixN (vI g).length (-1) = some (g.length - 1) := by
    unfold ixN
    rw [vI_len, if_neg (by decide), if_pos (by omega)]
    congr 1
    omega
  unfold atI
  rw [e]
  exact vI_get (by omega)
theorem vI_app {g : List Int} {x : Int} : vI g ++ [V.int x] = vI (g ++ [x]) := by unfold vI; rw [List.map_append]; rfl
theorem vint_inj {x y : Int} : decide (V.int x = V.int y) = decide (x = y) := by
  by_cases h : x = y
  · rw [decide_eq_true h, decide_eq_true (congrArg V.int h)]
  · rw [decide_eq_false h, decide_eq_false fun z => h (V.int.inj z)]
structure GlbS (mg : Str → Option Value) : Prop where
  len : mg "len" = none
  range : mg "range" = none
  tuple : mg "tuple" = none
  list : mg "list" = none
def EvTu (K : PySem.W.Frag) (te : TE) (σ : L2.St) (H : Hp) (xs : List V) : Prop := ∀ H1, Ex H H1 → ∀ Q : VK, (∀ p H2, Ex H1 H2 → SqT K H2 p xs → Q (.ref p) H2) → te σ H1 Q
def rSlQ (K : PySem.W.Frag) : V → Option Int → Option Int → Hp → VK → Prop := fun x lo hi H Q => rSlL K x lo hi H Q ∨ rSlA K x lo hi H Q
theorem sl_seq {X : Cx} : SlR X (rSlQ X.K) := sl_list.or sl_tupA
section
variable {K : PySem.W.Frag} {σ : L2.St} {H : Hp} {te ta tb : TE} {tl th : TO} {a : Addr} {xs ys : List V} {lo hi : Option Int}
theorem cutV_all {n : Nat} (h1 : HT.sIx xs.length 0 lo = 0) (h2 : HT.sIx xs.length xs.length hi = xs.length) : cutV xs lo hi = xs := by
  unfold cutV
  rw [h1, h2, List.drop_zero, Nat.sub_zero, List.take_length]
theorem etu_cut (h : Ev te σ H (.ref a)) (h1 : EvO tl σ H lo) (h2 : EvO th σ H hi) (hs : SqT K H a xs) : EvTu K (tSl (rSlA K) te tl th) σ H (cutV xs lo hi) := fun H1 e Q q =>
  h H1 e _ fun H2 e2 => h1 H2 (e.trans e2) _ fun H3 e3 => h2 H3 ((e.trans e2).trans e3) _ fun H4 e4 =>
    ⟨a, xs, rfl, ex_t (((e.trans e2).trans e3).trans e4) hs, fun z => q a H4 ((e2.trans e3).trans e4) (by rw [cutV_all (n := 0) z.1 z.2]; exact ex_t (((e.trans e2).trans e3).trans e4) hs),
      fun _ p hp => q p _ (((e2.trans e3).trans e4).trans (Ex.new hp)) (st_of upd_same)⟩
theorem etu_cat (h1 : EvTu K ta σ H xs) (h2 : EvTu K tb σ H ys) (hz : xs.length + ys.length ≤ 100000) : EvTu K (tOp (rCatA K) ta tb) σ H (xs ++ ys) := fun H1 e Q q =>
  h1 H1 e _ fun p H2 e2 hp => h2 H2 (e.trans e2) _ fun r H3 e3 hr =>
    ⟨p, r, xs, ys, rfl, rfl, ex_t e3 hp, hr, sz_of hz, fun z => q r H3 (e2.trans e3) (by rw [z]; exact hr), fun _ z => q p H3 (e2.trans e3) (by rw [z, List.append_nil]; exact ex_t e3 hp),
      fun _ _ b hb => q b _ ((e2.trans e3).trans (Ex.new hb)) (st_of upd_same)⟩
theorem etu_of (h : Ev te σ H (.ref a)) (h1 : EvO tl σ H lo) (h2 : EvO th σ H hi) (hs : Sq K H a xs) : EvTu K (tThen (tSl (rSlQ K) te tl th) (kTup K)) σ H (cutV xs lo hi) := fun H1 e Q q =>
  h H1 e _ fun H2 e2 => h1 H2 (e.trans e2) _ fun H3 e3 => h2 H3 ((e.trans e2).trans e3) _ fun H4 e4 => by
    have E := ((e.trans e2).trans e3).trans e4
    have E1 := (e2.trans e3).trans e4
    rcases hs.mono E with z | z
    · exact .inl ⟨a, xs, rfl, z, fun p hp => .inl ⟨p, _, rfl, sq_of upd_same, fun r hr => q r _ ((E1.trans (Ex.new hp)).trans (Ex.new hr)) (st_of upd_same)⟩⟩
    · exact .inr ⟨a, xs, rfl, z, fun c => .inr ⟨a, _, rfl, z, q a H4 E1 (by rw [cutV_all (n := 0) c.1 c.2]; exact z)⟩, fun _ p hp => .inr ⟨p, _, rfl, st_of upd_same, q p _ (E1.trans (Ex.new hp)) (st_of upd_same)⟩⟩
theorem q_asgT {i : Nat} {tz : TS} {D : Ends} (h : EvTu K te σ H xs) (k : ∀ p H1, Ex H H1 → SqT K H1 p xs → tz D (σ.set i (some (.ref p))) H1) : tSeq (tAsg te (gName i)) tz D σ H := h H (Ex.refl H) _ fun p H1 e s => k p H1 e s
end
theorem cut_take {g : List Int} {n : Nat} (h : n ≤ g.length) : cutV (vI g) none (some (n : Int)) = vI (g.take n) := by
  unfold cutV vI
  rw [show HT.sIx (g.map V.int).length 0 none = 0 from rfl, HT.sIx_nat, List.drop_zero, Nat.sub_zero, List.length_map, Nat.min_eq_left h, List.map_take]
theorem cut_drop {g : List Int} {n : Nat} (h : n ≤ g.length) : cutV (vI g) (some (n : Int)) none = vI (g.drop n) := by
  unfold cutV vI
  rw [HT.sIx_none, HT.sIx_nat, List.length_map, Nat.min_eq_left h, List.take_of_length_le (by rw [List.length_drop, List.length_map]; exact Nat.le_refl _), List.map_drop]
theorem ev_fld {K : PySem.W.Frag} {σ : L2.St} {H : Hp} {ta : TE} {o C dx : Addr} {fs : List (Str × V)} {v : V} {f : Str} (ha : Ev ta σ H (.ref o)) (ho : H o = some (.ins C dx fs)) (c : Cls K C) (n : NoAttr K C f) (hf : fs.lookup f = some v) :
    Ev (tFld K ta f) σ H v := fun H1 e Q q => ha H1 e _ fun H2 e2 => ⟨o, C, dx, fs, v, rfl, e2 _ _ (e _ _ ho), c, n, hf, q H2 e2⟩
section
variable {K : PySem.W.Frag} {σ : L2.St} {H H' : Hp} {te ta tb tl : TE} {t : TT} {xs : List V} {p l : Addr} {cells : List Int} {m : Nat} {i : Nat} {D : Ends}
theorem el_ofT (h : EvTu K te σ H xs) : EvL (tCB (rListS K) (tCons te tNil)) σ H xs := fun H1 e Q q =>
  h H1 e _ fun p H2 e2 hp => ⟨p, xs, rfl, .inr hp, fun l hl => q l _ (fresh_back e2 hl) (e2.trans (Ex.new hl)) upd_same⟩
theorem el_lcR2 {ta : TA} {j : Nat} {vs : List Nat} {lo n : Int} (f : Nat → Bool) (v : Nat → V) (h : EvA ta σ H [.int lo, .int n]) (hn : 0 ≤ lo ∧ lo ≤ n ∧ n ≤ 40000) (hw : ∀ x, wipe ((wipe σ vs).set j (some x)) vs = wipe σ vs)
    (ht : ∀ (i : Nat) H1, Ex H H1 → lo + (i : Int) < n → EvT t ((wipe σ vs).set j (some (.int (lo + (i : Int))))) H1 (f i)) (he : ∀ (i : Nat) H1, Ex H H1 → lo + (i : Int) < n → f i = true → Ev te ((wipe σ vs).set j (some (.int (lo + (i : Int))))) H1 (v i)) :
    EvL (tLc (iRng2 ta) (gName j) t te vs) σ H (given (n - lo).toNat f v) := fun H0 e Q q => h H0 e _ fun H1 e1 => ⟨lo, n, rfl, ⟨by omega, by omega, by omega, by omega⟩, fun Dl hD =>
  lc_range (lo := lo) (n := (n - lo).toNat) (Cw H1 f v Dl) ⟨hD, Ex.new hD, upd_same⟩ (fun i H' hi p =>
    ⟨hw _, cw_turn p (by omega) (ht i H1 (e.trans e1) (by omega)) (fun hf => he i H1 (e.trans e1) (by omega) hf)⟩) (fun H' p => q Dl H' (fresh_back e1 p.1) (e1.trans p.2.1) p.2.2)⟩
theorem given_all {n : Nat} {v : Nat → V} : given n (fun _ => true) v = (List.range n).map v := by
  unfold given
  rw [List.filter_eq_self.mpr fun _ _ => rfl]
theorem et_none : EvT (fun σ H Q => Q true H) σ H true := fun H1 _ _ q => q H1 (Ex.refl H1)
def iQ (K : PySem.W.Frag) (tl : TE) : TI := fun σ H R => iList K tl σ H R ∨ iTup K tl σ H R
theorem pi_seq {X : Cx} {tg e : Expr} {tl : TE} (h : PE X e tl) : PI X tg e (iQ X.K tl) := (pi_list h).or (pi_tup h)
theorem el_lcQ {a : Addr} {xs : List V} {tl : TE} {j : Nat} {vs : List Nat} (v : Nat → V) (h : Ev tl σ H (.ref a)) (hx : Sq K H a xs) (hz : xs.length ≤ 40000) (hw : ∀ x, wipe ((wipe σ vs).set j (some x)) vs = wipe σ vs)
    (he : ∀ (i : Nat) (x : V) H1, Ex H H1 → xs[i]? = some x → Ev te ((wipe σ vs).set j (some x)) H1 (v i)) : EvL (tLc (iQ K tl) (gName j) tYes te vs) σ H ((List.range xs.length).map v) := fun H0 e Q q => by
  rcases hx with hx | hx
  · exact .inl (h H0 e _ fun H1 e1 => ⟨a, rfl, ⟨xs, ex_l (e.trans e1) hx⟩, fun Dl hD => lc_it (n := xs.length) (walk_list (xs := xs)) (Cw H1 (fun _ => true) v Dl) ⟨hD, Ex.new hD, upd_same⟩ (fun _ H' _ p => ex_l ((e.trans e1).trans p.2.1) hx)
      (fun k x H' H'' hk p y => by
        obtain ⟨rfl, hx'⟩ := y
        exact ⟨hw _, cw_turn p (by omega) et_none (fun _ => he k x H1 (e.trans e1) hx')⟩)
      (fun H' p => q Dl H' (fresh_back e1 p.1) (e1.trans p.2.1) (by rw [← given_all]; exact p.2.2))⟩)
  · exact .inr (h H0 e _ fun H1 e1 => ⟨a, rfl, ⟨xs, ex_t (e.trans e1) hx⟩, fun Dl hD => lc_it (n := xs.length) (walk_tup (xs := xs)) (Cw H1 (fun _ => true) v Dl) ⟨hD, Ex.new hD, upd_same⟩ (fun _ H' _ p => ex_t ((e.trans e1).trans p.2.1) hx)
      (fun k x H' H'' hk p y => by
        obtain ⟨rfl, hx'⟩ := y
        exact ⟨hw _, cw_turn p (by omega) et_none (fun _ => he k x H1 (e.trans e1) hx')⟩)
      (fun H' p => q Dl H' (fresh_back e1 p.1) (e1.trans p.2.1) (by rw [← given_all]; exact p.2.2))⟩)
theorem sq_ty {a : Addr} {xs : List V} (h : Sq K H a xs) : ∃ T : String, TyX K H (.ref a) (.type T) ∧ (T = "list" ∨ T = "tuple") := by
  rcases h with (h | h) | (h | h)
  · rcases h with h | ⟨o, h⟩
    · exact ⟨"list", .base (.lst h), .inl rfl⟩
    · exact ⟨"list", .base (.frz h), .inl rfl⟩
  · obtain ⟨o, its, n, lk, hc, _⟩ := h
    exact ⟨"list", .kList lk hc, .inl rfl⟩
  · rcases h with h | ⟨o, h⟩
    · exact ⟨"tuple", .base (.tup h), .inr rfl⟩
    · exact ⟨"tuple", .fTuple h, .inr rfl⟩
  · obtain ⟨o, its, n, lk, hc, _⟩ := h
    exact ⟨"tuple", .kTuple lk hc, .inr rfl⟩
theorem sqT_upd {K : PySem.W.Frag} {H : Hp} {o p C dx : Addr} {fs : List (Str × V)} {u : HO} {xs : List V} (h : SqT K H p xs) (ho : H o = some (.ins C dx fs)) : SqT K (upd H o u) p xs := by
  rcases h with (h | ⟨o', h⟩) | h
  · exact .inl (.inl (by rw [upd_ne (fun z => by rw [z, ho] at h; cases h)]; exact h))
  · exact .inl (.inr ⟨o', by rw [upd_ne (fun z => by rw [z, ho] at h; cases h)]; exact h⟩)
  · exact .inr h
theorem eqv_ints : ∀ xs ys : List Int, PyData.eqvAll (xs.map PyData.int) (ys.map PyData.int) = decide (xs = ys)
  | [], [] => by simp [PyData.eqvAll]
  | [], y :: ys => by simp [PyData.eqvAll]
  | x :: xs, [] => by simp [PyData.eqvAll]
  | x :: xs, y :: ys => by
    have ih := eqv_ints xs ys
    simp only [List.map_cons, PyData.eqvAll, PyData.eqv, ih]
    by_cases h : x = y <;> by_cases h2 : xs = ys <;> simp [h, h2]
theorem shaped_tup (ns : List Int) : SeqAt.shaped (.tuple (ns.map PyData.int)) = true := by
  unfold SeqAt.shaped
  simp [PyData.canLay0, canLay_ints, PyData.depth, depth_ints]
theorem ev_eqT {p q : Addr} {xs ys : List Int} (ha : Ev ta σ H (.ref p)) (hb : Ev tb σ H (.ref q)) (hp : SqT K H p (vI xs)) (hq : SqT K H q (vI ys)) : Ev (tOp (rEqD K) ta tb) σ H (.bl (decide (xs = ys))) :=
  ev_op ha hb fun H1 e Q q' => ⟨.tuple (xs.map PyData.int), .tuple (ys.map PyData.int), .tup (ex_t e hp) (dpAll_ints xs), .tup (ex_t e hq) (dpAll_ints ys), shaped_tup xs, shaped_tup ys, by
    have e2 : PyData.eqv (.tuple (xs.map PyData.int)) (.tuple (ys.map PyData.int)) = decide (xs = ys) := by
      rw [← eqv_ints]
      simp [PyData.eqv]
    rw [e2]
    exact q' H1 (Ex.refl H1)⟩
def EvW (p l : Addr) (cells : List Int) (n : Nat) (te : TE) (σ : L2.St) (H : Hp) (R : V → Prop) : Prop := ∀ m H1, Keep p H H1 → PenAt H1 p l cells m → m + n ≤ 50000 → ∀ Q : VK, (∀ v H2, R v → PenAt H2 p l cells (m + n) → Keep p H1 H2 → Q v H2) → te σ H1 Q
theorem w_draw {i : Nat} {tb : TE} {many : Int} (hi : σ[i]? = some (some (.ref p))) (hb : ∀ H1, Keep p H H1 → Ev tb σ H1 (.int many)) (h0 : 0 < many) (h1 : many ≤ 1000000000) (h63 : cells.length ≤ 63) :
    EvW p l cells 1 (tCall spDraw [] E0 (tCons (tVar i) (tCons tb tNil))) σ H (fun v => ∃ d : Nat, v = .int (d : Int) ∧ (d : Int) < many) := fun m H1 kp hP hm Q q =>
  ⟨_, hi, hb H1 kp H1 (Ex.refl H1) _ fun H2 e2 => ⟨p, l, cells, m, many, rfl, hP.mono e2 (Nat.le_refl m), by omega, h63, h0, h1, fun d H3 d0 d1 hP3 k3 => by
    obtain ⟨n, rfl⟩ := Int.eq_ofNat_of_zero_le d0
    exact q _ H3 ⟨n, rfl, d1⟩ hP3 ((Keep.of_ex e2).trans k3)⟩⟩
theorem PenAt.upd' {H : Hp} {p l a : Addr} {cells : List Int} {m : Nat} {o : HO} (h : PenAt H p l cells m) (h1 : a ≠ p) (h2 : a ≠ l) : PenAt (upd H a o) p l cells m := by
  obtain ⟨k, r, q1, q2, q3⟩ := h
  exact ⟨k, r, by rw [upd_ne h1.symm]; exact q1, by rw [upd_ne h2.symm]; exact q2, q3⟩
theorem PenAt.le {H : Hp} {p l : Addr} {cells : List Int} {m n : Nat} (h : PenAt H p l cells m) (hm : m ≤ n) : PenAt H p l cells n := h.mono (Ex.refl H) hm
theorem Keep.mut {p a : Addr} {H H' : Hp} {o : HO} (h : Keep p H H') (ha : H a = none) : Keep p H (L2.upd H' a o) := fun b u hb hn => by
  have : b ≠ a := fun z => by rw [z, ha] at hb; cases hb
  rw [upd_ne this]
  exact h b u hb hn
theorem q_asgR {σ : L2.St} {H : Hp} {te : TE} {i : Nat} {tz : TS} {D : Ends} (h : te σ H fun x H1 => tz D (σ.set i (some x)) H1) : tSeq (tAsg te (gName i)) tz D σ H := h
theorem q_call {σ : L2.St} {H : Hp} {sp : Sp} {dvs vs : List V} {E : XK} {ta : TA} {i : Nat} {tz : TS} {D : Ends} (h : EvA ta σ H vs) (k : ∀ H1, Ex H H1 → sp (vs ++ dvs) H1 (fun v H2 => tz D (σ.set i (some v)) H2) E) :
    tSeq (tAsg (tCall sp dvs E ta) (gName i)) tz D σ H := h H (Ex.refl H) _ k
theorem lst_i {t : TA} {Q : VK} {σ : L2.St} {H : Hp} (h : t σ H fun xs H1 => xs.length ≤ sizeLine ∧ ∀ l, H1 l = none → Q (.ref l) (upd H1 l (.lst xs))) : tLst t σ H Q := h
theorem cons_i {te : TE} {tr : TA} {σ : L2.St} {H : Hp} {Q : List V → Hp → Prop} (h : te σ H fun x H1 => tr σ H1 fun xs H2 => Q (x :: xs) H2) : tCons te tr σ H Q := h
theorem op_i {r : R2} {ta tb : TE} {σ : L2.St} {H : Hp} {Q : VK} (h : ta σ H fun x H1 => tb σ H1 fun y H2 => r x y H2 Q) : tOp r ta tb σ H Q := h
theorem fnR0 {P : Program} {w : World} {K : PySem.W.Frag} {mg : Str → Option Value} {base : Heap} {CX : CXT} {k : Nat} {f : Addr} {fd : FuncData} {ps : List Str} {sp : Sp} (F : FnOk P w K mg base CX k f fd ps sp) (b : Binds K fd ps []) : FnR P w K mg base CX k f sp :=
  (F.raw b .nil).imp fun vs H Q E h => by rw [List.append_nil]; exact h
theorem c_i {x : V} {Q : VK} (h : Q x H) : tC x σ H Q := h
theorem q_par {ta : TA} {i j : Nat} {tz : TS} {D : Ends} (h : ta σ H fun vs H1 => ∃ u v, vs = [u, v] ∧ tz D ((σ.set i (some u)).set j (some v)) H1) : tSeq (tPar i j ta) tz D σ H := h
theorem etu_tuple {K : PySem.W.Frag} {te : TE} {xs : List V} (h : EvL te σ H xs) : EvTu K (tThen te (kTup K)) σ H xs := fun H1 e Q q =>
  h H1 e _ fun p H2 _ e2 h2 => .inl ⟨p, xs, rfl, sq_of h2, fun r hr => q r _ (e2.trans (Ex.new hr)) (st_of upd_same)⟩
def Gfn (P : Program) (w : World) (K : PySem.W.Frag) (mg : Str → Option Value) (base : Heap) (k : Nat) (name : Str) (ps : List Str) (sp : Sp) : Prop :=
  ∃ f fd, FnOk P w K mg base CX0 k f fd ps sp ∧ PySem.W.keepIn K (.ref f) = true ∧ Binds K fd ps [] ∧ mg name = some (.ref f)
theorem sqt_keep {q : Addr} {xs : List V} (hP : PenAt H p l cells m) (kp : Keep p H H') (h : SqT K H q xs) : SqT K H' q xs := by
  obtain ⟨_, _, hp, _⟩ := hP
  rcases h with (h | ⟨o, h⟩) | h
  · exact .inl (.inl (kp _ _ h fun z => by rw [z, hp] at h; cases h))
  · exact .inl (.inr ⟨o, kp _ _ h fun z => by rw [z, hp] at h; cases h⟩)
  · exact .inr h
theorem sql_keep {q : Addr} {xs : List Int} (hP : PenAt H p l cells m) (kp : Keep p H H') (h : SqL K H q (vI xs)) : SqL K H' q (vI xs) := by
  obtain ⟨_, _, hp, _⟩ := hP
  have no : ∀ {k r : Int}, ¬ [V.ref l, V.int k, V.int r] = vI xs := fun e => by
    cases xs with
    | nil => cases e
    | cons x xs => cases e
  rcases h with (h | ⟨o, h⟩) | h
  · exact .inl (.inl (kp _ _ h fun z => by rw [z, hp] at h; exact no (HO.lst.inj (Option.some.inj h))))
  · exact .inl (.inr ⟨o, kp _ _ h fun z => by rw [z, hp] at h; cases h⟩)
  · exact .inr h
theorem yes_i {σ : L2.St} {H : Hp} {A B : Hp → Prop} (h : A H) : tYes σ H (fun b H3 => if b = true then A H3 else B H3) := iteT (A := A H) (B := B H) h
theorem given_none {n : Nat} {v : Nat → V} : given n (fun _ => false) v = vI [] := by
  unfold given
  have f : ∀ l : List Nat, l.filter (fun _ => false) = [] := fun l => by induction l with | nil => rfl | cons a l ih => exact ih
  rw [f]
  rfl
theorem el_noneN {t : TT} {j : Nat} {xs : List V} (hl : EvL tl σ H xs) (h4 : xs.length ≤ 40000) (hw : ∀ x, wipe ((wipe σ [j]).set j (some x)) [j] = wipe σ [j])
    (ht : ∀ (i : Nat) (x : V) H1, Ex H H1 → xs[i]? = some x → EvT t ((wipe σ [j]).set j (some x)) H1 false) : EvL (tLc (iList K tl) (gName j) t (tVar j) [j]) σ H (vI []) := by
  have c := el_lcNL (K := K) (σ := σ) (H := H) (t := t) (te := tVar j) (j := j) (vs := [j]) (fun _ => false) (fun _ => V.non) hl h4 hw ht (fun i x H1 e hi hf => by cases hf)
  rw [given_none] at c
  exact c
theorem el_nil : EvL (tLst tNil) σ H (vI []) := el_lst ea_nil (by decide)
theorem eqv_lists (xs ys : List Int) : PyData.eqv (.list (xs.map PyData.int)) (.list (ys.map PyData.int)) = decide (xs = ys) := by
  have := eqv_ints xs ys
  simpa [PyData.eqv] using this
theorem ev_eqL {xs ys : List Int} (ha : EvL ta σ H (vI xs)) (hb : EvL tb σ H (vI ys)) : Ev (tOp (rEqD K) ta tb) σ H (.bl (decide (xs = ys))) := fun H1 e Q q =>
  ha H1 e _ fun p H2 _ e2 hp => hb H2 (e.trans e2) _ fun r H3 _ e3 hr => ⟨.list (xs.map PyData.int), .list (ys.map PyData.int), .lst (sq_of (e3 _ _ hp)) (dpAll_ints xs), .lst (sq_of hr) (dpAll_ints ys), shaped_ints xs, shaped_ints ys, by rw [eqv_lists]; exact q H3 (e2.trans e3)⟩
theorem eqv_tups (xs ys : List Int) : PyData.eqv (.tuple (xs.map PyData.int)) (.tuple (ys.map PyData.int)) = decide (xs = ys) := by
  have := eqv_ints xs ys
  simpa [PyData.eqv] using this
theorem ev_neTu {xs ys : List Int} (ha : EvTu K ta σ H (vI xs)) (hb : EvTu K tb σ H (vI ys)) : Ev (tOp (rNeD K) ta tb) σ H (.bl (!decide (xs = ys))) := fun H1 e Q q =>
  ha H1 e _ fun p H2 e2 hp => hb H2 (e.trans e2) _ fun r H3 e3 hr => ⟨.tuple (xs.map PyData.int), .tuple (ys.map PyData.int), .tup (ex_t e3 hp) (dpAll_ints xs), .tup hr (dpAll_ints ys), shaped_tup xs, shaped_tup ys, by rw [eqv_tups]; exact q H3 (e2.trans e3)⟩
theorem ev_eqTuG {xs ys : List Int} (ha : EvTu K ta σ H (vI xs)) (hb : EvTu K tb σ H (vI ys)) : Ev (tOp (rEqD K) ta tb) σ H (.bl (decide (xs = ys))) := fun H1 e Q q =>
  ha H1 e _ fun p H2 e2 hp => hb H2 (e.trans e2) _ fun r H3 e3 hr => ⟨.tuple (xs.map PyData.int), .tuple (ys.map PyData.int), .tup (ex_t e3 hp) (dpAll_ints xs), .tup hr (dpAll_ints ys), shaped_tup xs, shaped_tup ys, by rw [eqv_tups]; exact q H3 (e2.trans e3)⟩
theorem ev_lenL {p : Addr} {g : List Int} (h : Ev ta σ H (.ref p)) (hs : SqL K H p (vI g)) : Ev (tCB (fun xs H Q => ∃ p ys, xs = [V.ref p] ∧ (SqL K H p ys ∨ SqT K H p ys) ∧ Q (.int ys.length) H) (tCons ta tNil)) σ H (.int (g.length : Int)) := ev_is (ev_cb (ea_cons h ea_nil) (rc_lenQ (.inl hs))) (by rw [vI_len])
theorem el_listL {p : Addr} {xs : List V} (h : Ev te σ H (.ref p)) (hs : SqL K H p xs) : EvL (tCB (rListS K) (tCons te tNil)) σ H xs := fun H1 e Q q =>
  h H1 e _ fun H2 e2 => ⟨p, xs, rfl, .inl (ex_l (e.trans e2) hs), fun l hl => q l _ (fresh_back e2 hl) (e2.trans (Ex.new hl)) upd_same⟩
theorem etu_tupleP {p : Addr} {xs : List V} (h : Ev te σ H (.ref p)) (hs : SqL K H p xs) : EvTu K (tThen te (kTup K)) σ H xs := fun H1 e Q q =>
  h H1 e _ fun H2 e2 => .inl ⟨p, xs, rfl, ex_l (e.trans e2) hs, fun r hr => q r _ (e2.trans (Ex.new hr)) (st_of upd_same)⟩
theorem el_catN {xs ys : List Int} (ha : EvL ta σ H (vI xs)) (hb : EvL tb σ H (vI ys)) (hz : xs.length + ys.length ≤ 100000) : EvL (tOp rCat ta tb) σ H (vI (xs ++ ys)) := fun H1 e Q k =>
  ha H1 e _ fun p H2 _ e2 hp => hb H2 (e.trans e2) _ fun r H3 _ e3 hr => ⟨p, r, vI xs, vI ys, rfl, rfl, e3 _ _ hp, hr, by rw [vI_len, vI_len]; exact sz_of hz, fun a ha => k a _ (fresh_back (e2.trans e3) ha) ((e2.trans e3).trans (Ex.new ha)) (by rw [upd_same]; unfold vI; rw [List.map_append])⟩
theorem ev_eqLP {p : Addr} {xs ys : List Int} (ha : EvL ta σ H (vI xs)) (hb : Ev tb σ H (.ref p)) (hp : SqL K H p (vI ys)) : Ev (tOp (rEqD K) ta tb) σ H (.bl (decide (xs = ys))) := fun H1 e Q q =>
  ha H1 e _ fun r H2 _ e2 hr => hb H2 (e.trans e2) _ fun H3 e3 => ⟨.list (xs.map PyData.int), .list (ys.map PyData.int), .lst (sq_of (e3 _ _ hr)) (dpAll_ints xs), .lst (ex_l (e.trans (e2.trans e3)) hp) (dpAll_ints ys), shaped_ints xs, shaped_ints ys, by rw [eqv_lists]; exact q H3 (e2.trans e3)⟩
theorem lst_keep {p l q : Addr} {cells : List Int} {m : Nat} {H' : Hp} {xs : List Int} (hP : PenAt H p l cells m) (kp : Keep p H H') (h : H q = some (.lst (vI xs))) : H' q = some (.lst (vI xs)) := by
  obtain ⟨_, _, hp, _⟩ := hP
  have no : ∀ {k r : Int}, ¬ [V.ref l, V.int k, V.int r] = vI xs := fun {k r} e => by
    cases xs with
    | nil => cases e
    | cons x xs => cases e
  exact kp _ _ h fun z => by rw [z, hp] at h; exact no (HO.lst.inj (Option.some.inj h))
theorem tup_keep {p l q : Addr} {cells : List Int} {m : Nat} {H' : Hp} {xs : List V} (hP : PenAt H p l cells m) (kp : Keep p H H') (h : H q = some (.tup xs)) : H' q = some (.tup xs) := by
  obtain ⟨_, _, hp, _⟩ := hP
  exact kp _ _ h fun z => by rw [z, hp] at h; cases h
theorem tup_i {t : TA} {Q : VK} (h : t σ H fun xs H1 => xs.length ≤ sizeLine ∧ ∀ l, H1 l = none → Q (.ref l) (upd H1 l (.tup xs))) : tTup t σ H Q := h
theorem el_catPL {q : Addr} {xs ys : List Int} (ha : Ev ta σ H (.ref q)) (hq : H q = some (.lst (vI xs))) (hb : EvL tb σ H (vI ys)) (hz : xs.length + ys.length ≤ 100000) : EvL (tOp rCat ta tb) σ H (vI (xs ++ ys)) := fun H1 e Q k =>
  ha H1 e _ fun H2 e2 => hb H2 (e.trans e2) _ fun r H3 _ e3 hr => ⟨q, r, vI xs, vI ys, rfl, rfl, (e.trans (e2.trans e3)) _ _ hq, hr, by rw [vI_len, vI_len]; exact sz_of hz, fun a ha => k a _ (fresh_back (e2.trans e3) ha) ((e2.trans e3).trans (Ex.new ha)) (by rw [upd_same]; unfold vI; rw [List.map_append])⟩
theorem etu_fld {o p C dx : Addr} {fs : List (Str × V)} {f : Str} {xs : List V} (ha : Ev ta σ H (.ref o)) (ho : H o = some (.ins C dx fs)) (c : Cls K C) (n : NoAttr K C f) (hf : fs.lookup f = some (.ref p)) (hp : SqT K H p xs) : EvTu K (tFld K ta f) σ H xs := fun H1 e Q q =>
  ev_fld ha ho c n hf H1 e _ fun H2 e2 => q p H2 e2 (ex_t (e.trans e2) hp)
theorem ev_nePP {p q : Addr} {xs ys : List Int} (ha : Ev ta σ H (.ref p)) (hp : SqL K H p (vI xs)) (hb : Ev tb σ H (.ref q)) (hq : SqL K H q (vI ys)) : Ev (tOp (rNeD K) ta tb) σ H (.bl (!decide (xs = ys))) := fun H1 e Q k =>
  ha H1 e _ fun H2 e2 => hb H2 (e.trans e2) _ fun H3 e3 => ⟨.list (xs.map PyData.int), .list (ys.map PyData.int), .lst (ex_l (e.trans (e2.trans e3)) hp) (dpAll_ints xs), .lst (ex_l (e.trans (e2.trans e3)) hq) (dpAll_ints ys), shaped_ints xs, shaped_ints ys, by rw [eqv_lists]; exact k H3 (e2.trans e3)⟩
theorem etu_var {i : Nat} {p : Addr} {xs : List V} (h0 : σ[i]? = some (some (.ref p))) (hs : SqT K H p xs) : EvTu K (tVar i) σ H xs := fun H1 e Q q => ⟨_, h0, q p H1 (Ex.refl H1) (ex_t e hs)⟩
theorem sqt_updL {q Dl : Addr} {xs ys : List V} {u : HO} (s : SqT K H q ys) (hD : H Dl = some (.lst xs)) : SqT K (upd H Dl u) q ys := by
  rcases s with (s | ⟨w, s⟩) | s
  · exact .inl (.inl (by rw [upd_ne (fun e => by rw [e, hD] at s; cases s)]; exact s))
  · exact .inl (.inr ⟨w, by rw [upd_ne (fun e => by rw [e, hD] at s; cases s)]; exact s⟩)
  · exact .inr s
theorem etu_nil : EvTu K (tTup tNil) σ H (vI []) := fun H1 e Q q => ⟨by show 0 ≤ sizeLine; decide, fun p hp => q p _ (Ex.new hp) (st_of upd_same)⟩
theorem for_i {tl : TE} {g : TG} {tu tz : TS} {D : Ends} (h : tl σ H fun x H1 => ∃ a, x = .ref a ∧ (∃ xs, SqL K H1 a xs) ∧ tFor (fun _ _ R => R (Itl K a) H1) g tu { D with nx := tz D } σ H1) : tSeq (tFor (iList K tl) g tu) tz D σ H := h
theorem s_retR {D : Ends} (h : te σ H D.rt) : tRet te D σ H := h
theorem ev_lenT {p : Addr} {g : List Int} (h : Ev ta σ H (.ref p)) (hs : SqT K H p (vI g)) : Ev (tCB (fun xs H Q => ∃ p ys, xs = [V.ref p] ∧ (SqL K H p ys ∨ SqT K H p ys) ∧ Q (.int ys.length) H) (tCons ta tNil)) σ H (.int (g.length : Int)) := ev_is (ev_cb (ea_cons h ea_nil) (rc_lenQ (.inr hs))) (by rw [vI_len])
theorem etu_disp {t : TA} {xs : List V} (h : EvA t σ H xs) (hl : xs.length ≤ 100000) : EvTu K (tTup t) σ H xs := fun H1 e Q q => eu_tup h hl H1 e _ fun p H2 _ e2 h2 => q p H2 e2 (st_of h2)
end
end K16
/-! data told by what they are; comprehensions told by filter and map; slots -/
namespace K16
open PySem L2 Evl Gr
mutual
theorem dp_up {K : PySem.W.Frag} {H H' : Hp} (e : Ex H H') : ∀ (d : PyData) {v : V}, Dp K H v d → Dp K H' v d
  | .none, _, .non => .non
  | .bool _, _, .bl b => .bl b
  | .int _, _, .int i => .int i
  | .str _, _, .str x => .str x
  | .list ds, _, .lst h a => .lst (ex_l e h) (dps_up e ds a)
  | .tuple ds, _, .tup h a => .tup (ex_t e h) (dps_up e ds a)
theorem dps_up {K : PySem.W.Frag} {H H' : Hp} (e : Ex H H') : ∀ (ds : List PyData) {vs : List V}, DpAll K H vs ds → DpAll K H' vs ds
  | [], _, .nil => .nil
  | d :: ds, _, .cons h a => .cons (dp_up e d h) (dps_up e ds a)
end
/-- gives a thing that is d -/
def EvD (K : PySem.W.Frag) (te : TE) (σ : L2.St) (H : Hp) (d : PyData) : Prop := ∀ H1, Ex H H1 → ∀ Q : VK, (∀ v H2, Ex H1 H2 → Dp K H2 v d → Q v H2) → te σ H1 Q
section
variable {K : PySem.W.Frag} {σ : L2.St} {H H' : Hp} {te ta tb tl : TE} {t : TT} {d e : PyData} {ds : List PyData} {xs : List V} {v : V} {a : Addr}
theorem EvD.mono (h : EvD K te σ H d) (e : Ex H H') : EvD K te σ H' d := fun H1 e1 => h H1 (e.trans e1)
theorem ed_of (h : Ev te σ H v) (hd : ∀ H1, Ex H H1 → Dp K H1 v d) : EvD K te σ H d := fun H1 e Q q => h H1 e _ fun H2 e2 => q v H2 e2 (hd H2 (e.trans e2))
theorem ed_L (h : EvL te σ H xs) (hd : ∀ H1, Ex H H1 → DpAll K H1 xs ds) : EvD K te σ H (.list ds) := fun H1 e Q q => h H1 e _ fun p H2 _ e2 hp => q _ H2 e2 (.lst (sq_of hp) (hd H2 (e.trans e2)))
theorem ed_T (h : EvTu K te σ H xs) (hd : ∀ H1, Ex H H1 → DpAll K H1 xs ds) : EvD K te σ H (.tuple ds) := fun H1 e Q q => h H1 e _ fun p H2 e2 hp => q _ H2 e2 (.tup hp (hd H2 (e.trans e2)))
theorem ev_eqD (ha : EvD K ta σ H d) (hb : EvD K tb σ H e) (sd : SeqAt.shaped d = true) (se : SeqAt.shaped e = true) : Ev (tOp (rEqD K) ta tb) σ H (.bl (PyData.eqv d e)) := fun H1 e1 Q q =>
  ha H1 e1 _ fun v H2 e2 hv => hb H2 (e1.trans e2) _ fun u H3 e3 hu => ⟨d, e, dp_up e3 d hv, hu, sd, se, q H3 (e2.trans e3)⟩
theorem ev_neD (ha : EvD K ta σ H d) (hb : EvD K tb σ H e) (sd : SeqAt.shaped d = true) (se : SeqAt.shaped e = true) : Ev (tOp (rNeD K) ta tb) σ H (.bl (!PyData.eqv d e)) := fun H1 e1 Q q =>
  ha H1 e1 _ fun v H2 e2 hv => hb H2 (e1.trans e2) _ fun u H3 e3 hu => ⟨d, e, dp_up e3 d hv, hu, sd, se, q H3 (e2.trans e3)⟩
theorem ev_inD (ha : EvD K ta σ H d) (hb : EvD K tb σ H (.list ds)) (sd : SeqAt.shaped d = true) (se : SeqAt.shaped (.list ds) = true) : Ev (tOp (rInD K) ta tb) σ H (.bl (ds.any fun z => PyData.eqv z d)) := fun H1 e1 Q q =>
  ha H1 e1 _ fun v H2 e2 hv => hb H2 (e1.trans e2) _ fun u H3 e3 hu => ⟨d, ds, dp_up e3 d hv, hu, sd, se, q H3 (e2.trans e3)⟩
end
/-! ### what is not deep -/
def Low (n : Nat) (d : PyData) : Prop := d.canLay0 = true ∧ d.depth ≤ n
theorem lay_all : ∀ {ds : List PyData}, (∀ d ∈ ds, d.canLay0 = true) → PyData.canLayAll0 ds = true
  | [], _ => by simp [PyData.canLayAll0]
  | d :: ds, h => by simp [PyData.canLayAll0, h d List.mem_cons_self, lay_all fun x hx => h x (List.mem_cons_of_mem _ hx)]
theorem depth_all {n : Nat} : ∀ {ds : List PyData}, (∀ d ∈ ds, d.depth ≤ n) → PyData.depthAll ds ≤ n
  | [], _ => by simp [PyData.depthAll]
  | d :: ds, h => by
    simp only [PyData.depthAll]
    exact Nat.max_le.mpr ⟨h d List.mem_cons_self, depth_all fun x hx => h x (List.mem_cons_of_mem _ hx)⟩
theorem low_list {n : Nat} {ds : List PyData} (h : ∀ d ∈ ds, Low n d) : Low (n + 1) (.list ds) := by
  refine ⟨?_, ?_⟩
  · simp only [PyData.canLay0]
    exact lay_all fun d hd => (h d hd).1
  · have := depth_all fun d hd => (h d hd).2
    simp only [PyData.depth]
    omega
theorem low_tup {n : Nat} {ds : List PyData} (h : ∀ d ∈ ds, Low n d) : Low (n + 1) (.tuple ds) := by
  refine ⟨?_, ?_⟩
  · simp only [PyData.canLay0]
    exact lay_all fun d hd => (h d hd).1
  · have := depth_all fun d hd => (h d hd).2
    simp only [PyData.depth]
    omega
theorem low_shaped {n : Nat} {d : PyData} (h : Low n d) (hn : n ≤ 64) : SeqAt.shaped d = true := by
  unfold SeqAt.shaped
  rw [h.1, decide_eq_true (Nat.le_trans h.2 hn)]
  rfl
theorem low_int (i : Int) : Low 0 (.int i) := ⟨by simp [PyData.canLay0], by simp [PyData.depth]⟩
theorem low_str {z : Str} (h : PyData.strOk z = true) : Low 0 (.str z) := ⟨by simp [PyData.canLay0, h], by simp [PyData.depth]⟩
theorem low_non : Low 0 .none := ⟨by simp [PyData.canLay0], by simp [PyData.depth]⟩
theorem eqvAll_map {α : Type} [DecidableEq α] (f : α → PyData) (h : ∀ x y, PyData.eqv (f x) (f y) = decide (x = y)) : ∀ xs ys : List α, PyData.eqvAll (xs.map f) (ys.map f) = decide (xs = ys)
  | [], [] => by simp [PyData.eqvAll]
  | [], y :: ys => by simp [PyData.eqvAll]
  | x :: xs, [] => by simp [PyData.eqvAll]
  | x :: xs, y :: ys => by
    simp only [List.map_cons, PyData.eqvAll, eqvAll_map f h xs ys, h]
    by_cases h1 : x = y <;> by_cases h2 : xs = ys <;> simp [h1, h2]
/-! ### comprehensions -/
def at_ {α : Type} (l : List α) (p : α → Bool) (i : Nat) : Bool := (l[i]?).elim false p
def got {α : Type} (l : List α) (g : α → V) (i : Nat) : V := (l[i]?).elim .non g
theorem at_of {α : Type} {l : List α} {i : Nat} {x : α} {p : α → Bool} (h : l[i]? = some x) : at_ l p i = p x := by unfold at_; rw [h]; rfl
theorem got_of {α : Type} {l : List α} {i : Nat} {x : α} {g : α → V} (h : l[i]? = some x) : got l g i = g x := by unfold got; rw [h]; rfl
theorem all_got {α : Type} (l : List α) : (List.range l.length).map (fun i => l[i]?) = l.map some := by
  refine List.ext_getElem? fun i => ?_
  rw [List.getElem?_map, List.getElem?_map]
  by_cases h : i < l.length
  · rw [List.getElem?_range h, List.getElem?_eq_getElem h]
    show some l[i]? = some (some l[i])
    rw [List.getElem?_eq_getElem h]
  · rw [List.getElem?_eq_none (by rw [List.length_range]; omega), List.getElem?_eq_none (by omega)]
    rfl
theorem given_of {α : Type} (l : List α) (p : α → Bool) (g : α → V) : given l.length (at_ l p) (got l g) = (l.filter p).map g := by
  have e1 : given l.length (at_ l p) (got l g) = (((List.range l.length).map fun i => l[i]?).filter fun o => o.elim false p).map fun o => o.elim V.non g := by
    unfold given
    rw [List.filter_map, List.map_map]
    rfl
  rw [e1, all_got, List.filter_map, List.map_map]
  rfl
theorem nth_map {α : Type} {f : α → V} {l : List α} {i : Nat} {x : V} (h : (l.map f)[i]? = some x) : ∃ y, l[i]? = some y ∧ x = f y := by
  rw [List.getElem?_map] at h
  obtain ⟨y, hy, rfl⟩ := Option.map_eq_some_iff.mp h
  exact ⟨y, hy, rfl⟩
section
variable {K : PySem.W.Frag} {σ : L2.St} {H : Hp} {te ta tl : TE} {t : TT} {α : Type}
/-- [e for x in a list if t] -/
theorem el_mapL (f : α → V) {l : List α} {j : Nat} {vs : List Nat} {a : Addr} (p : α → Bool) (g : α → V) (h : Ev tl σ H (.ref a)) (hx : SqL K H a (l.map f)) (hz : l.length ≤ 40000) (hw : ∀ x, wipe ((wipe σ vs).set j (some x)) vs = wipe σ vs)
    (ht : ∀ x ∈ l, ∀ H1, Ex H H1 → EvT t ((wipe σ vs).set j (some (f x))) H1 (p x)) (he : ∀ x ∈ l, ∀ H1, Ex H H1 → p x = true → Ev te ((wipe σ vs).set j (some (f x))) H1 (g x)) : EvL (tLc (iList K tl) (gName j) t te vs) σ H ((l.filter p).map g) := by
  have c := el_lcL (K := K) (σ := σ) (H := H) (t := t) (te := te) (a := a) (xs := l.map f) (tl := tl) (j := j) (vs := vs) (at_ l p) (got l g) h hx (by rw [List.length_map]; exact hz) hw
    (fun i x H1 e hi => by
      obtain ⟨y, hy, rfl⟩ := nth_map hi
      rw [at_of hy]
      exact ht y (List.mem_of_getElem? hy) H1 e)
    (fun i x H1 e hi hf => by
      obtain ⟨y, hy, rfl⟩ := nth_map hi
      rw [at_of hy] at hf
      rw [got_of hy]
      exact he y (List.mem_of_getElem? hy) H1 e hf)
  rw [List.length_map, given_of] at c
  exact c
theorem el_mapNL (f : α → V) {l : List α} {j : Nat} {vs : List Nat} (p : α → Bool) (g : α → V) (h : EvL tl σ H (l.map f)) (hz : l.length ≤ 40000) (hw : ∀ x, wipe ((wipe σ vs).set j (some x)) vs = wipe σ vs)
    (ht : ∀ x ∈ l, ∀ H1, Ex H H1 → EvT t ((wipe σ vs).set j (some (f x))) H1 (p x)) (he : ∀ x ∈ l, ∀ H1, Ex H H1 → p x = true → Ev te ((wipe σ vs).set j (some (f x))) H1 (g x)) : EvL (tLc (iList K tl) (gName j) t te vs) σ H ((l.filter p).map g) := by
  have c := el_lcNL (K := K) (σ := σ) (H := H) (t := t) (te := te) (xs := l.map f) (tl := tl) (j := j) (vs := vs) (at_ l p) (got l g) h (by rw [List.length_map]; exact hz) hw
    (fun i x H1 e hi => by
      obtain ⟨y, hy, rfl⟩ := nth_map hi
      rw [at_of hy]
      exact ht y (List.mem_of_getElem? hy) H1 e)
    (fun i x H1 e hi hf => by
      obtain ⟨y, hy, rfl⟩ := nth_map hi
      rw [at_of hy] at hf
      rw [got_of hy]
      exact he y (List.mem_of_getElem? hy) H1 e hf)
  rw [List.length_map, given_of] at c
  exact c
/-- [e for x in a tuple if t] -/
theorem el_tup {xs : List V} {j : Nat} {vs : List Nat} (f : Nat → Bool) (v : Nat → V) (h : EvTu K tl σ H xs) (hz : xs.length ≤ 40000) (hw : ∀ x, wipe ((wipe σ vs).set j (some x)) vs = wipe σ vs)
    (ht : ∀ (i : Nat) (x : V) H1, Ex H H1 → xs[i]? = some x → EvT t ((wipe σ vs).set j (some x)) H1 (f i)) (he : ∀ (i : Nat) (x : V) H1, Ex H H1 → xs[i]? = some x → f i = true → Ev te ((wipe σ vs).set j (some x)) H1 (v i)) :
    EvL (tLc (iTup K tl) (gName j) t te vs) σ H (given xs.length f v) := fun H0 e Q q => h H0 e _ fun a H1 e1 hx =>
  ⟨a, rfl, ⟨xs, hx⟩, fun Dl hD => lc_it (n := xs.length) (walk_tup (xs := xs)) (Cw H1 f v Dl) ⟨hD, Ex.new hD, upd_same⟩ (fun _ H' _ p => ex_t p.2.1 hx)
    (fun k x H' H'' hk p y => by
      obtain ⟨rfl, hx'⟩ := y
      exact ⟨hw _, cw_turn p (by omega) (ht k x H1 (e.trans e1) hx') fun hf => he k x H1 (e.trans e1) hx' hf⟩)
    (fun H' p => q Dl H' (fresh_back e1 p.1) (e1.trans p.2.1) p.2.2)⟩
theorem el_mapT (f : α → V) {l : List α} {j : Nat} {vs : List Nat} (p : α → Bool) (g : α → V) (h : EvTu K tl σ H (l.map f)) (hz : l.length ≤ 40000) (hw : ∀ x, wipe ((wipe σ vs).set j (some x)) vs = wipe σ vs)
    (ht : ∀ x ∈ l, ∀ H1, Ex H H1 → EvT t ((wipe σ vs).set j (some (f x))) H1 (p x)) (he : ∀ x ∈ l, ∀ H1, Ex H H1 → p x = true → Ev te ((wipe σ vs).set j (some (f x))) H1 (g x)) : EvL (tLc (iTup K tl) (gName j) t te vs) σ H ((l.filter p).map g) := by
  have c := el_tup (K := K) (σ := σ) (H := H) (t := t) (te := te) (xs := l.map f) (tl := tl) (j := j) (vs := vs) (at_ l p) (got l g) h (by rw [List.length_map]; exact hz) hw
    (fun i x H1 e hi => by
      obtain ⟨y, hy, rfl⟩ := nth_map hi
      rw [at_of hy]
      exact ht y (List.mem_of_getElem? hy) H1 e)
    (fun i x H1 e hi hf => by
      obtain ⟨y, hy, rfl⟩ := nth_map hi
      rw [at_of hy] at hf
      rw [got_of hy]
      exact he y (List.mem_of_getElem? hy) H1 e hf)
  rw [List.length_map, given_of] at c
  exact c
/-- [e for i, x in enumerate(a tuple) if t] -/
theorem el_enT {ta : TA} {a : Addr} {xs : List V} {i j : Nat} {vs : List Nat} (f : Nat → Bool) (v : Nat → V) (h : EvA ta σ H [.ref a]) (hx : SqT K H a xs) (hz : xs.length ≤ 40000) (hw : ∀ x y, wipe (((wipe σ vs).set i (some x)).set j (some y)) vs = wipe σ vs)
    (ht : ∀ (k : Nat) (x : V) H1, Ex H H1 → xs[k]? = some x → EvT t (((wipe σ vs).set i (some (.int (k : Int)))).set j (some x)) H1 (f k)) (he : ∀ (k : Nat) (x : V) H1, Ex H H1 → xs[k]? = some x → f k = true → Ev te (((wipe σ vs).set i (some (.int (k : Int)))).set j (some x)) H1 (v k)) :
    EvL (tLc (EnT.iEnumT K ta) (gTup K 2 (gCons (gName i) (gCons (gName j) gNil))) t te vs) σ H (given xs.length f v) := fun H0 e Q q => h H0 e _ fun H1 e1 =>
  ⟨a, xs, rfl, ex_t (e.trans e1) hx, fun Dl hD => lc_it (n := xs.length) (EnT.walk_enumT (ys := xs)) (Cw H1 f v Dl) ⟨hD, Ex.new hD, upd_same⟩ (fun _ H' _ p => ex_t ((e.trans e1).trans p.2.1) hx)
    (fun k x H' H'' hk p y => by
      obtain ⟨T, x1, y1, rfl, hT, rfl, ex, ey⟩ := y
      obtain rfl := Option.some.inj ex
      have e2 := Ex.new (H := H') (o := .tup [.int (k : Nat), y1]) hT
      have p' : Cw H1 f v Dl k (upd H' T (.tup [.int (k : Nat), y1])) := ⟨p.1, p.2.1.trans e2, e2 _ _ p.2.2⟩
      exact ⟨T, _, rfl, st_of upd_same, rfl, _, _, rfl, _, _, rfl, rfl, hw _ _, cw_turn p' (by omega) (ht k y1 H1 (e.trans e1) ey) fun hf => he k y1 H1 (e.trans e1) ey hf⟩)
    (fun H' p => q Dl H' (fresh_back e1 p.1) (e1.trans p.2.1) p.2.2)⟩
end
end K16
namespace K16
open PySem L2 Evl Gr
/-! ### x in a tuple, as data -/
section
variable {X : Cx}
def rInDT (K : PySem.W.Frag) : R2 := fun x y H Q => ∃ d ds, Dp K H x d ∧ Dp K H y (.tuple ds) ∧ SeqAt.shaped d = true ∧ SeqAt.shaped (.tuple ds) = true ∧ Q (.bl (ds.any fun z => PyData.eqv z d)) H
theorem op_inDT (hu : X.A.units + 65 < cLine) : OpR X (compareOp .In) (rInDT X.K) := by
  intro pins s σ H x y v u Q I rx ry h
  obtain ⟨d, ds, hd, he, sd, se, q⟩ := h
  obtain ⟨as, r1⟩ := Dp.reads I d x v hd rx
  obtain ⟨bs, r2⟩ := Dp.reads I (.tuple ds) y u he ry
  exact SeqAt.in_tuple_reads r2 r1 (SeqAt.canLay_of_shaped se) (SeqAt.canLay_of_shaped sd) (PyProof.Rows.room_in_shaped sd hu) ⟨.bl _, H, I, rfl, q⟩
end
/-! ### comprehensions of two clauses, and of dicts -/
section
variable {J J1 : It} {n n1 : Nat} {G G1 : Hp → Prop} {Y Y1 : Nat → Hp → V → Hp → Prop}
theorem lc2_it (w : Walk J n G Y) {g : TG} {tt : TT} {wi1 : TI} {g1 : TG} {tt1 : TT} {te : TE} {vs vs1 : List Nat} {σ : L2.St} {H1 : Hp} {D : Addr} {Qd : Hp → Prop} (Pv : Nat → Hp → Prop) (h0 : Pv 0 (upd H1 D (.lst []))) (hG : ∀ i H, i ≤ n → Pv i H → G H)
    (hs : ∀ i x H H', i < n → Pv i H → Y i H x H' → g x (wipe σ vs) H' fun σ2 H2 => wipe σ2 vs = wipe σ vs ∧ tt σ2 H2 fun b H3 =>
      if b = true then wi1 σ2 H3 fun J1 H4 => ∃ W1 : Nat → Nat → Hp → Prop, (∃ m, W1 0 m H4) ∧ ∀ j k H, W1 j k H →
        (J1.stop j H ∧ Pv (i + 1) H) ∨ (J1.go j H ∧ ∃ Nx1 : Hp → Prop, (∀ H', Nx1 H' → ∃ k', k' < k ∧ W1 (j + 1) k' H') ∧ ∀ x H', J1.yld j H x H' → g1 x (wipe σ2 vs1) H' fun σ3 H5 => wipe σ3 vs1 = wipe σ2 vs1 ∧ tt1 σ3 H5 fun b H6 =>
          if b = true then te σ3 H6 fun y H7 => ∃ acc, H7 D = some (.lst acc) ∧ acc.length < sizeLine ∧ Nx1 (upd H7 D (.lst (acc ++ [y]))) else Nx1 H6)
      else Pv (i + 1) H3) (hd : ∀ H, Pv n H → Qd H) :
    ∃ W : Nat → Nat → Hp → Prop, (∃ m, W 0 m (upd H1 D (.lst []))) ∧ ∀ i m H, W i m H →
      (J.stop i H ∧ Qd H) ∨ (J.go i H ∧ ∃ Nx : Hp → Prop, (∀ H', Nx H' → ∃ m', m' < m ∧ W (i + 1) m' H') ∧ ∀ x H', J.yld i H x H' → g x (wipe σ vs) H' fun σ2 H2 => wipe σ2 vs = wipe σ vs ∧ tt σ2 H2 fun b H3 =>
        if b = true then wi1 σ2 H3 fun J1 H4 => ∃ W1 : Nat → Nat → Hp → Prop, (∃ m, W1 0 m H4) ∧ ∀ j k H, W1 j k H →
          (J1.stop j H ∧ Nx H) ∨ (J1.go j H ∧ ∃ Nx1 : Hp → Prop, (∀ H', Nx1 H' → ∃ k', k' < k ∧ W1 (j + 1) k' H') ∧ ∀ x H', J1.yld j H x H' → g1 x (wipe σ2 vs1) H' fun σ3 H5 => wipe σ3 vs1 = wipe σ2 vs1 ∧ tt1 σ3 H5 fun b H6 =>
            if b = true then te σ3 H6 fun y H7 => ∃ acc, H7 D = some (.lst acc) ∧ acc.length < sizeLine ∧ Nx1 (upd H7 D (.lst (acc ++ [y]))) else Nx1 H6)
        else Nx H3) := by
  refine ⟨fun i m H => m = n - i ∧ i ≤ n ∧ Pv i H, ⟨n, by simp, Nat.zero_le _, h0⟩, fun i m H ⟨em, hi, p⟩ => ?_⟩
  subst em
  have q := hG i H hi p
  rcases Nat.lt_or_ge i n with lt | ge
  · exact .inr ⟨w.goes i H lt q, Pv (i + 1), fun H' p' => ⟨n - (i + 1), by omega, rfl, lt, p'⟩, fun x H' y => hs i x H H' lt p (w.yields i H x H' lt q y)⟩
  · obtain rfl : i = n := by omega
    exact .inl ⟨w.stops H q, hd H p⟩
theorem in2_it (w : Walk J1 n1 G1 Y1) {g1 : TG} {tt1 : TT} {te : TE} {vs1 : List Nat} {σ2 : L2.St} {H4 : Hp} {D : Addr} {Nx : Hp → Prop} (Qv : Nat → Hp → Prop) (h0 : Qv 0 H4) (hG : ∀ i H, i ≤ n1 → Qv i H → G1 H)
    (hs : ∀ i x H H', i < n1 → Qv i H → Y1 i H x H' → g1 x (wipe σ2 vs1) H' fun σ3 H5 => wipe σ3 vs1 = wipe σ2 vs1 ∧ tt1 σ3 H5 fun b H6 =>
      if b = true then te σ3 H6 fun y H7 => ∃ acc, H7 D = some (.lst acc) ∧ acc.length < sizeLine ∧ Qv (i + 1) (upd H7 D (.lst (acc ++ [y]))) else Qv (i + 1) H6) (hd : ∀ H, Qv n1 H → Nx H) :
    ∃ W1 : Nat → Nat → Hp → Prop, (∃ m, W1 0 m H4) ∧ ∀ j k H, W1 j k H →
      (J1.stop j H ∧ Nx H) ∨ (J1.go j H ∧ ∃ Nx1 : Hp → Prop, (∀ H', Nx1 H' → ∃ k', k' < k ∧ W1 (j + 1) k' H') ∧ ∀ x H', J1.yld j H x H' → g1 x (wipe σ2 vs1) H' fun σ3 H5 => wipe σ3 vs1 = wipe σ2 vs1 ∧ tt1 σ3 H5 fun b H6 =>
        if b = true then te σ3 H6 fun y H7 => ∃ acc, H7 D = some (.lst acc) ∧ acc.length < sizeLine ∧ Nx1 (upd H7 D (.lst (acc ++ [y]))) else Nx1 H6) := by
  refine ⟨fun i m H => m = n1 - i ∧ i ≤ n1 ∧ Qv i H, ⟨n1, by simp, Nat.zero_le _, h0⟩, fun i m H ⟨em, hi, p⟩ => ?_⟩
  subst em
  have q := hG i H hi p
  rcases Nat.lt_or_ge i n1 with lt | ge
  · exact .inr ⟨w.goes i H lt q, Qv (i + 1), fun H' p' => ⟨n1 - (i + 1), by omega, rfl, lt, p'⟩, fun x H' y => hs i x H H' lt p (w.yields i H x H' lt q y)⟩
  · obtain rfl : i = n1 := by omega
    exact .inl ⟨w.stops H q, hd H p⟩
theorem dc_it (w : Walk J n G Y) {g : TG} {tt : TT} {tk tv : TE} {vs : List Nat} {σ : L2.St} {H1 : Hp} {D : Addr} {Qd : Hp → Prop} (Pv : Nat → Hp → Prop) (h0 : Pv 0 (upd H1 D (.dK []))) (hG : ∀ i H, i ≤ n → Pv i H → G H)
    (hs : ∀ i x H H', i < n → Pv i H → Y i H x H' → g x (wipe σ vs) H' fun σ2 H2 => wipe σ2 vs = wipe σ vs ∧ tt σ2 H2 fun b H3 =>
      if b = true then tk σ2 H3 fun y H4 => tv σ2 H4 fun z H5 => ∃ kvs k, y = kV k ∧ H5 D = some (.dK kvs) ∧ kvs.length < sizeLine ∧ Pv (i + 1) (upd H5 D (.dK (putK kvs k z))) else Pv (i + 1) H3) (hd : ∀ H, Pv n H → Qd H) :
    ∃ W : Nat → Nat → Hp → Prop, (∃ m, W 0 m (upd H1 D (.dK []))) ∧ ∀ i m H, W i m H →
      (J.stop i H ∧ Qd H) ∨ (J.go i H ∧ ∃ Nx : Hp → Prop, (∀ H', Nx H' → ∃ m', m' < m ∧ W (i + 1) m' H') ∧ ∀ x H', J.yld i H x H' → g x (wipe σ vs) H' fun σ2 H2 => wipe σ2 vs = wipe σ vs ∧ tt σ2 H2 fun b H3 =>
        if b = true then tk σ2 H3 fun y H4 => tv σ2 H4 fun z H5 => ∃ kvs k, y = kV k ∧ H5 D = some (.dK kvs) ∧ kvs.length < sizeLine ∧ Nx (upd H5 D (.dK (putK kvs k z))) else Nx H3) := by
  refine ⟨fun i m H => m = n - i ∧ i ≤ n ∧ Pv i H, ⟨n, by simp, Nat.zero_le _, h0⟩, fun i m H ⟨em, hi, p⟩ => ?_⟩
  subst em
  have q := hG i H hi p
  rcases Nat.lt_or_ge i n with lt | ge
  · exact .inr ⟨w.goes i H lt q, Pv (i + 1), fun H' p' => ⟨n - (i + 1), by omega, rfl, lt, p'⟩, fun x H' y => hs i x H H' lt p (w.yields i H x H' lt q y)⟩
  · obtain rfl : i = n := by omega
    exact .inl ⟨w.stops H q, hd H p⟩
end
end K16
/-! an error that was caught, kept in a name behind its suite: isinstance of it, its fields -/
namespace EXC
open PySem PySem.Spec PyProof.Rows L2
/-- a caught error at a: its class, its own dict -/
def ExC (cls : Value) (d : Option Addr) (a : Addr) : HO := .ext fun h => ∃ (oe : Obj) (vs : Array Value), h.get? a = some oe ∧ Zc cls d oe ∧ oe.data = .fields vs
theorem exC_ok {P : Program} {w : World} {H : Hp} {h : Heap} {a : Addr} {cls : Value} {d : Option Addr} {oe : Obj} {vs : Array Value} (e : h.get? a = some oe) (z : Zc cls d oe) (hd : oe.data = .fields vs) : ObjOk P w H h a (ExC cls d a) :=
  ⟨⟨oe, vs, e, z, hd⟩, ⟨oe, e⟩, fun _ _ ⟨o, v, q, r⟩ k => ⟨o, v, k o q, r⟩⟩
section
variable {X : Cx} {pins : List (Addr × Obj)} {σ : L2.St} {H : Hp} {s : Shared} {a : Addr} {o : HO}
/-- what stands there untracked, and did not stand at the entry, is tracked from now on -/
theorem Inv.track {oe : Obj} {vs : Array Value} (I : Inv X pins σ H s) (here : s.heap.get? a = some oe) (hd : oe.data = .fields vs) (n : H a = none) (n0 : X.s_0.heap.get? a = none) (nL : a ≠ X.env.locals) (nP : ∀ p ∈ X.pn ++ pins, p.1 ≠ a)
    (ok : ObjOk X.prog X.w (upd H a o) s.heap a o) : Inv X pins σ (upd H a o) s := by
  have off : ∀ b, b ≠ a → upd H a o b = H b := fun b hb => upd_ne hb
  have ne0 : ∀ b u, X.s_0.heap.get? b = some u → b ≠ a := fun b u e z => by rw [z, n0] at e; cases e
  have neS : ∀ b u, H b = some u → b ≠ a := fun b u e z => by rw [z, n] at e; cases e
  have base : Un X.fs X.ex X.H_0 (upd H a o) X.s_0.heap s.heap := {
    keep := I.base.keep
    slot := I.base.slot
    free := fun b u e m x => by rw [off b (ne0 b u e)]; exact I.base.free b u e m x
    there := I.base.there
    tups := fun b xs e => by
      have q := I.base.tups b xs e
      rw [off b (neS b _ q)]; exact q
    frzs := fun b u v e => by
      have q := I.base.frzs b u v e
      rw [off b (neS b _ q)]; exact q
    tbls := fun b ps e => by
      obtain ⟨m, q⟩ := I.base.tbls b ps e
      exact ⟨m, by rw [off b (neS b _ q)]; exact q⟩ }
  refine ⟨I.ok, I.os, I.bare, base, I.loc, I.cell, ?_, fun x c e => ?_, fun p hp => ?_, I.hok.laidN (fun _ _ e => e) n ok, I.len⟩
  · rw [off _ nL.symm]; exact I.free
  · have ne : c ≠ a := fun z => by
      obtain ⟨v, oc, hc, hv⟩ := I.cell x c e
      rw [z, here] at hc
      cases hc
      rw [hd] at hv
      cases hv
    rw [off _ ne]
    exact I.freeC x c e
  · obtain ⟨q1, q2, q3⟩ := I.pin p hp
    exact ⟨q1, by rw [off _ (nP p hp)]; exact q2, q3⟩
end
/-- what the clause 'except x as n' (n in slot i) wishes of each error of the body; behind it the error is kept -/
def wHeld (K : PySem.W.Frag) (c : Value) (i : Nat) (ts : Addr → Value → Option Addr → TS) (D : Ends) : WX := fun cls d σ H => PySem.W.exmOne K cls c = some true ∧
  ∀ a, H a = none → ts a cls d { nx := fun σ2 H2 => D.nx (σ2.set i none) (upd H2 a (ExC cls d a)), rt := fun _ _ => False, bk := fun _ _ => False, ct := fun _ _ => False } (σ.set i (some (.ref a))) H
section
variable {X : Cx} {x n : Str} {c : Value} {i : Nat} {body suite : List Stmt} {b₀ : Stmt} {np pos pos' : Pos} {tb : WX → TS} {ts : Addr → Value → Option Addr → TS}
theorem ps_try_held (hs : X.stack = X.env :: X.outer) (hf : X.env.frame = some X.env.locals) (hex : X.ex = []) (nd : X.N.Nodup) (at_i : X.N[i]? = some n) (loc : X.env.kindOf n = some .local) (hc : Names X x c)
    (hb : ∀ (W : WX) (pn : List (Addr × Obj)) (xe : Value → Shared → Prop), Takes (X.tr pn xe) W → PassesOwn (model X.prog X.w) X.A X.env xe → PSs (X.tr pn xe) body (tb W))
    (hsu : ∀ (a : Addr) (oe : Obj) (cls : Value) (d : Option Addr) (pn : List (Addr × Obj)), Zc cls d oe → (∃ vs, oe.data = .fields vs) → PSs (X.suite a ((a, oe) :: pn)) (b₀ :: suite) (ts a cls d)) :
    PS X (.Try body [.ExceptHandler (some (.Name x np)) (some n) (b₀ :: suite) pos'] [] [] pos) (fun D σ H => tb (wHeld X.K c i ts D) D σ H) := by
  refine ⟨fun pins s σ H D I h => ?_⟩
  have ok := I.ok
  have frames : X.A.frames = some (X.env :: X.outer) := ok.frames.trans (congrArg some hs)
  let catch' : Value → Shared → Prop := fun e s1 => wpAny (model X.prog X.w) X.A (noteFrame e X.env) (fun _ s2 => wpAny (model X.prog X.w) X.A (setFlight e none) (fun _ s3 =>
    wpAny (model X.prog X.w) X.A (handleBy e X.env [.ExceptHandler (some (.Name x np)) (some n) (b₀ :: suite) pos']) (SP X pins D) X.xe s3) X.xe s2) X.xe s1
  have takes : Takes (X.tr (X.pn ++ pins) catch') (wHeld X.K c i ts D) := by
    rintro u s' ⟨a, B, sI, ps, σ1, H1, cls, d, rfl, J0, nb, up, sky, na, os, ag, hit, next⟩
    have J : Inv X pins σ1 H1 sI := J0.ofTry ok
    rw [show (X.tr (X.pn ++ pins) catch').stack = X.env :: X.outer from hs] at sky
    show wpAny (model X.prog X.w) X.A (noteFrame (.ref a) X.env) _ _ _
    refine Sky.land Zc.steady frames hf sky fun h3 fl3 up3 => ?_
    have J3 : Inv X pins σ1 H1 { s' with heap := h3 } := J.landed nb (by exact fl3.1) (up.trans up3) os ag
    obtain ⟨o3, f3, g3, z3, d3⟩ := fl3.there
    have apart : a ∉ frs (X.env :: X.outer) := fun hm => by
      obtain ⟨_, o, e, hno⟩ := fl3.2.2.1.mem hm
      rw [g3] at e
      cases e
      exact hno _ d3
    have nL : a ≠ X.env.locals := fun z => apart (List.mem_filterMap.mpr ⟨X.env, List.mem_cons_self, by rw [hf, z]⟩)
    have nF : a ∉ X.fs := fun hm => by
      obtain ⟨e, he, q⟩ := List.mem_filterMap.mp hm
      exact apart (List.mem_filterMap.mpr ⟨e, List.mem_cons_of_mem _ he, q⟩)
    have new : sI.heap.get? a = none := by
      cases q : sI.heap.get? a with
      | none => rfl
      | some o =>
        have z := nb a o q (by rw [show (X.tr (X.pn ++ pins) catch').stack = X.env :: X.outer from hs]; exact apart)
        rw [fl3.2.1] at z
        cases z
    have new0 : X.s_0.heap.get? a = none := by
      cases q : X.s_0.heap.get? a with
      | none => rfl
      | some o =>
        obtain ⟨o2, z⟩ := J.base.there a o q (by rw [hex]; exact List.not_mem_nil)
        rw [new] at z
        cases z
    have unpinned : ∀ p ∈ X.pn ++ pins, p.1 ≠ a := fun p hp z => by
      have q := (J.pin p hp).1
      rw [z, new] at q
      cases q
    have S3 := J3.suite g3 d3 na nL nF
    refine wpAny_handleBy_cons (codeAny_handlers_test ?_) (by intro q; cases q)
    have looks : PySem.W.Looks (model X.prog X.w) h3 (typeOf (.ref a)) cls := fun _ _ _ _ k q => wpAny_typeOf_ref (k _ _ g3) (by rw [z3.1]; exact q)
    have hits := PySem.W.exm_one (M := model X.prog X.w) J3.kIn looks hit
    have named : ∀ {Q E : Value → Shared → Prop}, Q c { s' with heap := h3 } → wpAny (model X.prog X.w) (X.A.mark (some (.ref a))) (eval (.Name x np) X.env) Q E { s' with heap := h3 } := fun {Q E} q => by
      obtain ⟨g, nodbg, m | ⟨m, v, w⟩⟩ := hc
      · exact ld_glob (X := X.suite a ((a, o3) :: (X.pn ++ pins))) S3 g m q nodbg
      · exact ld_blt (X := X.suite a ((a, o3) :: (X.pn ++ pins))) S3 g m v q w nodbg
    refine named (hits.here (codeAny_handlers_suite_as (HandSPX.lands_againZ fl3 fun h4 fl4 up4 => ?_)))
    have J4 : Inv X pins σ1 H1 { s' with heap := h4 } := J.landed nb (by exact fl4.1) ((up.trans up3).trans up4) os ag
    obtain ⟨o4, f4, g4, z4, d4⟩ := fl4.there
    refine store_ok (X := X.suite a ((a, o4) :: (X.pn ++ pins))) (v := .ref a) (J4.suite g4 d4 na nL nF) nd at_i (.inl loc) rfl (fun s5 S5 => ?_) (.inr loc)
    refine wpAny_mono ((hsu a o4 cls d (X.pn ++ pins) z4 ⟨_, d4⟩).run [] s5 _ H1 _ S5 (next a na)) (fun fl s6 back => ?_) (fun _ _ z => z.elim)
    cases fl with
    | next =>
      obtain ⟨σ6, H6, S6, q6⟩ := back
      refine gone_ok (X := X.suite a ((a, o4) :: (X.pn ++ pins))) S6 nd at_i loc fun s7 S7 => ?_
      obtain ⟨p1, p2, _⟩ := S7.pin (a, o4) (List.mem_append_left _ List.mem_cons_self)
      exact ⟨_, _, Inv.track (S7.unsuite ok) p1 d4 p2 new0 nL unpinned (exC_ok p1 z4 d4), q6⟩
    | brk =>
      obtain ⟨_, _, _, z⟩ := back
      exact False.elim z
    | cont =>
      obtain ⟨_, _, _, z⟩ := back
      exact False.elim z
    | ret u =>
      obtain ⟨_, _, _, _, _, z⟩ := back
      exact False.elim z
  refine wpAny_Try_except (wpAny_mono ((hb _ _ catch' takes PassesOwn.looking).run [] s σ H D (I.toTry _) h) (fun fl s1 back => ?_) fun _ _ z => z)
  cases fl with
  | next =>
    obtain ⟨σ1, H1, J, q⟩ := back
    exact wpAny_execs_nil ⟨σ1, H1, J.ofTry ok, q⟩
  | brk =>
    obtain ⟨σ1, H1, J, q⟩ := back
    exact ⟨σ1, H1, J.ofTry ok, q⟩
  | cont =>
    obtain ⟨σ1, H1, J, q⟩ := back
    exact ⟨σ1, H1, J.ofTry ok, q⟩
  | ret u =>
    obtain ⟨v, σ1, H1, J, r, q⟩ := back
    exact ⟨v, σ1, H1, J.ofTry ok, r, q⟩
end
/-! ### isinstance of it, a field of it -/
def Dct (H : Hp) (d : Option Addr) : Prop := ∀ dd, d = some dd → ∃ fs, H dd = some (.xd fs)
theorem inst_of {X : Cx} {pins : List (Addr × Obj)} {σ : L2.St} {H : Hp} {s : Shared} {a C : Addr} {d : Option Addr} (I : Inv X pins σ H s) (ha : H a = some (ExC (.ref C) d a)) (hd : Dct H d) : ∃ ox od, PySem.W.InstAt s.heap a ox C od := by
  obtain ⟨⟨oe, vs, ho, hz, hf⟩, _, _⟩ := I.hok a _ ha
  have nc : PySem.W.notCls oe = true := by unfold PySem.W.notCls; rw [hf]
  cases d with
  | none => exact ⟨oe, none, ho, hz.1, nc, by rw [hz.2]; exact True.intro⟩
  | some dd =>
    obtain ⟨fs, e⟩ := hd dd rfl
    obtain ⟨mA, hns, _⟩ := (show ObjOk X.prog X.w H s.heap dd (.xd fs) from I.hok dd _ e)
    obtain ⟨od, hod, _⟩ := lookIn_ns hns
    exact ⟨oe, some od, ho, hz.1, nc, by rw [hz.2]; exact hod⟩
structure XcC (K : PySem.W.Frag) (C : Addr) : Prop where
  hcl : (PySem.W.clsIn K C).isSome = true
  hga : PySem.W.findIn K (.ref C) "__getattribute__" = some (some (.builtin "BaseException.__getattribute__"))
  hgt : PySem.W.findIn K (.ref C) "__getattr__" = some none
  hsub : PySem.W.subIn K (.ref C) (.type "BaseException") = some true
  hdct : PySem.W.hasDictIn K C = true
  ha : PySem.W.findIn K (.ref C) "__class__" = some (some (.builtin "object.__class__"))
  hn : PySem.W.specialIn K (.builtin "object.__class__") "__get__" = some (some (.builtin "getset_descriptor.__get__"))
  htk : PySem.W.takesIn K (.builtin "object.__class__") = some true
  hm : PySem.W.mroIn K C (.type "object") = some true
def rXc (K : PySem.W.Frag) : List V → Hp → VK → Prop := fun xs H Q => ∃ (a C : Addr) (d : Option Addr) (c : V) (u : Value) (b : Bool), xs = [.ref a, c] ∧ ClsV c u ∧ H a = some (ExC (.ref C) d a) ∧ Dct H d ∧ XcC K C ∧ PySem.W.kitOne K (.ref C) u = some b ∧ Q (.bl b) H
theorem call_xc {X : Cx} : CallR X (.builtin "isinstance") (rXc X.K) := by
  intro pins s σ H xs us Q I r h
  obtain ⟨a, C, d, c, u, b, rfl, k, xa, xd, T, e, q⟩ := h
  obtain ⟨u1, u2, rfl, r1, r2⟩ := vals2 r
  have e2 := k.eq r2
  subst e2
  obtain rfl : u1 = Value.ref a := r1
  obtain ⟨ox, od, J⟩ := inst_of I xa xd
  exact PySem.W.kia_one (PySem.W.kitx_exc T.hcl T.hga T.hgt T.hsub T.ha T.hn T.htk T.hm) I.kIn J e (fun z => nomatch z) fun tk => ⟨.bl b, H, I.tok tk, rfl, q⟩
/-- e.f, e a caught error -/
def tXcF (K : PySem.W.Frag) (f : Str) (te : TE) : TE := fun σ H Q => te σ H fun x H1 => ∃ (a C d : Addr) (fs : List (Str × V)) (v : V), x = .ref a ∧ H1 a = some (ExC (.ref C) (some d) a) ∧ H1 d = some (.xd fs) ∧ XcC K C ∧ PySem.W.findIn K (.ref C) f = some none ∧ fs.lookup f = some v ∧ Q v H1
theorem pe_xcF {X : Cx} {e : Expr} {te : TE} {pos : Pos} {n : Str} (he : PE X e te) (hb : attributeBase e n X.env (eval e X.env) = eval e X.env := by rfl) : PE X (.Attribute e n pos) (tXcF X.K n te) := by
  refine ⟨fun pins s σ H Q I h => attr_of hb (thn (he.run pins s σ H _ I h) fun u s1 ⟨x, H1, J, rx, a, C, d, fs, v, ex, ea, ed, T, own, l, q⟩ => ?_)⟩
  subst ex
  obtain rfl : u = Value.ref a := rx
  obtain ⟨⟨oe, vs, ho, hz, hf⟩, _, _⟩ := J.hok a _ ea
  obtain ⟨mA, hns, rel⟩ := (show ObjOk X.prog X.w H1 s1.heap d (.xd fs) from J.hok d _ ed)
  obtain ⟨od, hod, found⟩ := lookIn_ns hns
  obtain ⟨u2, hu, ru⟩ := RelO.some_of (v := v) (o := mA n) (l ▸ rel n)
  have at_ : PySem.W.InstAt s1.heap a oe C (some od) := ⟨ho, hz.1, by unfold PySem.W.notCls; rw [hf], by rw [hz.2]; exact hod⟩
  exact HandSPX.exc_get J.kIn at_ T.hga T.hgt T.hsub (PySem.W.findObj_own T.hdct own rfl (by rw [found, hu])) (handed_of ru) ⟨v, H1, J.tok _, ru, q⟩
end EXC
namespace K16
open PySem L2 Evl
abbrev sCls (i : Nat) : Stmt := inClass (top i) 0
/-- what the written part says of an error class x, PostError at B -/
structure CB (K : PySem.W.Frag) (x : Str) (C B : Addr) : Prop where
  aC : PySem.W.nsIn K mainGlobals x = some (some (.ref C))
  xL : ∃ nm q N bs sn sub ab col dd k0 k1 k2 k3 k5, K.lookup C = some (excClassObj nm q C N bs [.ref B, .type "ValueError", .type "Exception", .type "BaseException", .type "object"] true sn sub ab col dd k0 k1 k2 k3 k5 "ValueError.__new__")
  sa : PySem.W.findIn K (.ref C) "__setattr__" = some (some (.builtin "object.__setattr__"))
  ga : PySem.W.findIn K (.ref C) "__getattribute__" = some (some (.builtin "BaseException.__getattribute__"))
  gg : PySem.W.findIn K (.ref C) "__getattr__" = some none
  cc : PySem.W.findIn K (.ref C) "__class__" = some (some (.builtin "object.__class__"))
  tC : PySem.W.typeIn K (.ref C) = some (.type "type")
  kC : PySem.W.keepIn K (.ref C) = true
/-- .. and of its __init__, the def st -/
structure CF (K : PySem.W.Frag) (x qual : Str) (st : Stmt) (C f B : Addr) : Prop where
  b : CB K x C B
  a1 : PySem.W.findIn K (.ref C) "__init__" = some (some (.ref f))
  l1 : ∃ (oc : Value) (od : Option Addr) (kV doc pm : Value) (an : Option Addr) (cdv ct : Value) (osl : Array (Option Value)),
    K.lookup f = some ⟨oc, od, .func (PySem.W.fnOf "__init__" qual (defArgs st) (defBody st) (defScope st) .none kV doc pm an cdv ct), osl⟩ ∧ PySem.W.codeIn K cdv qual = true
  k1 : PySem.W.keepIn K (.ref f) = true
  t1 : PySem.W.typeIn K (.ref f) = some (.type "function")
structure CG (K : PySem.W.Frag) : Prop where
  sp : PySem.W.specialIn K (.builtin "object.__class__") "__get__" = some (some (.builtin "getset_descriptor.__get__"))
  tk : PySem.W.takesIn K (.builtin "object.__class__") = some true
section
variable {K : PySem.W.Frag} {x qual : Str} {st : Stmt} {C f B : Addr}
theorem CB.cls (T : CB K x C B) : ∃ cd, PySem.W.clsIn K C = some cd ∧ cd.mro = [.ref C, .ref B, .type "ValueError", .type "Exception", .type "BaseException", .type "object"] ∧ cd.hasDict = true := by
  obtain ⟨nm, q, N, bs, sn, sub, ab, col, dd, k0, k1, k2, k3, k5, h⟩ := T.xL
  refine ⟨{ name := nm, bases := bs, mro := .ref C :: [.ref B, .type "ValueError", .type "Exception", .type "BaseException", .type "object"], ns := N, qualname := q, hasDict := true, slotNames := sn, subclasses := sub, abstract := ab, collection := col, hasDel := false }, ?_, rfl, rfl⟩
  unfold PySem.W.clsIn
  rw [h] <;> rfl
theorem CB.mro (T : CB K x C B) (v : Value) : PySem.W.mroIn K C v = some ([Value.ref C, .ref B, .type "ValueError", .type "Exception", .type "BaseException", .type "object"].contains v) := by
  obtain ⟨cd, h1, h2, _⟩ := T.cls
  unfold PySem.W.mroIn
  rw [h1, Option.bind_some, h2]
  rfl
theorem CB.ox (T : CB K x C B) : OexC K C := by
  obtain ⟨nm, q, N, bs, sn, sub, ab, col, dd, k0, k1, k2, k3, k5, h⟩ := T.xL
  exact ⟨⟨nm, q, N, bs, _, sn, sub, ab, col, dd, k0, k1, k2, k3, k5, h, rfl⟩, T.sa, (T.mro _).trans (by rfl), T.tC, T.kC⟩
theorem CB.hd (T : CB K x C B) : PySem.W.hasDictIn K C = true := by
  obtain ⟨cd, h1, h2, h3⟩ := T.cls
  unfold PySem.W.hasDictIn
  rw [h1]
  first | exact h3 | (simp [h3])
theorem CB.xf (T : CB K x C B) : XfC K C := ⟨T.ga, T.gg, (T.mro _).trans (by rfl), T.hd⟩
theorem CB.xc (T : CB K x C B) (G : CG K) : EXC.XcC K C := by
  obtain ⟨cd, h1, _⟩ := T.cls
  exact ⟨by rw [h1]; rfl, T.ga, T.gg, (T.mro _).trans (by rfl), T.hd, T.cc, G.sp, G.tk, (T.mro _).trans (by rfl)⟩
theorem CB.caught (T : CB K x C B) (h1 : PySem.W.subIn K (.ref B) (.type "BaseException") = some true) (h2 : PySem.W.hasDictIn K B = true) (h3 : PySem.W.typeIn K (.ref B) = some (.type "type")) : PySem.W.exmOne K (.ref C) (.ref B) = some true :=
  PySem.W.exm_ref h1 h2 h3 ((T.mro _).trans (by simp))
theorem CF.fn (T : CF K x qual st C f B) : ∃ fd, Fun K "__init__" qual st f fd := by
  obtain ⟨oc, od, kV, doc, pm, an, cdv, ct, osl, h1, h2⟩ := T.l1
  exact ⟨_, fun_mk h1 h2 T.k1⟩
theorem eq_ref (a b : Addr) : (Value.ref a == Value.ref b) = decide (a = b) := by
  by_cases h : a = b
  · subst h
    simp
  · rw [decide_eq_false h]
    exact beq_eq_false_iff_ne.mpr fun z => h (Value.ref.inj z)
/-- isinstance of an instance of C, for another error class D -/
theorem CB.kit {x' : Str} {D : Addr} (T : CB K x C B) (U : CB K x' D B) (h : D ≠ B) : PySem.W.kitOne K (.ref C) (.ref D) = some (decide (D = C)) := by
  unfold PySem.W.kitOne PySem.W.kitCls
  by_cases e : C = D
  · subst e
    rw [if_pos (by simp), decide_eq_true rfl]
  · have e1 : (Value.ref C == Value.ref D) = false := by rw [eq_ref, decide_eq_false e]
    obtain ⟨cd, h1, _⟩ := U.cls
    rw [e1, if_neg Bool.false_ne_true]
    simp only [h1, U.tC, Option.isSome_some, beq_self_eq_true, Bool.and_self, if_true]
    refine (T.mro _).trans ?_
    rw [decide_eq_false (fun z => e z.symm)]
    simp [Ne.symm e, h, Ne.symm h]
theorem CB.kitB' (T : CB K x C B) (hB : ∃ cd, PySem.W.clsIn K B = some cd) (tB : PySem.W.typeIn K (.ref B) = some (.type "type")) : PySem.W.kitOne K (.ref C) (.ref B) = some true := by
  unfold PySem.W.kitOne PySem.W.kitCls
  by_cases e : C = B
  · subst e
    rw [if_pos (by simp)]
  · have e1 : (Value.ref C == Value.ref B) = false := by rw [eq_ref, decide_eq_false e]
    obtain ⟨cd, h1⟩ := hB
    rw [e1, if_neg Bool.false_ne_true]
    simp only [h1, tB, Option.isSome_some, beq_self_eq_true, Bool.and_self, if_true]
    refine (T.mro _).trans ?_
    simp
theorem CB.kitV (T : CB K x C B) : PySem.W.kitOne K (.ref C) (.type "ValueError") = some true := by
  unfold PySem.W.kitOne PySem.W.kitCls
  rw [if_neg (by simp)]
  show (if PySem.W.kitMeta "ValueError" = true then PySem.W.subIn K (.ref C) (.type "ValueError") else none) = some true
  rw [if_pos (by decide +kernel)]
  exact (T.mro _).trans (by rfl)
end
/-! ### __init__ of one field, of two -/
def spI1 (C : Addr) (n : Str) : Sp := fun vs H Q _ => ∃ (a : Addr) (v : V), vs = [.ref a, v] ∧ H a = some (exo a C none) ∧ ∀ d, H d = none → d ≠ a → Q .non (upd (upd H d (exd d [(n, v)])) a (exo a C (some d)))
def spI2 (C : Addr) (n m : Str) : Sp := fun vs H Q _ => ∃ (a : Addr) (v u : V), vs = [.ref a, v, u] ∧ H a = some (exo a C none) ∧ ∀ d, H d = none → d ≠ a → Q .non (upd (upd (upd H d (exd d [(n, v)])) a (exo a C (some d))) d (exd d [(m, u), (n, v)]))
section
variable {P : Program} {w : World} {K : PySem.W.Frag} {mg : Str → Option Value} {base : Heap}
theorem ok_I1 {x qual : Str} {st : Stmt} {C f B : Addr} {fd : FuncData} {n : Str} {p1 p2 p3 p4 : PySem.Pos} (T : CF K x qual st C f B) (F : Fun K "__init__" qual st f fd) (S : FnScope ["self", n] ["self", n] (defScope st)) (hb : defBody st = [Stmt.Assign [.Attribute (.Name "self" p1) n p2] (.Name n p3) p4])
    (l1 : (defScope st).names.lookup ("self" : Str) = some .local) (l2 : (defScope st).names.lookup n = some .local) (hd : (n == ("__debug__" : Str)) = false) (hcd : (n == ("__classdict__" : Str)) = false)
    (hno : PySem.W.findIn K (.ref C) n = some none) : FnOk P w K mg base CX0 1 f fd ["self", n] (spI1 C n) := by
  refine F.ok S (fun vs H Q E h => ?_) (fun cdv A outer s H vs Q E hr h => ?_)
  · obtain ⟨a, v, rfl, _⟩ := h
    rfl
  · obtain ⟨a, v, rfl, ha, k⟩ := h
    rw [hb]
    refine ⟨_, pss_one (ps_ost (pv 0 rfl (.inl l1)) (pv 1 rfl (.inl l2) hd hcd)), ?_⟩
    exact ⟨v, rfl, .ref a, rfl, a, C, rfl, T.b.ox, hno, .inl ⟨ha, fun d hd hda => k d hd hda⟩⟩
theorem ok_I2 {x qual : Str} {st : Stmt} {C f B : Addr} {fd : FuncData} {n m : Str} {p1 p2 p3 p4 q1 q2 q3 q4 : PySem.Pos} (T : CF K x qual st C f B) (F : Fun K "__init__" qual st f fd) (S : FnScope ["self", n, m] ["self", n, m] (defScope st))
    (hb : defBody st = [Stmt.Assign [.Attribute (.Name "self" p1) n p2] (.Name n p3) p4, Stmt.Assign [.Attribute (.Name "self" q1) m q2] (.Name m q3) q4])
    (l1 : (defScope st).names.lookup ("self" : Str) = some .local) (l2 : (defScope st).names.lookup n = some .local) (l3 : (defScope st).names.lookup m = some .local) (hd : (n == ("__debug__" : Str)) = false) (hcd : (n == ("__classdict__" : Str)) = false) (hd2 : (m == ("__debug__" : Str)) = false) (hcd2 : (m == ("__classdict__" : Str)) = false)
    (hno : PySem.W.findIn K (.ref C) n = some none) (hno2 : PySem.W.findIn K (.ref C) m = some none) : FnOk P w K mg base CX0 1 f fd ["self", n, m] (spI2 C n m) := by
  refine F.ok S (fun vs H Q E h => ?_) (fun cdv A outer s H vs Q E hr h => ?_)
  · obtain ⟨a, v, u, rfl, _⟩ := h
    rfl
  · obtain ⟨a, v, u, rfl, ha, k⟩ := h
    rw [hb]
    refine ⟨_, pss_cons (ps_ost (pv 0 rfl (.inl l1)) (pv 1 rfl (.inl l2) hd hcd)) (pss_one (ps_ost (pv 0 rfl (.inl l1)) (pv 2 rfl (.inl l3) hd2 hcd2))), ?_⟩
    refine ⟨v, rfl, .ref a, rfl, a, C, rfl, T.b.ox, hno, .inl ⟨ha, fun d hd hda => ?_⟩⟩
    exact ⟨u, rfl, .ref a, rfl, a, C, rfl, T.b.ox, hno2, .inr ⟨d, _, upd_same, by rw [upd_ne hda]; exact upd_same, by show 1 ≤ 900; decide, k d hd hda⟩⟩
end
end K16
namespace K16
open PySem L2 Evl Gr
/-! ### what is let out -/
/-- an error of the class at C with one field goes out -/
def Out1 (C : Addr) (n : Str) (v : V) (H : Hp) (E : XK) : Prop := ∀ d H', H d = none → Ex H H' → H' d = some (.xd [(n, v)]) → E (.ref C) (some d) H'
theorem Out1.mono {C : Addr} {n : Str} {v : V} {H H' : Hp} {E : XK} (e : Ex H H') (h : Out1 C n v H E) : Out1 C n v H' E := fun d H2 hd e2 h2 => h d H2 (fresh_back e hd) (e.trans e2) h2
theorem raise_one {C : Addr} {n : Str} {σ : L2.St} {H : Hp} {E : XK} {v : V} {ta : TA} (h : EvA ta σ H [v]) (b : Out1 C n v H E) : tMkO C (spI1 C n) [] ta σ H (fun cls d H' => E cls d H') :=
  h H (Ex.refl H) _ fun H1 e1 => ⟨by show 1 ≤ 1000; decide, fun a ha => ⟨a, v, rfl, upd_same, fun d hd hda => ⟨rfl, d, [(n, v)], by rw [upd_same], by rw [upd_ne hda]; exact upd_same, by rw [upd_ne hda] at hd; exact hd, by
    rw [upd_ne hda] at hd
    refine b d _ (fresh_back e1 hd) (fun c w hc => ?_) ?_
    · have hc1 := e1 _ _ hc
      have na : c ≠ a := ne_of_none hc1 ha
      have nd : c ≠ d := ne_of_none hc1 hd
      rw [upd_ne nd, del_ne na, upd_ne na, upd_ne nd, upd_ne na]
      exact hc1
    · exact upd_same⟩⟩⟩
/-- an error class of one field -/
structure GOne (P : Program) (w : World) (K : PySem.W.Frag) (mg : Str → Option Value) (base : Heap) (x n : Str) (CN fN : Addr) (fdN : FuncData) : Prop where
  ox : OexC K CN
  init : PySem.W.findIn K (.ref CN) "__init__" = some (some (.ref fN))
  ty : PySem.W.typeIn K (.ref fN) = some (.type "function")
  ok : FnOk P w K mg base CX0 1 fN fdN ["self", n] (spI1 CN n)
  b : Binds K fdN ["self", n] []
  g : mg x = some (.ref CN)
/-- an error of the class at C with two fields goes out -/
def Out2 (C : Addr) (n m : Str) (v u : V) (H : Hp) (E : XK) : Prop := ∀ d H', H d = none → Ex H H' → H' d = some (.xd [(m, u), (n, v)]) → E (.ref C) (some d) H'
theorem Out2.mono {C : Addr} {n m : Str} {v u : V} {H H' : Hp} {E : XK} (e : Ex H H') (h : Out2 C n m v u H E) : Out2 C n m v u H' E := fun d H2 hd e2 h2 => h d H2 (fresh_back e hd) (e.trans e2) h2
theorem raise_two {C : Addr} {n m : Str} {σ : L2.St} {H : Hp} {E : XK} {v u : V} {ta : TA} (h : EvA ta σ H [v, u]) (b : Out2 C n m v u H E) : tMkO C (spI2 C n m) [] ta σ H (fun cls d H' => E cls d H') :=
  h H (Ex.refl H) _ fun H1 e1 => ⟨by show 2 ≤ 1000; decide, fun a ha => ⟨a, v, u, rfl, upd_same, fun d hd hda => ⟨rfl, d, [(m, u), (n, v)], by rw [upd_ne hda.symm]; exact upd_same, upd_same, by rw [upd_ne hda] at hd; exact hd, by
    rw [upd_ne hda] at hd
    refine b d _ (fresh_back e1 hd) (fun c w hc => ?_) upd_same
    have hc1 := e1 _ _ hc
    have na : c ≠ a := ne_of_none hc1 ha
    have nd : c ≠ d := ne_of_none hc1 hd
    rw [upd_ne nd, del_ne na, upd_ne nd, upd_ne na, upd_ne nd, upd_ne na]
    exact hc1⟩⟩⟩
/-- an error class of two fields -/
structure GTwo (P : Program) (w : World) (K : PySem.W.Frag) (mg : Str → Option Value) (base : Heap) (x n m : Str) (CN fN : Addr) (fdN : FuncData) : Prop where
  ox : OexC K CN
  init : PySem.W.findIn K (.ref CN) "__init__" = some (some (.ref fN))
  ty : PySem.W.typeIn K (.ref fN) = some (.type "function")
  ok : FnOk P w K mg base CX0 1 fN fdN ["self", n, m] (spI2 CN n m)
  b : Binds K fdN ["self", n, m] []
  g : mg x = some (.ref CN)
end K16
/-! a static method called off its class -/
namespace StM
open PySem PySem.Spec PyProof.Rows L2 ClX
/-- C.m is a staticmethod: its record at p, its def at g -/
structure SMet (K : PySem.W.Frag) (C : Addr) (mc : Value) (m : Str) (p g : Addr) : Prop where
  at_ : PySem.W.findCls K (.ref C) mc m = some (.get (.builtin "staticmethod.__get__") (.ref p) .none (.ref C))
  rc : ∃ rest, PySem.W.recIn K p "staticmethod" = some (.ref g :: rest)
  kp : PySem.W.keepIn K (.ref g) = true
/-- e.m(..), e the class at C -/
def tSMeth (C : Addr) (sp : Sp) (E : XK) (ta : TE) (t : TA) : TE := fun σ H Q => ta σ H fun x H1 => x = .ref C ∧ t σ H1 fun vs H2 => sp vs H2 Q E
section
variable {X : Cx} {CX : CXT} {k : Nat} {C p g : Addr} {mc : Value} {sp : Sp} {E : XK} {o e : Expr} {es : List Expr} {m : Str} {pos apos : Pos} {ta : TE} {t : TA} {pl : Sem Bool}
theorem pe_smeth (he : PE X o ta) (r : CRead X.K C mc) (c : SMet X.K C mc m p g) (F : FnR X.prog X.w X.K X.mg X.base CX k g sp) (hr : Room k X.A) (hx : Passes CX X E) (ha : PA X (e :: es) t)
    (hst : starEach (e :: es) X.env = (false, eval e X.env) :: starEach es X.env := by rfl) (hpl : (backTo pos (starEach es X.env)).any (·.1) = false := by rfl)
    (ht : eval (.Call (.Attribute o m apos) (e :: es) [] pos) X.env = (do
      let ov ← eval o X.env
      standAt apos.atName
      let (f, first) ← holding [ov] (getMethod ov m pl)
      callWith pos f first (backTo pos (starEach (e :: es) X.env)) (backToKw pos (keywordEach [] X.env))) := by rfl) :
    PE X (.Call (.Attribute o m apos) (e :: es) [] pos) (tSMeth C sp E ta t) := by
  refine ⟨fun pins s σ H Q I h => ?_⟩
  refine PySem.W.methodCall_KW (pl := pl) (thn (he.run pins s σ H _ I h) fun u s1 ⟨x, H1, I1, rx, ex, q⟩ => ?_) ht
  subst ex
  obtain rfl : u = Value.ref C := rx
  obtain ⟨rest, hp⟩ := c.rc
  refine PySem.W.method_cls I1.kIn r.ga (PySem.W.cls_bind I1.kIn r.rd c.at_ ?_)
  refine wpAny_call (PySem.W.sm_get (s := { s1 with toks := s1.toks + 1 }) I1.kIn hp (PySem.W.handed_on rfl ?_))
  have I2 : Inv X pins σ H1 { s1 with toks := s1.toks + 1 } := I1.tok _
  refine PySem.W.callWith_K (h₀ := X.base) I2.ok.mod.kin c.kp (thn (ha.run pos pins _ σ H1 _ I2 q) fun us s3 ⟨vs, H2, I3, rv, q2⟩ => ⟨I3.kIn, ?_⟩) hst hpl
  exact wpAny_call (run_fnR (us := us) (vs := vs) F hr hx I3 rv q2)
end
end StM
/-! str of an own instance; str of an int or a text; C.m() of a static method; o.m(k = v) -/
namespace OwX
open PySem PySem.Spec PyProof.Rows L2 ClX StX
/-- a class's own __str__ -/
structure StrIn (K : PySem.W.Frag) (C g : Addr) : Prop where
  there : PySem.W.findIn K (.ref C) "__str__" = some (some (.ref g))
  isDef : PySem.W.isFn K (.ref g) = true
section
variable {X : Cx} {CX : CXT} {n : Nat} {C g : Addr} {sp : Sp} {E : XK}
theorem call_strI (c : StrIn X.K C g) (F : FnR X.prog X.w X.K X.mg X.base CX n g sp) (hr : Room (n + 2) X.A) (hx : Passes CX X E) :
    CallR X (.type "str") (fun xs H Q => ∃ a, xs = [.ref a] ∧ InsC X H a C ∧ sp [.ref a] H (fun v H' => ∃ y, v = .str y ∧ Q v H') E) := by
  intro pins s σ H xs us Q I r h
  obtain ⟨a, rfl, ha, q⟩ := h
  obtain ⟨u, rfl, ru⟩ := vals1 r
  cases (show u = Value.ref a from ru)
  obtain ⟨ox, od, J, _⟩ := insC_at I ha
  refine PySem.W.kso_call hr.in1.in1.units0 I.kIn J c.there c.isDef ?_
  refine wpAny_mono (wpAny_call (SlX.run_at (us := [.ref a]) (ws := [.ref a]) F hr.in1.in1 I.env0.in1.in1 hx I (.cons rfl .nil) q)) (fun v s' back => ?_) fun _ _ z => z
  obtain ⟨v', H', I', rv, y, ey, qy⟩ := back
  subst ey
  obtain ⟨t, et⟩ := (show ∃ t, v = Value.str y t from rv)
  subst et
  exact ⟨.str y, H', I', ⟨t, rfl⟩, qy⟩
/-- of an int that is not too long, and of a text -/
theorem call_strV : CallR X (.type "str") (fun xs H Q => (∃ i, xs = [.int i] ∧ i.natAbs.log2 < 1920 ∧ Q (.str (toString i)) H) ∨ ∃ a, xs = [.str a] ∧ Q (.str a) H) := fun pins s σ H xs us Q I r h =>
  h.elim (fun hi => call_str_int pins s σ H xs us Q I r hi) fun ha => SkE.call_str_str pins s σ H xs us Q I r ha
end
section
variable {X : Cx} {k : Nat} {C p f : Addr} {mc : Value} {fd : FuncData} {ps ks : List Str} {sp : Sp} {o : Expr} {m : Str} {pos apos : Pos} {ta : TE} {tk : TA} {pl : Sem Bool} {kws : List Keyword} {g : List Value → List Value → List Value} {gV : List V → List V → List V}
/-- o.m(k = v, ..), keywords alone -/
theorem pe_methKw (he : PE X o ta) (c : Cls X.K C) (hm : Meth X.K C m f) (F : FnOk X.prog X.w X.K X.mg X.base CX0 k f fd ps sp) (hr : Room k X.A) (hb : KBn X.K fd ps 1 ks g gV) (hkw : PK X kws tk)
    (some_ : (backToKw pos (keywordEach kws X.env)).all (·.1.isSome) = true := by rfl) (names : (backToKw pos (keywordEach kws X.env)).filterMap (·.1) = ks := by rfl)
    (none_ : ((backTo pos (starEach [] X.env)).any (·.1) || (backToKw pos (keywordEach kws X.env)).any (·.1.isNone)) = false := by rfl)
    (form : eval (.Call (.Attribute o m apos) [] kws pos) X.env = (do let ov ← eval o X.env; standAt apos.atName; let (f, first) ← holding [ov] (getMethod ov m pl); callWith pos f first (backTo pos (starEach [] X.env)) (backToKw pos (keywordEach kws X.env))) := by rfl) :
    PE X (.Call (.Attribute o m apos) [] kws pos) (fun σ H Q => ta σ H fun x H1 => ∃ a dx fs, x = .ref a ∧ H1 a = some (.ins C dx fs) ∧ fs.lookup m = none ∧ tk σ H1 fun zs H2 => zs.length = ks.length ∧ sp (gV [.ref a] zs) H2 Q E0) := by
  refine ⟨fun pins s σ H Q I h => PySem.W.methodCall_KW (pl := pl) (thn (he.run pins s σ H _ I h) fun u s1 ⟨x, H1, J, rx, a, dx, fs, ex, ea, l, q⟩ => ?_) form⟩
  subst ex
  cases (show u = Value.ref a from rx)
  refine getmeth_ok J ea c hm l (PySem.W.callWith_KW0 (first := [.ref a]) (h₀ := X.base) J.ok.mod.kin hm.kp some_ ?_ none_)
  refine thn (hkw.run pos pins s1 σ H1 _ J q) fun ws s2 ⟨zs, H2, J2, rz, l2, q2⟩ => ⟨J2.kIn, ?_⟩
  rw [names]
  exact run_fnN (us := [.ref a]) (vs := [.ref a]) F hr hb pass0 J2 (.cons rfl .nil) rz rfl l2 q2
end
end OwX
/-! x == y, y a tuple; C.m(k = v, ..) of a static method -/
namespace EqT
open PySem PySem.Spec PyProof.Rows L2 StX OpX
section
variable {X : Cx} {CX : CXT} {n : Nat} {C g : Addr} {sp : Sp} {E : XK}
/-- x == y: x of the class at C; y a tuple -/
def rEqT (X : Cx) (C : Addr) (sp : Sp) (E : XK) : R2 := fun x y H Q => ∃ a b ys, x = .ref a ∧ y = .ref b ∧ InsC X H a C ∧ SqT X.K H b ys ∧ PySem.W.notFirst X.K C (.type "tuple") = true ∧ sp [.ref a, .ref b] H Q E
theorem op_eqT {op : CmpOp} (hop : ∀ a b, compareOp op a b = richCompare op a b) (h : Has X.K C g (cmpInfo op).2.1) (F : FnR X.prog X.w X.K X.mg X.base CX n g sp)
    (hr : Room n X.A) (hx : Passes CX X E) : OpR X (compareOp op) (rEqT X C sp E) := by
  intro pins s σ H x y v u Q I rx ry hq
  obtain ⟨a, b, ys, rfl, rfl, ha, hb, hn, q⟩ := hq
  cases (show v = Value.ref a from rx)
  cases (show u = Value.ref b from ry)
  obtain ⟨ox, od, J, _⟩ := insC_at I ha
  obtain ⟨its, rv, ⟨o, ho, hc, nn, hd⟩, _⟩ := I.tuple hb
  have ty : PySem.W.Looks (model X.prog X.w) s.heap (typeOf (.ref b)) (.type "tuple") := fun A Q E s k q => wpAny_typeOf_ref (k _ _ ho) (by rw [hc]; exact q)
  obtain ⟨m, hF⟩ := I.fr
  rw [hop]
  exact PySem.W.cmp_K (op := op) (tb := .type "tuple") hr.units0 hF I.ok.mod.kin J ty hn h.at_ h.fn (run_own (us := [.ref a, .ref b]) (vs := [.ref a, .ref b]) F hr hx I (.cons rfl (.cons rfl .nil)) q)
end
end EqT
namespace StM
open PySem PySem.Spec PyProof.Rows L2 ClX
/-- e.m(k = v, ..), e the class at C -/
def tSMethK (C : Addr) (n : Nat) (sp : Sp) (gV : List V → List V → List V) (E : XK) (ta : TE) (tk : TA) : TE := fun σ H Q => ta σ H fun x H1 => x = .ref C ∧ tk σ H1 fun zs H2 => zs.length = n ∧ sp (gV [] zs) H2 Q E
section
variable {X : Cx} {k : Nat} {C p f : Addr} {mc : Value} {fd : FuncData} {ps ks : List Str} {sp : Sp} {o : Expr} {m : Str} {pos apos : Pos} {ta : TE} {tk : TA} {pl : Sem Bool} {kws : List Keyword} {g : List Value → List Value → List Value} {gV : List V → List V → List V}
theorem pe_smethK (he : PE X o ta) (r : CRead X.K C mc) (c : SMet X.K C mc m p f) (F : FnOk X.prog X.w X.K X.mg X.base CX0 k f fd ps sp) (hr : Room k X.A) (hb : KBn X.K fd ps 0 ks g gV) (hkw : PK X kws tk)
    (some_ : (backToKw pos (keywordEach kws X.env)).all (·.1.isSome) = true := by rfl) (names : (backToKw pos (keywordEach kws X.env)).filterMap (·.1) = ks := by rfl)
    (none_ : ((backTo pos (starEach [] X.env)).any (·.1) || (backToKw pos (keywordEach kws X.env)).any (·.1.isNone)) = false := by rfl)
    (form : eval (.Call (.Attribute o m apos) [] kws pos) X.env = (do let ov ← eval o X.env; standAt apos.atName; let (f, first) ← holding [ov] (getMethod ov m pl); callWith pos f first (backTo pos (starEach [] X.env)) (backToKw pos (keywordEach kws X.env))) := by rfl) :
    PE X (.Call (.Attribute o m apos) [] kws pos) (tSMethK C ks.length sp gV E0 ta tk) := by
  refine ⟨fun pins s σ H Q I h => PySem.W.methodCall_KW (pl := pl) (thn (he.run pins s σ H _ I h) fun u s1 ⟨x, H1, J, rx, ex, q⟩ => ?_) form⟩
  subst ex
  cases (show u = Value.ref C from rx)
  obtain ⟨rest, hp⟩ := c.rc
  refine PySem.W.method_cls J.kIn r.ga (PySem.W.cls_bind J.kIn r.rd c.at_ (wpAny_call (PySem.W.sm_get (s := { s1 with toks := s1.toks + 1 }) J.kIn hp (PySem.W.handed_on rfl ?_))))
  have J2 : Inv X pins σ H1 { s1 with toks := s1.toks + 1 } := J.tok _
  refine PySem.W.callWith_KW0 (first := []) (h₀ := X.base) J2.ok.mod.kin c.kp some_ ?_ none_
  refine thn (hkw.run pos pins _ σ H1 _ J2 q) fun ws s2 ⟨zs, H2, I2, rz, l2, q2⟩ => ⟨I2.kIn, ?_⟩
  rw [names]
  exact run_fnN (us := []) (vs := []) F hr hb pass0 I2 .nil rz rfl l2 q2
end
end StM
/-! C.m(k = v) of a class method; x(e, ..), x a name of the def that holds a class -/
namespace ClK
open PySem PySem.Spec PyProof.Rows L2 ClX StX
section
variable {X : Cx} {CX : CXT} {k : Nat} {C p g f : Addr} {mc : Value} {fd : FuncData} {ps ks : List Str} {sp : Sp} {E : XK} {o e : Expr} {es : List Expr} {x m : Str} {pos apos p1 : Pos} {ta : TE} {tk t : TA} {pl : Sem Bool} {kws : List Keyword} {gg : List Value → List Value → List Value} {gV : List V → List V → List V} {i : Nat}
/-- C.m(k = v, ..), keywords alone, m a class method -/
theorem pe_cmethK (he : PE X o ta) (r : CRead X.K C mc) (c : CMet X.K C mc m p g) (F : FnOk X.prog X.w X.K X.mg X.base CX k g fd ps sp) (hr : Room k X.A) (hx : Passes CX X E) (hb : KBn X.K fd ps 1 ks gg gV) (hkw : PK X kws tk)
    (some_ : (backToKw pos (keywordEach kws X.env)).all (·.1.isSome) = true := by rfl) (names : (backToKw pos (keywordEach kws X.env)).filterMap (·.1) = ks := by rfl)
    (none_ : ((backTo pos (starEach [] X.env)).any (·.1) || (backToKw pos (keywordEach kws X.env)).any (·.1.isNone)) = false := by rfl)
    (form : eval (.Call (.Attribute o m apos) [] kws pos) X.env = (do let ov ← eval o X.env; standAt apos.atName; let (f, first) ← holding [ov] (getMethod ov m pl); callWith pos f first (backTo pos (starEach [] X.env)) (backToKw pos (keywordEach kws X.env))) := by rfl) :
    PE X (.Call (.Attribute o m apos) [] kws pos) (fun σ H Q => ta σ H fun x H1 => x = .ref C ∧ tk σ H1 fun zs H2 => zs.length = ks.length ∧ sp (gV [.ref C] zs) H2 Q E) := by
  refine ⟨fun pins s σ H Q I h => PySem.W.methodCall_KW (pl := pl) (thn (he.run pins s σ H _ I h) fun u s1 ⟨x, H1, I1, rx, ex, q⟩ => ?_) form⟩
  subst ex
  cases (show u = Value.ref C from rx)
  refine getmethcm_ok I1 r c fun s2 I2 => ?_
  refine PySem.W.callWith_of (P := PySem.W.MethP X.K s1.heap.objs.size g (.ref C)) none_ (PySem.W.keeps_M c.fi) (PyProof.Rows.evalArgs_kw2_nil some_ (thn (hkw.run pos _ s2 σ H1 _ I2 q) fun ws s3 ⟨zs, H2, I3, rz, l2, q2⟩ => ⟨⟨pin_at I3, I3.kIn⟩, ?_⟩))
  rw [names]
  have went : wpAny (model X.prog X.w) X.A (call (.ref s1.heap.objs.size) [] (ks.zip ws)) (EP X ((s1.heap.objs.size, PySem.W.methodObj (.ref g) (.ref C)) :: pins) σ Q) X.xe s3 := by
    refine wpAny_call (PySem.W.method_call (pin_at I3) (codeAny_mono (F.run X.A X.stack s3 H2 ⟨[.ref C], ks.zip ws⟩ (gg [.ref C] ws) (gV [.ref C] zs) Q E hr I3.env0 (hb.to s3 [.ref C] ws I3.kIn rfl (rz.length.symm.trans l2)) (hb.rel (.cons rfl .nil) rz) q2) fun r s' back => ?_))
    match r, back with
    | .error er, z => exact hx _ _ _ _ _ _ I3 z
    | .ok (.ret u), z => exact I3.after z
    | .ok .next, z => exact z.elim
    | .ok .brk, z => exact z.elim
    | .ok .cont, z => exact z.elim
  exact thn went fun _ _ y => unpinE y
/-- x(e, ..), x a name of the def (slot i) that holds the class at C -/
def tMakeL (i : Nat) (C : Addr) (sp : Sp) (E : XK) (t : TA) : TE := fun σ H Q => σ[i]? = some (some (.ref C)) ∧ tMakeR C sp E t σ H Q
theorem pe_makeL (M : Mk X.K C f) (F : FnR X.prog X.w X.K X.mg X.base CX k f sp) (hr : Room (k + 1) X.A) (hN : X.N[i]? = some x) (hv : Vis X.env.scope x) (hx : Passes CX X E) (ha : PA X (e :: es) t)
    (notDebug : (x == ("__debug__" : Str)) = false := by decide) (notDict : (x == ("__classdict__" : Str)) = false := by decide)
    (head : starEach (e :: es) X.env = (false, eval e X.env) :: starEach es X.env := by rfl) (plain : (backTo pos (starEach es X.env)).any (·.1) = false := by rfl) : PE X (.Call (.Name x p1) (e :: es) [] pos) (tMakeL i C sp E t) := by
  refine ⟨fun pins s σ H Q I ⟨hs, h⟩ => ?_⟩
  refine wpAny_Call_Name_kw (thn ((pe_var (pos := p1) (i := i) hN hv notDebug notDict).run pins s σ H (fun v H1 => v = .ref C ∧ H1 = H) I ⟨.ref C, hs, rfl, rfl⟩) fun u s1 ⟨v, H1, I1, r1, ev, eH⟩ => ?_)
  subst ev eH
  cases (show u = Value.ref C from r1)
  exact PySem.W.callWith_K (h₀ := X.base) I1.ok.mod.kin M.kp (thn (ha.run pos pins s1 σ _ _ I1 h) fun us s2 ⟨vs, H2, I2, r, q⟩ => ⟨I2.kIn, run_makeR M F hr hx I2 r q⟩) head plain
end
/-- nothing is let out where nothing is wished -/
theorem passN {P : Program} {w : World} {X : Cx} (hp : X.prog = P) (hw : X.w = w) : Passes (L2.CX P w) X E0 := fun _ _ _ _ _ _ _ ⟨_, _, _, _, _, _, _, _, _, _, _, _, z⟩ => z.elim
end ClK
/-! rows of own objects that may be unlike: == and != of tuples, != of lists; an own object beside any thing -/
namespace TwU
open PySem PySem.SeqAt
open AutoSeq1 (wpAny_loadPart')
open MeetsSeq MeetsSeq2 MeetsSeq3 SeqRoads2
section
variable {prog : Program} {w : World} {A : Around} {R : Result → Shared → Prop}
/-- the object of a tuple -/
abbrev TObj (dd : Option Addr) (xs : Array Value) (n : Nat) (sl : Array (Option Value)) : Obj := { cls := .type "tuple", dict := dd, data := .seq xs n, slots := sl }
abbrev LObj (xs : Array Value) (n : Nat) : Obj := { cls := .type "list", data := .seq xs n }
/-- how many pairs there are -/
abbrev few (xs ys : Array Value) : Nat := min xs.size ys.size
def allOf (e : Nat → Bool) (m : Nat) : Bool := (List.range m).all e
theorem all_cut {e : Nat → Bool} {m i : Nat} (h : i < m) : ((List.range m).drop i).all e = (e i && ((List.range m).drop (i + 1)).all e) := by
  have lt : i < (List.range m).length := by rw [List.length_range]; exact h
  rw [List.drop_eq_getElem_cons lt, List.all_cons, List.getElem_range]
/-- J holds all along, the i-th pair gives e i -/
def Pairs (prog : Program) (w : World) (A : Around) (R : Result → Shared → Prop) (xs ys : Array Value) (e : Nat → Bool) (J : Shared → Prop) : Prop :=
  ∀ i (h1 : i < xs.size) (h2 : i < ys.size) s, J s → wpAny (model prog w) A.in1 (eqBool xs[i] ys[i]) (fun r s' => r = e i ∧ J s') (fun er s' => R (.error er) s') s
theorem pair_at {xs ys : Array Value} {y x : Value} {rest : List (Value × Value)} {i : Nat} (h : (y, x) :: rest = (xs.toList.zip ys.toList).drop i) : ∃ (h1 : i < xs.size) (h2 : i < ys.size), y = xs[i] ∧ x = ys[i] ∧ rest = (xs.toList.zip ys.toList).drop (i + 1) := by
  have len : (xs.toList.zip ys.toList).length = min xs.size ys.size := by simp
  have here : (xs.toList.zip ys.toList)[i]? = some (y, x) := by rw [← List.head?_drop, ← h]; rfl
  obtain ⟨lt, at_⟩ := List.getElem?_eq_some_iff.mp here
  have tail := congrArg List.tail h
  rw [List.tail_cons, List.tail_drop] at tail
  rw [List.getElem_zip] at at_
  obtain ⟨p1, p2⟩ := Prod.mk.inj at_
  exact ⟨by omega, by omega, by simpa using p1.symm, by simpa using p2.symm, tail⟩
theorem none_left {xs ys : Array Value} {i : Nat} (h : ([] : List (Value × Value)) = (xs.toList.zip ys.toList).drop i) : few xs ys ≤ i := by
  have := congrArg List.length h
  rw [List.length_nil, List.length_drop, List.length_zip, Array.length_toList, Array.length_toList] at this
  show min xs.size ys.size ≤ i
  omega
/-- what holds when i pairs are done -/
def Left (xs ys : Array Value) (e : Nat → Bool) (J : Shared → Prop) (rest : List (Value × Value)) (s : Shared) : Prop := J s ∧ ∃ i, rest = (xs.toList.zip ys.toList).drop i ∧ allOf e (few xs ys) = ((List.range (few xs ys)).drop i).all e
theorem left_0 {xs ys : Array Value} {e : Nat → Bool} {J : Shared → Prop} {s : Shared} (h : J s) : Left xs ys e J (xs.toList.zip ys.toList) s := ⟨h, 0, rfl, rfl⟩
theorem left_on {xs ys : Array Value} {e : Nat → Bool} {J : Shared → Prop} {y x : Value} {rest : List (Value × Value)} {s : Shared} {Q : Bool → Shared → Prop} (p : Pairs prog w A R xs ys e J) (h : Left xs ys e J ((y, x) :: rest) s)
    (go : ∀ s', Left xs ys e J rest s' → Q true s') (no : ∀ s', J s' → allOf e (few xs ys) = false → Q false s') : wpAny (model prog w) A.in1 (eqBool y x) Q (fun er s' => R (.error er) s') s := by
  obtain ⟨hJ, i, hz, he⟩ := h
  obtain ⟨h1, h2, rfl, rfl, hr⟩ := pair_at hz
  rw [all_cut (show i < few xs ys by show i < min xs.size ys.size; omega)] at he
  refine wpAny_mono (p i h1 h2 s hJ) (fun r s' ⟨er, hJ'⟩ => ?_) fun _ _ z => z
  subst er
  cases c : e i with
  | true =>
    rw [c, Bool.true_and] at he
    exact go s' ⟨hJ', i + 1, hr, he⟩
  | false =>
    rw [c, Bool.false_and] at he
    exact no s' hJ' he
theorem left_end {xs ys : Array Value} {e : Nat → Bool} {J : Shared → Prop} {s : Shared} (h : Left xs ys e J [] s) : J s ∧ allOf e (few xs ys) = true := by
  obtain ⟨hJ, i, hz, he⟩ := h
  have := none_left hz
  rw [List.drop_of_length_le (by rw [List.length_range]; exact this)] at he
  exact ⟨hJ, he⟩
variable {l b : Addr} {xs ys : Array Value} {n n2 : Nat} {dd dd2 : Option Addr} {sl sl2 : Array (Option Value)} {e : Nat → Bool} {J : Shared → Prop} {s : Shared}
theorem tup_eqU (p : Pairs prog w A R xs ys e J) (last : ∀ s, J s → R (.ok (.ret (.bool (allOf e (few xs ys) && xs.size == ys.size)))) s) (hl : s.heap.get? l = some (TObj dd xs n sl)) (hb : s.heap.get? b = some (TObj dd2 ys n2 sl2)) (h : J s) :
    wpAny (model prog w) A.in1 (Builtin.«tuple.__eq__» ⟨[.ref l, .ref b], []⟩) (GQ.FinOf prog w A R) (fun er s' => R (.error er) s') s := by
  have kin := AutoSeq1.sub_tuple_tuple
  have h0 := left_0 (xs := xs) (ys := ys) (e := e) h
  obtain ⟨hp, g, d, tk, os⟩ := s
  wp_walk using wpAny_loadPart' hl, wpAny_loadPart' hb, wpAny_forIn_list _ (fun rest v s' => v.1 = none ∧ Left xs ys e J rest s') _
  case turn =>
    rintro ⟨y, x⟩ rest v s' ⟨hv, hL⟩
    refine wpAny_bind (left_on p hL (fun s2 h2 => ?_) fun s2 h2 c => ?_)
    · wp_walk
      exact ⟨rfl, h2⟩
    · have z := last s2 h2
      rw [c, Bool.false_and] at z
      wp_walk
      exact z
  case fin =>
    rintro ⟨v1, v2⟩ s' ⟨hv, hL⟩
    obtain ⟨hJ, c⟩ := left_end hL
    have z := last s' hJ
    rw [c, Bool.true_and] at z
    simp only at hv
    subst hv
    wp_walk
    exact z
  case h => exact ⟨rfl, h0⟩
theorem tup_neU (p : Pairs prog w A R xs ys e J) (last : ∀ s, J s → R (.ok (.ret (.bool (!(allOf e (few xs ys) && xs.size == ys.size))))) s) (hl : s.heap.get? l = some (TObj dd xs n sl)) (hb : s.heap.get? b = some (TObj dd2 ys n2 sl2)) (h : J s) :
    wpAny (model prog w) A.in1 (Builtin.«tuple.__ne__» ⟨[.ref l, .ref b], []⟩) (GQ.FinOf prog w A R) (fun er s' => R (.error er) s') s := by
  have kin := AutoSeq1.sub_tuple_tuple
  have h0 := left_0 (xs := xs) (ys := ys) (e := e) h
  obtain ⟨hp, g, d, tk, os⟩ := s
  wp_walk using wpAny_loadPart' hl, wpAny_loadPart' hb, wpAny_forIn_list _ (fun rest v s' => v.1 = none ∧ Left xs ys e J rest s') _
  case turn =>
    rintro ⟨y, x⟩ rest v s' ⟨hv, hL⟩
    refine wpAny_bind (left_on p hL (fun s2 h2 => ?_) fun s2 h2 c => ?_)
    · wp_walk
      exact ⟨rfl, h2⟩
    · have z := last s2 h2
      rw [c, Bool.false_and] at z
      wp_walk
      exact z
  case fin =>
    rintro ⟨v1, v2⟩ s' ⟨hv, hL⟩
    obtain ⟨hJ, c⟩ := left_end hL
    have z := last s' hJ
    rw [c, Bool.true_and] at z
    simp only at hv
    subst hv
    wp_walk
    exact z
  case h => exact ⟨rfl, h0⟩
/-- the two lists stand, N items each; each pair is alike; J holds all along -/
def Alike (prog : Program) (w : World) (A : Around) (R : Result → Shared → Prop) (l b : Addr) (N : Nat) (J : Shared → Prop) : Prop := ∀ s, J s → ∃ (xs ys : Array Value) (n n2 : Nat), s.heap.get? l = some (LObj xs n) ∧ s.heap.get? b = some (LObj ys n2) ∧ xs.size = N ∧ ys.size = N ∧
  Pairs prog w A R xs ys (fun _ => true) J
theorem ne_stepsU {N : Nat} (al : Alike prog w A R l b N J) (last : ∀ s, J s → R (.ok (.ret (.bool false))) s) (k : Nat) : ∀ i s, i + k = N → J s →
    wpAny (model prog w) A.in1 (Builtin.«list.__eq__.loop» ⟨[.ref l, .ref b, rawInt i, rawInt 3], []⟩) (GQ.FinOf prog w A R) (fun er s' => R (.error er) s') s := by
  induction k with
  | zero =>
    intro i s hk h
    obtain ⟨xs, ys, n, n2, hl, hb, sx, sy, _⟩ := al s h
    have z := last s h
    obtain ⟨hp, g, d, tk, os⟩ := s
    wp_walk using wpAny_loadPart' hl, wpAny_loadPart' hb
    have out1 : xs[((i : Nat) : Int).toNat]? = none := Array.getElem?_eq_none (by rw [Int.toNat_natCast]; omega)
    have out2 : ys[((i : Nat) : Int).toNat]? = none := Array.getElem?_eq_none (by rw [Int.toNat_natCast]; omega)
    rw [out1, out2]
    wp_walk using wpAny_loadPart' hl, wpAny_loadPart' hb
    show R (.ok (.ret (.bool (xs.size != ys.size)))) _
    rw [sx, sy, bne_self_eq_false]
    exact z
  | succ k ih =>
    intro i s hk h
    obtain ⟨xs, ys, n, n2, hl, hb, sx, sy, pr⟩ := al s h
    have one := pr i (by omega) (by omega) s h
    obtain ⟨hp, g, d, tk, os⟩ := s
    wp_walk using wpAny_loadPart' hl, wpAny_loadPart' hb
    have in1 : xs[((i : Nat) : Int).toNat]? = some (xs[i]'(by omega)) := by rw [Int.toNat_natCast]; exact Array.getElem?_eq_getElem (by omega)
    have in2 : ys[((i : Nat) : Int).toNat]? = some (ys[i]'(by omega)) := by rw [Int.toNat_natCast]; exact Array.getElem?_eq_getElem (by omega)
    have up : ((i : Int) + 1) = ((i + 1 : Nat) : Int) := (Int.natCast_succ i).symm
    rw [in1, in2]
    refine wpAny_bind (wpAny_mono one (fun r s2 ⟨er, h2⟩ => ?_) fun _ _ z => z)
    subst er
    have rest := ih (i + 1) s2 (by omega) h2
    obtain ⟨hp2, g2, d2, tk2, os2⟩ := s2
    wp_walk
    rw [up]
    exact ⟨plainId_quiet plain_eq_loop _, codeAny_builtin entry_eq_loop (by rw [Around.under_plainId plain_eq_loop _]; exact rest)⟩
theorem list_neU {N : Nat} (al : Alike prog w A R l b N J) (last : ∀ s, J s → R (.ok (.ret (.bool false))) s) (h : J s) :
    wpAny (model prog w) A.in1 (Builtin.«list.__ne__» ⟨[.ref l, .ref b], []⟩) (GQ.FinOf prog w A R) (fun er s' => R (.error er) s') s := by
  have rest := ne_stepsU al last N 0 s (Nat.zero_add N) h
  obtain ⟨xs, ys, n, n2, hl, hb, sx, sy, _⟩ := al s h
  have kin := AutoSeq1.sub_list_list
  have same : ¬ (xs.size != ys.size) = true := by rw [sx, sy, bne_self_eq_false]; exact Bool.false_ne_true
  obtain ⟨hp, g, d, tk, os⟩ := s
  wp_walk using wpAny_loadPart' hl, wpAny_loadPart' hb
  exact ⟨plainId_quiet plain_eq_loop _, codeAny_builtin entry_eq_loop (by rw [Around.under_plainId plain_eq_loop _]; exact rest)⟩
end
end TwU
namespace OwU
open PySem PySem.Spec PyProof.Rows L2 StX OpX
/-- how an own object stands to another: what == inside a builtin tells of the two -/
abbrev DU := V → V → Hp → Bool → Prop
def MonU (D : DU) : Prop := ∀ x y b H H', Ext H H' → D x y H b → D x y H' b
/-- == inside a builtin, with this much room, tells it, and only makes objects -/
def EqU (X : Cx) (n : Nat) (D : DU) : Prop :=
  ∀ (B : Around) (pins : List (Addr × Obj)) (σ : L2.St) (s : Shared) (H : Hp) (x y : V) (u v : Value) (b : Bool), Sub X n B → Inv X pins σ H s → RelV x u → RelV y v → D x y H b → wpAny (model X.prog X.w) B (eqBool u v) (fun r s' => r = b ∧ ∃ H', Inv X pins σ H' s' ∧ Ext H H') X.xe s
def RowU (D : DU) (xs ys : List V) (H : Hp) (e : Nat → Bool) : Prop := ∀ (i : Nat) (x y : V), xs[i]? = some x → ys[i]? = some y → D x y H (e i)
section
variable {X : Cx} {n : Nat} {D : DU}
/-- objects were made since -/
def Since (X : Cx) (pins : List (Addr × Obj)) (σ : L2.St) (H : Hp) (s : Shared) : Prop := ∃ H', Inv X pins σ H' s ∧ Ext H H'
theorem pairsU (mon : MonU D) (h : EqU X n D) (hr : Room (n + 1) X.A) {pins : List (Addr × Obj)} {σ : L2.St} {H : Hp} {xs ys : List V} {us vs : List Value} {e : Nat → Bool} (row : RowU D xs ys H e) (r1 : Vals xs us) (r2 : Vals ys vs) {Q : Value → Shared → Prop} :
    TwU.Pairs X.prog X.w X.A (wants Q X.xe) us.toArray vs.toArray e (Since X pins σ H) := by
  intro i h1 h2 s ⟨H1, I1, e1⟩
  have sb : Sub X n X.A.in1 := Sub.in1 ⟨hr, rfl⟩
  have k1 : i < xs.length := by rw [r1.length]; simpa using h1
  have k2 : i < ys.length := by rw [r2.length]; simpa using h2
  obtain ⟨u, hu, ru⟩ := r1.get (List.getElem?_eq_getElem k1)
  obtain ⟨v, hv, rv⟩ := r2.get (List.getElem?_eq_getElem k2)
  obtain ⟨_, eu⟩ := List.getElem?_eq_some_iff.mp hu
  obtain ⟨_, ev⟩ := List.getElem?_eq_some_iff.mp hv
  have a1 : us.toArray[i] = u := by simpa using eu
  have a2 : vs.toArray[i] = v := by simpa using ev
  rw [a1, a2]
  exact wpAny_mono (h _ pins σ s H1 _ _ u v (e i) sb I1 ru rv (mon _ _ _ _ _ e1 (row i _ _ (List.getElem?_eq_getElem k1) (List.getElem?_eq_getElem k2)))) (fun r s2 ⟨er, H2, I2, e2⟩ => ⟨er, H2, I2, e1.trans e2⟩) fun _ _ z => z
theorem allOf_take {e : Nat → Bool} {xs ys : List V} {us vs : List Value} (r1 : Vals xs us) (r2 : Vals ys vs) : (TwU.allOf e (TwU.few us.toArray vs.toArray) && us.toArray.size == vs.toArray.size) = (TwU.allOf e (min xs.length ys.length) && xs.length == ys.length) := by
  unfold TwU.few
  rw [List.size_toArray, List.size_toArray, ← r1.length, ← r2.length]
/-- a tuple == a tuple -/
def rEqU (X : Cx) (D : DU) : R2 := fun x y H Q => ∃ a b xs ys e, x = .ref a ∧ y = .ref b ∧ SqT X.K H a xs ∧ SqT X.K H b ys ∧ RowU D xs ys H e ∧ ∀ H', Ext H H' → Q (.bl (TwU.allOf e (min xs.length ys.length) && xs.length == ys.length)) H'
def rNeU (X : Cx) (D : DU) : R2 := fun x y H Q => ∃ a b xs ys e, x = .ref a ∧ y = .ref b ∧ SqT X.K H a xs ∧ SqT X.K H b ys ∧ RowU D xs ys H e ∧ ∀ H', Ext H H' → Q (.bl (!(TwU.allOf e (min xs.length ys.length) && xs.length == ys.length))) H'
theorem op_eqU (mon : MonU D) (h : EqU X n D) (hr : Room (n + 1) X.A) : OpR X (compareOp .Eq) (rEqU X D) := by
  intro pins s σ H x y v u Q I rx ry ⟨a, b, xs, ys, e, ex, ey, ha, hb, row, q⟩
  subst ex ey
  cases (show v = Value.ref a from rx)
  cases (show u = Value.ref b from ry)
  obtain ⟨us, r1, ⟨⟨cl, dd, da, sl⟩, o1, hc, m1, hd⟩, _⟩ := I.tuple ha
  obtain ⟨vs, r2, ⟨⟨cl2, dd2, da2, sl2⟩, o2, hc2, m2, hd2⟩, _⟩ := I.tuple hb
  simp only at hc hd hc2 hd2
  subst hc hd hc2 hd2
  show wpAny (model X.prog X.w) X.A (richCompare .Eq (.ref a) (.ref b)) (EP X pins σ Q) X.xe s
  refine wpAny_richCompare_same_room (op := .Eq) ⟨_, o1, rfl⟩ ⟨_, o2, rfl⟩ PySem.F.slot_tuple_eq (GQ.call_here PySem.F.slot_tuple_eq ⟨_, o1, rfl⟩ PySem.F.entry_tuple_eq (PySem.F.args_tuple_eq_2 _ _) ?_) hr.units0
  exact TwU.tup_eqU (pairsU mon h hr row r1 r2) (fun s' ⟨H', I', e'⟩ => ⟨(fun z => nomatch z), .bl _, H', I', rfl, by rw [allOf_take r1 r2]; exact q H' e'⟩) o1 o2 ⟨H, I, Ext.rfl'⟩
theorem op_neU (mon : MonU D) (h : EqU X n D) (hr : Room (n + 1) X.A) : OpR X (compareOp .NotEq) (rNeU X D) := by
  intro pins s σ H x y v u Q I rx ry ⟨a, b, xs, ys, e, ex, ey, ha, hb, row, q⟩
  subst ex ey
  cases (show v = Value.ref a from rx)
  cases (show u = Value.ref b from ry)
  obtain ⟨us, r1, ⟨⟨cl, dd, da, sl⟩, o1, hc, m1, hd⟩, _⟩ := I.tuple ha
  obtain ⟨vs, r2, ⟨⟨cl2, dd2, da2, sl2⟩, o2, hc2, m2, hd2⟩, _⟩ := I.tuple hb
  simp only at hc hd hc2 hd2
  subst hc hd hc2 hd2
  show wpAny (model X.prog X.w) X.A (richCompare .NotEq (.ref a) (.ref b)) (EP X pins σ Q) X.xe s
  refine wpAny_richCompare_same_room (op := .NotEq) ⟨_, o1, rfl⟩ ⟨_, o2, rfl⟩ PySem.F.slot_tuple_ne (GQ.call_here PySem.F.slot_tuple_ne ⟨_, o1, rfl⟩ PySem.F.entry_tuple_ne (PySem.F.args_tuple_ne_2 _ _) ?_) hr.units0
  exact TwU.tup_neU (pairsU mon h hr row r1 r2) (fun s' ⟨H', I', e'⟩ => ⟨(fun z => nomatch z), .bl _, H', I', rfl, by rw [allOf_take r1 r2]; exact q H' e'⟩) o1 o2 ⟨H, I, Ext.rfl'⟩
/-- a list != a list, all alike -/
def rNeUL (D : DU) : R2 := fun x y H Q => ∃ a b xs ys, x = .ref a ∧ y = .ref b ∧ H a = some (.lst xs) ∧ H b = some (.lst ys) ∧ xs.length = ys.length ∧ RowU D xs ys H (fun _ => true) ∧ ∀ H', Ext H H' → Q (.bl false) H'
theorem op_neUL (mon : MonU D) (h : EqU X n D) (hr : Room (n + 1) X.A) : OpR X (compareOp .NotEq) (rNeUL D) := by
  intro pins s σ H x y v u Q I rx ry ⟨a, b, xs, ys, ex, ey, ha, hb, len, row, q⟩
  subst ex ey
  cases (show v = Value.ref a from rx)
  cases (show u = Value.ref b from ry)
  obtain ⟨_, us, m1, r1, o1⟩ := I.hok a _ ha
  obtain ⟨_, vs, m2, r2, o2⟩ := I.hok b _ hb
  show wpAny (model X.prog X.w) X.A (richCompare .NotEq (.ref a) (.ref b)) (EP X pins σ Q) X.xe s
  refine wpAny_richCompare_same_room (op := .NotEq) ⟨_, o1, rfl⟩ ⟨_, o2, rfl⟩ PySem.F.slot_list_ne (GQ.call_here PySem.F.slot_list_ne ⟨_, o1, rfl⟩ PySem.F.entry_list_ne (PySem.F.args_list_ne_2 _ _) ?_) hr.units0
  refine TwU.list_neU (N := xs.length) (J := Since X pins σ H) (fun s' ⟨H1, I1, e1⟩ => ?_) (fun s' ⟨H', I', e'⟩ => ⟨(fun z => nomatch z), .bl false, H', I', rfl, q H' e'⟩) ⟨H, I, Ext.rfl'⟩
  obtain ⟨_, us1, m3, r3, o3⟩ := I1.hok a _ (e1 _ _ ha)
  obtain ⟨_, vs1, m4, r4, o4⟩ := I1.hok b _ (e1 _ _ hb)
  exact ⟨us1.toArray, vs1.toArray, m3, m4, o3, o4, by rw [List.size_toArray, r3.length], by rw [List.size_toArray, ← r4.length, len], pairsU mon h hr row r3 r4⟩
/-- by the class's own == -/
theorem eqU_own {CX : CXT} {C f : Addr} {fd : FuncData} {ps : List Str} {sp : Sp} {E : XK} (F : FnOk X.prog X.w X.K X.mg X.base CX n f fd ps sp) (c : Has X.K C f "__eq__") (hb : Binds X.K fd ps []) (hx : Passes CX X E)
    (ins : ∀ x y H b, D x y H b → ∃ a c, x = .ref a ∧ y = .ref c ∧ InsC X H a C ∧ InsC X H c C ∧ sp [.ref a, .ref c] H (fun v H' => v = .bl b ∧ Ext H H') E)
    (same : ∀ a H b pins σ s, Inv X pins σ H s → D (.ref a) (.ref a) H b → b = true) : EqU X n D := by
  intro B pins σ s H x y u v b sb I rx ry d
  obtain ⟨a, c', ex, ey, ia, ic, hsp⟩ := ins _ _ _ _ d
  subst ex ey
  cases (show u = Value.ref a from rx)
  cases (show v = Value.ref c' from ry)
  by_cases ac : a = c'
  · subst ac
    obtain rfl := same a H b pins σ s I d
    exact SeqAt.EqAt.same (A := B) (s := s) (.ref a) X.prog X.w X.xe _ ⟨rfl, H, I, Ext.rfl'⟩
  · refine GQ.eqBool_refG ac ?_
    obtain ⟨oa, da, Ja, _⟩ := insC_at I ia
    obtain ⟨oc, dc, Jc, _⟩ := insC_at I ic
    obtain ⟨m, hF⟩ := I.fr
    have env : Env0 X.prog X.w X.K X.mg X.base B X.stack s H := by
      obtain ⟨f1, f2, f3, f4, f5, f6, f7, f8⟩ := I.env0
      exact ⟨sb.fr.trans f1, f2, f3, f4, f5, f6, f7, f8⟩
    have two : Vals [V.ref a, V.ref c'] [Value.ref a, Value.ref c'] := Paired.cons rfl (Paired.cons rfl Paired.nil)
    have n2 := F.len _ _ _ _ hsp
    have bind : BindsTo s fd ⟨[.ref a, .ref c'], []⟩ (ps.zip [.ref a, .ref c']) := by simpa using hb s [.ref a, .ref c'] I.kIn (by simpa using n2)
    refine PySem.W.cmp_K (op := .Eq) (tb := .ref C) sb.room.units0 hF I.ok.mod.kin Ja Jc.type (by simp [PySem.W.notFirst]) c.at_ c.fn (wpAny_call (codeAny_mono (F.run B X.stack s H ⟨[.ref a, .ref c'], []⟩ [.ref a, .ref c'] [.ref a, .ref c'] _ E sb.room env bind two hsp) fun r s' back => ?_))
    match r, back with
    | .error er, z => exact hx pins σ H s er s' I z
    | .ok (.ret w), z =>
      obtain ⟨z', H', I', rz, ez, ex⟩ := I.after z
      subst ez
      cases (show w = Value.bool b from rz)
      exact ⟨b, rfl, rfl, H', I', ex⟩
    | .ok .next, z => exact z.elim
    | .ok .brk, z => exact z.elim
    | .ok .cont, z => exact z.elim
end
end OwU
/-! an own object beside a list or a text: ==, != -/
namespace OwU
open PySem PySem.Spec PyProof.Rows L2 StX OpX
section
variable {prog : Program} {w : World} {A : Around} {E : Value → Shared → Prop} {s : Shared} {K : PySem.W.Frag} {x C f : Addr} {ox : Obj} {od : Option Obj} {y tb : Value}
theorem ne_what {Q : Value → Shared → Prop} (hu : A.units < cLine) (hu1 : A.in1.units < cLine) (X : K.In s.heap) (I : PySem.W.InstAt s.heap x ox C od) (ty : PySem.W.Looks (model prog w) s.heap (typeOf y) tb) (off : (Value.ref C != tb) = true) (hn : PySem.W.subIn K tb (.ref C) = some false)
    (hne : PySem.W.findIn K (.ref C) "__ne__" = some (some (.builtin "object.__ne__"))) (hm : PySem.W.mroIn K C (.type "object") = some true) (hs : PySem.W.findIn K (.ref C) "__eq__" = some (some (.ref f))) (hf : PySem.W.isFn K (.ref f) = true)
    (h : wpAny (model prog w) A.in1 (call (.ref f) [.ref x, y]) (fun r s' => ∃ c, r = .bool c ∧ Q (.bool (!c)) s') E s) : wpAny (model prog w) A (richCompare .NotEq (.ref x) y) Q E s := by
  have word := turned (b := y) (Q := fun v s' => Q v s' ∧ ∃ c, v = .bool c) hu1 X I hm hs hf (wpAny_mono h (fun r s' ⟨c, e, q⟩ => ⟨c, e, q, _, rfl⟩) fun _ _ z => z)
  have bnd : PySem.W.Looks (model prog w) s.heap (bindSpecial (.builtin "object.__ne__") (.ref x)) (.builtin "object.__ne__", [.ref x]) := PySem.W.Looks.of_pure (PySem.F.slot_object_ne.bind _)
  have asked : wpAny (model prog w) A (call (.builtin "object.__ne__") ([.ref x] ++ [y]) >>= fun v => pure (some v)) (OpX.Told fun v s' => Q v s' ∧ ∃ c, v = .bool c) E s := wpAny_bind (wpAny_mono word (fun v s' q => wpAny_pure ⟨v, rfl, q⟩) fun _ _ z => z)
  have tried : wpAny (model prog w) A (tryCompare (.ref x) (cmpInfo .NotEq).2.1 y) (OpX.Told Q) E s := by
    unfold tryCompare callSpecialIfBound? bindSpecialIfBound?
    refine wpAny_bind (wpAny_holding (wpAny_bind (wpAny_bind (wpAny_bind (I.type.here ((PySem.W.looks_findIn X hne).here (wpAny_bind (wpAny_askSetting (wpAny_ite ?_)))))))))
    split
    · refine wpAny_bind (bnd.here (wpAny_pure ?_))
      exact wpAny_mono asked (fun r s' ⟨v, e, q, c, ec⟩ => by
        subst e ec
        exact wpAny_pure ⟨_, rfl, q⟩) fun _ _ z => z
    · refine wpAny_tryCatch (wpAny_bind (bnd.here (wpAny_pure ?_)))
      exact wpAny_mono asked (fun r s' ⟨v, e, q, c, ec⟩ => by
        subst e ec
        exact wpAny_pure ⟨_, rfl, q⟩) fun _ _ z => z
  unfold richCompare
  rw [oneThing_ref]
  refine wpAny_holding (wpAny_bind (wpAny_cRoomFor hu (wpAny_bind (I.type.here (wpAny_bind (ty.here ?_))))))
  rw [if_pos off]
  refine wpAny_bind ((PySem.W.looks_subIn X hn).here ?_)
  exact told_pure tried fun _ => rfl
end
section
variable {X : Cx} {CX : CXT} {n : Nat} {C g : Addr} {sp : Sp} {E : XK}
/-- x != y: x of the class at C, y a list -/
def rNeL (X : Cx) (C : Addr) (sp : Sp) (E : XK) : R2 := fun x y H Q => ∃ a b ys, x = .ref a ∧ y = .ref b ∧ InsC X H a C ∧ SqL X.K H b ys ∧ sp [.ref a, .ref b] H (fun v H' => ∃ c, v = .bl c ∧ Q (.bl (!c)) H') E
theorem op_neL (h : Has X.K C g "__eq__") (hn : PySem.W.subIn X.K (.type "list") (.ref C) = some false) (hne : PySem.W.findIn X.K (.ref C) "__ne__" = some (some (.builtin "object.__ne__"))) (hm : PySem.W.mroIn X.K C (.type "object") = some true) (F : FnR X.prog X.w X.K X.mg X.base CX n g sp)
    (hr : Room (n + 1) X.A) (hx : Passes CX X E) : OpR X (compareOp .NotEq) (rNeL X C sp E) := fun pins s σ H x y v u Q I rx ry ⟨a, b, ys, ex, ey, ha, hb, q⟩ => by
  subst ex ey
  cases (show v = Value.ref a from rx)
  cases (show u = Value.ref b from ry)
  obtain ⟨ox, od, J, _⟩ := insC_at I ha
  obtain ⟨its, rv, pl, _⟩ := I.list hb
  obtain ⟨o, ho, hc, _⟩ := pl.isList
  have ty : PySem.W.Looks (model X.prog X.w) s.heap (typeOf (.ref b)) (.type "list") := fun _ _ _ _ k z => wpAny_typeOf_ref (k _ _ ho) (by rw [hc]; exact z)
  refine ne_what hr.units0 hr.in1.units0 I.kIn J ty rfl hn hne hm h.at_ h.fn (wpAny_mono (wpAny_call (SlX.run_at (us := [.ref a, .ref b]) (ws := [.ref a, .ref b]) F hr.in1 I.env0.in1 hx I (.cons rfl (.cons rfl .nil)) q)) (fun r s' back => ?_) fun _ _ z => z)
  obtain ⟨_, H', I', rr, c, ec, qc⟩ := back
  subst ec
  cases (show r = Value.bool c from rr)
  exact ⟨c, rfl, .bl (!c), H', I', rfl, qc⟩
/-- x == y: x of the class at C, y a text -/
def rEqS (X : Cx) (C : Addr) (sp : Sp) (E : XK) : R2 := fun x y H Q => ∃ a z, x = .ref a ∧ y = .str z ∧ InsC X H a C ∧ PySem.W.notFirst X.K C (.type "str") = true ∧ sp [.ref a, .str z] H Q E
theorem op_eqS {op : CmpOp} (hop : ∀ a b, compareOp op a b = richCompare op a b) (h : Has X.K C g (cmpInfo op).2.1) (F : FnR X.prog X.w X.K X.mg X.base CX n g sp) (hr : Room n X.A) (hx : Passes CX X E) : OpR X (compareOp op) (rEqS X C sp E) := fun pins s σ H x y v u Q I rx ry ⟨a, z, ex, ey, ha, hn, q⟩ => by
  subst ex ey
  cases (show v = Value.ref a from rx)
  obtain ⟨t, et⟩ := (show ∃ t, u = Value.str z t from ry)
  subst et
  obtain ⟨ox, od, J, _⟩ := insC_at I ha
  obtain ⟨m, hF⟩ := I.fr
  rw [hop]
  exact PySem.W.cmp_K (op := op) (tb := .type "str") hr.units0 hF I.ok.mod.kin J (PySem.W.Looks.of_pure rfl) hn h.at_ h.fn (run_own (us := [.ref a, .str z t]) (vs := [.ref a, .str z]) F hr hx I (.cons rfl (.cons ⟨t, rfl⟩ .nil)) q)
end
end OwU
namespace K16
/-! ### spans of whole numbers by xor -/
def Spn : List Nat → Nat → Prop
  | [], x => x = 0
  | v :: vs, x => Spn vs x ∨ Spn vs (x ^^^ v)
def Lin (P : Nat → Prop) : Prop := P 0 ∧ ∀ x y, P x → P y → P (x ^^^ y)
theorem xx_cancel (x v : Nat) : x ^^^ v ^^^ v = x := by rw [Nat.xor_assoc, Nat.xor_self, Nat.xor_zero]
theorem x_swap (x y v : Nat) : x ^^^ y ^^^ v = x ^^^ v ^^^ y := by rw [Nat.xor_assoc, Nat.xor_comm y v, ← Nat.xor_assoc]
theorem sp_zero : ∀ vs, Spn vs 0
  | [] => rfl
  | _ :: vs => .inl (sp_zero vs)
theorem sp_xor : ∀ vs x y, Spn vs x → Spn vs y → Spn vs (x ^^^ y)
  | [], x, y, hx, hy => by cases hx; cases hy; rfl
  | v :: vs, x, y, hx, hy => by
    rcases hx with hx | hx <;> rcases hy with hy | hy
    · exact .inl (sp_xor vs x y hx hy)
    · exact .inr (by rw [Nat.xor_assoc]; exact sp_xor vs x _ hx hy)
    · exact .inr (by rw [x_swap]; exact sp_xor vs _ y hx hy)
    · exact .inl (by
        have h := sp_xor vs _ _ hx hy
        rwa [← Nat.xor_assoc, x_swap x v y, xx_cancel] at h)
theorem sp_lin (vs : List Nat) : Lin (Spn vs) := ⟨sp_zero vs, sp_xor vs⟩
theorem sp_mem : ∀ {vs : List Nat} {v : Nat}, v ∈ vs → Spn vs v
  | u :: vs, v, h => by
    rcases List.mem_cons.mp h with e | h
    · subst e
      exact .inr (by rw [Nat.xor_self]; exact sp_zero vs)
    · exact .inl (sp_mem h)
theorem sp_least {P : Nat → Prop} (L : Lin P) : ∀ {vs : List Nat} {x : Nat}, (∀ v ∈ vs, P v) → Spn vs x → P x
  | [], x, _, h => by cases h; exact L.1
  | v :: vs, x, hv, h => by
    rcases h with h | h
    · exact sp_least L (fun u hu => hv u (List.mem_cons_of_mem _ hu)) h
    · have h1 := L.2 _ _ (sp_least L (fun u hu => hv u (List.mem_cons_of_mem _ hu)) h) (hv v List.mem_cons_self)
      rwa [xx_cancel] at h1
theorem sp_sub {vs ws : List Nat} (h : ∀ v ∈ vs, Spn ws v) {x : Nat} (hx : Spn vs x) : Spn ws x := sp_least (sp_lin ws) h hx
theorem sp_lt {n : Nat} {vs : List Nat} (h : ∀ v ∈ vs, v < 2 ^ n) {x : Nat} (hx : Spn vs x) : x < 2 ^ n :=
  sp_least (P := fun x => x < 2 ^ n) ⟨Nat.two_pow_pos n, fun _ _ => Nat.xor_lt_two_pow⟩ h hx
theorem sp_snoc (l : List Nat) (v x : Nat) : Spn (l ++ [v]) x ↔ Spn l x ∨ Spn l (x ^^^ v) := by
  have e1 : ∀ y, Spn (v :: l) y → Spn (l ++ [v]) y := fun y => sp_sub fun u hu => sp_mem (by simpa [or_comm] using hu)
  have e2 : ∀ y, Spn (l ++ [v]) y → Spn (v :: l) y := fun y => sp_sub fun u hu => sp_mem (by simpa [or_comm] using hu)
  exact ⟨e2 x, e1 x⟩
/-! ### reduced rows -/
structure Red (B : List Nat) : Prop where
  desc : B.Pairwise (· > ·)
  pos : ∀ b ∈ B, b ≠ 0
  red : ∀ b ∈ B, ∀ c ∈ B, b ≠ c → c.testBit b.log2 = false
theorem top_on {b : Nat} (h : b ≠ 0) : b.testBit b.log2 = true := Nat.testBit_log2 h
theorem Red.tops {B : List Nat} (R : Red B) {b c : Nat} (hb : b ∈ B) (hc : c ∈ B) (h : b.log2 = c.log2) : b = c := by
  refine Classical.byContradiction fun n => ?_
  have h1 := R.red b hb c hc n
  rw [h, top_on (R.pos c hc)] at h1
  cases h1
theorem xor_ne {x y : Nat} (h : x ≠ y) : x ^^^ y ≠ 0 := fun e => h (by
  have h1 := xx_cancel x y
  rw [e, Nat.zero_xor] at h1
  exact h1.symm)
theorem log2_of {x t : Nat} (h1 : x.testBit t = true) (h2 : x < 2 ^ (t + 1)) : x.log2 = t := by
  have h3 : 2 ^ t ≤ x := Nat.ge_two_pow_of_testBit h1
  have h0 : x ≠ 0 := by
    intro e
    subst e
    simp at h1
  exact (Nat.log2_eq_iff h0).mpr ⟨h3, h2⟩
/-- the top of what lies in the span is the top of a row -/
theorem red_top : ∀ {B : List Nat}, Red B → ∀ {y : Nat}, Spn B y → y ≠ 0 → ∃ b ∈ B, b.log2 = y.log2
  | [], _, y, h, h0 => absurd h h0
  | b :: B, R, y, h, h0 => by
    have R' : Red B := ⟨(List.pairwise_cons.mp R.desc).2, fun c hc => R.pos c (List.mem_cons_of_mem _ hc), fun c hc d hd => R.red c (List.mem_cons_of_mem _ hc) d (List.mem_cons_of_mem _ hd)⟩
    rcases h with h | h
    · obtain ⟨c, hc, e⟩ := red_top R' h h0
      exact ⟨c, List.mem_cons_of_mem _ hc, e⟩
    · refine ⟨b, List.mem_cons_self, ?_⟩
      have hb0 : b ≠ 0 := R.pos b List.mem_cons_self
      by_cases z : y = b
      · rw [z]
      · obtain ⟨c, hc, e⟩ := red_top R' h (xor_ne z)
        have hcb : c < b := (List.pairwise_cons.mp R.desc).1 c hc
        have hne : b.log2 ≠ c.log2 := fun e' => Nat.lt_irrefl _ (by
          have := R.tops List.mem_cons_self (List.mem_cons_of_mem _ hc) e'
          rw [this] at hcb
          exact hcb)
        have hc0 : c ≠ 0 := R'.pos c hc
        have hlt : c.log2 < b.log2 := by
          have : c.log2 ≤ b.log2 := (Nat.le_log2 hb0).mpr (Nat.le_trans (Nat.log2_self_le hc0) (Nat.le_of_lt hcb))
          omega
        have hz : y ^^^ b < 2 ^ b.log2 := by
          have : y ^^^ b < 2 ^ ((y ^^^ b).log2 + 1) := Nat.lt_log2_self
          refine Nat.lt_of_lt_of_le this (Nat.pow_le_pow_right (by decide) ?_)
          omega
        have hy : y = (y ^^^ b) ^^^ b := (xx_cancel y b).symm
        have hbit : y.testBit b.log2 = true := by
          rw [hy, Nat.testBit_xor, Nat.testBit_lt_two_pow hz, top_on hb0]
          rfl
        have hlt2 : y < 2 ^ (b.log2 + 1) := by
          rw [hy]
          exact Nat.xor_lt_two_pow (Nat.lt_trans hz (Nat.pow_lt_pow_right (by decide) (by omega))) Nat.lt_log2_self
        exact (log2_of hbit hlt2).symm
theorem red_sub {B D : List Nat} (R : Red B) (S : Red D) (h : ∀ x, Spn B x ↔ Spn D x) {x : Nat} (hx : x ∈ B) : x ∈ D := by
  obtain ⟨d, hd, e⟩ := red_top S ((h x).mp (sp_mem hx)) (R.pos x hx)
  by_cases z : x = d
  · rw [z]; exact hd
  · exfalso
    have hs : Spn B (x ^^^ d) := sp_xor B _ _ (sp_mem hx) ((h d).mpr (sp_mem hd))
    obtain ⟨b, hb, e2⟩ := red_top R hs (xor_ne z)
    have ht := top_on (xor_ne z)
    rw [← e2, Nat.testBit_xor] at ht
    by_cases zb : b = x
    · rw [zb, top_on (R.pos x hx), ← e, top_on (S.pos d hd)] at ht
      cases ht
    · rw [R.red b hb x hx zb] at ht
      obtain ⟨f, hf, e3⟩ := red_top S ((h b).mp (sp_mem hb)) (R.pos b hb)
      by_cases zf : f = d
      · have : b.log2 = x.log2 := by rw [← e3, zf, e]
        exact zb (R.tops hb hx this)
      · rw [← e3, S.red f hf d hd zf] at ht
        cases ht
theorem desc_ext {B D : List Nat} (hb : B.Pairwise (· > ·)) (hd : D.Pairwise (· > ·)) (h : ∀ x, x ∈ B ↔ x ∈ D) : B = D := by
  have n1 : B.Nodup := hb.imp fun h => Nat.ne_of_gt h
  have n2 : D.Nodup := hd.imp fun h => Nat.ne_of_gt h
  exact List.Perm.eq_of_pairwise (le := (· > ·)) (fun a b _ _ h1 h2 => by omega) hb hd ((List.perm_ext_iff_of_nodup n1 n2).mpr h)
theorem asc_ext {B D : List Nat} (hb : B.Pairwise (· < ·)) (hd : D.Pairwise (· < ·)) (h : ∀ x, x ∈ B ↔ x ∈ D) : B = D := by
  have n1 : B.Nodup := hb.imp fun h => Nat.ne_of_lt h
  have n2 : D.Nodup := hd.imp fun h => Nat.ne_of_lt h
  exact List.Perm.eq_of_pairwise (le := (· < ·)) (fun a b _ _ h1 h2 => by omega) hb hd ((List.perm_ext_iff_of_nodup n1 n2).mpr h)
theorem red_unique {B D : List Nat} (R : Red B) (S : Red D) (h : ∀ x, Spn B x ↔ Spn D x) : B = D :=
  desc_ext R.desc S.desc fun _ => ⟨red_sub R S h, red_sub S R fun x => (h x).symm⟩
/-! ### one row more -/
def low (x r : Nat) : Nat := if x ^^^ r < x then x ^^^ r else x
theorem low_or (x r : Nat) : low x r = x ∨ low x r = x ^^^ r := by
  unfold low
  split
  · exact .inr rfl
  · exact .inl rfl
theorem low_le (x r : Nat) : low x r ≤ x := by
  unfold low
  split <;> omega
theorem low_lt {x r n : Nat} (h : x < n) : low x r < n := Nat.lt_of_le_of_lt (low_le x r) h
theorem low_bit {x r : Nat} (h0 : r ≠ 0) : (low x r).testBit r.log2 = false := by
  -- by the numbers above the top
  have hs : (x ^^^ r) >>> r.log2 = (x >>> r.log2) ^^^ 1 := by
    rw [Nat.shiftRight_xor_distrib]
    congr 1
    rw [Nat.shiftRight_eq_div_pow]
    have h1 := Nat.log2_self_le h0
    have h2 : r < 2 ^ (r.log2 + 1) := Nat.lt_log2_self
    rw [Nat.pow_succ] at h2
    exact Nat.div_eq_of_lt_le (by omega) (by omega)
  have hb : ∀ y : Nat, y.testBit r.log2 = decide ((y >>> r.log2) % 2 = 1) := fun y => by
    rw [Nat.shiftRight_eq_div_pow, Nat.testBit_eq_decide_div_mod_eq]
  have hx1 : ∀ q : Nat, q ^^^ 1 = if q % 2 = 1 then q - 1 else q + 1 := fun q => by
    refine Nat.eq_of_testBit_eq fun i => ?_
    rw [Nat.testBit_xor]
    cases i with
    | zero =>
      rw [Nat.testBit_zero, Nat.testBit_zero, Nat.testBit_zero]
      have h1 : (decide (1 % 2 = 1)) = true := rfl
      rw [h1]
      by_cases z : q % 2 = 1
      · rw [if_pos z, decide_eq_true z, decide_eq_false (show ¬ (q - 1) % 2 = 1 by omega)]; rfl
      · rw [if_neg z, decide_eq_false z, decide_eq_true (show (q + 1) % 2 = 1 by omega)]; rfl
    | succ i =>
      rw [Nat.testBit_succ, Nat.testBit_succ, Nat.testBit_succ]
      have : (1 : Nat) / 2 = 0 := rfl
      rw [this, Nat.zero_testBit]
      have e : (if q % 2 = 1 then q - 1 else q + 1) / 2 = q / 2 := by split <;> omega
      rw [e]
      simp
  unfold low
  by_cases z : (x >>> r.log2) % 2 = 1
  · have hlt : x ^^^ r < x := by
      refine Classical.byContradiction fun n => ?_
      have h1 : x >>> r.log2 ≤ (x ^^^ r) >>> r.log2 := by
        rw [Nat.shiftRight_eq_div_pow, Nat.shiftRight_eq_div_pow]
        exact Nat.div_le_div_right (by omega)
      rw [hs, hx1, if_pos z] at h1
      revert z h1
      generalize x >>> r.log2 = q
      intro z h1
      omega
    rw [if_pos hlt, hb, hs, hx1, if_pos z]
    refine decide_eq_false ?_
    revert z
    generalize x >>> r.log2 = q
    intro z
    omega
  · have hlt : ¬ x ^^^ r < x := fun n => by
      have h1 : (x ^^^ r) >>> r.log2 ≤ x >>> r.log2 := by
        rw [Nat.shiftRight_eq_div_pow, Nat.shiftRight_eq_div_pow]
        exact Nat.div_le_div_right (by omega)
      rw [hs, hx1, if_neg z] at h1
      exact Nat.not_succ_le_self _ h1
    rw [if_neg hlt, hb]
    exact decide_eq_false z
def red (B : List Nat) (v : Nat) : Nat := B.foldl low v
theorem low_keeps {x r i : Nat} (hx : x.testBit i = false) (hr : r.testBit i = false) : (low x r).testBit i = false := by
  rcases low_or x r with e | e
  · rw [e, hx]
  · rw [e, Nat.testBit_xor, hx, hr]; rfl
theorem red_lt : ∀ (B : List Nat) {v n : Nat}, v < n → red B v < n
  | [], _, _, h => h
  | r :: B, v, n, h => red_lt B (low_lt (r := r) h)
theorem red_keeps : ∀ (B : List Nat) (v i : Nat), v.testBit i = false → (∀ b ∈ B, b.testBit i = false) → (red B v).testBit i = false
  | [], _, _, h, _ => h
  | r :: B, v, i, h, hb => red_keeps B (low v r) i (low_keeps h (hb r List.mem_cons_self)) fun b h => hb b (List.mem_cons_of_mem _ h)
theorem red_sp : ∀ (B : List Nat) (v : Nat), Spn B (v ^^^ red B v)
  | [], v => Nat.xor_self v
  | r :: B, v => by
    have h := red_sp B (low v r)
    rcases low_or v r with e | e
    · refine .inl ?_
      show Spn B (v ^^^ red B (low v r))
      rw [e] at h ⊢
      exact h
    · refine .inr ?_
      show Spn B (v ^^^ red B (low v r) ^^^ r)
      rw [e] at h ⊢
      rwa [x_swap]
theorem red_clear : ∀ {B : List Nat}, Red B → ∀ (v : Nat), ∀ b ∈ B, (red B v).testBit b.log2 = false
  | [], _, _, b, h => absurd h (by simp)
  | r :: B, R, v, b, h => by
    have R' : Red B := ⟨(List.pairwise_cons.mp R.desc).2, fun c hc => R.pos c (List.mem_cons_of_mem _ hc), fun c hc d hd => R.red c (List.mem_cons_of_mem _ hc) d (List.mem_cons_of_mem _ hd)⟩
    rcases List.mem_cons.mp h with e | h
    · subst e
      refine red_keeps B _ _ (low_bit (R.pos b List.mem_cons_self)) fun c hc => R.red b List.mem_cons_self c (List.mem_cons_of_mem _ hc) fun e => ?_
      have := (List.pairwise_cons.mp R.desc).1 c hc
      omega
    · exact red_clear R' _ b h
theorem red_new {B : List Nat} (R : Red B) {r : Nat} (h0 : r ≠ 0) (hr : ∀ b ∈ B, r.testBit b.log2 = false) {D : List Nat} (hp : D.Perm (r :: B.map (low · r))) (hd : D.Pairwise (· ≥ ·)) :
    Red D ∧ ∀ x, Spn D x ↔ Spn (r :: B) x := by
  have hm : ∀ x, x ∈ D ↔ x = r ∨ ∃ b ∈ B, low b r = x := fun x => by
    rw [hp.mem_iff, List.mem_cons, List.mem_map]
  have hbit : ∀ b ∈ B, (low b r).testBit b.log2 = true := fun b hb => by
    rcases low_or b r with e | e
    · rw [e, top_on (R.pos b hb)]
    · rw [e, Nat.testBit_xor, hr b hb, top_on (R.pos b hb)]; rfl
  have hoff : ∀ b ∈ B, ∀ c ∈ B, b ≠ c → (low c r).testBit b.log2 = false := fun b hb c hc n => low_keeps (R.red b hb c hc n) (hr b hb)
  have hlog : ∀ b ∈ B, (low b r).log2 = b.log2 := fun b hb => log2_of (hbit b hb) (Nat.lt_of_le_of_lt (low_le b r) Nat.lt_log2_self)
  have nd : D.Nodup := by
    rw [hp.nodup_iff, List.nodup_cons]
    constructor
    · intro h
      obtain ⟨b, hb, e⟩ := List.mem_map.mp h
      have h1 := hr b hb
      rw [← e, hbit b hb] at h1
      cases h1
    · have nb : B.Nodup := R.desc.imp fun h => Nat.ne_of_gt h
      rw [List.Nodup, List.pairwise_map]
      refine List.Pairwise.imp_of_mem ?_ nb
      intro a b ha hb n e
      have h1 := hoff a ha b hb n
      rw [← e, hbit a ha] at h1
      cases h1
  refine ⟨⟨?_, ?_, ?_⟩, fun x => ⟨fun h => ?_, fun h => ?_⟩⟩
  · have : D.Pairwise fun a b => a ≥ b ∧ a ≠ b := hd.and nd
    exact this.imp fun h => by omega
  · intro x hx
    rcases (hm x).mp hx with e | ⟨b, hb, e⟩
    · rw [e]; exact h0
    · intro z
      have h1 := hbit b hb
      rw [e, z] at h1
      simp at h1
  · intro x hx y hy n
    rcases (hm x).mp hx with e | ⟨b, hb, e⟩ <;> rcases (hm y).mp hy with e' | ⟨c, hc, e'⟩
    · exact absurd (e.trans e'.symm) n
    · rw [e, ← e']; exact low_bit h0
    · rw [e', ← e, hlog b hb]; exact hr b hb
    · rw [← e, ← e', hlog b hb]
      exact hoff b hb c hc fun z => n (by rw [← e, ← e', z])
  · refine sp_sub (fun v hv => ?_) h
    rcases (hm v).mp hv with e | ⟨b, hb, e⟩
    · rw [e]; exact sp_mem List.mem_cons_self
    · rw [← e]
      rcases low_or b r with z | z
      · rw [z]; exact sp_mem (List.mem_cons_of_mem _ hb)
      · rw [z]; exact sp_xor _ _ _ (sp_mem (List.mem_cons_of_mem _ hb)) (sp_mem List.mem_cons_self)
  · refine sp_sub (fun v hv => ?_) h
    have hrD : Spn D r := sp_mem ((hm r).mpr (.inl rfl))
    rcases List.mem_cons.mp hv with e | hb
    · rw [e]; exact hrD
    · have h1 : Spn D (low v r) := sp_mem ((hm _).mpr (.inr ⟨v, hb, rfl⟩))
      rcases low_or v r with z | z
      · rwa [z] at h1
      · rw [z] at h1
        have h2 := sp_xor _ _ _ h1 hrD
        rwa [xx_cancel] at h2
theorem red_nil : Red [] := ⟨List.Pairwise.nil, fun _ h => absurd h (by simp), fun _ h => absurd h (by simp)⟩
/-! ### rows heard: the even ones -/
structure Par (od : Nat → Bool) : Prop where
  zero : od 0 = false
  xor : ∀ x y, od (x ^^^ y) = (od x ^^ od y)
theorem par_mask {od : Nat → Bool} (p : Par od) (m : Nat) : Par fun x => od (x &&& m) :=
  ⟨by show od (0 &&& m) = false; rw [Nat.zero_and]; exact p.zero, fun x y => by show od ((x ^^^ y) &&& m) = _; rw [Nat.and_xor_distrib_right]; exact p.xor _ _⟩
theorem heard_sp {od : Nat → Bool} (p : Par od) (vs : List Nat) (x : Nat) :
    Spn (vs.filter (fun v => !od v) ++ ((vs.filter fun v => od v).drop 1).map (· ^^^ ((vs.filter fun v => od v).headD 0))) x ↔ Spn vs x ∧ od x = false := by
  generalize hR : vs.filter (fun v => !od v) ++ ((vs.filter fun v => od v).drop 1).map (· ^^^ ((vs.filter fun v => od v).headD 0)) = R
  have hmem : ∀ u, u ∈ vs.filter (fun v => od v) → u ∈ vs ∧ od u = true := fun u hu => List.mem_filter.mp hu
  constructor
  · have hL : Lin fun x => Spn vs x ∧ od x = false := ⟨⟨sp_zero vs, p.zero⟩, fun a b ha hb => ⟨sp_xor vs _ _ ha.1 hb.1, by rw [p.xor, ha.2, hb.2]; rfl⟩⟩
    refine sp_least hL fun v hv => ?_
    rw [← hR] at hv
    rcases List.mem_append.mp hv with h | h
    · have h1 := List.mem_filter.mp h
      exact ⟨sp_mem h1.1, by simpa using h1.2⟩
    · obtain ⟨u, hu, e⟩ := List.mem_map.mp h
      have hu1 := hmem u (List.mem_of_mem_drop hu)
      have ho : (vs.filter fun v => od v).headD 0 ∈ vs.filter fun v => od v := by
        cases hf : vs.filter fun v => od v with
        | nil => rw [hf] at hu; exact absurd hu (by simp)
        | cons a l => exact List.mem_cons_self
      have ho1 := hmem _ ho
      rw [← e]
      exact ⟨sp_xor vs _ _ (sp_mem hu1.1) (sp_mem ho1.1), by rw [p.xor, hu1.2, ho1.2]; rfl⟩
  · intro ⟨hx, hod⟩
    cases hf : vs.filter fun v => od v with
    | nil =>
      refine sp_sub (fun v hv => ?_) hx
      refine sp_mem ?_
      rw [← hR]
      refine List.mem_append.mpr (.inl (List.mem_filter.mpr ⟨hv, ?_⟩))
      cases z : od v with
      | false => rfl
      | true =>
        have : v ∈ vs.filter fun v => od v := List.mem_filter.mpr ⟨hv, z⟩
        rw [hf] at this
        exact absurd this (by simp)
    | cons o l =>
      have hL : Lin fun x => Spn R (if od x then x ^^^ o else x) := by
        refine ⟨?_, fun a b ha hb => ?_⟩
        · show Spn R (if od 0 then 0 ^^^ o else 0)
          rw [p.zero]
          exact sp_zero R
        · show Spn R (if od (a ^^^ b) then a ^^^ b ^^^ o else a ^^^ b)
          rw [p.xor]
          cases za : od a <;> cases zb : od b <;> simp only [za, zb, if_true, if_false, Bool.false_eq_true, Bool.xor_false, Bool.false_xor, Bool.xor_true, Bool.true_xor, Bool.not_true, Bool.not_false, Bool.xor_self] at ha hb ⊢
          · exact sp_xor R _ _ ha hb
          · have := sp_xor R _ _ ha hb
            rwa [← Nat.xor_assoc] at this
          · have := sp_xor R _ _ ha hb
            rwa [x_swap] at this
          · have := sp_xor R _ _ ha hb
            rwa [← Nat.xor_assoc, x_swap a o b, xx_cancel] at this
      have h1 := sp_least hL (vs := vs) (x := x) (fun v hv => ?_) hx
      · rwa [hod, if_neg (by decide)] at h1
      · show Spn R (if od v then v ^^^ o else v)
        cases z : od v with
        | false =>
          rw [if_neg (by decide)]
          refine sp_mem ?_
          rw [← hR]
          exact List.mem_append.mpr (.inl (List.mem_filter.mpr ⟨hv, by rw [z]; rfl⟩))
        | true =>
          rw [if_pos rfl]
          have hm : v ∈ vs.filter fun v => od v := List.mem_filter.mpr ⟨hv, z⟩
          rw [hf] at hm hR
          rcases List.mem_cons.mp hm with e | h
          · rw [e, Nat.xor_self]; exact sp_zero R
          · refine sp_mem ?_
            rw [← hR]
            exact List.mem_append.mpr (.inr (List.mem_map.mpr ⟨v, h, rfl⟩))
/-! ### images -/
theorem sp_image {f : Nat → Nat} (h0 : f 0 = 0) (hf : ∀ x y, f (x ^^^ y) = f x ^^^ f y) (B : List Nat) (y : Nat) : Spn (B.map f) y ↔ ∃ x, Spn B x ∧ f x = y := by
  constructor
  · refine sp_least (P := fun y => ∃ x, Spn B x ∧ f x = y) ⟨⟨0, sp_zero B, h0⟩, fun a b ⟨x, hx, e⟩ ⟨z, hz, e'⟩ => ⟨x ^^^ z, sp_xor B _ _ hx hz, by rw [hf, e, e']⟩⟩ fun v hv => ?_
    obtain ⟨b, hb, e⟩ := List.mem_map.mp hv
    exact ⟨b, sp_mem hb, e⟩
  · intro ⟨x, hx, e⟩
    rw [← e]
    exact sp_least (P := fun x => Spn (B.map f) (f x)) ⟨by show Spn _ (f 0); rw [h0]; exact sp_zero _, fun a b ha hb => by show Spn _ (f (a ^^^ b)); rw [hf]; exact sp_xor _ _ _ ha hb⟩ (fun v hv => sp_mem (List.mem_map.mpr ⟨v, hv, rfl⟩)) hx
theorem bit_xor (a b c d : Nat) (ha : a < 2) (hc : c < 2) : (a + 2 * b) ^^^ (c + 2 * d) = (a ^^^ c) + 2 * (b ^^^ d) := by
  have hac : a ^^^ c < 2 := Nat.xor_lt_two_pow (n := 1) ha hc
  refine Nat.eq_of_testBit_eq fun i => ?_
  rw [Nat.testBit_xor]
  cases i with
  | zero =>
    rw [Nat.testBit_zero, Nat.testBit_zero, Nat.testBit_zero, Nat.add_mul_mod_self_left, Nat.add_mul_mod_self_left, Nat.add_mul_mod_self_left]
    rcases (show a = 0 ∨ a = 1 by omega) with e | e <;> rcases (show c = 0 ∨ c = 1 by omega) with e' | e' <;> subst e <;> subst e' <;> rfl
  | succ i =>
    rw [Nat.testBit_succ, Nat.testBit_succ, Nat.testBit_succ, ← Nat.testBit_xor]
    congr 1
    rw [show (a + 2 * b) / 2 = b by omega, show (c + 2 * d) / 2 = d by omega, show ((a ^^^ c) + 2 * (b ^^^ d)) / 2 = b ^^^ d by omega]
/-- the signs of x at these places -/
def pk (x : Nat) : List Nat → Nat
  | [] => 0
  | p :: ps => (x.testBit p).toNat + 2 * pk x ps
theorem toNat_xor (a b : Bool) : (a ^^ b).toNat = a.toNat ^^^ b.toNat := by cases a <;> cases b <;> rfl
theorem toNat_lt (a : Bool) : a.toNat < 2 := by cases a <;> decide
theorem pk_zero : ∀ ps, pk 0 ps = 0
  | [] => rfl
  | p :: ps => by
    show ((0 : Nat).testBit p).toNat + 2 * pk 0 ps = 0
    rw [pk_zero ps, Nat.zero_testBit]
    rfl
theorem pk_xor (x y : Nat) : ∀ ps, pk (x ^^^ y) ps = pk x ps ^^^ pk y ps
  | [] => (Nat.xor_self 0).symm
  | p :: ps => by
    show ((x ^^^ y).testBit p).toNat + 2 * pk (x ^^^ y) ps = ((x.testBit p).toNat + 2 * pk x ps) ^^^ ((y.testBit p).toNat + 2 * pk y ps)
    rw [bit_xor _ _ _ _ (toNat_lt _) (toNat_lt _), Nat.testBit_xor, toNat_xor, pk_xor x y ps]
theorem pk_lt (x : Nat) : ∀ ps, pk x ps < 2 ^ ps.length
  | [] => (by decide : 0 < 2 ^ 0)
  | p :: ps => by
    show (x.testBit p).toNat + 2 * pk x ps < 2 ^ (ps.length + 1)
    have := pk_lt x ps
    have := toNat_lt (x.testBit p)
    rw [Nat.pow_succ]
    omega
theorem pk_snoc (x p : Nat) : ∀ ps, pk x (ps ++ [p]) = pk x ps + (x.testBit p).toNat * 2 ^ ps.length
  | [] => by show (x.testBit p).toNat + 2 * 0 = 0 + (x.testBit p).toNat * 1; omega
  | q :: ps => by
    show (x.testBit q).toNat + 2 * pk x (ps ++ [p]) = (x.testBit q).toNat + 2 * pk x ps + (x.testBit p).toNat * 2 ^ (ps.length + 1)
    rw [pk_snoc x p ps, Nat.pow_succ, Nat.mul_add, ← Nat.mul_assoc _ _ 2, Nat.mul_comm _ 2]
    omega
theorem dbl_xor (x y : Nat) : 2 * (x ^^^ y) = 2 * x ^^^ 2 * y := by
  have := bit_xor 0 x 0 y (by decide) (by decide)
  simpa using this.symm
/-! ### parity -/
def od (x : Nat) : Bool := x.testBit 0 ^^ x.testBit 1 ^^ x.testBit 2 ^^ x.testBit 3 ^^ x.testBit 4 ^^ x.testBit 5 ^^ x.testBit 6 ^^ x.testBit 7
theorem par_bit (i : Nat) : Par fun x => x.testBit i := ⟨Nat.zero_testBit i, fun x y => Nat.testBit_xor x y i⟩
theorem bool4 : ∀ a b c d : Bool, ((a ^^ b) ^^ (c ^^ d)) = ((a ^^ c) ^^ (b ^^ d)) := by decide
theorem Par.add {f g : Nat → Bool} (p : Par f) (q : Par g) : Par fun x => f x ^^ g x :=
  ⟨by show (f 0 ^^ g 0) = false; rw [p.zero, q.zero]; rfl, fun x y => by show (f (x ^^^ y) ^^ g (x ^^^ y)) = ((f x ^^ g x) ^^ (f y ^^ g y)); rw [p.xor, q.xor]; exact bool4 _ _ _ _⟩
theorem od_par : Par od := (((((((par_bit 0).add (par_bit 1)).add (par_bit 2)).add (par_bit 3)).add (par_bit 4)).add (par_bit 5)).add (par_bit 6)).add (par_bit 7)
theorem od_step : ∀ x, x < 256 → x = 0 ∨ od (x &&& (x - 1)) = !od x := by decide +kernel
def bits8 : List Nat := [1, 2, 4, 8, 16, 32, 64, 128]
theorem od_count : ∀ x, x < 256 → ((bits8.filter fun b => decide (0 < x &&& b)).length ∈ [1, 3, 5, 7] ↔ od x = true) := by decide +kernel
theorem top_max {x m : Nat} (h0 : x ≠ 0) (hx : x < 256) (hm : m ∈ bits8.filter fun b => decide (b ≤ x)) (ht : ∀ y ∈ bits8.filter fun b => decide (b ≤ x), y ≤ m) : m = 2 ^ x.log2 := by
  have h1 := List.mem_filter.mp hm
  have hb : ∃ i, i < 8 ∧ m = 2 ^ i := by
    have : m ∈ bits8 → ∃ i, i < 8 ∧ m = 2 ^ i := by
      intro h
      simp only [bits8, List.mem_cons, List.not_mem_nil, or_false] at h
      rcases h with h | h | h | h | h | h | h | h
      · exact ⟨0, by decide, h⟩
      · exact ⟨1, by decide, h⟩
      · exact ⟨2, by decide, h⟩
      · exact ⟨3, by decide, h⟩
      · exact ⟨4, by decide, h⟩
      · exact ⟨5, by decide, h⟩
      · exact ⟨6, by decide, h⟩
      · exact ⟨7, by decide, h⟩
    exact this h1.1
  obtain ⟨i, hi, e⟩ := hb
  have h2 : m ≤ x := by simpa using h1.2
  have h3 : i ≤ x.log2 := (Nat.le_log2 h0).mpr (by rw [← e]; exact h2)
  have h4 : x.log2 < 8 := (Nat.log2_lt h0).mpr hx
  have h5 : 2 ^ x.log2 ≤ m := by
    refine ht _ (List.mem_filter.mpr ⟨?_, by simpa using Nat.log2_self_le h0⟩)
    have : ∀ j, j < 8 → 2 ^ j ∈ bits8 := by decide
    exact this _ h4
  have h6 : 2 ^ i ≤ 2 ^ x.log2 := Nat.pow_le_pow_right (by decide) h3
  omega
/-! ### lists of spans -/
def IsS (P : Nat → Prop) (l : List Nat) : Prop := l.Pairwise (· < ·) ∧ ∀ x, x ∈ l ↔ P x
theorem IsS.eq {P Q : Nat → Prop} {l k : List Nat} (h : IsS P l) (g : IsS Q k) (e : ∀ x, P x ↔ Q x) : l = k :=
  asc_ext h.1 g.1 fun x => by rw [h.2, g.2, e]
theorem IsS.congr {P Q : Nat → Prop} {l : List Nat} (h : IsS P l) (e : ∀ x, P x ↔ Q x) : IsS Q l := ⟨h.1, fun x => by rw [h.2, e]⟩
theorem isS_of {P : Nat → Prop} {l k : List Nat} (hp : k.Perm l) (hs : k.Pairwise (· ≤ ·)) (hn : l.Nodup) (hm : ∀ x, x ∈ l ↔ P x) : IsS P k := by
  have nk : k.Nodup := hp.nodup_iff.mpr hn
  have : k.Pairwise fun a b => a ≤ b ∧ a ≠ b := hs.and nk
  exact ⟨this.imp fun h => by omega, fun x => by rw [hp.mem_iff, hm]⟩
theorem isS_filter {P : Nat → Prop} {l : List Nat} (h : IsS P l) (f : Nat → Bool) : IsS (fun x => P x ∧ f x = true) (l.filter f) :=
  ⟨h.1.filter f, fun x => by rw [List.mem_filter, h.2]⟩
/-- one vector more: what is found grows -/
theorem span_step {l found : List Nat} {v : Nat} (nd : found.Nodup) (hm : ∀ x, x ∈ found ↔ Spn l x) :
    (v ∈ found → ∀ x, x ∈ found ↔ Spn (l ++ [v]) x) ∧ (v ∉ found → (found ++ found.map (· ^^^ v)).Nodup ∧ ∀ x, x ∈ found ++ found.map (· ^^^ v) ↔ Spn (l ++ [v]) x) := by
  constructor
  · intro hv x
    rw [hm, sp_snoc]
    refine ⟨.inl, fun h => ?_⟩
    rcases h with h | h
    · exact h
    · have := sp_xor l _ _ h ((hm v).mp hv)
      rwa [xx_cancel] at this
  · intro hv
    have inj : ∀ a b : Nat, a ^^^ v = b ^^^ v → a = b := fun a b e => by rw [← xx_cancel a v, e, xx_cancel]
    constructor
    · rw [List.nodup_append]
      refine ⟨nd, ?_, ?_⟩
      · rw [List.Nodup, List.pairwise_map]
        exact nd.imp fun h e => h (inj _ _ e)
      · intro a ha b hb e
        obtain ⟨c, hc, e2⟩ := List.mem_map.mp hb
        refine hv ((hm v).mpr ?_)
        have := sp_xor l _ _ ((hm c).mp hc) ((hm a).mp ha)
        rw [e, ← e2, ← Nat.xor_assoc, Nat.xor_self, Nat.zero_xor] at this
        exact this
    · intro x
      rw [List.mem_append, sp_snoc, hm]
      constructor
      · rintro (h | h)
        · exact .inl h
        · obtain ⟨c, hc, e⟩ := List.mem_map.mp h
          refine .inr ?_
          rw [← e, xx_cancel]
          exact (hm c).mp hc
      · rintro (h | h)
        · exact .inl h
        · exact .inr (List.mem_map.mpr ⟨x ^^^ v, (hm _).mpr h, xx_cancel x v⟩)
/-! ### opened, known -/
theorem opened_sp (B : List Nat) (y : Nat) : Spn (B.map (2 * ·) ++ [1]) y ↔ ∃ x, Spn B x ∧ (y = 2 * x ∨ y = 2 * x + 1) := by
  have img := fun z => sp_image (f := (2 * ·)) rfl dbl_xor B z
  have hx : ∀ x, 2 * x ^^^ 1 = 2 * x + 1 := fun x => by
    have := bit_xor 0 x 1 0 (by decide) (by decide)
    simp at this
    omega
  rw [sp_snoc, img, img]
  constructor
  · rintro (⟨x, hx1, e⟩ | ⟨x, hx1, e⟩)
    · exact ⟨x, hx1, .inl e.symm⟩
    · refine ⟨x, hx1, .inr ?_⟩
      have e : 2 * x = y ^^^ 1 := e
      rw [← hx, e, xx_cancel]
  · rintro ⟨x, hx1, e | e⟩
    · exact .inl ⟨x, hx1, e.symm⟩
    · refine .inr ⟨x, hx1, ?_⟩
      show 2 * x = y ^^^ 1
      rw [e, ← hx, xx_cancel]
theorem closed_sp (B : List Nat) (y : Nat) : Spn (B.map (2 * ·)) y ↔ ∃ x, Spn B x ∧ y = 2 * x := by
  rw [sp_image (f := (2 * ·)) rfl dbl_xor B y]
  exact ⟨fun ⟨x, h, e⟩ => ⟨x, h, e.symm⟩, fun ⟨x, h, e⟩ => ⟨x, h, e.symm⟩⟩
theorem knows_sp {B : List Nat} {p : Nat} : (∀ b ∈ B, b.testBit p = false) ↔ ∀ x, Spn B x → x.testBit p = false :=
  ⟨fun h _ hx => sp_least (P := fun x => x.testBit p = false) ⟨Nat.zero_testBit p, fun a b ha hb => by show (a ^^^ b).testBit p = false; rw [Nat.testBit_xor, ha, hb]; rfl⟩ h hx, fun h b hb => h b (sp_mem hb)⟩
/-- the shapes of the lists of a law -/
theorem isS_dbl {P : Nat → Prop} {l : List Nat} (h : IsS P l) : IsS (fun y => ∃ x, P x ∧ y = 2 * x) (l.map (2 * ·)) :=
  ⟨by
    rw [List.pairwise_map]
    exact h.1.imp fun h => by omega, fun y => by
    rw [List.mem_map]
    exact ⟨fun ⟨x, hx, e⟩ => ⟨x, (h.2 x).mp hx, e.symm⟩, fun ⟨x, hx, e⟩ => ⟨x, (h.2 x).mpr hx, e.symm⟩⟩⟩
theorem nd_open {P : Nat → Prop} {l : List Nat} (h : IsS P l) : (l.map (2 * ·) ++ l.map (2 * · + 1)).Nodup ∧ ∀ y, y ∈ l.map (2 * ·) ++ l.map (2 * · + 1) ↔ ∃ x, P x ∧ (y = 2 * x ∨ y = 2 * x + 1) := by
  constructor
  · rw [List.nodup_append]
    refine ⟨?_, ?_, ?_⟩
    · rw [List.Nodup, List.pairwise_map]
      exact h.1.imp fun h => by omega
    · rw [List.Nodup, List.pairwise_map]
      exact h.1.imp fun h => by omega
    · intro a ha b hb e
      obtain ⟨x, _, e1⟩ := List.mem_map.mp ha
      obtain ⟨z, _, e2⟩ := List.mem_map.mp hb
      omega
  · intro y
    rw [List.mem_append, List.mem_map, List.mem_map]
    constructor
    · rintro (⟨x, hx, e⟩ | ⟨x, hx, e⟩)
      · exact ⟨x, (h.2 x).mp hx, .inl e.symm⟩
      · exact ⟨x, (h.2 x).mp hx, .inr e.symm⟩
    · rintro ⟨x, hx, e | e⟩
      · exact .inl ⟨x, (h.2 x).mpr hx, e.symm⟩
      · exact .inr ⟨x, (h.2 x).mpr hx, e.symm⟩
end K16
/-! a tuple times any number from one on; x(*y), x a name of the def that holds a class; an own object beside a list -/
namespace RdX
open PySem PySem.Spec PyProof.Rows L2 StX OpX
/-- t * 1 is t itself -/
theorem once_mul (l : Addr) (items : Array Value) (n : Nat) (dd : Option Addr) (sl : Array (Option Value)) (u : Tok) : Meets (Builtin.«tuple.__mul__» ⟨[.ref l, .int 1 u], []⟩) (fun _ R s => s.heap.get? l = some { cls := .type "tuple", dict := dd, data := .seq items n, slots := sl } ∧ R (.ok (.ret (.ref l))) s) := Meets.of_wp fun prog w A R s hh => by
  rcases s with ⟨hp, gs, ds, tk, sys⟩
  rcases hh with ⟨at_, goal⟩
  have f1 := AutoSeq1.idx_int
  have c0 : (decide ((1 : Int) < -(2 ^ 63)) || decide ((1 : Int) ≥ 2 ^ 63)) = false := by decide
  have c1 : (items.isEmpty || (1 : Int) == 1) = true := by rw [show ((1 : Int) == 1) = true from rfl, Bool.or_true]
  wp_walk using wpAny_loadPart' at_
  repeat (first
    | (refine wpAny_ite_false (decide_eq_false (by rw [c0]; exact Bool.false_ne_true)) ?_; wp_walk using wpAny_loadPart' at_)
    | (refine wpAny_ite_true (decide_eq_true c1) ?_; wp_walk using wpAny_loadPart' at_))
  exact ⟨_, rfl, goal⟩
def rOnce (K : PySem.W.Frag) : R2 := fun x y H Q => ∃ l xs, x = .ref l ∧ y = .int 1 ∧ SqT K H l xs ∧ Q (.ref l) H
section
variable {X : Cx}
theorem op_once : OpR X (binaryOp .Mult) (rOnce X.K) := by
  intro pins s σ H x y v u Q I rx ry hq
  obtain ⟨l, xs, rfl, rfl, hT, q⟩ := hq
  cases (show v = Value.ref l from rx)
  obtain ⟨t, e⟩ := (show ∃ t, u = Value.int 1 t from ry)
  subst e
  obtain ⟨its, r, ⟨⟨cls, dd, data, sl⟩, ho, hc, n, hd⟩, hs⟩ := I.tuple hT
  simp only at hc hd
  subst hc hd
  have kind : s.TypeIs (.ref l) "tuple" := ⟨_, ho, rfl⟩
  exact wpAny_binaryOp_repeat_ref (T := "tuple") (U := "int") (by decide) kind (fun s' => typeIs_int s' 1 t) noFill_tuple_mul F.fills_int_mul F.slot_int_rmul repeat_tuple F.slot_int_index.lookup
    (call_meets F.slot_int_rmul (typeIs_int s 1 t) F.entry_int_rmul (F.args_int_rmul_2 _ _) (int_rmul_tuple 1 t l its.toArray n dd sl) ⟨ho, rfl, kind, call_meets F.slot_tuple_mul kind F.entry_tuple_mul (F.args_tuple_mul_2 _ _) (once_mul l its.toArray n dd sl t) ⟨ho, ⟨.ref l, H, I, rfl, q⟩⟩⟩)
end
section
variable {X : Cx} {CX : CXT} {k n i : Nat} {f C g : Addr} {sp : Sp} {E : XK} {x : Str} {e : Expr} {te : TE} {p q pos : Pos}
/-- C(*y), C a class of the module -/
def tMakeS (X : Cx) (C : Addr) (sp : Sp) (E : XK) (te : TE) : TE := fun σ H Q => te σ H fun y H1 => ∃ a xs, y = V.ref a ∧ (SqT X.K H1 a xs ∨ SqL X.K H1 a xs) ∧ ∀ x dx, H1 x = Option.none → H1 dx = Option.none → dx ≠ x →
  sp (V.ref x :: xs) (upd (upd H1 dx (.own x)) x (.ins C dx [])) (fun v H2 => v = .non ∧ Q (.ref x) H2) E
theorem pe_makeS1 (M : Mk X.K C f) (F : FnR X.prog X.w X.K X.mg X.base CX k f sp) (hr : Room (k + 1) X.A) (hg : Gl X x) (hm : X.mg x = some (.ref C)) (hx : Passes CX X E) (he : PE X e te) (hd : (x == ("__debug__" : Str)) = false := by decide)
    (hst : starEach [.Starred e q] X.env = [(true, eval e X.env)] := by rfl) : PE X (.Call (.Name x p) [.Starred e q] [] pos) (tMakeS X C sp E te) := by
  refine ⟨fun pins s σ H Q I h => wpAny_Call_Name_kw (ld_glob I hg hm (PySem.W.callWith_S (h₀ := X.base) I.ok.mod.kin M.kp (thn (he.run pins s σ H _ I h) fun v s1 z => ?_) hst) hd)⟩
  obtain ⟨y, H1, J, ry, a, xs, ey, hxs, q⟩ := z
  subst ey
  cases (show v = Value.ref a from ry)
  exact star_any J hxs fun us s2 J2 rv => ⟨J2.kIn, run_makeR M F hr hx J2 rv q⟩
/-- x(*y), x a name of the def (slot i) that holds the class at C -/
def tMakeLS (X : Cx) (i : Nat) (C : Addr) (sp : Sp) (E : XK) (te : TE) : TE := fun σ H Q => σ[i]? = some (some (.ref C)) ∧ tMakeS X C sp E te σ H Q
theorem pe_makeLS (M : Mk X.K C f) (F : FnR X.prog X.w X.K X.mg X.base CX k f sp) (hr : Room (k + 1) X.A) (hN : X.N[i]? = some x) (hv : Vis X.env.scope x) (hx : Passes CX X E) (he : PE X e te) (hd : (x == ("__debug__" : Str)) = false := by decide) (hcd : (x == ("__classdict__" : Str)) = false := by decide)
    (hst : starEach [.Starred e q] X.env = [(true, eval e X.env)] := by rfl) : PE X (.Call (.Name x p) [.Starred e q] [] pos) (tMakeLS X i C sp E te) := by
  refine ⟨fun pins s σ H Q I ⟨hs, h⟩ => wpAny_Call_Name_kw (thn ((pe_var (pos := p) (i := i) hN hv hd hcd).run pins s σ H (fun v H1 => v = .ref C ∧ H1 = H) I ⟨.ref C, hs, rfl, rfl⟩) fun u s1 z => ?_)⟩
  obtain ⟨v, H1, J, r1, ev, eH⟩ := z
  subst ev eH
  cases (show u = Value.ref C from r1)
  refine PySem.W.callWith_S (h₀ := X.base) J.ok.mod.kin M.kp (thn (he.run pins s1 σ _ _ J h) fun v s2 z => ?_) hst
  obtain ⟨y, H2, J2, ry, a, xs, ey, hxs, q⟩ := z
  subst ey
  cases (show v = Value.ref a from ry)
  exact star_any J2 hxs fun us s3 J3 rv => ⟨J3.kIn, run_makeR M F hr hx J3 rv q⟩
/-- x == y: x of the class at C, y a list -/
def rEqL (X : Cx) (C : Addr) (sp : Sp) (E : XK) : R2 := fun x y H Q => ∃ a b ys, x = .ref a ∧ y = .ref b ∧ InsC X H a C ∧ SqL X.K H b ys ∧ PySem.W.notFirst X.K C (.type "list") = true ∧ sp [.ref a, .ref b] H Q E
theorem op_eqL {op : CmpOp} (hop : ∀ a b, compareOp op a b = richCompare op a b) (h : Has X.K C g (cmpInfo op).2.1) (F : FnR X.prog X.w X.K X.mg X.base CX n g sp) (hr : Room n X.A) (hx : Passes CX X E) : OpR X (compareOp op) (rEqL X C sp E) := fun pins s σ H x y v u Q I rx ry hq => by
  obtain ⟨a, b, ys, rfl, rfl, ha, hb, hn, q⟩ := hq
  cases (show v = Value.ref a from rx)
  cases (show u = Value.ref b from ry)
  obtain ⟨ox, od, J, _⟩ := insC_at I ha
  obtain ⟨its, rv, pl, _⟩ := I.list hb
  obtain ⟨o, ho, hc, _⟩ := pl.isList
  obtain ⟨m, hF⟩ := I.fr
  have kind : PySem.W.Looks (model X.prog X.w) s.heap (typeOf (.ref b)) (.type "list") := fun _ _ _ _ k z => wpAny_typeOf_ref (k _ _ ho) (by rw [hc]; exact z)
  rw [hop]
  exact PySem.W.cmp_K (op := op) (tb := .type "list") hr.units0 hF I.ok.mod.kin J kind hn h.at_ h.fn (run_own (us := [.ref a, .ref b]) (vs := [.ref a, .ref b]) F hr hx I (.cons rfl (.cons rfl .nil)) q)
end
end RdX
/-! a def (self, *v, x = d): called with x by its name, and without -/
namespace StK
open PySem PySem.Spec PyProof.Rows L2 StX
abbrev SpK := List V → V → Hp → VK → XK → Prop
section
variable {CX : CXT} {P : Program} {w : World} {K : PySem.W.Frag} {mg : Str → Option Value} {base : Heap} {k : Nat} {f : Addr} {name qual : Str} {params : Arguments} {body : List Stmt} {scope : Scope} {dV doc pm cdv ct oc : Value} {D : Addr} {an od : Option Addr} {osl : Array (Option Value)} {N : List Str} {sp : Sp}
def FnRK (P : Program) (w : World) (K : PySem.W.Frag) (mg : Str → Option Value) (base : Heap) (CX : CXT) (k : Nat) (f : Addr) (x : Str) (sp : SpK) : Prop := ∀ (A : Around) (outer : List Env) (s : Shared) (H : Hp) (us : List Value) (u : Value) (vs : List V) (v : V) (Q : VK) (E : XK),
  Room k A → Env0 P w K mg base A outer s H → Vals vs us → RelV v u → sp vs v H Q E → codeAny (model P w) A (.call (.ref f) ⟨us, [(x, u)]⟩) (CR CX outer P w H s Q E) s
/-- what is asked: self, what stands behind it in a new tuple, the keyword's value -/
def starSp (sp : Sp) : SpK := fun vs v H Q E => ∃ a rest, vs = a :: rest ∧ rest.length ≤ sizeLine ∧ ∀ p, H p = Option.none → sp [a, v, V.ref p] (upd H p (.tup rest)) Q E
theorem tup_laid {A : Around} {outer : List Env} {s : Shared} {H : Hp} {rest : List V} {us : List Value} {E : XK} (e0 : Env0 P w K mg base A outer s H) (up : CXUp CX) (r : Vals rest us) (hz : rest.length ≤ sizeLine) :
    ∃ (s2 : Shared) (H2 : Hp), s2 = { s with heap := s.heap.push ({ cls := .type "tuple", data := .seq us.toArray } : Obj) } ∧ H2 = upd H s.heap.objs.size (.tup rest) ∧ Env0 P w K mg base A outer s2 H2 ∧ Un (frs outer) [] H H2 s.heap s2.heap ∧ s2.os = s.os ∧ (∀ e s', CX outer H2 s2 E e s' → CX outer H s E e s') ∧ H s.heap.objs.size = Option.none := by
  have hn : H s.heap.objs.size = Option.none := e0.hok.fresh (Nat.le_refl _)
  have new : ObjOk P w (upd H s.heap.objs.size (.tup rest)) (s.heap.push ({ cls := .type "tuple", data := .seq us.toArray } : Obj)) s.heap.objs.size (.tup rest) := ⟨hz, us, r, ⟨_, Heap.get?_push_size _ rfl, rfl, _, rfl⟩⟩
  have un := un_laid (fs := frs outer) (s := s) (o := ({ cls := .type "tuple", data := .seq us.toArray } : Obj)) (u := .tup rest) hn
  exact ⟨_, _, rfl, rfl, env0_laid e0 new, un, rfl, fun e s' => up outer s H _ _ E e s' un (fun b o q => Heap.get?_push_of_some _ q) rfl, hn⟩
theorem fn_starK {a0 x pv : Str} {kV : Value} (lk : K.lookup f = some ⟨oc, od, .func (PySem.W.fnOf name qual params body scope dV kV doc pm an cdv ct), osl⟩) (hcd : PySem.W.codeIn K cdv qual = true) (S : FnScope N [a0, x, pv] scope) (up : CXUp CX)
    (binds : ∀ (u0 : Value) (rest : List Value) (u : Value), bindArgs (PySem.W.fnOf name qual params body scope dV kV doc pm an cdv ct) ⟨u0 :: rest, [(x, u)]⟩ = (newTuple rest >>= fun t => pure [(a0, u0), (x, u), (pv, t)]))
    (runs : ∀ (A : Around) (outer : List Env) (s : Shared) (H : Hp) (vs : List V) (Q : VK) (E : XK), Room k (A.deeper (envOfC qual scope s.heap.objs.size f cdv)) → sp vs H Q E →
      ∃ t, PSs (cxOf CX P w K mg base N qual scope f cdv A outer s H E) body t ∧ t { nx := fun _ H' => Q .non H', rt := Q } (start N vs) H) : FnRK P w K mg base CX (k + 1) f x (starSp sp) := by
  intro A outer s H us u vs v Q E room e0 r ru told
  obtain ⟨a, rest, rfl, hz, hq⟩ := told
  cases r with
  | @cons _ u0 _ us r0 r =>
    obtain ⟨s2, H2, es, eH, e2, un, os, cx, hn⟩ := tup_laid (E := E) e0 up r hz
    refine run_bnd lk hcd S room e0 (G := fun xs H2 => ∃ p, H p = Option.none ∧ xs = [a, v, V.ref p] ∧ H2 = upd H p (.tup rest)) (fun A' Ex Q' h => ?_) ?_
    · rw [binds]
      refine wpAny_bind (wpAny_newTuple (wpAny_pure ?_) (by rw [← r.length]; exact hz))
      subst es eH
      exact h _ _ [a, v, V.ref s.heap.objs.size] [u0, u, Value.ref s.heap.objs.size] e2 un os cx (.cons r0 (.cons ru (.cons rfl .nil))) rfl ⟨_, hn, rfl, rfl⟩
    · rintro s3 H3 xs ⟨p, hp, rfl, rfl⟩ room'
      exact runs A outer s3 _ _ Q E room' (hq p hp)
theorem fn_starD {a0 x pv : Str} {d : V} {ud : Value} (lk : K.lookup f = some ⟨oc, od, .func (PySem.W.fnOf name qual params body scope dV (.ref D) doc pm an cdv ct), osl⟩) (hcd : PySem.W.codeIn K cdv qual = true) (S : FnScope N [a0, x, pv] scope) (up : CXUp CX)
    (def_ : PySem.W.nsIn K D x = some (some ud)) (rd : RelV d ud)
    (binds : ∀ (u0 : Value) (rest : List Value), ∃ (β γ : Type) (k1 : Option Value → Sem β) (k2 : β → Sem γ) (k3 : γ → Sem (List (Str × Value))) (b : β), bindArgs (PySem.W.fnOf name qual params body scope dV (.ref D) doc pm an cdv ct) ⟨u0 :: rest, []⟩ = ((nsGet D x >>= k1) >>= k2) >>= k3 ∧ k1 (some ud) = pure b ∧
      (k2 b >>= k3) = (newTuple rest >>= fun t => pure [(a0, u0), (x, ud), (pv, t)]))
    (runs : ∀ (A : Around) (outer : List Env) (s : Shared) (H : Hp) (vs : List V) (Q : VK) (E : XK), Room k (A.deeper (envOfC qual scope s.heap.objs.size f cdv)) → sp vs H Q E →
      ∃ t, PSs (cxOf CX P w K mg base N qual scope f cdv A outer s H E) body t ∧ t { nx := fun _ H' => Q .non H', rt := Q } (start N vs) H) : FnR P w K mg base CX (k + 1) f (fun vs H Q E => starSp sp vs d H Q E) := by
  intro A outer s H us vs Q E room e0 r told
  obtain ⟨a, rest, rfl, hz, hq⟩ := told
  cases r with
  | @cons _ u0 _ us r0 r =>
    obtain ⟨s2, H2, es, eH, e2, un, os, cx, hn⟩ := tup_laid (E := E) e0 up r hz
    have KX : K.In s.heap := e0.mod.kin.keeps fun b o e => (e0.bs b o e).1
    refine run_bnd lk hcd S room e0 (G := fun xs H2 => ∃ p, H p = Option.none ∧ xs = [a, d, V.ref p] ∧ H2 = upd H p (.tup rest)) (fun A' Ex Q' h => ?_) ?_
    · obtain ⟨β, γ, k1, k2, k3, b, e1, eb, e3⟩ := binds u0 us
      rw [e1, bind_assoc, bind_assoc]
      refine wpAny_bind ((PySem.W.looks_nsIn (M := model P w) KX def_).here ?_)
      rw [eb, pure_bind, e3]
      refine wpAny_bind (wpAny_newTuple (wpAny_pure ?_) (by rw [← r.length]; exact hz))
      subst es eH
      exact h _ _ [a, d, V.ref s.heap.objs.size] [u0, ud, Value.ref s.heap.objs.size] e2 un os cx (.cons r0 (.cons rd (.cons rfl .nil))) rfl ⟨_, hn, rfl, rfl⟩
    · rintro s3 H3 xs ⟨p, hp, rfl, rfl⟩ room'
      exact runs A outer s3 _ _ Q E room' (hq p hp)
end
/-- C(e, .., x = v) -/
def tMakeSK (C : Addr) (sp : SpK) (E : XK) (t tk : TA) : TE := fun σ H Q => t σ H fun vs H1 => tk σ H1 fun zs H2 => ∃ z, zs = [z] ∧ ∀ o dx, H2 o = Option.none → H2 dx = Option.none → dx ≠ o →
  sp (V.ref o :: vs) z (upd (upd H2 dx (.own o)) o (.ins C dx [])) (fun v H3 => v = .non ∧ Q (.ref o) H3) E
section
variable {X : Cx} {CX : CXT} {E : XK} {k : Nat} {C f : Addr} {n x : Str} {sp : SpK} {spr : Sp} {t tk : TA} {e : Expr} {es : List Expr} {kws : List Keyword} {p pos : Pos}
theorem run_makeSK {pins : List (Addr × Obj)} {σ : L2.St} {H : Hp} {s : Shared} {Q : VK} {us : List Value} {u : Value} {vs : List V} {z : V} (M : Mk X.K C f) (F : FnRK X.prog X.w X.K X.mg X.base CX k f x sp) (hr : Room (k + 1) X.A) (hx : Passes CX X E) (I : Inv X pins σ H s) (r : Vals vs us) (ru : RelV z u)
    (h : ∀ o dx, H o = Option.none → H dx = Option.none → dx ≠ o → sp (V.ref o :: vs) z (upd (upd H dx (.own o)) o (.ins C dx [])) (fun v H2 => v = .non ∧ Q (.ref o) H2) E) :
    wpAny (model X.prog X.w) X.A (call (.ref C) us [(x, u)]) (EP X pins σ Q) X.xe s := by
  have hq := h (s.heap.objs.size + 1) s.heap.objs.size (I.hok.fresh (Nat.le_succ _)) (I.hok.fresh (Nat.le_refl _)) (Nat.ne_of_lt (Nat.lt_succ_self _))
  have I2 := Inv.made (C := C) I
  have r2 : Vals (V.ref (s.heap.objs.size + 1) :: vs) (Value.ref (s.heap.objs.size + 1) :: us) := .cons rfl r
  have ran := F _ X.stack _ _ (Value.ref (s.heap.objs.size + 1) :: us) u _ z _ E (hr.make C us [(x, u)]) (I2.env0.make C us [(x, u)]) r2 ru hq
  refine wpAny_call (make_map (f := f) (kw := [(x, u)]) I.kIn M.makes M.init (beq_iff_eq.mp M.fn) (codeAny_mono ran fun r s' out => ?_))
  match r, out with
  | .error e, out => exact hx pins σ _ _ e s' I2 out
  | .ok (.ret v), out =>
    obtain ⟨v', H', I4, rv, ev, q3⟩ := I2.after out
    subst ev
    exact ⟨rv, ⟨V.ref (s.heap.objs.size + 1), H', I4, rfl, q3⟩⟩
  | .ok .next, out => exact out.elim
  | .ok .brk, out => exact out.elim
  | .ok .cont, out => exact out.elim
theorem pe_makeSK0 (M : Mk X.K C f) (F : FnRK X.prog X.w X.K X.mg X.base CX k f x sp) (hr : Room (k + 1) X.A) (hg : Gl X n) (hm : X.mg n = some (.ref C)) (hx : Passes CX X E) (hkw : PK X kws tk)
    (hall : (backToKw pos (keywordEach kws X.env)).all (·.1.isSome) = true := by rfl) (hks : (backToKw pos (keywordEach kws X.env)).filterMap (·.1) = [x] := by rfl) (hdb : (n == ("__debug__" : Str)) = false := by decide)
    (hpl : ((backTo pos (starEach [] X.env)).any (·.1) || (backToKw pos (keywordEach kws X.env)).any (·.1.isNone)) = false := by rfl) :
    PE X (.Call (.Name n p) [] kws pos) (tMakeSK C sp E tNil tk) := by
  refine ⟨fun pins s σ H Q I h => ?_⟩
  refine wpAny_Call_Name_kw (ld_glob I hg hm ?_ hdb)
  refine PySem.W.callWith_KW0 (h₀ := X.base) I.ok.mod.kin M.kp hall ?_ hpl
  refine thn (hkw.run pos pins s σ H _ I h) fun ws s2 ⟨zs, H2, I2, rz, z, ez, q2⟩ => ⟨I2.kIn, ?_⟩
  subst ez
  obtain ⟨u, eu, ru⟩ := vals1 rz
  subst eu
  rw [hks]
  exact run_makeSK (us := []) (vs := []) M F hr hx I2 .nil ru q2
theorem pe_makeSK (M : Mk X.K C f) (F : FnRK X.prog X.w X.K X.mg X.base CX k f x sp) (hr : Room (k + 1) X.A) (hg : Gl X n) (hm : X.mg n = some (.ref C)) (hx : Passes CX X E) (ha : PA X (e :: es) t) (hkw : PK X kws tk)
    (hall : (backToKw pos (keywordEach kws X.env)).all (·.1.isSome) = true := by rfl) (hks : (backToKw pos (keywordEach kws X.env)).filterMap (·.1) = [x] := by rfl) (hdb : (n == ("__debug__" : Str)) = false := by decide)
    (he : starEach (e :: es) X.env = (false, eval e X.env) :: starEach es X.env := by rfl) (hpl : ((backTo pos (starEach (e :: es) X.env)).any (·.1) || (backToKw pos (keywordEach kws X.env)).any (·.1.isNone)) = false := by rfl) :
    PE X (.Call (.Name n p) (e :: es) kws pos) (tMakeSK C sp E t tk) := by
  refine ⟨fun pins s σ H Q I h => ?_⟩
  refine wpAny_Call_Name_kw (ld_glob I hg hm ?_ hdb)
  refine PySem.W.callWith_KW (h₀ := X.base) I.ok.mod.kin M.kp hall (thn (ha.run pos pins s σ H _ I h) fun us s1 ⟨vs, H1, I1, r, q⟩ => ?_) hpl he
  refine thn (hkw.run pos pins s1 σ H1 _ I1 q) fun ws s2 ⟨zs, H2, I2, rz, z, ez, q2⟩ => ⟨I2.kIn, ?_⟩
  subst ez
  obtain ⟨u, eu, ru⟩ := vals1 rz
  subst eu
  rw [hks]
  exact run_makeSK M F hr hx I2 r ru q2
/-- C() -/
theorem pe_makeR0 (M : Mk X.K C f) (F : FnR X.prog X.w X.K X.mg X.base CX k f spr) (hr : Room (k + 1) X.A) (hg : Gl X n) (hm : X.mg n = some (.ref C)) (hx : Passes CX X E) (hdb : (n == ("__debug__" : Str)) = false := by decide) : PE X (.Call (.Name n p) [] [] pos) (tMakeR C spr E tNil) := by
  refine ⟨fun pins s σ H Q I h => ?_⟩
  refine wpAny_Call_Name_kw (ld_glob I hg hm ?_ hdb)
  exact PySem.W.callWith_K0 I.kIn M.kp (run_makeR (us := []) (vs := []) M F hr hx I .nil h)
end
end StK
namespace K16
open PySem L2 Evl Gr StX EnT ClX RdX OwX OwC OpX
section
variable {K : PySem.W.Frag} {σ : L2.St} {H : Hp} {ta tb te tl : TE} {t : TT}
theorem q_forEL {K : PySem.W.Frag} {σ : L2.St} {a : Addr} {vs : List V} {ta : TA} {g : TG} {tu tz : TS} {D : Ends} (h : EvA ta σ H [.ref a]) (hx : SqL K H a vs) (Pv : Nat → L2.St → Hp → Prop) (h0 : ∀ H1, Ex H H1 → Pv 0 σ H1) (hl : ∀ i σ' H', i ≤ vs.length → Pv i σ' H' → SqL K H' a vs)
    (hs : ∀ i x σ' H' T, vs[i]? = some x → Pv i σ' H' → H' T = none → g (.ref T) σ' (L2.upd H' T (.tup [.int (i : Nat), x])) fun σ2 H2 => tu { D with nx := Pv (i + 1), ct := Pv (i + 1), bk := tz D } σ2 H2)
    (hd : ∀ σ' H', Pv vs.length σ' H' → tz D σ' H') : tSeq (tFor (iEnum K ta) g tu) tz D σ H :=
  h H (Ex.refl H) _ fun H1 e1 => ⟨a, vs, rfl, ex_l e1 hx, for_it (D := { D with nx := tz D }) walk_enum Pv (h0 H1 e1) hl (fun i v σ' H' H2 hi p y => by
    obtain ⟨T, x, z, rfl, hn, rfl, ex, ez⟩ := y
    obtain rfl := Option.some.inj ex
    exact hs i z σ' H' T ez p hn) hd⟩
theorem q_forZL {K : PySem.W.Frag} {σ : L2.St} {H : Hp} {a b : Addr} {xs ys : List V} {ta : TA} {g : TG} {tu tz : TS} {D : Ends} (h : EvA ta σ H [.ref a, .ref b]) (hx : SqL K H a xs) (hy : SqL K H b ys) (len : ys.length = xs.length) (Pv : Nat → L2.St → Hp → Prop) (h0 : ∀ H1, Ex H H1 → Pv 0 σ H1)
    (hl : ∀ i σ' H', i ≤ xs.length → Pv i σ' H' → SqL K H' a xs ∧ SqL K H' b ys)
    (hs : ∀ i x y σ' H' T, xs[i]? = some x → ys[i]? = some y → Pv i σ' H' → H' T = none → g (.ref T) σ' (L2.upd H' T (.tup [x, y])) fun σ2 H2 => tu { D with nx := Pv (i + 1), ct := Pv (i + 1), bk := tz D } σ2 H2)
    (hd : ∀ σ' H', Pv xs.length σ' H' → tz D σ' H') : tSeq (tFor (iZip K ta) g tu) tz D σ H :=
  h H (Ex.refl H) _ fun H1 e1 => ⟨a, b, xs, ys, rfl, ex_l e1 hx, ex_l e1 hy, for_it (D := { D with nx := tz D }) (walk_zip (n := xs.length) (by omega)) Pv (h0 H1 e1) hl (fun i v σ' H' H2 hi p y => by
    obtain ⟨T, x, z, rfl, hn, rfl, ex, ez⟩ := y
    exact hs i x z σ' H' T ex ez p hn) hd⟩
theorem q_asgC {σ : L2.St} {H : Hp} {tb : TA} {vs : List V} {sp1 sp2 : Sp} {E1 E2 : XK} {g : TG} {tz : TS} {D : Ends} (h : EvA tb σ H vs) (k : ∀ H1, Ex H H1 → sp1 vs H1 (fun v H2 => sp2 [v] H2 (fun u H3 => g u σ H3 (tz D)) E2) E1) : tSeq (tAsg (tCall sp2 [] E2 (tCons (tCall sp1 [] E1 tb) tNil)) g) tz D σ H :=
  h H (Ex.refl H) _ fun H1 e => by
    have := k H1 e
    rw [List.append_nil]
    exact this
abbrev rJoin (K : PySem.W.Frag) : V → List V → Hp → VK → Prop := fun x xs H Q => ∃ a p, ∃ ys : List Str, x = .str a ∧ xs = [.ref p] ∧ (SqL K H p (ys.map V.str) ∨ SqT K H p (ys.map V.str)) ∧ (ys.map (·.length)).sum + ys.length * a.length ≤ 16777216 ∧ Q (.str (Txt.join a ys)) H
abbrev rStrV : List V → Hp → VK → Prop := fun xs H Q => (∃ i, xs = [V.int i] ∧ i.natAbs.log2 < 1920 ∧ Q (.str (toString i)) H) ∨ ∃ a, xs = [V.str a] ∧ Q (.str a) H
theorem ev_joinL {a : Str} {ys : List Str} (h : Ev ta σ H (.str a)) (he : EvL te σ H (ys.map V.str)) (hz : (ys.map (·.length)).sum + ys.length * a.length ≤ 16777216) : Ev (tM1 (rJoin K) ta te) σ H (.str (Txt.join a ys)) := fun H1 e Q q =>
  h H1 e _ fun H2 e2 => ⟨⟨a, rfl⟩, he H2 (e.trans e2) _ fun p H3 hp e3 h3 => ⟨a, p, ys, rfl, rfl, .inl (sq_of h3), hz, q H3 (e2.trans e3)⟩⟩
theorem glue_len (S : List Nat) : ∀ l : List (List Nat), (TL.joinL S l).length ≤ (l.map (·.length)).sum + S.length * l.length
  | [] => by simp [TL.joinL]
  | [p] => by simp [TL.joinL]
  | p :: q :: r => by
    have ih := glue_len S (q :: r)
    show (p ++ (S ++ TL.joinL S (q :: r))).length ≤ _
    rw [List.length_append, List.length_append, List.map_cons, List.sum_cons, List.length_cons (a := p), Nat.mul_add]
    omega
theorem join_len (s : Str) (ws : List Str) : (Txt.join s ws).length ≤ (ws.map (·.length)).sum + s.length * ws.length := by
  rw [TL.len_tl, TL.join_eq, TL.tl_join]
  have := glue_len (TL.tl s) (ws.map TL.tl)
  rw [List.map_map, List.length_map, ← TL.len_tl] at this
  have e : ((List.length (α := Nat)) ∘ TL.tl) = fun w : Str => w.length := funext fun w => (TL.len_tl w).symm
  rw [show (fun x : List Nat => x.length) ∘ TL.tl = fun w : Str => w.length from e] at this
  exact this
theorem sum_by {B : Nat} {ys : List Str} (h : ∀ y ∈ ys, y.length ≤ B) : (ys.map (·.length)).sum ≤ B * ys.length := by
  induction ys with
  | nil => exact Nat.zero_le _
  | cons y ys ih =>
    rw [List.map_cons, List.sum_cons, List.length_cons, Nat.mul_add]
    have a := h y (List.mem_cons_self ..)
    have b := ih fun z hz => h z (List.mem_cons_of_mem _ hz)
    omega
def rNiDT (K : PySem.W.Frag) : R2 := fun x y H Q => ∃ d ds, Dp K H x d ∧ Dp K H y (.tuple ds) ∧ SeqAt.shaped d = true ∧ SeqAt.shaped (.tuple ds) = true ∧ Q (.bl (!ds.any fun z => PyData.eqv z d)) H
theorem op_niDT (hu : X.A.units + 65 < cLine) : OpR X (compareOp .NotIn) (rNiDT X.K) := fun pins s σ H x y v u Q I rx ry ⟨d, ds, hd, he, sd, se, q⟩ => by
  obtain ⟨as, r1⟩ := Dp.reads I d x v hd rx
  obtain ⟨bs, r2⟩ := Dp.reads I (.tuple ds) y u he ry
  exact SeqAt.notIn_tuple_reads r2 r1 (SeqAt.canLay_of_shaped se) (SeqAt.canLay_of_shaped sd) (PyProof.Rows.room_in_shaped sd hu) ⟨.bl _, H, I, rfl, q⟩
def rNeMt : R2 := fun x y H Q => ∃ a b xs, x = .ref a ∧ y = .ref b ∧ H a = some (.lst xs) ∧ H b = some (.lst []) ∧ Q (.bl (!decide (xs = []))) H
theorem op_neMt (hu : X.A.units < cLine) : OpR X (compareOp .NotEq) rNeMt := fun pins s σ H x y v u Q I rx ry ⟨a, b, xs, ex, ey, ha, hb, q⟩ => by
  subst ex ey
  cases (show v = Value.ref a from rx)
  cases (show u = Value.ref b from ry)
  obtain ⟨_, us, m, r, o1⟩ := I.hok a _ ha
  obtain ⟨_, vs, n, r', o2⟩ := I.hok b _ hb
  cases r'
  have l1 : s.heap.IsList a us.toArray := ⟨_, o1, rfl, m, rfl⟩
  have l2 : s.heap.IsList b #[] := ⟨_, o2, rfl, n, rfl⟩
  have len := r.length
  by_cases c : xs = []
  · subst c
    obtain rfl : us = [] := List.eq_nil_of_length_eq_zero (by rw [← len]; rfl)
    exact SeqAt.RcNeAt.lists (e := fun _ => true) l1 l2 rfl hu (fun j h => absurd h (Nat.not_lt_zero j)) X.prog X.w X.xe _ ⟨.bl _, H, I, rfl, q⟩
  · have ne : (us.toArray.size != (#[] : Array Value).size) = true := by
      rw [List.size_toArray, ← len]
      simpa using c
    refine SeqAt.RcNeAt.lists_lengths l1 l2 ne hu X.prog X.w X.xe _ ⟨.bl true, H, I, rfl, ?_⟩
    rw [decide_eq_false c] at q
    exact q
theorem ev_neMt {xs : List V} (ha : EvL ta σ H xs) : Ev (tOp rNeMt ta (tLst tNil)) σ H (.bl (!decide (xs = []))) := fun H1 e Q q =>
  ha H1 e _ fun p H2 hp e2 h2 => ⟨by decide, fun l hl => ⟨p, l, xs, rfl, rfl, (Ex.new hl) _ _ h2, upd_same, q _ (e2.trans (Ex.new hl))⟩⟩
theorem q_par3 {ta : TA} {i j l : Nat} {tz : TS} {D : Ends} (h : ta σ H fun vs H1 => ∃ u v w, vs = [u, v, w] ∧ tz D (((σ.set i (some u)).set j (some v)).set l (some w)) H1) : tSeq (tPar3 i j l ta) tz D σ H := h
theorem s_par3 {ta : TA} {i j l : Nat} {D : Ends} (h : ta σ H fun vs H1 => ∃ u v w, vs = [u, v, w] ∧ D.nx (((σ.set i (some u)).set j (some v)).set l (some w)) H1) : tPar3 i j l ta D σ H := h
theorem eu_tuple {K : PySem.W.Frag} {xs : List V} (h : EvL te σ H xs) : EvU (tThen te (kTup K)) σ H xs := fun H1 e Q q =>
  h H1 e _ fun p H2 hp e2 h2 => .inl ⟨p, xs, rfl, sq_of h2, fun r hr => q r _ (fresh_back e2 hr) (e2.trans (Ex.new hr)) upd_same⟩
theorem ed_two {d e : PyData} (ha : EvD K ta σ H d) (hb : EvD K tb σ H e) : EvD K (tTup (tCons ta (tCons tb tNil))) σ H (.tuple [d, e]) := fun H1 e1 Q q =>
  ha H1 e1 _ fun v H2 e2 hv => hb H2 (e1.trans e2) _ fun u H3 e3 hu => ⟨by show 2 ≤ sizeLine; decide, fun p hp => q (.ref p) _ ((e2.trans e3).trans (Ex.new hp)) (.tup (st_of upd_same) (.cons (dp_up (e3.trans (Ex.new hp)) d hv) (.cons (dp_up (Ex.new hp) e hu) .nil)))⟩
theorem dpAll_strs {H : Hp} : ∀ ws : List Str, DpAll K H (ws.map V.str) (ws.map PyData.str)
  | [] => .nil
  | z :: ws => .cons (.str z) (dpAll_strs ws)
theorem str_eqv (x y : Str) : PyData.eqv (.str x) (.str y) = decide (x = y) := by
  rw [show PyData.eqv (.str x) (.str y) = (x == y) by simp [PyData.eqv], Bool.eq_iff_iff, beq_iff_eq, decide_eq_true_iff]
theorem strs_eqv (l m : List Str) : PyData.eqv (.list (l.map PyData.str)) (.list (m.map PyData.str)) = decide (l = m) := by
  have := eqvAll_map PyData.str str_eqv l m
  simpa [PyData.eqv] using this
theorem strs_low {l : List Str} (h : ∀ z ∈ l, PyData.strOk z = true) : Low 1 (.list (l.map PyData.str)) := low_list (n := 0) fun d hd => by
  obtain ⟨z, hz, rfl⟩ := List.mem_map.mp hd
  exact low_str (h z hz)
theorem el_enL {ta : TA} {a : Addr} {xs : List V} {i j : Nat} {vs : List Nat} (f : Nat → Bool) (v : Nat → V) (h : EvA ta σ H [.ref a]) (hx : SqL K H a xs) (hz : xs.length ≤ 40000) (hw : ∀ x y, wipe (((wipe σ vs).set i (some x)).set j (some y)) vs = wipe σ vs)
    (ht : ∀ (k : Nat) (x : V) H1, Ex H H1 → xs[k]? = some x → EvT t (((wipe σ vs).set i (some (.int (k : Int)))).set j (some x)) H1 (f k)) (he : ∀ (k : Nat) (x : V) H1, Ex H H1 → xs[k]? = some x → f k = true → Ev te (((wipe σ vs).set i (some (.int (k : Int)))).set j (some x)) H1 (v k)) :
    EvL (tLc (iEnum K ta) (gTup K 2 (gCons (gName i) (gCons (gName j) gNil))) t te vs) σ H (given xs.length f v) := fun H0 e Q q => h H0 e _ fun H1 e1 =>
  ⟨a, xs, rfl, ex_l (e.trans e1) hx, fun Dl hD => lc_it (n := xs.length) (walk_enum (K := K)) (Cw H1 f v Dl) ⟨hD, Ex.new hD, upd_same⟩ (fun _ H' _ p => ex_l ((e.trans e1).trans p.2.1) hx)
    (fun k x H' H'' hk p y => by
      obtain ⟨T, x1, y1, rfl, hT, rfl, ex, ey⟩ := y
      obtain rfl := Option.some.inj ex
      have e2 := Ex.new (H := H') (o := .tup [.int (k : Nat), y1]) hT
      have p' : Cw H1 f v Dl k (upd H' T (.tup [.int (k : Nat), y1])) := ⟨p.1, p.2.1.trans e2, e2 _ _ p.2.2⟩
      exact ⟨T, _, rfl, st_of upd_same, rfl, _, _, rfl, _, _, rfl, rfl, hw _ _, cw_turn p' (by omega) (ht k y1 H1 (e.trans e1) ey) fun hf => he k y1 H1 (e.trans e1) ey hf⟩)
    (fun H' p => q Dl H' (fresh_back e1 p.1) (e1.trans p.2.1) p.2.2)⟩
theorem ev_addS {a b : Str} (ha : Ev ta σ H (.str a)) (hb : Ev tb σ H (.str b)) (hz : a.length + b.length ≤ 100000) : Ev (tOp (fun x y H Q => ∃ i j, x = .str i ∧ y = .str j ∧ i.length + j.length ≤ sizeLine ∧ Q (.str (i ++ j)) H) ta tb) σ H (.str (a ++ b)) := ev_op ha hb fun H1 _ Q q => ⟨a, b, rfl, rfl, sz_of hz, q H1 (Ex.refl H1)⟩
theorem q_callG {σ : L2.St} {H : Hp} {sp : Sp} {vs : List V} {E : XK} {ta : TA} {g : TG} {tz : TS} {D : Ends} (h : EvA ta σ H vs) (k : ∀ H1, Ex H H1 → sp vs H1 (fun v H2 => g v σ H2 (tz D)) E) : tSeq (tAsg (tCall sp [] E ta) g) tz D σ H :=
  h H (Ex.refl H) _ fun H1 e => by
    have := k H1 e
    show sp (vs ++ []) H1 _ E
    rw [List.append_nil]
    exact this
theorem s_brk {σ : L2.St} {H : Hp} {D : Ends} (h : D.bk σ H) : tBreak D σ H := h
abbrev rInt1 : List V → Hp → VK → Prop := fun xs H Q => (∃ i, xs = [V.int i] ∧ Q (V.int i) H) ∨ ∃ k, xs = [V.bl k] ∧ Q (V.int (if k = true then 1 else 0)) H
theorem cut_n {xs : List V} {n : Nat} (h : n ≤ xs.length) : cutV xs none (some (n : Int)) = xs.take n := by
  unfold cutV
  rw [show HT.sIx xs.length 0 none = 0 from rfl, HT.sIx_nat, List.drop_zero, Nat.sub_zero, Nat.min_eq_left h]
theorem cut_to {xs : List V} {n : Nat} (h : n ≤ xs.length) : cutV xs none (some (n : Int)) = xs.take n := cut_n h
theorem cut_from {xs : List V} {n : Nat} (h : n ≤ xs.length) : cutV xs (some (n : Int)) none = xs.drop n := by
  unfold cutV
  rw [HT.sIx_nat, show HT.sIx xs.length xs.length none = xs.length from rfl, Nat.min_eq_left h]
  exact List.take_of_length_le (by rw [List.length_drop]; exact Nat.le_refl _)
theorem w_pickV {p l : Addr} {cells : List Int} {σ : L2.St} {H : Hp} {i : Nat} {tr : TA} {xs : List V} (hi : σ[i]? = some (some (.ref p))) (hr : ∀ H1, EvA tr σ H1 xs) (h0 : 0 < xs.length) (h1 : xs.length ≤ 1000) (h63 : cells.length ≤ 63) :
    EvW p l cells 1 (tCall spPick [] E0 (tCons (tVar i) (tCons (tLst tr) tNil))) σ H (fun v => v ∈ xs) := fun m H1 kp hP hm Q q =>
  ⟨_, hi, hr H1 H1 (Ex.refl H1) _ fun H2 e2 => ⟨sz_of (n := xs.length) (by omega), fun a ha => by
    have e3 := e2.trans (Ex.new (o := .lst xs) ha)
    have hap : a ≠ p := by
      obtain ⟨k, r, hp, _⟩ := hP
      intro z
      rw [z, e2 _ _ hp] at ha
      cases ha
    refine ⟨p, l, a, cells, m, xs, rfl, hP.mono e3 (Nat.le_refl m), by omega, h63, upd_same, hap, h0, by omega, fun j x H3 hx hP3 k3 => ?_⟩
    exact q _ H3 (List.mem_of_getElem? hx) hP3 ((Keep.of_ex e3).trans k3)⟩⟩
theorem et_orF {t u : TT} {σ : L2.St} {H : Hp} (h1 : EvT t σ H false) (h2 : EvT u σ H false) : EvT (tOr t u) σ H false := et_is (et_or h1 fun _ => h2) rfl
theorem et_neF {te : TE} {σ : L2.St} {H : Hp} {x y : V} (h : Ev te σ H (.bl (!decide (x = y)))) (e : x = y) : EvT (tTest te) σ H false := et_is (et_test h) (by rw [decide_eq_true e]; rfl)
theorem q_asgG {te : TE} {g : TG} {tz : TS} {D : Ends} {σ : L2.St} {H : Hp} (h : te σ H fun v H2 => g v σ H2 (tz D)) : tSeq (tAsg te g) tz D σ H := h
def big : Int := 10 ^ 20
theorem ev_big {σ : L2.St} {H : Hp} : Ev (tOp (rI CPow fun i j => .int (i ^ j.toNat)) (tC (.int 10)) (tC (.int 20))) σ H (.int big) := ev_is (ev_op (ev_c (v := .int 10)) (ev_c (v := .int 20)) (rv_I (C := CPow) (g := fun i j => .int (i ^ j.toNat)) (show (0 : Int) ≤ 20 ∧ (20 : Int) ≤ 1000000 ∧ (10 : Int).natAbs < 2 ^ 64 by decide))) (congrArg V.int (by decide +kernel))
theorem pe_ixO2 {X : Cx} (X0 : Cx) {CX : CXT} {n : Nat} {C g : Addr} {sp : Sp} {E : XK} {a b : Expr} {ta tb : TE} {pos : Pos} (h : Has X.K C g "__getitem__") (hf : PySem.W.fnIn X.K g = true) (F : FnR X.prog X.w X.K X.mg X.base CX n g sp) (hr : Room (n + 1) X.A) (hx : Passes CX X E) (ha : PE X a ta) (hb : PE X b tb)
    (hsl : ∀ x i, subscripted b true (.ref x) i = runValue (.builtin "lifetime.subscript" ⟨[.ref x, i], []⟩) := by intro _ _; with_unfolding_all rfl) : PE X (.Subscript a b pos) (tOp (rIxO X0 C sp E) ta tb) := pe_ixO h hf F hr hx ha hb hsl
theorem Old.mono {n : Nat} {H H' : Hp} (e : Ex H H') (h : Old n H) : Old n H' := by
  obtain ⟨b, u, h1, h2⟩ := h
  exact ⟨b, u, e _ _ h1, h2⟩
theorem el_cat {xs ys : List V} (ha : EvL ta σ H xs) (hb : EvL tb σ H ys) (hz : xs.length + ys.length ≤ 100000) : EvL (tOp rCat ta tb) σ H (xs ++ ys) := fun H1 e Q q =>
  ha H1 e _ fun p H2 hp e2 h2 => hb H2 (e.trans e2) _ fun r H3 hr e3 h3 => ⟨p, r, xs, ys, rfl, rfl, e3 _ _ h2, h3, sz_of hz, fun d hd => q d _ (fresh_back (e2.trans e3) hd) ((e2.trans e3).trans (Ex.new hd)) upd_same⟩
theorem q_ifE {c : TT} {tu tz : TS} {D : Ends} {σ : L2.St} {H : Hp} (h : c σ H fun b H1 => if b = true then tu { D with nx := tz D } σ H1 else tz D σ H1) : tSeq (tIfS c tu tNext) tz D σ H := h
theorem s_ifE {c : TT} {tu : TS} {D : Ends} {σ : L2.St} {H : Hp} (h : c σ H fun b H1 => if b = true then tu D σ H1 else D.nx σ H1) : tIfS c tu tNext D σ H := h
theorem test_i {te : TE} {σ : L2.St} {H : Hp} {Q : Bool → Hp → Prop} (h : te σ H fun x H' => ∃ k, x = .bl k ∧ Q k H') : tTest te σ H Q := h
theorem B_i {te : TE} {σ : L2.St} {H : Hp} {Q : Bool → Hp → Prop} (h : te σ H fun x H' => ∃ k, x = .bl k ∧ Q k H') : tB te σ H Q := h
theorem not_i {t : TT} {σ : L2.St} {H : Hp} {Q : Bool → Hp → Prop} (h : t σ H fun c H1 => Q (!c) H1) : tNot t σ H Q := h
theorem or_E {t u : TT} {σ : L2.St} {H : Hp} {Q : Bool → Hp → Prop} (h : t σ H fun c H1 => if c = true then Q true H1 else u σ H1 Q) : tOr t u σ H Q := h
abbrev rStrO (X : Cx) (C : Addr) (sp : Sp) (E : XK) : List V → Hp → VK → Prop := fun xs H Q => ∃ a, xs = [.ref a] ∧ InsC X H a C ∧ sp [.ref a] H (fun v H' => ∃ y, v = .str y ∧ Q v H') E
end
end K16
/-! machines of places: alike to a depth, the counts of kinds, walks over kinds -/
namespace Ls
/-- a place: where a kept slot leads, where a lost one -/
abbrev Pl := Nat × Option Nat
def kept (M : List Pl) (p : Nat) : Nat := (M.getD p (0, none)).1
def lost (M : List Pl) (p : Nat) : Option Nat := (M.getD p (0, none)).2
def OkM (M : List Pl) : Prop := ∀ x ∈ M, x.1 < M.length ∧ ∀ l, x.2 = some l → l < M.length
def both (r : Nat → Nat → Bool) : Option Nat → Option Nat → Bool
  | none, none => true
  | some a, some b => r a b
  | _, _ => false
/-- alike to this depth -/
def alike (M : List Pl) : Nat → Nat → Nat → Bool
  | 0, _, _ => true
  | t + 1, p, q => alike M t p q && alike M t (kept M p) (kept M q) && both (alike M t) (lost M p) (lost M q)
theorem both_refl {r : Nat → Nat → Bool} (h : ∀ a, r a a = true) : ∀ x, both r x x = true
  | none => rfl
  | some a => h a
theorem alike_refl (M : List Pl) : ∀ t p, alike M t p p = true
  | 0, _ => rfl
  | t + 1, p => by
    have ih := alike_refl M t
    show (alike M t p p && alike M t (kept M p) (kept M p) && both (alike M t) (lost M p) (lost M p)) = true
    rw [ih, ih, both_refl ih]
    rfl
theorem alike_less {M : List Pl} {t p q : Nat} (h : alike M (t + 1) p q = true) : alike M t p q = true := by
  have h : (alike M t p q && alike M t (kept M p) (kept M q) && both (alike M t) (lost M p) (lost M q)) = true := h
  rw [Bool.and_eq_true, Bool.and_eq_true] at h
  exact h.1.1
/-- alike to every depth -/
def Same (M : List Pl) (p q : Nat) : Prop := ∀ t, alike M t p q = true
/-- a labelling that tells what is alike to depth t, on the places of S -/
def Lab (M : List Pl) (S : List Nat) (t : Nat) (k : Nat → Nat) : Prop := ∀ p ∈ S, ∀ q ∈ S, (k p = k q ↔ alike M t p q = true)
def Closed (M : List Pl) (S : List Nat) : Prop := ∀ p ∈ S, kept M p ∈ S ∧ ∀ l, lost M p = some l → l ∈ S
theorem alike_symm {M : List Pl} : ∀ {t p q : Nat}, alike M t p q = true → alike M t q p = true
  | 0, _, _, _ => rfl
  | t + 1, p, q, h => by
    have h : (alike M t p q && alike M t (kept M p) (kept M q) && both (alike M t) (lost M p) (lost M q)) = true := h
    show (alike M t q p && alike M t (kept M q) (kept M p) && both (alike M t) (lost M q) (lost M p)) = true
    rw [Bool.and_eq_true, Bool.and_eq_true] at h ⊢
    refine ⟨⟨alike_symm h.1.1, alike_symm h.1.2⟩, ?_⟩
    cases hp : lost M p <;> cases hq : lost M q <;> rw [hp, hq] at h
    · rfl
    · cases h.2
    · cases h.2
    · exact alike_symm h.2
theorem alike_trans {M : List Pl} : ∀ {t p q r : Nat}, alike M t p q = true → alike M t q r = true → alike M t p r = true
  | 0, _, _, _, _, _ => rfl
  | t + 1, p, q, r, h, h' => by
    have h : (alike M t p q && alike M t (kept M p) (kept M q) && both (alike M t) (lost M p) (lost M q)) = true := h
    have h' : (alike M t q r && alike M t (kept M q) (kept M r) && both (alike M t) (lost M q) (lost M r)) = true := h'
    show (alike M t p r && alike M t (kept M p) (kept M r) && both (alike M t) (lost M p) (lost M r)) = true
    rw [Bool.and_eq_true, Bool.and_eq_true] at h h' ⊢
    refine ⟨⟨alike_trans h.1.1 h'.1.1, alike_trans h.1.2 h'.1.2⟩, ?_⟩
    cases hp : lost M p <;> cases hq : lost M q <;> cases hr : lost M r <;> rw [hp, hq] at h <;> rw [hq, hr] at h'
    · rfl
    · cases h'.2
    · cases h.2
    · cases h.2
    · cases h.2
    · cases h.2
    · cases h'.2
    · exact alike_trans h.2 h'.2
theorem Same.refl (M : List Pl) (p : Nat) : Same M p p := fun t => alike_refl M t p
theorem Same.symm {M : List Pl} {p q : Nat} (h : Same M p q) : Same M q p := fun t => alike_symm (h t)
theorem Same.trans {M : List Pl} {p q r : Nat} (h : Same M p q) (h' : Same M q r) : Same M p r := fun t => alike_trans (h t) (h' t)
theorem Same.kept {M : List Pl} {p q : Nat} (h : Same M p q) : Same M (kept M p) (kept M q) := fun t => by
  have h : (alike M t p q && alike M t (Ls.kept M p) (Ls.kept M q) && both (alike M t) (lost M p) (lost M q)) = true := h (t + 1)
  rw [Bool.and_eq_true, Bool.and_eq_true] at h
  exact h.1.2
theorem Same.lost {M : List Pl} {p q : Nat} (h : Same M p q) : (lost M p = none ∧ lost M q = none) ∨ ∃ a b, lost M p = some a ∧ lost M q = some b ∧ Same M a b := by
  have h : ∀ t, both (alike M t) (Ls.lost M p) (Ls.lost M q) = true := fun t => by
    have h : (alike M t p q && alike M t (Ls.kept M p) (Ls.kept M q) && both (alike M t) (Ls.lost M p) (Ls.lost M q)) = true := h (t + 1)
    rw [Bool.and_eq_true] at h
    exact h.2
  cases hp : Ls.lost M p <;> cases hq : Ls.lost M q <;> rw [hp, hq] at h
  · exact .inl ⟨rfl, rfl⟩
  · cases h 0
  · cases h 0
  · exact .inr ⟨_, _, rfl, rfl, h⟩
/-- what a place shows under a labelling -/
abbrev Mark := Nat × Nat × Option Nat
def mark (M : List Pl) (k : Nat → Nat) (p : Nat) : Mark := (k p, k (kept M p), (lost M p).map k)
theorem mark_alike {M : List Pl} {S : List Nat} {t : Nat} {k : Nat → Nat} (cl : Closed M S) (h : Lab M S t k) {p q : Nat} (hp : p ∈ S) (hq : q ∈ S) : mark M k p = mark M k q ↔ alike M (t + 1) p q = true := by
  show _ ↔ (alike M t p q && alike M t (kept M p) (kept M q) && both (alike M t) (lost M p) (lost M q)) = true
  unfold mark
  rw [Bool.and_eq_true, Bool.and_eq_true, Prod.mk.injEq, Prod.mk.injEq, h p hp q hq, h _ (cl p hp).1 _ (cl q hq).1, and_assoc]
  refine and_congr Iff.rfl (and_congr Iff.rfl ?_)
  cases ep : lost M p <;> cases eq : lost M q
  · exact ⟨fun _ => rfl, fun _ => rfl⟩
  · exact ⟨(fun z => by cases z), (fun z => by cases z)⟩
  · exact ⟨(fun z => by cases z), (fun z => by cases z)⟩
  · rename_i a b
    show some (k a) = some (k b) ↔ alike M t a b = true
    rw [Option.some.injEq, h a ((cl p hp).2 a ep) b ((cl q hq).2 b eq)]
/-! ### firsts, counted -/
section
variable {α : Type} [DecidableEq α]
/-- the things of a row, each where it comes first -/
def fsts (l : List α) : List α := l.foldl (fun acc x => if x ∈ acc then acc else acc ++ [x]) []
theorem fsts_go (l : List α) : ∀ acc : List α, acc.Nodup → let r := l.foldl (fun acc x => if x ∈ acc then acc else acc ++ [x]) acc; r.Nodup ∧ (∀ x, x ∈ r ↔ x ∈ acc ∨ x ∈ l) ∧ ∃ more, r = acc ++ more := by
  induction l with
  | nil => exact fun acc nd => ⟨nd, fun x => by simp, [], by simp⟩
  | cons y l ih =>
    intro acc nd
    rw [List.foldl_cons]
    by_cases c : y ∈ acc
    · rw [if_pos c]
      obtain ⟨h1, h2, h3⟩ := ih acc nd
      refine ⟨h1, fun x => (h2 x).trans ?_, h3⟩
      constructor
      · rintro (z | z)
        · exact .inl z
        · exact .inr (List.mem_cons_of_mem _ z)
      · rintro (z | z)
        · exact .inl z
        · rcases List.mem_cons.mp z with rfl | z
          · exact .inl c
          · exact .inr z
    · rw [if_neg c]
      have nd' : (acc ++ [y]).Nodup := List.nodup_append.mpr ⟨nd, by simp, fun a ha b hb => by rw [List.mem_singleton.mp hb]; exact fun z => c (z ▸ ha)⟩
      obtain ⟨h1, h2, more, h3⟩ := ih (acc ++ [y]) nd'
      refine ⟨h1, fun x => (h2 x).trans ?_, y :: more, by rw [h3, List.append_assoc]; rfl⟩
      rw [List.mem_append, List.mem_singleton, List.mem_cons, or_assoc]
theorem fsts_nodup (l : List α) : (fsts l).Nodup := (fsts_go l [] List.nodup_nil).1
theorem mem_fsts {l : List α} {x : α} : x ∈ fsts l ↔ x ∈ l := by
  have := (fsts_go l [] List.nodup_nil).2.1 x
  rw [show (x ∈ ([] : List α) ∨ x ∈ l) ↔ x ∈ l by simp] at this
  exact this
theorem fsts_snoc (l : List α) (x : α) : fsts (l ++ [x]) = if x ∈ fsts l then fsts l else fsts l ++ [x] := by
  unfold fsts
  rw [List.foldl_append]
  rfl
theorem cover : ∀ (a b : List α), a.Nodup → (∀ x ∈ a, x ∈ b) → b.length = a.length → b.Perm a
  | [], b, _, _, hl => by
    rw [List.eq_nil_of_length_eq_zero hl]
  | x :: a, b, nd, sub, hl => by
    have hx := sub x List.mem_cons_self
    obtain ⟨nx, nd'⟩ := List.nodup_cons.mp nd
    have p := List.perm_cons_erase hx
    have l2 : (b.erase x).length = a.length := by
      rw [List.length_erase_of_mem hx, hl]
      rfl
    refine p.trans ((cover a (b.erase x) nd' (fun y hy => ?_) l2).cons x)
    have := p.mem_iff.mp (sub y (List.mem_cons_of_mem _ hy))
    rcases List.mem_cons.mp this with z | z
    · exact absurd (z ▸ hy) nx
    · exact z
theorem sub_len : ∀ (a b : List α), a.Nodup → (∀ x ∈ a, x ∈ b) → a.length ≤ b.length
  | [], b, _, _ => Nat.zero_le _
  | x :: a, b, nd, sub => by
    have hx := sub x List.mem_cons_self
    obtain ⟨nx, nd'⟩ := List.nodup_cons.mp nd
    have p := List.perm_cons_erase hx
    have := sub_len a (b.erase x) nd' (fun y hy => by
      have := p.mem_iff.mp (sub y (List.mem_cons_of_mem _ hy))
      rcases List.mem_cons.mp this with z | z
      · exact absurd (z ▸ hy) nx
      · exact z)
    rw [p.length_eq]
    show a.length + 1 ≤ (b.erase x).length + 1
    omega
end
section
variable {α β : Type} [DecidableEq α] [DecidableEq β]
/-- the finer labels are as many at least; where they are as many, they tell nothing more -/
theorem count_le {S : List Nat} {f : Nat → α} {g : Nat → β} (h : ∀ p ∈ S, ∀ q ∈ S, g p = g q → f p = f q) : (fsts (S.map f)).length ≤ (fsts (S.map g)).length ∧ ((fsts (S.map f)).length = (fsts (S.map g)).length → ∀ p ∈ S, ∀ q ∈ S, f p = f q → g p = g q) := by
  have pick : ∀ y ∈ fsts (S.map g), ∃ p ∈ S, g p = y := fun y hy => by
    obtain ⟨p, hp, e⟩ := List.mem_map.mp (mem_fsts.mp hy)
    exact ⟨p, hp, e⟩
  have φ : ∃ φ : β → Option α, ∀ p ∈ S, φ (g p) = some (f p) := by
    refine ⟨fun y => ((S.find? fun p => decide (g p = y)).map f), fun p hp => ?_⟩
    show (S.find? fun r => decide (g r = g p)).map f = some (f p)
    cases c : S.find? fun r => decide (g r = g p) with
    | none => exact absurd (List.find?_eq_none.mp c p hp) (by simp)
    | some r =>
      have hr := List.mem_of_find?_eq_some c
      have er : g r = g p := by simpa using List.find?_some (p := fun r => decide (g r = g p)) c
      show some (f r) = some (f p)
      rw [h r hr p hp er]
  obtain ⟨φ, hφ⟩ := φ
  have sub : ∀ x ∈ (fsts (S.map f)).map some, x ∈ (fsts (S.map g)).map φ := fun x hx => by
    obtain ⟨y, hy, rfl⟩ := List.mem_map.mp hx
    obtain ⟨p, hp, rfl⟩ := List.mem_map.mp (mem_fsts.mp hy)
    exact List.mem_map.mpr ⟨g p, mem_fsts.mpr (List.mem_map.mpr ⟨p, hp, rfl⟩), hφ p hp⟩
  have nd : ((fsts (S.map f)).map some).Nodup := List.pairwise_map.mpr ((fsts_nodup (S.map f)).imp fun {a b} ne z => ne (Option.some.inj z))
  refine ⟨by have := sub_len _ _ nd sub; rwa [List.length_map, List.length_map] at this, fun el p hp q hq e => ?_⟩
  have pm := cover _ _ nd sub (by rw [List.length_map, List.length_map, el])
  have nd2 : ((fsts (S.map g)).map φ).Nodup := pm.nodup_iff.mpr nd
  have mp : g p ∈ fsts (S.map g) := mem_fsts.mpr (List.mem_map.mpr ⟨p, hp, rfl⟩)
  have mq : g q ∈ fsts (S.map g) := mem_fsts.mpr (List.mem_map.mpr ⟨q, hq, rfl⟩)
  have ee : φ (g p) = φ (g q) := by rw [hφ p hp, hφ q hq, e]
  obtain ⟨i, hi, ei⟩ := List.mem_iff_getElem.mp mp
  obtain ⟨j, hj, ej⟩ := List.mem_iff_getElem.mp mq
  have hi' : i < ((fsts (S.map g)).map φ).length := by rw [List.length_map]; exact hi
  have hj' : j < ((fsts (S.map g)).map φ).length := by rw [List.length_map]; exact hj
  have : ((fsts (S.map g)).map φ)[i] = ((fsts (S.map g)).map φ)[j] := by rw [List.getElem_map, List.getElem_map, ei, ej, ee]
  have ij : i = j := (List.getElem_inj nd2).mp this
  subst ij
  rw [← ei, ← ej]
end
/-- where one step more tells nothing, no step tells more -/
theorem stable {M : List Pl} {S : List Nat} {t : Nat} (cl : Closed M S) (h : ∀ p ∈ S, ∀ q ∈ S, alike M t p q = true → alike M (t + 1) p q = true) : ∀ n, ∀ p ∈ S, ∀ q ∈ S, alike M t p q = true → alike M (t + n) p q = true
  | 0, _, _, _, _, e => e
  | n + 1, p, hp, q, hq, e => by
    have ih := stable cl h n
    have h1 := h p hp q hq e
    have h1 : (alike M t p q && alike M t (kept M p) (kept M q) && both (alike M t) (lost M p) (lost M q)) = true := h1
    show (alike M (t + n) p q && alike M (t + n) (kept M p) (kept M q) && both (alike M (t + n)) (lost M p) (lost M q)) = true
    rw [Bool.and_eq_true, Bool.and_eq_true] at h1 ⊢
    refine ⟨⟨ih p hp q hq h1.1.1, ih _ (cl p hp).1 _ (cl q hq).1 h1.1.2⟩, ?_⟩
    cases ep : lost M p <;> cases eq : lost M q <;> rw [ep, eq] at h1
    · rfl
    · cases h1.2
    · cases h1.2
    · exact ih _ ((cl p hp).2 _ ep) _ ((cl q hq).2 _ eq) h1.2
theorem alike_down {M : List Pl} {p q : Nat} {t : Nat} : ∀ n, alike M (t + n) p q = true → alike M t p q = true
  | 0, h => h
  | n + 1, h => alike_down n (alike_less h)
theorem same_of {M : List Pl} {S : List Nat} {t : Nat} (cl : Closed M S) (h : ∀ p ∈ S, ∀ q ∈ S, alike M t p q = true → alike M (t + 1) p q = true) {p q : Nat} (hp : p ∈ S) (hq : q ∈ S) : alike M t p q = true ↔ Same M p q := by
  refine ⟨fun e n => ?_, fun e => e t⟩
  rcases Nat.le_total n t with c | c
  · obtain ⟨m, rfl⟩ := Nat.exists_eq_add_of_le c
    exact alike_down m e
  · obtain ⟨m, rfl⟩ := Nat.exists_eq_add_of_le c
    exact stable cl h m p hp q hq e
/-- labels of a depth beyond the number of places tell what is alike for ever -/
theorem late {M : List Pl} {S : List Nat} (cl : Closed M S) (ks : Nat → Nat → Nat) (hk : ∀ t, Lab M S t (ks t)) (n : Nat) (hn : S.length ≤ n) (ne : S ≠ []) : ∀ p ∈ S, ∀ q ∈ S, (alike M n p q = true ↔ Same M p q) := by
  have le : ∀ t, (fsts (S.map (ks t))).length ≤ S.length := fun t => by
    have := sub_len _ (S.map (ks t)) (fsts_nodup _) fun x hx => mem_fsts.mp hx
    rwa [List.length_map] at this
  have step : ∀ t, (fsts (S.map (ks t))).length ≤ (fsts (S.map (ks (t + 1)))).length ∧ ((fsts (S.map (ks t))).length = (fsts (S.map (ks (t + 1)))).length → ∀ p ∈ S, ∀ q ∈ S, alike M t p q = true → alike M (t + 1) p q = true) := fun t => by
    have c := count_le (S := S) (f := ks t) (g := ks (t + 1)) fun p hp q hq e => (hk t p hp q hq).mpr (alike_less ((hk (t + 1) p hp q hq).mp e))
    exact ⟨c.1, fun e p hp q hq a => (hk (t + 1) p hp q hq).mp (c.2 e p hp q hq ((hk t p hp q hq).mpr a))⟩
  have ex : ∃ t, t ≤ n ∧ (fsts (S.map (ks t))).length = (fsts (S.map (ks (t + 1)))).length := by
    refine Classical.byContradiction fun no => ?_
    have gr : ∀ t, t ≤ n + 1 → t ≤ (fsts (S.map (ks t))).length := fun t => by
      induction t with
      | zero => exact fun _ => Nat.zero_le _
      | succ t ih =>
        intro ht
        have a := ih (by omega)
        have b := (step t).1
        have c : (fsts (S.map (ks t))).length ≠ (fsts (S.map (ks (t + 1)))).length := fun e => no ⟨t, by omega, e⟩
        omega
    have := gr (n + 1) (Nat.le_refl _)
    have := le (n + 1)
    omega
  obtain ⟨t, ht, e⟩ := ex
  have st := (step t).2 e
  intro p hp q hq
  refine ⟨fun a => ?_, fun a => a n⟩
  obtain ⟨m, rfl⟩ := Nat.exists_eq_add_of_le ht
  exact (same_of cl st hp hq).mp (alike_down m a)
end Ls
/-! walks over kinds; two that go side by side -/
namespace Ls
/-- one place more, if its kind is new; ρ names who stands for it -/
def grow (k ρ : Nat → Nat) (ord : List Nat) : Option Nat → List Nat
  | none => ord
  | some p => if k p ∈ ord.map k then ord else ord ++ [ρ p]
theorem grow_some {k ρ : Nat → Nat} {ord : List Nat} {p : Nat} : grow k ρ ord (some p) = if k p ∈ ord.map k then ord else ord ++ [ρ p] := rfl
def visit (k ρ : Nat → Nat) (M : List Pl) (ord : List Nat) (p : Nat) : List Nat := grow k ρ (grow k ρ ord (some (kept M p))) (lost M p)
def walk (k ρ : Nat → Nat) (M : List Pl) : Nat → Nat → List Nat → List Nat
  | 0, _, ord => ord
  | f + 1, i, ord => match ord[i]? with
    | some p => walk k ρ M f (i + 1) (visit k ρ M ord p)
    | none => ord
def rowOf (k : Nat → Nat) (M : List Pl) (O : List Nat) (p : Nat) : Pl := ((O.map k).idxOf (k (kept M p)), (lost M p).map fun l => (O.map k).idxOf (k l))
def rowsO (k : Nat → Nat) (M : List Pl) (O : List Nat) : List Pl := O.map (rowOf k M O)
theorem grow_more {k ρ : Nat → Nat} {ord : List Nat} : ∀ x, ∃ more, grow k ρ ord x = ord ++ more
  | none => ⟨[], by rw [List.append_nil]; rfl⟩
  | some p => by
    rw [grow_some]
    by_cases c : k p ∈ ord.map k
    · exact ⟨[], by rw [if_pos c, List.append_nil]⟩
    · exact ⟨[ρ p], by rw [if_neg c]⟩
theorem visit_more {k ρ : Nat → Nat} {M : List Pl} {ord : List Nat} (p : Nat) : ∃ more, visit k ρ M ord p = ord ++ more := by
  obtain ⟨a, ha⟩ := grow_more (k := k) (ρ := ρ) (ord := ord) (some (kept M p))
  obtain ⟨b, hb⟩ := grow_more (k := k) (ρ := ρ) (ord := ord ++ a) (lost M p)
  refine ⟨a ++ b, ?_⟩
  unfold visit
  rw [ha, hb, List.append_assoc]
theorem walk_more {k ρ : Nat → Nat} {M : List Pl} : ∀ (f i : Nat) (ord : List Nat), ∃ more, walk k ρ M f i ord = ord ++ more
  | 0, _, ord => ⟨[], by rw [List.append_nil]; rfl⟩
  | f + 1, i, ord => by
    show ∃ more, (match ord[i]? with | some p => walk k ρ M f (i + 1) (visit k ρ M ord p) | none => ord) = ord ++ more
    cases ord[i]? with
    | none => exact ⟨[], by rw [List.append_nil]⟩
    | some p =>
      obtain ⟨a, ha⟩ := visit_more (k := k) (ρ := ρ) (M := M) (ord := ord) p
      obtain ⟨b, hb⟩ := walk_more f (i + 1) (visit k ρ M ord p)
      exact ⟨a ++ b, by show walk k ρ M f (i + 1) (visit k ρ M ord p) = _; rw [hb, ha, List.append_assoc]⟩
/-- who stands for a place has its kind -/
def Stands (k ρ : Nat → Nat) (S : Nat → Prop) : Prop := ∀ p, S p → k (ρ p) = k p ∧ S (ρ p)
theorem grow_mem {k ρ : Nat → Nat} {S : Nat → Prop} (st : Stands k ρ S) {ord : List Nat} {p : Nat} (hp : S p) : k p ∈ (grow k ρ ord (some p)).map k := by
  rw [grow_some]
  by_cases c : k p ∈ ord.map k
  · rw [if_pos c]
    exact c
  · rw [if_neg c, List.map_append, List.mem_append]
    exact .inr (by rw [List.map_singleton, (st p hp).1]; exact List.mem_cons_self)
theorem grow_in {k ρ : Nat → Nat} {S : Nat → Prop} (st : Stands k ρ S) {ord : List Nat} {x : Option Nat} (hx : ∀ p, x = some p → S p) (h : ∀ p ∈ ord, S p) : ∀ p ∈ grow k ρ ord x, S p := by
  cases x with
  | none => exact h
  | some q =>
    rw [grow_some]
    by_cases c : k q ∈ ord.map k
    · rw [if_pos c]
      exact h
    · rw [if_neg c]
      intro p hp
      rcases List.mem_append.mp hp with z | z
      · exact h p z
      · rw [List.mem_singleton.mp z]
        exact (st q (hx q rfl)).2
theorem grow_nd {k ρ : Nat → Nat} {S : Nat → Prop} (st : Stands k ρ S) {ord : List Nat} {x : Option Nat} (hx : ∀ p, x = some p → S p) (h : (ord.map k).Nodup) : ((grow k ρ ord x).map k).Nodup := by
  cases x with
  | none => exact h
  | some q =>
    rw [grow_some]
    by_cases c : k q ∈ ord.map k
    · rw [if_pos c]
      exact h
    · rw [if_neg c, List.map_append, List.nodup_append]
      refine ⟨h, by simp, fun a ha b hb z => c ?_⟩
      rw [List.map_singleton, List.mem_singleton, (st q (hx q rfl)).1] at hb
      rw [← hb, ← z]
      exact ha
/-- S is closed under the machine -/
def ClosedP (M : List Pl) (S : Nat → Prop) : Prop := ∀ p, S p → S (kept M p) ∧ ∀ l, lost M p = some l → S l
theorem visit_in {k ρ : Nat → Nat} {S : Nat → Prop} {M : List Pl} (st : Stands k ρ S) (cl : ClosedP M S) {ord : List Nat} {p : Nat} (hp : S p) (h : ∀ p ∈ ord, S p) : ∀ q ∈ visit k ρ M ord p, S q := grow_in st (fun l e => (cl p hp).2 l e) (grow_in st (fun q e => by cases e; exact (cl p hp).1) h)
theorem visit_nd {k ρ : Nat → Nat} {S : Nat → Prop} {M : List Pl} (st : Stands k ρ S) (cl : ClosedP M S) {ord : List Nat} {p : Nat} (hp : S p) (h : (ord.map k).Nodup) : ((visit k ρ M ord p).map k).Nodup := grow_nd st (fun l e => (cl p hp).2 l e) (grow_nd st (fun q e => by cases e; exact (cl p hp).1) h)
theorem visit_kept {k ρ : Nat → Nat} {S : Nat → Prop} {M : List Pl} (st : Stands k ρ S) (cl : ClosedP M S) {ord : List Nat} {p : Nat} (hp : S p) : k (kept M p) ∈ (visit k ρ M ord p).map k := by
  obtain ⟨b, hb⟩ := grow_more (k := k) (ρ := ρ) (ord := grow k ρ ord (some (kept M p))) (lost M p)
  unfold visit
  rw [hb, List.map_append]
  exact List.mem_append_left _ (grow_mem st (cl p hp).1)
theorem visit_lost {k ρ : Nat → Nat} {S : Nat → Prop} {M : List Pl} (st : Stands k ρ S) (cl : ClosedP M S) {ord : List Nat} {p l : Nat} (hp : S p) (hl : lost M p = some l) : k l ∈ (visit k ρ M ord p).map k := by
  unfold visit
  rw [hl]
  exact grow_mem st ((cl p hp).2 l hl)
theorem idx_more {α : Type} [BEq α] [LawfulBEq α] {l m : List α} {x : α} (h : x ∈ l) : (l ++ m).idxOf x = l.idxOf x := by
  rw [List.idxOf_append, if_pos h]
/-- a walk over no more kinds than places: what it gives -/
theorem walk_in {k ρ : Nat → Nat} {S : Nat → Prop} {M : List Pl} (st : Stands k ρ S) (cl : ClosedP M S) : ∀ (f i : Nat) (ord : List Nat), (∀ p ∈ ord, S p) → (ord.map k).Nodup → (∀ p ∈ walk k ρ M f i ord, S p) ∧ ((walk k ρ M f i ord).map k).Nodup
  | 0, _, _, h, nd => ⟨h, nd⟩
  | f + 1, i, ord, h, nd => by
    unfold walk
    cases e : ord[i]? with
    | none => exact ⟨h, nd⟩
    | some p =>
      have hp := h p (List.mem_of_getElem? e)
      exact walk_in st cl f (i + 1) _ (visit_in st cl hp h) (visit_nd st cl hp nd)
theorem idx_same {α β : Type} [DecidableEq α] [DecidableEq β] {x : α} {y : β} : ∀ {a : List α} {b : List β}, a.length = b.length → (∀ (i : Nat) (u : α) (v : β), a[i]? = some u → b[i]? = some v → (u = x ↔ v = y)) → a.idxOf x = b.idxOf y ∧ (x ∈ a ↔ y ∈ b)
  | [], [], _, _ => ⟨rfl, by simp⟩
  | u :: a, v :: b, hl, h => by
    have h0 := h 0 u v rfl rfl
    obtain ⟨i1, i2⟩ := idx_same (a := a) (b := b) (by simpa using hl) fun i u' v' hu hv => h (i + 1) u' v' hu hv
    rw [List.idxOf_cons, List.idxOf_cons, List.mem_cons, List.mem_cons]
    by_cases c : u = x
    · have c' := h0.mp c
      subst c c'
      simp
    · have c' : ¬ v = y := fun z => c (h0.mpr z)
      rw [show (u == x) = false from beq_eq_false_iff_ne.mpr c, show (v == y) = false from beq_eq_false_iff_ne.mpr c', cond_false, cond_false, i1]
      refine ⟨rfl, ?_⟩
      rw [i2]
      exact ⟨fun z => z.elim (fun z => absurd z.symm c) .inr, fun z => z.elim (fun z => absurd z.symm c') .inr⟩
/-! ### two walks side by side -/
structure Sides (k ρ k' ρ' : Nat → Nat) (M M' : List Pl) (B : Nat → Nat → Prop) : Prop where
  kept : ∀ p p', B p p' → B (kept M p) (kept M' p')
  lost : ∀ p p', B p p' → (lost M p = none ∧ lost M' p' = none) ∨ ∃ a b, lost M p = some a ∧ lost M' p' = some b ∧ B a b
  lab : ∀ p p' q q', B p p' → B q q' → (k p = k q ↔ k' p' = k' q')
  st : ∀ p p', B p p' → B (ρ p) (ρ' p')
def Pairs (B : Nat → Nat → Prop) (a b : List Nat) : Prop := a.length = b.length ∧ ∀ (i p p' : Nat), a[i]? = some p → b[i]? = some p' → B p p'
theorem Pairs.snoc {B : Nat → Nat → Prop} {a b : List Nat} {p p' : Nat} (h : Pairs B a b) (hp : B p p') : Pairs B (a ++ [p]) (b ++ [p']) := ⟨by rw [List.length_append, List.length_append, h.1]; rfl, fun i x x' hx hx' => by
  rcases Nat.lt_or_ge i a.length with c | c
  · rw [List.getElem?_append_left c] at hx
    rw [List.getElem?_append_left (by rw [← h.1]; exact c)] at hx'
    exact h.2 i x x' hx hx'
  · rw [List.getElem?_append_right c] at hx
    rw [List.getElem?_append_right (by rw [← h.1]; exact c), ← h.1] at hx'
    cases e : i - a.length with
    | zero =>
      rw [e] at hx hx'
      cases hx
      cases hx'
      exact hp
    | succ n =>
      rw [e] at hx
      cases hx⟩
section
variable {k ρ k' ρ' : Nat → Nat} {M M' : List Pl} {B : Nat → Nat → Prop}
theorem Sides.idx (s : Sides k ρ k' ρ' M M' B) {a b : List Nat} (h : Pairs B a b) {p p' : Nat} (hp : B p p') : (a.map k).idxOf (k p) = (b.map k').idxOf (k' p') ∧ (k p ∈ a.map k ↔ k' p' ∈ b.map k') := idx_same (by rw [List.length_map, List.length_map, h.1]) fun i u v hu hv => by
  rw [List.getElem?_map] at hu hv
  obtain ⟨q, hq, rfl⟩ := Option.map_eq_some_iff.mp hu
  obtain ⟨q', hq', rfl⟩ := Option.map_eq_some_iff.mp hv
  exact s.lab _ _ _ _ (h.2 i q q' hq hq') hp
theorem Sides.grow (s : Sides k ρ k' ρ' M M' B) {a b : List Nat} (h : Pairs B a b) {x x' : Option Nat} (hx : (x = none ∧ x' = none) ∨ ∃ p p', x = some p ∧ x' = some p' ∧ B p p') : Pairs B (grow k ρ a x) (grow k' ρ' b x') := by
  rcases hx with ⟨rfl, rfl⟩ | ⟨p, p', rfl, rfl, hp⟩
  · exact h
  · rw [grow_some, grow_some]
    have i := (s.idx h hp).2
    by_cases c : k p ∈ a.map k
    · rw [if_pos c, if_pos (i.mp c)]
      exact h
    · rw [if_neg c, if_neg fun z => c (i.mpr z)]
      exact h.snoc (s.st _ _ hp)
theorem Sides.visit (s : Sides k ρ k' ρ' M M' B) {a b : List Nat} (h : Pairs B a b) {p p' : Nat} (hp : B p p') : Pairs B (visit k ρ M a p) (visit k' ρ' M' b p') := s.grow (s.grow h (.inr ⟨_, _, rfl, rfl, s.kept _ _ hp⟩)) (s.lost _ _ hp)
theorem Sides.walk (s : Sides k ρ k' ρ' M M' B) : ∀ (f i : Nat) (a b : List Nat), Pairs B a b → Pairs B (walk k ρ M f i a) (walk k' ρ' M' f i b)
  | 0, _, _, _, h => h
  | f + 1, i, a, b, h => by
    unfold Ls.walk
    cases e : a[i]? with
    | none =>
      have : b[i]? = none := by
        rw [List.getElem?_eq_none_iff, ← h.1]
        exact List.getElem?_eq_none_iff.mp e
      rw [this]
      exact h
    | some p =>
      obtain ⟨p', e'⟩ : ∃ p', b[i]? = some p' := ⟨_, List.getElem?_eq_getElem (by rw [← h.1]; exact (List.getElem?_eq_some_iff.mp e).1)⟩
      rw [e']
      exact Sides.walk s f (i + 1) _ _ (s.visit h (h.2 i p p' e e'))
theorem Sides.rows (s : Sides k ρ k' ρ' M M' B) {a b : List Nat} (h : Pairs B a b) : rowsO k M a = rowsO k' M' b := by
  unfold rowsO
  refine List.ext_getElem (by rw [List.length_map, List.length_map, h.1]) fun i l1 l2 => ?_
  rw [List.getElem_map, List.getElem_map]
  rw [List.length_map] at l1 l2
  have hp := h.2 i _ _ (List.getElem?_eq_getElem l1) (List.getElem?_eq_getElem l2)
  unfold rowOf
  rw [(s.idx h (s.kept _ _ hp)).1]
  refine Prod.ext rfl ?_
  rcases s.lost _ _ hp with ⟨e1, e2⟩ | ⟨x, y, e1, e2, hxy⟩
  · rw [e1, e2]
    rfl
  · rw [e1, e2]
    exact congrArg some (s.idx h hxy).1
end
end Ls
/-! the kinds of all places; the least machine; what it lets -/
namespace Ls
def at0 (ks : List Nat) (p : Nat) : Nat := ks.getD p 0
def marks (M : List Pl) (ks : List Nat) : List Mark := (List.range M.length).map (mark M (at0 ks))
def finer (M : List Pl) (ks : List Nat) : List Nat := (marks M ks).map fun m => (fsts (marks M ks)).idxOf m
def loopK (M : List Pl) : Nat → List Nat → Nat → List Nat
  | 0, ks, _ => ks
  | f + 1, ks, many => if (fsts (marks M ks)).length = many then ks else loopK M f (finer M ks) (fsts (marks M ks)).length
def kindsF (M : List Pl) : List Nat := loopK M (M.length + 1) (List.replicate M.length 0) 1
def kOf (M : List Pl) : Nat → Nat := at0 (kindsF M)
def orderF (M : List Pl) : List Nat := walk (kOf M) id M (M.length + 1) 0 [0]
def least (M : List Pl) : List Pl := rowsO (kOf M) M (orderF M)
theorem closed_range {M : List Pl} (ok : OkM M) : Closed M (List.range M.length) := fun p hp => by
  have lt := List.mem_range.mp hp
  obtain ⟨h1, h2⟩ := ok M[p] (List.getElem_mem lt)
  have e : M.getD p (0, none) = M[p] := by rw [List.getD_eq_getElem?_getD, List.getElem?_eq_getElem lt]; rfl
  unfold kept lost
  rw [e]
  exact ⟨List.mem_range.mpr h1, fun l hl => List.mem_range.mpr (h2 l hl)⟩
theorem finer_len (M : List Pl) (ks : List Nat) : (finer M ks).length = M.length := by
  unfold finer marks
  rw [List.length_map, List.length_map, List.length_range]
theorem finer_at {M : List Pl} {ks : List Nat} {p : Nat} (hp : p < M.length) : at0 (finer M ks) p = (fsts (marks M ks)).idxOf (mark M (at0 ks) p) := by
  unfold at0 finer
  rw [List.getD_eq_getElem?_getD, List.getElem?_map]
  unfold marks
  rw [List.getElem?_map, List.getElem?_range hp]
  rfl
theorem mark_in {M : List Pl} {ks : List Nat} {p : Nat} (hp : p < M.length) : mark M (at0 ks) p ∈ fsts (marks M ks) := mem_fsts.mpr (List.mem_map.mpr ⟨p, List.mem_range.mpr hp, rfl⟩)
theorem idx_inj {α : Type} [BEq α] [LawfulBEq α] {l : List α} {x y : α} (hx : x ∈ l) (hy : y ∈ l) (h : l.idxOf x = l.idxOf y) : x = y := by
  have a := List.getElem_idxOf (List.idxOf_lt_length_of_mem hx)
  have b := List.getElem_idxOf (List.idxOf_lt_length_of_mem hy)
  rw [← a, ← b]
  congr 1
theorem finer_lab {M : List Pl} {ks : List Nat} {t : Nat} (ok : OkM M) (h : Lab M (List.range M.length) t (at0 ks)) : Lab M (List.range M.length) (t + 1) (at0 (finer M ks)) := fun p hp q hq => by
  have lp := List.mem_range.mp hp
  have lq := List.mem_range.mp hq
  rw [finer_at lp, finer_at lq, ← mark_alike (closed_range ok) h hp hq]
  exact ⟨fun e => idx_inj (mark_in lp) (mark_in lq) e, fun e => by rw [e]⟩
theorem finer_count {M : List Pl} {ks : List Nat} : (fsts ((List.range M.length).map (at0 (finer M ks)))).length = (fsts (marks M ks)).length := by
  have inj : ∀ p ∈ List.range M.length, ∀ q ∈ List.range M.length, at0 (finer M ks) p = at0 (finer M ks) q → mark M (at0 ks) p = mark M (at0 ks) q := fun p hp q hq e => by
    have lp := List.mem_range.mp hp
    have lq := List.mem_range.mp hq
    rw [finer_at lp, finer_at lq] at e
    exact idx_inj (mark_in lp) (mark_in lq) e
  have back : ∀ p ∈ List.range M.length, ∀ q ∈ List.range M.length, mark M (at0 ks) p = mark M (at0 ks) q → at0 (finer M ks) p = at0 (finer M ks) q := fun p hp q hq e => by
    rw [finer_at (List.mem_range.mp hp), finer_at (List.mem_range.mp hq), e]
  exact Nat.le_antisymm (count_le back).1 (count_le inj).1
/-- what the loop keeps: labels of some depth, counted -/
def KInv (M : List Pl) (ks : List Nat) (many : Nat) : Prop := ks.length = M.length ∧ (∃ t, Lab M (List.range M.length) t (at0 ks)) ∧ many = (fsts ((List.range M.length).map (at0 ks))).length
theorem kinv_0 {M : List Pl} (h : 1 ≤ M.length) : KInv M (List.replicate M.length 0) 1 := by
  have z : ∀ p, at0 (List.replicate M.length 0) p = 0 := fun p => by
    unfold at0
    rw [List.getD_eq_getElem?_getD, List.getElem?_replicate]
    split <;> rfl
  refine ⟨List.length_replicate, ⟨0, fun p _ q _ => ?_⟩, ?_⟩
  · rw [z, z]
    exact ⟨fun _ => rfl, fun _ => rfl⟩
  · have : (List.range M.length).map (at0 (List.replicate M.length 0)) = List.replicate M.length 0 := by
      rw [show at0 (List.replicate M.length 0) = fun _ => 0 from funext z, List.map_const', List.length_range]
    rw [this]
    obtain ⟨n, hn⟩ : ∃ n, M.length = n + 1 := ⟨M.length - 1, by omega⟩
    rw [hn]
    clear hn this z h
    have : ∀ n, fsts (List.replicate (n + 1) 0) = [0] := fun n => by
      induction n with
      | zero => rfl
      | succ n ih => rw [List.replicate_succ', fsts_snoc, ih]; rfl
    rw [this]
    rfl
theorem kinv_step {M : List Pl} {ks : List Nat} {many : Nat} (ok : OkM M) (h : KInv M ks many) : KInv M (finer M ks) (fsts (marks M ks)).length := by
  obtain ⟨_, ⟨t, ht⟩, _⟩ := h
  exact ⟨finer_len M ks, ⟨t + 1, finer_lab ok ht⟩, finer_count.symm⟩
theorem kinv_le {M : List Pl} {ks : List Nat} {many : Nat} (h : KInv M ks many) : many ≤ (fsts (marks M ks)).length ∧ many ≤ M.length ∧ (fsts (marks M ks)).length ≤ M.length := by
  have bound : ∀ {α : Type} [DecidableEq α] (f : Nat → α), (fsts ((List.range M.length).map f)).length ≤ M.length := fun f => by
    have := sub_len _ ((List.range M.length).map f) (fsts_nodup _) fun x hx => mem_fsts.mp hx
    rwa [List.length_map, List.length_range] at this
  refine ⟨?_, by rw [h.2.2]; exact bound _, bound _⟩
  rw [h.2.2]
  exact (count_le (S := List.range M.length) (f := at0 ks) (g := mark M (at0 ks)) fun p _ q _ e => congrArg Prod.fst e).1
theorem kinv_end {M : List Pl} {ks : List Nat} {many : Nat} (ok : OkM M) (h : KInv M ks many) (e : (fsts (marks M ks)).length = many) : ∀ p, p < M.length → ∀ q, q < M.length → (at0 ks p = at0 ks q ↔ Same M p q) := by
  obtain ⟨_, ⟨t, ht⟩, hm⟩ := h
  have cl := closed_range ok
  have c := (count_le (S := List.range M.length) (f := at0 ks) (g := mark M (at0 ks)) fun p _ q _ e => congrArg Prod.fst e).2 (by rw [← hm]; exact e.symm)
  intro p hp q hq
  have mp := List.mem_range.mpr hp
  have mq := List.mem_range.mpr hq
  rw [ht p mp q mq]
  exact same_of cl (fun a ha b hb ab => (mark_alike cl ht ha hb).mp (c a ha b hb ((ht a ha b hb).mpr ab))) mp mq
theorem loopK_end {M : List Pl} (ok : OkM M) : ∀ (f : Nat) (ks : List Nat) (many : Nat), KInv M ks many → M.length + 2 ≤ f + many → ∃ ks' many', loopK M f ks many = ks' ∧ KInv M ks' many' ∧ (fsts (marks M ks')).length = many'
  | 0, ks, many, h, hf => by
    have := (kinv_le h).2.1
    omega
  | f + 1, ks, many, h, hf => by
    unfold loopK
    by_cases c : (fsts (marks M ks)).length = many
    · rw [if_pos c]
      exact ⟨ks, many, rfl, h, c⟩
    · rw [if_neg c]
      exact loopK_end ok f _ _ (kinv_step ok h) (by have := (kinv_le h).1; omega)
theorem kOf_same {M : List Pl} (ok : OkM M) (h1 : 1 ≤ M.length) : (kindsF M).length = M.length ∧ ∀ p, p < M.length → ∀ q, q < M.length → (kOf M p = kOf M q ↔ Same M p q) := by
  obtain ⟨ks, many, e, h, c⟩ := loopK_end ok (M.length + 1) _ 1 (kinv_0 h1) (by omega)
  unfold kOf kindsF
  rw [e]
  exact ⟨h.1, kinv_end ok h c⟩
/-! ### the walk over all kinds -/
section
variable {M : List Pl} {k ρ : Nat → Nat}
theorem closedP_lt (ok : OkM M) : ClosedP M (· < M.length) := fun p hp => by
  have c := closed_range ok p (List.mem_range.mpr hp)
  exact ⟨List.mem_range.mp c.1, fun l hl => List.mem_range.mp (c.2 l hl)⟩
theorem ord_few {ord : List Nat} {n : Nat} (h : ∀ p ∈ ord, p < n) (nd : (ord.map k).Nodup) : ord.length ≤ n := by
  have nd' : ord.Nodup := (List.pairwise_map.mp nd).imp fun {a b} ne e => ne (by rw [e])
  have := sub_len ord (List.range n) nd' fun p hp => List.mem_range.mpr (h p hp)
  rwa [List.length_range] at this
/-- done: both ways of the place lead to kinds that are met -/
def Done (k : Nat → Nat) (M : List Pl) (ord : List Nat) (p : Nat) : Prop := k (kept M p) ∈ ord.map k ∧ ∀ l, lost M p = some l → k l ∈ ord.map k
theorem Done.more {ord more : List Nat} {p : Nat} (h : Done k M ord p) : Done k M (ord ++ more) p := by
  unfold Done at h ⊢
  rw [List.map_append]
  exact ⟨List.mem_append_left _ h.1, fun l hl => List.mem_append_left _ (h.2 l hl)⟩
theorem walk_done {S : Nat → Prop} {n : Nat} (st : Stands k ρ S) (cl : ClosedP M S) (hS : ∀ p, S p → p < n) : ∀ (f i : Nat) (ord : List Nat), (∀ p ∈ ord, S p) → (ord.map k).Nodup → n + 1 ≤ f + i → (∀ (j p : Nat), j < i → ord[j]? = some p → Done k M ord p) → ∀ p ∈ walk k ρ M f i ord, Done k M (walk k ρ M f i ord) p
  | 0, i, ord, h, nd, hf, d => fun p hp => by
    obtain ⟨j, hj⟩ := List.mem_iff_getElem?.mp hp
    have few := ord_few (fun p hp => hS p (h p hp)) nd
    have hj : ord[j]? = some p := hj
    exact d j p (by have := (List.getElem?_eq_some_iff.mp hj).1; omega) hj
  | f + 1, i, ord, h, nd, hf, d => by
    unfold walk
    cases e : ord[i]? with
    | none =>
      intro p hp
      obtain ⟨j, hj⟩ := List.mem_iff_getElem?.mp hp
      have c := List.getElem?_eq_none_iff.mp e
      have hj : ord[j]? = some p := hj
      exact d j p (by have := (List.getElem?_eq_some_iff.mp hj).1; omega) hj
    | some q =>
      have hq := h q (List.mem_of_getElem? e)
      have li := (List.getElem?_eq_some_iff.mp e).1
      refine walk_done st cl hS f (i + 1) _ (visit_in st cl hq h) (visit_nd st cl hq nd) (by omega) fun j p hj hp => ?_
      obtain ⟨more, hm⟩ := visit_more (k := k) (ρ := ρ) (M := M) (ord := ord) q
      have ej : ord[j]? = some p := by rw [hm, List.getElem?_append_left (by omega)] at hp; exact hp
      rcases Nat.lt_or_ge j i with c | c
      · rw [hm]
        exact (d j p c ej).more
      · obtain rfl : j = i := by omega
        rw [e] at ej
        obtain rfl := Option.some.inj ej
        exact ⟨visit_kept st cl hq, fun l hl => visit_lost st cl hq hl⟩
end
theorem stands_id {k : Nat → Nat} {S : Nat → Prop} : Stands k id S := fun p hp => ⟨rfl, hp⟩
/-- what the order of the least machine is -/
theorem order_is {M : List Pl} (ok : OkM M) (h1 : 1 ≤ M.length) : (∀ p ∈ orderF M, p < M.length) ∧ ((orderF M).map (kOf M)).Nodup ∧ (∀ p ∈ orderF M, Done (kOf M) M (orderF M) p) ∧ (orderF M)[0]? = some 0 ∧ (orderF M).length ≤ M.length := by
  have cl := closedP_lt ok
  have st : Stands (kOf M) id (· < M.length) := stands_id
  have i0 : ∀ p ∈ [0], p < M.length := fun p hp => by rw [List.mem_singleton.mp hp]; omega
  have n0 : (([0] : List Nat).map (kOf M)).Nodup := by simp
  obtain ⟨a, b⟩ := walk_in st cl (M.length + 1) 0 [0] i0 n0
  refine ⟨a, b, walk_done st cl (fun _ h => h) (M.length + 1) 0 [0] i0 n0 (by omega) (fun j p hj _ => by omega), ?_, ord_few a b⟩
  obtain ⟨more, hm⟩ := walk_more (k := kOf M) (ρ := id) (M := M) (M.length + 1) 0 [0]
  unfold orderF
  rw [hm]
  rfl
end Ls
/-! the least machine is one; it lets what the machine lets -/
namespace Ls
section
variable {M : List Pl}
/-- any labels that tell what is alike lead to the same machine -/
theorem least_other (ok : OkM M) (h1 : 1 ≤ M.length) {S : Nat → Prop} (cl : ClosedP M S) (h0 : S 0) (hlt : ∀ p, S p → p < M.length) {κ ρ : Nat → Nat} (lab : ∀ p q, S p → S q → (κ p = κ q ↔ Same M p q)) (st : Stands κ ρ S) : rowsO κ M (walk κ ρ M (M.length + 1) 0 [ρ 0]) = least M := by
  obtain ⟨_, ks⟩ := kOf_same ok h1
  have std : ∀ p, S p → Same M p (ρ p) := fun p hp => (lab p (ρ p) hp (st p hp).2).mp (st p hp).1.symm
  have s : Sides (kOf M) id κ ρ M M fun p q => S p ∧ S q ∧ Same M p q := ⟨fun p q ⟨a, b, c⟩ => ⟨(cl p a).1, (cl q b).1, c.kept⟩, fun p q ⟨a, b, c⟩ => by
      rcases c.lost with z | ⟨x, y, e1, e2, h⟩
      · exact .inl z
      · exact .inr ⟨x, y, e1, e2, (cl p a).2 x e1, (cl q b).2 y e2, h⟩,
    fun p p' q q' ⟨a, b, c⟩ ⟨a', b', c'⟩ => by
      rw [ks p (hlt p a) q (hlt q a'), lab p' q' b b']
      exact ⟨fun z => (c.symm.trans z).trans c', fun z => (c.trans z).trans c'.symm⟩,
    fun p q ⟨a, b, c⟩ => ⟨a, (st q b).2, c.trans (std q b)⟩⟩
  have p0 : Pairs (fun p q => S p ∧ S q ∧ Same M p q) [0] [ρ 0] := ⟨rfl, fun i p q hp hq => by
    cases i with
    | zero => cases hp; cases hq; exact ⟨h0, (st 0 h0).2, std 0 h0⟩
    | succ n => cases hp⟩
  exact (s.rows (s.walk (M.length + 1) 0 _ _ p0)).symm
theorem walk_fuel {k ρ : Nat → Nat} {S : Nat → Prop} {n : Nat} (st : Stands k ρ S) (cl : ClosedP M S) (hS : ∀ p, S p → p < n) : ∀ (f f' i : Nat) (ord : List Nat), (∀ p ∈ ord, S p) → (ord.map k).Nodup → n + 1 ≤ f + i → n + 1 ≤ f' + i → walk k ρ M f i ord = walk k ρ M f' i ord := by
  have stop : ∀ (f i : Nat) (ord : List Nat), (∀ p ∈ ord, S p) → (ord.map k).Nodup → n + 1 ≤ i → walk k ρ M f i ord = ord := fun f i ord h nd hi => by
    have few := ord_few (fun p hp => hS p (h p hp)) nd
    cases f with
    | zero => rfl
    | succ f =>
      unfold walk
      rw [List.getElem?_eq_none (by omega)]
  intro f
  induction f with
  | zero => exact fun f' i ord h nd hf hf' => (stop f' i ord h nd (by omega)).symm
  | succ f ih =>
    intro f' i ord h nd hf hf'
    cases f' with
    | zero => exact stop (f + 1) i ord h nd (by omega)
    | succ f' =>
      unfold walk
      cases e : ord[i]? with
      | none => rfl
      | some p =>
        have hp := h p (List.mem_of_getElem? e)
        exact ih f' (i + 1) _ (visit_in st cl hp h) (visit_nd st cl hp nd) (by omega) (by omega)
/-- a place of the machine, one of the least machine -/
def Of (M : List Pl) (p i : Nat) : Prop := p < M.length ∧ ∃ r, (orderF M)[i]? = some r ∧ Same M p r
theorem least_len : (least M).length = (orderF M).length := by unfold least rowsO; rw [List.length_map]
theorem least_at {i r : Nat} (h : (orderF M)[i]? = some r) : (least M)[i]? = some (rowOf (kOf M) M (orderF M) r) := by unfold least rowsO; rw [List.getElem?_map, h]; rfl
theorem idx_of {l : List Nat} {x : Nat} (h : x ∈ l) : l[l.idxOf x]? = some x := by
  rw [List.getElem?_eq_getElem (List.idxOf_lt_length_of_mem h), List.getElem_idxOf]
theorem to_idx (ok : OkM M) (h1 : 1 ≤ M.length) {x : Nat} (hx : x < M.length) (h : kOf M x ∈ (orderF M).map (kOf M)) : Of M x (((orderF M).map (kOf M)).idxOf (kOf M x)) := by
  have e := idx_of h
  rw [List.getElem?_map] at e
  obtain ⟨r, hr, er⟩ := Option.map_eq_some_iff.mp e
  exact ⟨hx, r, hr, ((kOf_same ok h1).2 x hx r ((order_is ok h1).1 r (List.mem_of_getElem? hr))).mp er.symm⟩
theorem of_kept (ok : OkM M) (h1 : 1 ≤ M.length) {p i : Nat} (h : Of M p i) : Of M (kept M p) (kept (least M) i) := by
  obtain ⟨hp, r, hr, s⟩ := h
  obtain ⟨a, _, d, _⟩ := order_is ok h1
  have hr' := a r (List.mem_of_getElem? hr)
  have e : kept (least M) i = ((orderF M).map (kOf M)).idxOf (kOf M (kept M r)) := by
    unfold kept
    rw [List.getD_eq_getElem?_getD, least_at hr]
    rfl
  rw [e]
  obtain ⟨_, r', h2, s2⟩ := to_idx ok h1 (closedP_lt ok r hr').1 (d r (List.mem_of_getElem? hr)).1
  exact ⟨(closedP_lt ok p hp).1, r', h2, s.kept.trans s2⟩
theorem of_lost (ok : OkM M) (h1 : 1 ≤ M.length) {p i : Nat} (h : Of M p i) : (lost M p = none ∧ lost (least M) i = none) ∨ ∃ a b, lost M p = some a ∧ lost (least M) i = some b ∧ Of M a b := by
  obtain ⟨hp, r, hr, s⟩ := h
  obtain ⟨a, _, d, _⟩ := order_is ok h1
  have hr' := a r (List.mem_of_getElem? hr)
  have e : lost (least M) i = (lost M r).map fun l => ((orderF M).map (kOf M)).idxOf (kOf M l) := by
    rw [show lost (least M) i = ((least M).getD i (0, none)).2 from rfl, List.getD_eq_getElem?_getD, least_at hr]
    rfl
  rw [e]
  rcases s.lost with ⟨e1, e2⟩ | ⟨x, y, e1, e2, sxy⟩
  · rw [e2]
    exact .inl ⟨e1, rfl⟩
  · rw [e2]
    obtain ⟨_, r', h2, s2⟩ := to_idx ok h1 ((closedP_lt ok r hr').2 y e2) ((d r (List.mem_of_getElem? hr)).2 y e2)
    exact .inr ⟨x, _, e1, rfl, (closedP_lt ok p hp).2 x e1, r', h2, sxy.trans s2⟩
theorem of_alike (ok : OkM M) (h1 : 1 ≤ M.length) : ∀ {t p q i j : Nat}, Of M p i → Of M q j → alike (least M) t i j = alike M t p q
  | 0, _, _, _, _, _, _ => rfl
  | t + 1, p, q, i, j, hp, hq => by
    show (alike (least M) t i j && alike (least M) t (kept (least M) i) (kept (least M) j) && both (alike (least M) t) (lost (least M) i) (lost (least M) j)) = (alike M t p q && alike M t (kept M p) (kept M q) && both (alike M t) (lost M p) (lost M q))
    rw [of_alike ok h1 hp hq, of_alike ok h1 (of_kept ok h1 hp) (of_kept ok h1 hq)]
    congr 1
    rcases of_lost ok h1 hp with ⟨a1, a2⟩ | ⟨a, b, a1, a2, ab⟩ <;> rcases of_lost ok h1 hq with ⟨b1, b2⟩ | ⟨c, d, b1, b2, cd⟩ <;> rw [a1, a2, b1, b2]
    · rfl
    · rfl
    · rfl
    · exact of_alike ok h1 ab cd
theorem of_same (ok : OkM M) (h1 : 1 ≤ M.length) {p q i j : Nat} (hp : Of M p i) (hq : Of M q j) : Same (least M) i j ↔ Same M p q := forall_congr' fun t => by rw [of_alike ok h1 hp hq]
theorem of_0 (ok : OkM M) (h1 : 1 ≤ M.length) : Of M 0 0 := ⟨by omega, 0, (order_is ok h1).2.2.2.1, Same.refl M 0⟩
theorem of_self (ok : OkM M) (h1 : 1 ≤ M.length) {i r : Nat} (h : (orderF M)[i]? = some r) : Of M r i := ⟨(order_is ok h1).1 r (List.mem_of_getElem? h), r, h, Same.refl M r⟩
theorem of_one (ok : OkM M) (h1 : 1 ≤ M.length) {p i j : Nat} (hi : Of M p i) (hj : Of M p j) : i = j := by
  obtain ⟨_, r, hr, s⟩ := hi
  obtain ⟨_, r', hr', s'⟩ := hj
  obtain ⟨a, nd, _⟩ := order_is ok h1
  have e := ((kOf_same ok h1).2 r (a r (List.mem_of_getElem? hr)) r' (a r' (List.mem_of_getElem? hr'))).mpr (s.symm.trans s')
  have li := (List.getElem?_eq_some_iff.mp hr).1
  have lj := (List.getElem?_eq_some_iff.mp hr').1
  have h := (List.getElem_inj (xs := (orderF M).map (kOf M)) (i := i) (j := j) (h₀ := by rw [List.length_map]; exact li) (h₁ := by rw [List.length_map]; exact lj) nd).mp (by
    rw [List.getElem_map, List.getElem_map, (List.getElem?_eq_some_iff.mp hr).2, (List.getElem?_eq_some_iff.mp hr').2]
    exact e)
  exact h
theorem least_pos (ok : OkM M) (h1 : 1 ≤ M.length) : 1 ≤ (least M).length := by
  rw [least_len]
  have := (List.getElem?_eq_some_iff.mp (order_is ok h1).2.2.2.1).1
  omega
theorem least_few (ok : OkM M) (h1 : 1 ≤ M.length) : (least M).length ≤ M.length := by rw [least_len]; exact (order_is ok h1).2.2.2.2
theorem least_ok (ok : OkM M) (h1 : 1 ≤ M.length) : OkM (least M) := fun x hx => by
  obtain ⟨i, hi⟩ := List.mem_iff_getElem?.mp hx
  have li := (List.getElem?_eq_some_iff.mp hi).1
  rw [least_len] at li
  have hr := List.getElem?_eq_getElem li
  have o := of_self ok h1 hr
  have e : (least M).getD i (0, none) = x := by rw [List.getD_eq_getElem?_getD, hi]; rfl
  have lt : ∀ {p j : Nat}, Of M p j → j < (least M).length := fun ⟨_, r, h, _⟩ => by rw [least_len]; exact (List.getElem?_eq_some_iff.mp h).1
  refine ⟨?_, fun l hl => ?_⟩
  · have := lt (of_kept ok h1 o)
    unfold kept at this
    rw [e] at this
    exact this
  · rcases of_lost ok h1 o with ⟨_, z⟩ | ⟨a, b, _, z, ab⟩
    · unfold lost at z
      rw [e, hl] at z
      cases z
    · unfold lost at z
      rw [e, hl] at z
      rw [Option.some.inj z]
      exact lt ab
theorem least_least (ok : OkM M) (h1 : 1 ≤ M.length) : least (least M) = least M := by
  have okL := least_ok ok h1
  have hL := least_pos ok h1
  obtain ⟨_, ks⟩ := kOf_same ok h1
  obtain ⟨_, kl⟩ := kOf_same okL hL
  have lt : ∀ {p j : Nat}, Of M p j → j < (least M).length := fun ⟨_, r, h, _⟩ => by rw [least_len]; exact (List.getElem?_eq_some_iff.mp h).1
  have s : Sides (kOf M) id (kOf (least M)) id M (least M) (Of M) := ⟨fun p i h => of_kept ok h1 h, fun p i h => of_lost ok h1 h, fun p i q j hp hq => by
    rw [ks p hp.1 q hq.1, kl i (lt hp) j (lt hq), of_same ok h1 hp hq], fun p i h => h⟩
  have p0 : Pairs (Of M) [0] [0] := ⟨rfl, fun i p q hp hq => by
    cases i with
    | zero => cases hp; cases hq; exact of_0 ok h1
    | succ n => cases hp⟩
  have w := s.rows (s.walk (M.length + 1) 0 _ _ p0)
  have few := least_few ok h1
  have e := walk_fuel (M := least M) (k := kOf (least M)) (ρ := id) stands_id (closedP_lt okL) (fun _ h => h) (M.length + 1) ((least M).length + 1) 0 [0] (fun p hp => by rw [List.mem_singleton.mp hp]; omega) (by simp) (by omega) (by omega)
  rw [e] at w
  exact w.symm
/-! ### what a machine lets -/
def run (M : List Pl) : Option Nat → List Bool → Option Nat
  | none, _ => none
  | some p, [] => some p
  | some p, b :: w => run M (if b = true then lost M p else some (kept M p)) w
def letsF (M : List Pl) (w : List Bool) : Bool := (run M (some 0) w).isSome
theorem run_none (w : List Bool) : run M none w = none := by cases w <;> rfl
theorem run_of (ok : OkM M) (h1 : 1 ≤ M.length) : ∀ (w : List Bool) {p i : Nat}, Of M p i → (run (least M) (some i) w).isSome = (run M (some p) w).isSome
  | [], _, _, _ => rfl
  | b :: w, p, i, h => by
    show (run (least M) (if b = true then lost (least M) i else some (kept (least M) i)) w).isSome = (run M (if b = true then lost M p else some (kept M p)) w).isSome
    cases b with
    | false => exact run_of ok h1 w (of_kept ok h1 h)
    | true =>
      rw [if_pos rfl, if_pos rfl]
      rcases of_lost ok h1 h with ⟨e1, e2⟩ | ⟨x, y, e1, e2, hxy⟩
      · rw [e1, e2, run_none, run_none]
      · rw [e1, e2]
        exact run_of ok h1 w hxy
theorem lets_least (ok : OkM M) (h1 : 1 ≤ M.length) (w : List Bool) : letsF (least M) w = letsF M w := run_of ok h1 w (of_0 ok h1)
theorem run_snoc (b : Bool) : ∀ (w : List Bool) (x : Option Nat), run M x (w ++ [b]) = match run M x w with | none => none | some p => if b = true then lost M p else some (kept M p)
  | w, none => by rw [run_none, run_none]
  | [], some p => by
    show run M (if b = true then lost M p else some (kept M p)) [] = (if b = true then lost M p else some (kept M p))
    cases (if b = true then lost M p else some (kept M p)) <;> rfl
  | c :: w, some p => run_snoc b w _
end
end Ls
/-! machines of totals and of bursts: what they let -/
namespace Ls
def totalM (m : Nat) : List Pl := (List.range (m + 1)).map fun i => (i, if i < m then some (i + 1) else none)
def burstM (m a : Nat) : List Pl := [(0, some 1)] ++ (List.range m).map (fun i => ((m + 1) % (m + a), if i + 1 < m then some (i + 2) else none)) ++ (List.range (a - 1)).map fun i => ((m + 1 + i + 1) % (m + a), none)
theorem total_ok (m : Nat) : OkM (totalM m) := fun x hx => by
  obtain ⟨i, hi, rfl⟩ := List.mem_map.mp hx
  have li := List.mem_range.mp hi
  unfold totalM
  rw [List.length_map, List.length_range]
  refine ⟨li, fun l hl => ?_⟩
  have hl : (if i < m then some (i + 1) else none) = some l := hl
  split at hl
  · cases hl
    omega
  · cases hl
theorem total_at {m i : Nat} (h : i ≤ m) : (totalM m).getD i (0, none) = (i, if i < m then some (i + 1) else none) := by
  unfold totalM
  rw [List.getD_eq_getElem?_getD, List.getElem?_map, List.getElem?_range (by omega)]
  rfl
theorem run_total {m : Nat} : ∀ (w : List Bool) (p : Nat), p ≤ m → run (totalM m) (some p) w = if p + w.count true ≤ m then some (p + w.count true) else none
  | [], p, h => by
    rw [List.count_nil, Nat.add_zero, if_pos h]
    rfl
  | b :: w, p, h => by
    show run (totalM m) (if b = true then lost (totalM m) p else some (kept (totalM m) p)) w = _
    unfold lost kept
    rw [total_at h]
    cases b with
    | false =>
      rw [if_neg (by decide), List.count_cons_of_ne (by decide)]
      exact run_total w p h
    | true =>
      rw [if_pos rfl, List.count_cons_self]
      by_cases c : p < m
      · rw [show (p, if p < m then some (p + 1) else none).2 = some (p + 1) from if_pos c, run_total w (p + 1) (by omega), show p + 1 + w.count true = p + (w.count true + 1) by omega]
      · rw [show (p, if p < m then some (p + 1) else none).2 = none from if_neg c, run_none, if_neg (by omega)]
theorem lets_total (m : Nat) (w : List Bool) : letsF (totalM m) w = decide (w.count true ≤ m) := by
  unfold letsF
  rw [run_total w 0 (Nat.zero_le _), Nat.zero_add]
  by_cases c : w.count true ≤ m
  · rw [if_pos c, decide_eq_true c]
    rfl
  · rw [if_neg c, decide_eq_false c]
    rfl
/-! ### bursts: told of the reversed row -/
def rRun : List Bool → Nat
  | true :: u => rRun u + 1
  | _ => 0
def rGap : List Bool → Option Nat
  | [] => none
  | true :: _ => some 0
  | false :: u => (rGap u).map (· + 1)
def fine (a : Nat) : Option Nat → Bool
  | none => true
  | some d => !(decide (0 < d) && decide (d < a))
def rOk (m a : Nat) : List Bool → Bool
  | [] => true
  | true :: u => rOk m a u && decide (rRun u + 1 ≤ m) && fine a (rGap u)
  | false :: u => rOk m a u
def stR (m a : Nat) (u : List Bool) : Nat := if 0 < rRun u then rRun u else match rGap u with
  | none => 0
  | some d => if d < a then m + d else 0
theorem burst_len {m a : Nat} (h : 1 ≤ a) : (burstM m a).length = m + a := by
  unfold burstM
  rw [List.length_append, List.length_append, List.length_map, List.length_map, List.length_range, List.length_range]
  show 1 + m + (a - 1) = m + a
  omega
theorem burst_0 {m a : Nat} : (burstM m a).getD 0 (0, none) = (0, some 1) := rfl
theorem burst_1 {m a i : Nat} (h : i < m) : (burstM m a).getD (i + 1) (0, none) = ((m + 1) % (m + a), if i + 1 < m then some (i + 2) else none) := by
  unfold burstM
  rw [List.getD_eq_getElem?_getD, List.getElem?_append_left (by rw [List.length_append, List.length_map, List.length_range]; show i + 1 < 1 + m; omega), List.getElem?_append_right (by show 1 ≤ i + 1; omega), List.getElem?_map]
  rw [show i + 1 - ([(0, some 1)] : List Pl).length = i from rfl, List.getElem?_range h]
  rfl
theorem burst_2 {m a i : Nat} (h : i < a - 1) : (burstM m a).getD (m + 1 + i) (0, none) = ((m + 1 + i + 1) % (m + a), none) := by
  unfold burstM
  have l : ([(0, some 1)] ++ (List.range m).map (fun i => ((m + 1) % (m + a), if i + 1 < m then some (i + 2) else none)) : List Pl).length = m + 1 := by
    rw [List.length_append, List.length_map, List.length_range]
    show 1 + m = m + 1
    omega
  rw [List.getD_eq_getElem?_getD, List.getElem?_append_right (by rw [l]; omega), l, List.getElem?_map, show m + 1 + i - (m + 1) = i by omega, List.getElem?_range h]
  rfl
theorem burst_ok {m a : Nat} (hm : 1 ≤ m) (ha : 1 ≤ a) : OkM (burstM m a) := fun x hx => by
  rw [burst_len ha]
  have md : ∀ n, n % (m + a) < m + a := fun n => Nat.mod_lt _ (by omega)
  unfold burstM at hx
  rcases List.mem_append.mp hx with hx | hx
  · rcases List.mem_append.mp hx with hx | hx
    · rw [List.mem_singleton.mp hx]
      exact ⟨by show 0 < m + a; omega, fun l hl => by cases hl; omega⟩
    · obtain ⟨i, hi, rfl⟩ := List.mem_map.mp hx
      have li := List.mem_range.mp hi
      refine ⟨md _, fun l hl => ?_⟩
      have hl : (if i + 1 < m then some (i + 2) else none) = some l := hl
      split at hl
      · cases hl
        omega
      · cases hl
  · obtain ⟨i, hi, rfl⟩ := List.mem_map.mp hx
    exact ⟨md _, fun l hl => by cases hl⟩
theorem gap_run : ∀ (u : List Bool), (0 < rRun u ↔ rGap u = some 0)
  | [] => ⟨fun h => absurd h (by decide), fun h => by cases h⟩
  | true :: u => ⟨fun _ => rfl, fun _ => Nat.succ_pos _⟩
  | false :: u => ⟨fun h => absurd h (Nat.lt_irrefl 0), fun h => by
    have h : (rGap u).map (· + 1) = some 0 := h
    cases c : rGap u with
    | none => rw [c] at h; cases h
    | some d => rw [c] at h; cases h⟩
theorem run_le {m a : Nat} : ∀ (u : List Bool), rOk m a u = true → rRun u ≤ m
  | [], _ => Nat.zero_le _
  | true :: u, h => by
    have h : (rOk m a u && decide (rRun u + 1 ≤ m) && fine a (rGap u)) = true := h
    rw [Bool.and_eq_true, Bool.and_eq_true, decide_eq_true_iff] at h
    exact h.1.2
  | false :: u, _ => Nat.zero_le _
theorem run_burst {m a : Nat} (hm : 1 ≤ m) (ha : 1 ≤ a) : ∀ (u : List Bool), run (burstM m a) (some 0) u.reverse = if rOk m a u = true then some (stR m a u) else none
  | [] => rfl
  | b :: u => by
    rw [List.reverse_cons, run_snoc, run_burst hm ha u]
    by_cases c : rOk m a u = true
    · rw [if_pos c]
      show (if b = true then lost (burstM m a) (stR m a u) else some (kept (burstM m a) (stR m a u))) = _
      have gr := gap_run u
      have le := run_le u c
      unfold lost kept
      by_cases r : 0 < rRun u
      · have g := gr.mp r
        have s : stR m a u = rRun u := by unfold stR; rw [if_pos r]
        obtain ⟨i, hi⟩ : ∃ i, rRun u = i + 1 := ⟨rRun u - 1, by omega⟩
        rw [s, hi, burst_1 (by omega)]
        cases b with
        | true =>
          rw [if_pos rfl]
          have e : rOk m a (true :: u) = decide (rRun u + 1 ≤ m) := by
            show (rOk m a u && decide (rRun u + 1 ≤ m) && fine a (rGap u)) = _
            rw [c, g, Bool.true_and]
            show (decide (rRun u + 1 ≤ m) && true) = _
            rw [Bool.and_true]
          rw [e]
          by_cases d : i + 1 < m
          · rw [if_pos (decide_eq_true (by omega : rRun u + 1 ≤ m))]
            show (if i + 1 < m then some (i + 2) else none) = some (stR m a (true :: u))
            rw [if_pos d]
            unfold stR
            rw [if_pos (show 0 < rRun (true :: u) from Nat.succ_pos _)]
            show some (i + 2) = some (rRun u + 1)
            rw [hi]
          · rw [show ((m + 1) % (m + a), if i + 1 < m then some (i + 2) else none).2 = none from if_neg d, if_neg (by rw [decide_eq_false (by omega : ¬ rRun u + 1 ≤ m)]; decide)]
        | false =>
          rw [if_neg (by decide), if_pos (show rOk m a (false :: u) = true from c)]
          unfold stR
          rw [if_neg (show ¬ 0 < rRun (false :: u) from Nat.lt_irrefl 0), show rGap (false :: u) = (rGap u).map (· + 1) from rfl, g]
          show some ((m + 1) % (m + a)) = some (if 0 + 1 < a then m + (0 + 1) else 0)
          by_cases d : 0 + 1 < a
          · rw [if_pos d, Nat.mod_eq_of_lt (by omega)]
          · rw [if_neg d, show m + 1 = m + a by omega, Nat.mod_self]
      · have r0 : rRun u = 0 := by omega
        have s : stR m a u = (match rGap u with | none => 0 | some d => if d < a then m + d else 0) := by unfold stR; rw [if_neg r]
        have ng : rGap u ≠ some 0 := fun z => r (gr.mpr z)
        have wait0 : (rGap u = none ∨ ∃ d, rGap u = some d ∧ a ≤ d) → stR m a u = 0 ∧ fine a (rGap u) = true := fun h => by
          rcases h with h | ⟨d, h, hd⟩
          · rw [s, h]
            exact ⟨rfl, rfl⟩
          · rw [s, h]
            refine ⟨if_neg (by omega), ?_⟩
            show (!(decide (0 < d) && decide (d < a))) = true
            rw [decide_eq_false (by omega : ¬ d < a), Bool.and_false]
            rfl
        by_cases q : rGap u = none ∨ ∃ d, rGap u = some d ∧ a ≤ d
        · obtain ⟨s0, f0⟩ := wait0 q
          rw [s0, burst_0]
          cases b with
          | true =>
            rw [if_pos rfl]
            have e : rOk m a (true :: u) = true := by
              show (rOk m a u && decide (rRun u + 1 ≤ m) && fine a (rGap u)) = true
              rw [c, f0, r0, decide_eq_true (by omega : 0 + 1 ≤ m)]
              rfl
            rw [if_pos e]
            unfold stR
            rw [if_pos (show 0 < rRun (true :: u) from Nat.succ_pos _)]
            show some 1 = some (rRun u + 1)
            rw [r0]
          | false =>
            rw [if_neg (by decide), if_pos (show rOk m a (false :: u) = true from c)]
            unfold stR
            rw [if_neg (show ¬ 0 < rRun (false :: u) from Nat.lt_irrefl 0), show rGap (false :: u) = (rGap u).map (· + 1) from rfl]
            rcases q with h | ⟨d, h, hd⟩
            · rw [h]
              rfl
            · rw [h]
              show some 0 = some (if d + 1 < a then m + (d + 1) else 0)
              rw [if_neg (by omega)]
        · obtain ⟨d, h, hd⟩ : ∃ d, rGap u = some d ∧ d < a := by
            cases h : rGap u with
            | none => exact absurd (.inl h) q
            | some d =>
              refine ⟨d, rfl, Nat.lt_of_not_le fun z => q (.inr ⟨d, h, z⟩)⟩
          have d0 : 0 < d := Nat.pos_of_ne_zero fun z => ng (by rw [h, z])
          have s1 : stR m a u = m + 1 + (d - 1) := by
            rw [s, h]
            show (if d < a then m + d else 0) = _
            rw [if_pos hd]
            omega
          rw [s1, burst_2 (by omega)]
          cases b with
          | true =>
            rw [if_pos rfl]
            have e : rOk m a (true :: u) = false := by
              show (rOk m a u && decide (rRun u + 1 ≤ m) && fine a (rGap u)) = false
              rw [h]
              show (rOk m a u && decide (rRun u + 1 ≤ m) && !(decide (0 < d) && decide (d < a))) = false
              rw [decide_eq_true d0, decide_eq_true hd]
              show (_ && false) = false
              rw [Bool.and_false]
            rw [if_neg (by rw [e]; decide)]
          | false =>
            rw [if_neg (by decide), if_pos (show rOk m a (false :: u) = true from c)]
            unfold stR
            rw [if_neg (show ¬ 0 < rRun (false :: u) from Nat.lt_irrefl 0), show rGap (false :: u) = (rGap u).map (· + 1) from rfl, h]
            show some ((m + 1 + (d - 1) + 1) % (m + a)) = some (if d + 1 < a then m + (d + 1) else 0)
            by_cases e : d + 1 < a
            · rw [if_pos e, show m + 1 + (d - 1) + 1 = m + (d + 1) by omega, Nat.mod_eq_of_lt (by omega)]
            · rw [if_neg e, show m + 1 + (d - 1) + 1 = m + a by omega, Nat.mod_self]
    · rw [if_neg c]
      have e : rOk m a (b :: u) = false := by
        have c : rOk m a u = false := by simpa using c
        cases b with
        | true =>
          show (rOk m a u && decide (rRun u + 1 ≤ m) && fine a (rGap u)) = false
          rw [c, Bool.false_and, Bool.false_and]
        | false => exact c
      rw [if_neg (by rw [e]; decide)]
theorem lets_burst {m a : Nat} (hm : 1 ≤ m) (ha : 1 ≤ a) (w : List Bool) : letsF (burstM m a) w = rOk m a w.reverse := by
  have := run_burst hm ha w.reverse
  rw [List.reverse_reverse] at this
  unfold letsF
  rw [this]
  cases c : rOk m a w.reverse with
  | true => rfl
  | false => rfl
/-! ### what the law asks of bursts -/
/-- how many are lost between the kept -/
def pieces : List Bool → List Nat
  | [] => [0]
  | true :: w => match pieces w with
    | r :: rs => (r + 1) :: rs
    | [] => [1]
  | false :: w => 0 :: pieces w
def lostAt (w : List Bool) : List Nat := (List.range w.length).filter fun i => w.getD i false
def gapsOf (l : List Nat) : List Int := List.zipWith (fun (e l : Nat) => (l : Int) - (e : Int) - 1) l l.tail
def inB (m a : Nat) (w : List Bool) : Bool := (pieces w).all (fun r => decide (r ≤ m)) && (gapsOf (lostAt w)).all fun g => !(decide (0 < g) && decide (g < (a : Int)))
theorem pieces_t : ∀ w : List Bool, ∃ l, pieces w = l ++ [rRun w.reverse] ∧ pieces (w ++ [true]) = l ++ [rRun w.reverse + 1] ∧ pieces (w ++ [false]) = l ++ [rRun w.reverse, 0]
  | [] => ⟨[], rfl, rfl, rfl⟩
  | b :: w => by
    obtain ⟨l, h1, h2, h3⟩ := pieces_t w
    have rr : ∀ u : List Bool, ∀ c, rRun (u ++ [c]) = if u.all id = true then u.length + (if c = true then 1 else 0) else rRun u := fun u c => by
      induction u with
      | nil => cases c <;> rfl
      | cons d u ih =>
        cases d with
        | true =>
          show rRun (u ++ [c]) + 1 = if (true && u.all id) = true then u.length + 1 + _ else rRun u + 1
          rw [ih, Bool.true_and]
          split
          · omega
          · rfl
        | false => rfl
    have ra : ∀ u : List Bool, rRun u = u.length → u.all id = true := fun u => by
      induction u with
      | nil => exact fun _ => rfl
      | cons d u ih =>
        cases d with
        | true => exact fun h => by show (true && u.all id) = true; rw [Bool.true_and]; exact ih (by have h : rRun u + 1 = u.length + 1 := h; omega)
        | false => exact fun h => by have h : 0 = u.length + 1 := h; omega
    have ra2 : ∀ u : List Bool, u.all id = true → rRun u = u.length := fun u => by
      induction u with
      | nil => exact fun _ => rfl
      | cons d u ih =>
        cases d with
        | true => exact fun h => by show rRun u + 1 = u.length + 1; rw [ih h]
        | false => exact fun h => absurd h (by show ¬ (false && u.all id) = true; rw [Bool.false_and]; decide)
    have pall : w.reverse.all id = true ↔ l = [] := by
      rw [List.all_reverse]
      constructor
      · intro h
        have : ∀ v : List Bool, v.all id = true → pieces v = [v.length] := fun v => by
          induction v with
          | nil => exact fun _ => rfl
          | cons d v ih =>
            cases d with
            | true => exact fun h => by show (match pieces v with | r :: rs => (r + 1) :: rs | [] => [1]) = [v.length + 1]; rw [ih h]
            | false => exact fun h => absurd h (by show ¬ (false && v.all id) = true; rw [Bool.false_and]; decide)
        rw [this w h] at h1
        cases l with
        | nil => rfl
        | cons x l => cases l <;> simp at h1
      · intro h
        subst h
        have : ∀ v : List Bool, (∃ x, pieces v = [x]) → v.all id = true := fun v => by
          induction v with
          | nil => exact fun _ => rfl
          | cons d v ih =>
            cases d with
            | true =>
              rintro ⟨x, hx⟩
              show (true && v.all id) = true
              rw [Bool.true_and]
              have hx : (match pieces v with | r :: rs => (r + 1) :: rs | [] => [1]) = [x] := hx
              cases hv : pieces v with
              | nil => cases v with
                | nil => rfl
                | cons c v => cases c with
                  | true =>
                    have hv : (match pieces v with | r :: rs => (r + 1) :: rs | [] => [1]) = [] := hv
                    cases h : pieces v <;> rw [h] at hv <;> cases hv
                  | false => cases hv
              | cons r rs =>
                rw [hv] at hx
                have hx : (r + 1) :: rs = [x] := hx
                exact ih ⟨r, by rw [hv, (List.cons.inj hx).2]⟩
            | false =>
              rintro ⟨x, hx⟩
              have hx : 0 :: pieces v = [x] := hx
              have hx := (List.cons.inj hx).2
              cases v with
              | nil => cases hx
              | cons c v => cases c with
                | true =>
                  have hv : (match pieces v with | r :: rs => (r + 1) :: rs | [] => [1]) = [] := hx
                  cases h : pieces v <;> rw [h] at hv <;> cases hv
                | false => cases hx
        exact this w ⟨_, h1⟩
    cases b with
    | false =>
      refine ⟨0 :: l, ?_, ?_, ?_⟩
      · show 0 :: pieces w = _
        rw [h1, List.reverse_cons, rr]
        split
        · rename_i h
          rw [ra2 _ h]
          rfl
        · rfl
      · show 0 :: pieces (w ++ [true]) = _
        rw [h2, List.reverse_cons, rr]
        split
        · rename_i h
          rw [ra2 _ h]
          rfl
        · rfl
      · show 0 :: pieces (w ++ [false]) = _
        rw [h3, List.reverse_cons, rr]
        split
        · rename_i h
          rw [ra2 _ h]
          rfl
        · rfl
    | true =>
      by_cases c : w.reverse.all id = true
      · have e := pall.mp c
        subst e
        refine ⟨[], ?_, ?_, ?_⟩
        · show (match pieces w with | r :: rs => (r + 1) :: rs | [] => [1]) = _
          rw [h1, List.reverse_cons, rr, if_pos c, ra2 _ c]
          rfl
        · show (match pieces (w ++ [true]) with | r :: rs => (r + 1) :: rs | [] => [1]) = _
          rw [h2, List.reverse_cons, rr, if_pos c, ra2 _ c]
          rfl
        · show (match pieces (w ++ [false]) with | r :: rs => (r + 1) :: rs | [] => [1]) = _
          rw [h3, List.reverse_cons, rr, if_pos c, ra2 _ c]
          rfl
      · cases l with
        | nil => exact absurd (pall.mpr rfl) c
        | cons x l =>
          refine ⟨(x + 1) :: l, ?_, ?_, ?_⟩
          · show (match pieces w with | r :: rs => (r + 1) :: rs | [] => [1]) = _
            rw [h1, List.reverse_cons, rr, if_neg c]
            rfl
          · show (match pieces (w ++ [true]) with | r :: rs => (r + 1) :: rs | [] => [1]) = _
            rw [h2, List.reverse_cons, rr, if_neg c]
            rfl
          · show (match pieces (w ++ [false]) with | r :: rs => (r + 1) :: rs | [] => [1]) = _
            rw [h3, List.reverse_cons, rr, if_neg c]
            rfl
end Ls
/-! bursts: the law's way of telling is the machine's -/
namespace Ls
theorem lostAt_snoc (w : List Bool) (b : Bool) : lostAt (w ++ [b]) = lostAt w ++ if b = true then [w.length] else [] := by
  unfold lostAt
  rw [List.length_append, show ([b] : List Bool).length = 1 from rfl, List.range_succ, List.filter_append]
  congr 1
  · refine List.filter_congr fun i hi => ?_
    have lt := List.mem_range.mp hi
    rw [List.getD_eq_getElem?_getD, List.getD_eq_getElem?_getD, List.getElem?_append_left lt]
  · rw [List.filter_cons, List.filter_nil, List.getD_eq_getElem?_getD, List.getElem?_append_right (Nat.le_refl _), Nat.sub_self]
    rfl
theorem gaps_snoc (i : Nat) : ∀ l : List Nat, gapsOf (l ++ [i]) = gapsOf l ++ (match l.getLast? with | none => [] | some j => [(i : Int) - (j : Int) - 1])
  | [] => rfl
  | [x] => rfl
  | x :: y :: l => by
    have ih := gaps_snoc i (y :: l)
    rw [show gapsOf (x :: y :: l ++ [i]) = ((y : Int) - (x : Int) - 1) :: gapsOf (y :: l ++ [i]) from rfl, ih, show gapsOf (x :: y :: l) = ((y : Int) - (x : Int) - 1) :: gapsOf (y :: l) from rfl, List.getLast?_cons_cons]
    rfl
theorem last_gap : ∀ u : List Bool, match rGap u with
    | none => lostAt u.reverse = []
    | some d => d < u.length ∧ (lostAt u.reverse).getLast? = some (u.length - 1 - d)
  | [] => rfl
  | true :: u => by
    show 0 < u.length + 1 ∧ (lostAt (true :: u).reverse).getLast? = some (u.length + 1 - 1 - 0)
    refine ⟨Nat.succ_pos _, ?_⟩
    rw [List.reverse_cons, lostAt_snoc, if_pos rfl, List.getLast?_append, List.length_reverse]
    rfl
  | false :: u => by
    have ih := last_gap u
    show match (rGap u).map (· + 1) with
      | none => lostAt (false :: u).reverse = []
      | some d => d < u.length + 1 ∧ (lostAt (false :: u).reverse).getLast? = some (u.length + 1 - 1 - d)
    rw [List.reverse_cons, lostAt_snoc, if_neg (by decide), List.append_nil]
    cases c : rGap u with
    | none =>
      rw [c] at ih
      exact ih
    | some d =>
      rw [c] at ih
      obtain ⟨h1, h2⟩ := ih
      show d + 1 < u.length + 1 ∧ (lostAt u.reverse).getLast? = some (u.length + 1 - 1 - (d + 1))
      exact ⟨by omega, by rw [h2]; congr 1; omega⟩
theorem inB_is {m a : Nat} : ∀ u : List Bool, inB m a u.reverse = rOk m a u
  | [] => by
    show ((decide (0 ≤ m) && true) && true) = true
    rw [decide_eq_true (Nat.zero_le m)]
    rfl
  | b :: u => by
    have ih := inB_is (m := m) (a := a) u
    obtain ⟨l, h1, h2, h3⟩ := pieces_t u.reverse
    rw [List.reverse_reverse] at h1 h2 h3
    rw [List.reverse_cons]
    unfold inB at ih ⊢
    rw [h1, List.all_append] at ih
    cases b with
    | false =>
      rw [h3, lostAt_snoc, if_neg (by decide), List.append_nil, List.all_append]
      show (l.all _ && (decide (rRun u ≤ m) && (decide (0 ≤ m) && true)) && _) = rOk m a u
      rw [← ih, decide_eq_true (Nat.zero_le m)]
      rfl
    | true =>
      rw [h2, lostAt_snoc, if_pos rfl, List.all_append, gaps_snoc, List.all_append, List.length_reverse]
      have g : (match (lostAt u.reverse).getLast? with | none => [] | some j => [((u.length : Nat) : Int) - (j : Int) - 1] : List Int).all (fun g => !(decide (0 < g) && decide (g < (a : Int)))) = fine a (rGap u) := by
        have lg := last_gap u
        cases c : rGap u with
        | none =>
          rw [c] at lg
          have lg : lostAt u.reverse = [] := lg
          rw [lg]
          rfl
        | some d =>
          rw [c] at lg
          obtain ⟨e1, e2⟩ := lg
          rw [e2]
          show (!(decide ((0 : Int) < (u.length : Int) - ((u.length - 1 - d : Nat) : Int) - 1) && decide ((u.length : Int) - ((u.length - 1 - d : Nat) : Int) - 1 < (a : Int))) && true) = !(decide (0 < d) && decide (d < a))
          have e : (u.length : Int) - ((u.length - 1 - d : Nat) : Int) - 1 = (d : Int) := by omega
          rw [e, Bool.and_true]
          congr 2
          · exact decide_eq_decide.mpr (by omega)
          · exact decide_eq_decide.mpr (by omega)
      rw [g]
      show (l.all _ && (decide (rRun u + 1 ≤ m) && true) && (_ && fine a (rGap u))) = (rOk m a u && decide (rRun u + 1 ≤ m) && fine a (rGap u))
      rw [← ih]
      show (l.all _ && (decide (rRun u + 1 ≤ m) && true) && (_ && fine a (rGap u))) = ((l.all _ && (decide (rRun u ≤ m) && true) && _) && decide (rRun u + 1 ≤ m) && fine a (rGap u))
      by_cases c : rRun u + 1 ≤ m
      · rw [decide_eq_true c, decide_eq_true (by omega : rRun u ≤ m)]
        simp only [Bool.and_true, Bool.true_and, Bool.and_assoc]
      · rw [decide_eq_false c]
        simp only [Bool.and_false, Bool.false_and]
theorem burst_told {m a : Nat} (hm : 1 ≤ m) (ha : 1 ≤ a) (w : List Bool) : letsF (least (burstM m a)) w = inB m a w := by
  rw [lets_least (burst_ok hm ha) (by rw [burst_len ha]; omega), lets_burst hm ha, ← inB_is, List.reverse_reverse]
theorem total_told (m : Nat) (w : List Bool) : letsF (least (totalM m)) w = decide (w.count true ≤ m) := by
  rw [lets_least (total_ok m) (by unfold totalM; rw [List.length_map, List.length_range]; omega), lets_total]
/-! ### what the law asks of fixed ones -/
theorem total_fix : ∀ m ∈ [0, 1, 2, 3, 4, 5, 6, 7, 8], (least (totalM m)).length = m + 1 ∧ kept (least (totalM m)) 0 = 0 := by decide +kernel
theorem burst_fix : ∀ m ∈ [1, 2, 3, 4], ∀ a ∈ [1, 2, 3, 4], (least (burstM m a)).length = m + a ∧ kept (least (burstM m a)) 0 = 0 := by decide +kernel
theorem burst_fix2 : (least (burstM 8 4)).length = 12 ∧ (least (burstM 4 8)).length = 12 ∧ (least (burstM 1 8)).length = 9 := by decide +kernel
theorem pair_fix : least [(0, some 1), (0, none)] = least (burstM 1 1) ∧ least [(0, some 1), (2, none), (2, some 1)] = least (burstM 1 1) ∧ least (burstM 1 1) ≠ least (totalM 1) ∧ kept (least [(1, none), (0, some 1)]) 0 ≠ 0 := by decide +kernel
end Ls
/-! the law's least machine is the program's -/
namespace Ls
def reachF (M : List Pl) : List Nat := walk id id M (M.length + 1) 0 [0]
def kapF (M : List Pl) : Nat → Nat → Nat
  | 0, _ => 0
  | t + 1, p => ((reachF M).map (mark M (kapF M t))).idxOf (mark M (kapF M t) p)
def kL (M : List Pl) : Nat → Nat := kapF M ((reachF M).length + 1)
def rL (M : List Pl) (p : Nat) : Nat := (reachF M).getD (kL M p) 0
def lawO (M : List Pl) : List Nat := walk (kL M) (rL M) M (M.length + 1) 0 [0]
section
variable {M : List Pl}
theorem reach_is (ok : OkM M) (h1 : 1 ≤ M.length) : (∀ p ∈ reachF M, p < M.length) ∧ (reachF M).Nodup ∧ Closed M (reachF M) ∧ (reachF M)[0]? = some 0 := by
  have cl := closedP_lt ok
  have st : Stands id id (· < M.length) := stands_id
  have i0 : ∀ p ∈ [0], p < M.length := fun p hp => by rw [List.mem_singleton.mp hp]; omega
  have n0 : (([0] : List Nat).map id).Nodup := by simp
  obtain ⟨a, b⟩ := walk_in st cl (M.length + 1) 0 [0] i0 n0
  have d := walk_done st cl (fun _ h => h) (M.length + 1) 0 [0] i0 n0 (by omega) (fun j p hj _ => by omega)
  refine ⟨a, by rw [List.map_id] at b; exact b, fun p hp => ?_, ?_⟩
  · obtain ⟨x, y⟩ := d p hp
    rw [List.map_id] at x
    refine ⟨x, fun l hl => ?_⟩
    have := y l hl
    rw [List.map_id] at this
    exact this
  · obtain ⟨more, hm⟩ := walk_more (k := id) (ρ := id) (M := M) (M.length + 1) 0 [0]
    unfold reachF
    rw [hm]
    rfl
theorem kap_lab (cl : Closed M (reachF M)) : ∀ t, Lab M (reachF M) t (kapF M t)
  | 0 => fun _ _ _ _ => ⟨fun _ => rfl, fun _ => rfl⟩
  | t + 1 => fun p hp q hq => by
    have mem : ∀ {r}, r ∈ reachF M → mark M (kapF M t) r ∈ (reachF M).map (mark M (kapF M t)) := fun h => List.mem_map.mpr ⟨_, h, rfl⟩
    rw [← mark_alike cl (kap_lab cl t) hp hq]
    exact ⟨fun e => idx_inj (mem hp) (mem hq) e, fun e => by show List.idxOf _ _ = List.idxOf _ _; rw [e]⟩
theorem kL_same (ok : OkM M) (h1 : 1 ≤ M.length) : ∀ p ∈ reachF M, ∀ q ∈ reachF M, (kL M p = kL M q ↔ Same M p q) := fun p hp q hq => by
  obtain ⟨_, _, cl, r0⟩ := reach_is ok h1
  rw [show kL M p = kapF M ((reachF M).length + 1) p from rfl, show kL M q = kapF M ((reachF M).length + 1) q from rfl, kap_lab cl _ p hp q hq]
  exact late cl (kapF M) (kap_lab cl) _ (Nat.le_succ _) (fun z => by rw [z] at r0; cases r0) p hp q hq
theorem kap_at {t p : Nat} (hp : p ∈ reachF M) : ∃ r, (reachF M)[kapF M (t + 1) p]? = some r ∧ mark M (kapF M t) r = mark M (kapF M t) p := by
  have mem : mark M (kapF M t) p ∈ (reachF M).map (mark M (kapF M t)) := List.mem_map.mpr ⟨_, hp, rfl⟩
  have lt := List.idxOf_lt_length_of_mem mem
  have e := List.getElem_idxOf lt
  have lt' : kapF M (t + 1) p < (reachF M).length := by rw [List.length_map] at lt; exact lt
  refine ⟨(reachF M)[kapF M (t + 1) p], List.getElem?_eq_getElem lt', ?_⟩
  rw [List.getElem_map] at e
  exact e
theorem rL_is {p : Nat} (hp : p ∈ reachF M) : (reachF M)[kL M p]? = some (rL M p) ∧ rL M p ∈ reachF M ∧ kL M (rL M p) = kL M p := by
  obtain ⟨r, h, e⟩ := kap_at (t := (reachF M).length) hp
  have er : rL M p = r := by
    unfold rL kL
    rw [List.getD_eq_getElem?_getD, h]
    rfl
  rw [er]
  refine ⟨h, List.mem_of_getElem? h, ?_⟩
  show List.idxOf _ _ = List.idxOf _ _
  rw [e]
theorem kap_0 (ok : OkM M) (h1 : 1 ≤ M.length) : ∀ t, kapF M t 0 = 0
  | 0 => rfl
  | t + 1 => by
    obtain ⟨_, _, _, r0⟩ := reach_is ok h1
    cases h : reachF M with
    | nil => rw [h] at r0; cases r0
    | cons x l =>
      rw [h] at r0
      cases r0
      show ((reachF M).map (mark M (kapF M t))).idxOf (mark M (kapF M t) 0) = 0
      rw [h, List.map_cons, List.idxOf_cons_self]
theorem rL_0 (ok : OkM M) (h1 : 1 ≤ M.length) : rL M 0 = 0 := by
  unfold rL kL
  rw [kap_0 ok h1, List.getD_eq_getElem?_getD, (reach_is ok h1).2.2.2]
  rfl
theorem law_stands : Stands (kL M) (rL M) (· ∈ reachF M) := fun p hp => ⟨(rL_is hp).2.2, (rL_is hp).2.1⟩
theorem law_closed (ok : OkM M) (h1 : 1 ≤ M.length) : ClosedP M (· ∈ reachF M) := fun p hp => (reach_is ok h1).2.2.1 p hp
theorem law_least (ok : OkM M) (h1 : 1 ≤ M.length) : rowsO (kL M) M (lawO M) = least M := by
  obtain ⟨a, _, _, r0⟩ := reach_is ok h1
  have := least_other ok h1 (law_closed ok h1) (List.mem_of_getElem? r0) a (κ := kL M) (ρ := rL M) (fun p q hp hq => kL_same ok h1 p hp q hq) law_stands
  rw [rL_0 ok h1] at this
  exact this
/-- the law's order: who stands for its kind, each; every way leads to a kind that is met -/
theorem lawO_is (ok : OkM M) (h1 : 1 ≤ M.length) : (∀ p ∈ lawO M, p ∈ reachF M) ∧ ((lawO M).map (kL M)).Nodup ∧ (∀ p ∈ lawO M, Done (kL M) M (lawO M) p) ∧ (lawO M).length ≤ M.length := by
  obtain ⟨a, _, _, r0⟩ := reach_is ok h1
  have i0 : ∀ p ∈ [0], p ∈ reachF M := fun p hp => by rw [List.mem_singleton.mp hp]; exact List.mem_of_getElem? r0
  have n0 : (([0] : List Nat).map (kL M)).Nodup := by simp
  obtain ⟨x, y⟩ := walk_in (law_stands (M := M)) (law_closed ok h1) (M.length + 1) 0 [0] i0 n0
  exact ⟨x, y, walk_done (law_stands (M := M)) (law_closed ok h1) a (M.length + 1) 0 [0] i0 n0 (by omega) (fun j p hj _ => by omega), ord_few (fun p hp => a p (x p hp)) y⟩
end
end Ls
namespace L2
open PySem PySem.Spec PyProof.Rows
/-! ### set(xs), xs a list of ints -/
namespace SL
/-- a set as it is laid, without members -/
abbrev bare (w : World) : Obj := { cls := .type "set", dict := none, data := .set #[] 0 (.fresh 0 0 (!w.params.followText "set-order")) }
section
variable {P : Program} {w : World} {A : Around} {E : Value → Shared → Prop} {s : Shared}
/-- what the filling leaves: a set of these ints at the place, all else as it was -/
def Filled (w : World) (s : Shared) (ns : List Int) (s2 : Shared) : Prop :=
  ∃ hp tk c, s2 = { s with heap := hp, toks := tk } ∧ SetR w hp s.heap.objs.size (fun j => decide (j ∈ ns)) c ∧ c ≤ ns.length ∧ ∀ b u, s.heap.get? b = some u → hp.get? b = some u
theorem bare_at : (s.heap.push (bare w)).get? s.heap.objs.size = some (bare w) := Heap.get?_push_size _ rfl
/-- the loop over the list's iterator, which lies behind the set -/
theorem fill_loop {l : Addr} {its : Array Value} {ns : List Int} (quiet : A.in1.handled = none) (here : s.heap.IsList l its) (are : IntsAre its.toList ns) (few : ns.length + 1 < scanBound) {R : Result → Shared → Prop}
    (out : ∀ s2, Filled w s ns s2 → R (.ok (.ret .none)) s2) :
    codeAny (model P w) A (.builtin "set.update.loop" ⟨[.ref s.heap.objs.size, .ref (s.heap.objs.size + 1)], []⟩) R
      { s with heap := (s.heap.push (bare w)).push { cls := .type "list_iterator", data := .fields #[.ref l, .int 0 0] } } := by
  have low : l < s.heap.objs.size := by
    obtain ⟨u, hu, _⟩ := here
    exact Heap.lt_size hu
  have many : its.size = ns.length := (Array.length_toList ..).symm.trans are.length
  have wide : (s.heap.push (bare w)).objs.size = s.heap.objs.size + 1 := Heap.size_push ..
  have far : l ≠ s.heap.objs.size + 1 := Nat.ne_of_lt (Nat.lt_succ_of_lt low)
  have apart : s.heap.objs.size ∉ [s.heap.objs.size + 1, l] := by
    intro z
    rcases List.mem_cons.mp z with z | z
    · exact absurd z (Nat.ne_of_lt (Nat.lt_succ_self _))
    · exact absurd (List.mem_singleton.mp z) (Nat.ne_of_gt low)
  have tells : ∀ (i : Nat) (v : Value), its[i]? = some v → ∃ k t, ns[i]? = some k ∧ v = .int k t := by
    intro i v hv
    have lt : i < ns.length := many ▸ (Array.getElem?_eq_some_iff.mp hv).1
    obtain ⟨t, e⟩ := are.int_at i v (by rw [Array.getElem?_toList, hv])
    refine ⟨ns[i], t, List.getElem?_eq_getElem lt, e.trans ?_⟩
    rw [List.getD_eq_getElem?_getD, List.getElem?_eq_getElem lt]
    rfl
  have old : ∀ b u, s.heap.get? b = some u → ((s.heap.push (bare w)).push { cls := .type "list_iterator", data := .fields #[.ref l, .int 0 0] }).get? b = some u := fun b u e => Heap.get?_push_of_some _ (Heap.get?_push_of_some _ e)
  have W := (Walks.list (prog := P) (w := w) quiet (s.heap.objs.size + 1) l far its).toS
  have listed : ((s.heap.push (bare w)).push { cls := .type "list_iterator", data := .fields #[.ref l, .int 0 0] }).IsList l its := (here.push _).push _
  have iter : ((s.heap.push (bare w)).push { cls := .type "list_iterator", data := .fields #[.ref l, .int 0 0] }).get? (s.heap.objs.size + 1) = some { cls := .type "list_iterator", data := .fields #[.ref l, .int 0 0] } := by
    rw [← wide]
    exact Heap.get?_push_size _ rfl
  refine set_update_ints W s.heap.objs.size apart ns many few tells its.size 0 _ rfl (Nat.zero_le _) ⟨⟨_, iter, rfl, rfl⟩, listed⟩ ⟨0, Nat.le_refl 0, setR_new_at (Heap.get?_push_of_some _ bare_at)⟩ ?_
  intro s2 c moved le R2
  rw [many] at le
  refine out s2 ⟨s2.heap, s2.toks, c, ?_, R2, le, fun b u e => moved.heap b u (fun z => ?_) (old b u e)⟩
  · have a1 := moved.gens
    have a2 := moved.drawn
    have a3 := moved.os
    obtain ⟨hp, gs, dr, tk, os⟩ := s2
    obtain ⟨hp', gs', dr', tk', os'⟩ := s
    simp only at a1 a2 a3
    subst a1 a2 a3
    rfl
  · have lt := Heap.lt_size e
    rcases List.mem_cons.mp z with z | z
    · exact absurd z (Nat.ne_of_lt lt)
    · exact absurd (List.mem_singleton.mp z) (Nat.ne_of_lt (Nat.lt_succ_of_lt lt))
/-- set.__init__(a new set, a list) -/
theorem fill {l : Addr} {its : Array Value} {ns : List Int} (quiet : A.handled = none) (here : s.heap.IsList l its) (are : IntsAre its.toList ns) (few : ns.length + 1 < scanBound) {B : Around} {R : Result → Shared → Prop}
    (out : ∀ s2, Filled w s ns s2 → R (.ok (.ret .none)) s2) :
    wpAny (model P w) A (Builtin.«set.__init__» ⟨[.ref s.heap.objs.size, .ref l], []⟩) (fun fin s2 => match fin with | .done f => R (.ok f) s2 | .again c => c.quiet = true ∧ codeAny (model P w) B c R s2) E { s with heap := s.heap.push (bare w) } := by
  have listed : (s.heap.push (bare w)).IsList l its := here.push _
  obtain ⟨u, hu, hc, k, hd⟩ := listed
  obtain ⟨ucls, udict, udata, uslots⟩ := u
  simp only at hc hd
  subst hc hd
  have notSet := F.sub_list_set
  have notFrozen := F.sub_list_frozenset
  have notDict : (Value.type "list" == Value.type "dict") = false := by decide
  have place := bare_at (w := w) (s := s)
  unfold Builtin.«set.__init__» noKeywords Builtin.Frozenset.updateFrom
  generalize iter : pyIter = walk
  wp_walk
  subst iter
  refine wpAny_pyIter_list (here.push _) ?_
  refine wpAny_bind (wpAny_runValue ?_)
  have wide : (s.heap.push (bare w)).objs.size = s.heap.objs.size + 1 := Heap.size_push ..
  rw [wide]
  refine fill_loop (by simp [quiet]) here are few fun s2 filled => ?_
  refine wpAny_pure ?_
  exact wpAny_pure (out s2 filled)
/-- set(xs) -/
theorem made {l : Addr} {its : Array Value} {ns : List Int} {Q : Value → Shared → Prop} (quiet : A.handled = none) (here : s.heap.IsList l its) (are : IntsAre its.toList ns) (few : ns.length + 1 < scanBound)
    (out : ∀ s2, Filled w s ns s2 → Q (.ref s.heap.objs.size) s2) : wpAny (model P w) A (call (.type "set") [.ref l]) Q E s := by
  have known := F.called_set
  obtain ⟨top, rest, order⟩ := known.mro
  have m1 := known.made
  have m2 := known.sub
  have m3 := known.notType
  have m4 := known.canCreate
  have m5 := F.typeCall_set_1 (.ref l)
  refine wpAny_call (codeAny_of_tree ?_)
  show wpAny _ _ (callAny (.type "set") ⟨[.ref l], []⟩) _ _ _
  refine wpAny_pure ⟨Code.quiet_builtin _ (by decide +kernel), codeAny_builtin F.entry_type_call ?_⟩
  rw [Around.under_plain (weight_type_call_type "set" [.ref l] []) rfl]
  repeat (any_goals (first | assumption | wp_step))
  refine codeAny_mono (code_set_led1 (.ref l) (E := E) (Q₁ := fun v s1 => v = .ref s.heap.objs.size ∧ s1 = { s with heap := s.heap.push (bare w) }) ⟨rfl, rfl⟩) ?_
  rintro (e | f) s1 h1
  · exact h1
  cases f with
  | ret v =>
    obtain ⟨rfl, rfl⟩ := h1
    have place := bare_at (w := w) (s := s)
    have kind : Shared.TypeIs { s with heap := s.heap.push (bare w) } (.ref s.heap.objs.size) "set" := ⟨_, place, rfl⟩
    have n1 := known.init.lookup
    have n2 := known.init.bind (.ref s.heap.objs.size)
    repeat (any_goals (first | assumption | wp_step))
    refine codeAny_mono (codeAny_call_builtin (R := wants (fun v s2 => v = .none ∧ Filled w s ns s2) E) known.init.plain F.entry_set_init (check_set_init_1 kind (fill (by simp [quiet]) here are few fun s2 z => ⟨rfl, z⟩))) ?_
    rintro (e | f) s2 h2
    · exact h2
    cases f with
    | ret v =>
      obtain ⟨rfl, z⟩ := h2
      repeat (any_goals (first | assumption | wp_step))
      exact out s2 z
    | _ => exact h2.elim
  | _ => exact h1.elim
end
end SL
section
variable {X : Cx}
/-- set(xs), xs a list of ints -/
def rSetI (K : PySem.W.Frag) (w : World) : List V → Hp → VK → Prop := fun xs H Q => ∃ (l : Addr) (ns : List Int), xs = [V.ref l] ∧ SqL K H l (ns.map V.int) ∧ ns.length < 1000 ∧
  ∀ a c, H a = none → c ≤ ns.length → Q (.ref a) (upd H a (SetO w a (fun j => decide (j ∈ ns)) c))
theorem cr_setI (hc : X.calm = true) : CallR X (.type "set") (rSetI X.K X.w) := by
  intro pins s σ H xs us Q I r h
  obtain ⟨l, ns, rfl, hl, hz, q⟩ := h
  rw [Vals.ref1 r]
  obtain ⟨its, rv, here, _⟩ := I.list hl
  have new : H s.heap.objs.size = none := I.hok.fresh (Nat.le_refl _)
  refine SL.made (I.ok.hd hc) here.isList (ns := ns) (by simpa using rv.ints) (by unfold scanBound; omega) fun s2 z => ?_
  obtain ⟨hp, tk, c, rfl, R, le, keeps⟩ := z
  exact ⟨.ref s.heap.objs.size, upd H s.heap.objs.size (SetO X.w s.heap.objs.size (fun j => decide (j ∈ ns)) c), I.laid (t' := tk) keeps (Nat.le_refl _) (setO_new R), rfl, q _ c new le⟩
/-! ### any(xs), xs a list of ints -/
def rAnyI (K : PySem.W.Frag) : List V → Hp → VK → Prop := fun vs H Q => ∃ (a : Addr) (ns : List Int), vs = [V.ref a] ∧ SqL K H a (ns.map V.int) ∧ Q (.bl (ns.any fun i => i != 0)) H
theorem cr_anyI (hc : X.calm = true) : CallR X (.builtin "any") (rAnyI X.K) := by
  intro pins s σ H vs us Q I r h
  obtain ⟨a, ns, rfl, hs, q⟩ := h
  obtain ⟨its, rv, here, _⟩ := I.list hs
  rw [Vals.ref1 r]
  have are : IntsAre its ns := by simpa using rv.ints
  have tr : TruthOf X.prog X.w X.A.in1 (fun i v => its.toArray[i]? = some v) (fun i => ns.getD i 0 != 0) := fun i v s2 Q2 E2 hv q2 => by
    obtain ⟨t, e⟩ := are.int_at i v (by simpa using hv)
    subst e
    exact PyProof.Rows.truthy_int q2
  refine call_any_walk (iter_any here.isList fun s2 e st ne => ?_)
  subst e
  refine ⟨_, _, _, _, _, _, _, rfl, Walks.list (A := X.A.in1) (I.ok.hd hc) _ a ne its.toArray, st, tr, fun h2 tk keeps => ?_⟩
  have same : (List.range its.toArray.size).any (fun i => ns.getD i 0 != 0) = ns.any fun i => i != 0 := by
    have : its.toArray.size = ns.length := by rw [List.size_toArray]; exact are.length
    rw [this, Bool.eq_iff_iff, List.any_eq_true, List.any_eq_true]
    constructor
    · rintro ⟨i, hi, z⟩
      have lt := List.mem_range.mp hi
      refine ⟨ns[i], List.getElem_mem lt, ?_⟩
      rwa [List.getD_eq_getElem?_getD, List.getElem?_eq_getElem lt] at z
    · rintro ⟨x, hx, z⟩
      obtain ⟨i, lt, e⟩ := List.mem_iff_getElem.mp hx
      refine ⟨i, List.mem_range.mpr lt, ?_⟩
      rw [List.getD_eq_getElem?_getD, List.getElem?_eq_getElem lt, e]
      exact z
  rw [same]
  refine ⟨.bl _, H, I.kept fun b u eu => keeps b u (fun z => ?_) (Heap.get?_push_of_some _ eu), rfl, q⟩
  exact absurd (List.mem_singleton.mp z) (Nat.ne_of_lt (Heap.lt_size eu))
end
end L2
namespace K16
open PySem L2 Evl Gr StX
/-! ### lists of numbers from zero -/
def zI (l : List Nat) : List Int := l.map fun n : Nat => (n : Int)
abbrev vN (l : List Nat) : List V := vI (zI l)
theorem zI_len {l : List Nat} : (zI l).length = l.length := List.length_map _
theorem vN_len {l : List Nat} : (vN l).length = l.length := by rw [vI_len, zI_len]
theorem zI_app {l k : List Nat} : zI (l ++ k) = zI l ++ zI k := List.map_append
theorem zI_inj {l k : List Nat} : zI l = zI k ↔ l = k := by
  constructor
  · intro h
    have := congrArg (List.map Int.toNat) h
    unfold zI at this
    have e : ∀ m : List Nat, m.map (Int.toNat ∘ fun n : Nat => (n : Int)) = m := fun m => by
      rw [show (Int.toNat ∘ fun n : Nat => (n : Int)) = id from funext fun n => Int.toNat_natCast n, List.map_id]
    rw [List.map_map, List.map_map, e, e] at this
    exact this
  · rintro rfl; rfl
theorem dec_zI {l k : List Nat} : decide (zI l = zI k) = decide (l = k) := by
  by_cases h : l = k
  · rw [decide_eq_true h, decide_eq_true (zI_inj.mpr h)]
  · rw [decide_eq_false h, decide_eq_false fun z => h (zI_inj.mp z)]
theorem vN_app {l : List Nat} {x : Nat} : vN l ++ [V.int (x : Int)] = vN (l ++ [x]) := by show vI (zI l) ++ _ = vI (zI (l ++ [x])); rw [vI_app, zI_app]; rfl
theorem vN_get {l : List Nat} {i : Nat} {x : V} (h : (vN l)[i]? = some x) : ∃ n, l[i]? = some n ∧ x = .int (n : Int) := by
  unfold vN vI zI at h
  rw [List.getElem?_map, List.getElem?_map] at h
  cases e : l[i]? with
  | none => rw [e] at h; cases h
  | some n => rw [e] at h; exact ⟨n, rfl, (Option.some.inj h).symm⟩
theorem vN_at {l : List Nat} {i n : Nat} (h : l[i]? = some n) : (vN l)[i]? = some (.int (n : Int)) := by
  unfold vN vI zI
  rw [List.getElem?_map, List.getElem?_map, h]
  rfl
theorem perm_zI {ns : List Int} {l : List Nat} (h : ns.Perm (zI l)) : ∃ D : List Nat, ns = zI D ∧ D.Perm l := by
  refine ⟨ns.map Int.toNat, ?_, ?_⟩
  · have e : zI (ns.map Int.toNat) = ns.map id := by
      unfold zI
      rw [List.map_map]
      refine List.map_congr_left fun x hx => ?_
      obtain ⟨n, _, e⟩ := List.mem_map.mp (h.mem_iff.mp hx)
      show ((x.toNat : Nat) : Int) = x
      omega
    rw [e, List.map_id]
  · have := h.map Int.toNat
    unfold zI at this
    rw [List.map_map] at this
    have e : l.map (Int.toNat ∘ fun n : Nat => (n : Int)) = l := by
      rw [show (Int.toNat ∘ fun n : Nat => (n : Int)) = id from funext fun n => Int.toNat_natCast n, List.map_id]
    rwa [e] at this
theorem le_zI {D : List Nat} (h : (zI D).Pairwise (· ≤ ·)) : D.Pairwise (· ≤ ·) := by
  unfold zI at h
  rw [List.pairwise_map] at h
  exact h.imp fun h => by omega
theorem ge_zI {D : List Nat} (h : (zI D).Pairwise (· ≥ ·)) : D.Pairwise (· ≥ ·) := by
  unfold zI at h
  rw [List.pairwise_map] at h
  exact h.imp fun h => by omega
/-- what a comprehension over such a list gives -/
theorem given_nats (l : List Nat) (f : Nat → Bool) (g : Nat → Nat) : given l.length (fun i => f (l.getD i 0)) (fun i => V.int ((g (l.getD i 0) : Nat) : Int)) = vN ((l.filter f).map g) := by
  have e : l = (List.range l.length).map fun i => l.getD i 0 := by
    refine List.ext_getElem? fun i => ?_
    rw [List.getElem?_map]
    by_cases h : i < l.length
    · rw [List.getElem?_range h, List.getElem?_eq_getElem h]
      show some l[i] = some (l.getD i 0)
      rw [List.getD_eq_getElem?_getD, List.getElem?_eq_getElem h]
      rfl
    · rw [List.getElem?_eq_none (by omega), List.getElem?_eq_none (by rw [List.length_range]; omega)]
      rfl
  have e2 : l.filter f = ((List.range l.length).filter fun i => f (l.getD i 0)).map fun i => l.getD i 0 := by
    conv => lhs; rw [e]
    rw [List.filter_map]
    rfl
  rw [e2]
  unfold given vN vI zI
  rw [List.map_map, List.map_map, List.map_map]
  rfl
theorem getD_of {l : List Nat} {i n : Nat} (h : l[i]? = some n) : l.getD i 0 = n := by rw [List.getD_eq_getElem?_getD, h]; rfl
section
variable {K : PySem.W.Frag} {σ : L2.St} {H : Hp} {ta tb te : TE}
theorem ev_xor {a b : Nat} (ha : Ev ta σ H (.int (a : Int))) (hb : Ev tb σ H (.int (b : Int))) : Ev (tOp (rI0 fun i j => .int (Builtin.bitXor i j)) ta tb) σ H (.int ((a ^^^ b : Nat) : Int)) :=
  ev_is (ev_op ha hb rv_I0) (by rw [Bits.bitXor_pp (by omega) (by omega), Int.toNat_natCast, Int.toNat_natCast])
theorem ev_and {a b : Nat} (ha : Ev ta σ H (.int (a : Int))) (hb : Ev tb σ H (.int (b : Int))) : Ev (tOp (rI0 fun i j => .int (Builtin.bitAnd i j)) ta tb) σ H (.int ((a &&& b : Nat) : Int)) :=
  ev_is (ev_op ha hb rv_I0) (by rw [PyProof.Rows.bitAnd_pp (by omega) (by omega), Int.toNat_natCast, Int.toNat_natCast])
theorem ev_or {a b : Nat} (ha : Ev ta σ H (.int (a : Int))) (hb : Ev tb σ H (.int (b : Int))) : Ev (tOp (rI0 fun i j => .int (Builtin.bitOr i j)) ta tb) σ H (.int ((a ||| b : Nat) : Int)) :=
  ev_is (ev_op ha hb rv_I0) (by rw [Bits.bitOr_pp (by omega) (by omega), Int.toNat_natCast, Int.toNat_natCast])
/-- v >> p & 1 -/
theorem ev_bit {v p : Nat} (ha : Ev ta σ H (.int (v : Int))) (hb : Ev tb σ H (.int (p : Int))) : Ev (tOp (rI0 fun i j => .int (Builtin.bitAnd i j)) (tOp (rI (fun _ j => 0 ≤ j) fun i j => .int (i / 2 ^ j.toNat)) ta tb) (tC (.int 1))) σ H (.int (((v.testBit p).toNat : Nat) : Int)) :=
  ev_is (ev_and (a := v / 2 ^ p) (b := 1) (ev_is (ev_op ha hb (rv_I (by omega))) (by rw [Int.toNat_natCast]; congr 1)) ev_c) (by rw [Nat.and_one_is_mod, ← Nat.toNat_testBit])
/-- [.., *a new list, ..] -/
theorem ea_star {t : TA} {xs ys : List V} (h : EvL te σ H xs) (hr : EvA t σ H ys) : EvA (tStar K te t) σ H (xs ++ ys) := fun H1 e Q q =>
  h H1 e _ fun p H2 _ e2 hp => ⟨p, xs, rfl, .inr (sq_of hp), hr H2 (e.trans e2) _ fun H3 e3 => q H3 (e2.trans e3)⟩
/-- a comprehension over a list of numbers -/
theorem el_nums {a : Addr} {l : List Nat} {tl : TE} {t : TT} {j : Nat} {vs : List Nat} (f : Nat → Bool) (g : Nat → Nat) (h : Ev tl σ H (.ref a)) (hx : SqL K H a (vN l)) (hz : l.length ≤ 40000) (hw : ∀ x, wipe ((wipe σ vs).set j (some x)) vs = wipe σ vs)
    (ht : ∀ n ∈ l, ∀ H1, Ex H H1 → EvT t ((wipe σ vs).set j (some (.int (n : Int)))) H1 (f n)) (he : ∀ n ∈ l, ∀ H1, Ex H H1 → f n = true → Ev te ((wipe σ vs).set j (some (.int (n : Int)))) H1 (.int ((g n : Nat) : Int))) :
    EvL (tLc (iList K tl) (gName j) t te vs) σ H (vN ((l.filter f).map g)) := by
  have c := el_lcL (K := K) (σ := σ) (H := H) (t := t) (te := te) (a := a) (xs := vN l) (tl := tl) (j := j) (vs := vs) (fun i => f (l.getD i 0)) (fun i => V.int ((g (l.getD i 0) : Nat) : Int)) h hx (by rw [vN_len]; exact hz) hw
    (fun i x H1 e hi => by
      obtain ⟨n, hn, rfl⟩ := vN_get hi
      rw [getD_of hn]
      exact ht n (List.mem_of_getElem? hn) H1 e)
    (fun i x H1 e hi hf => by
      obtain ⟨n, hn, rfl⟩ := vN_get hi
      rw [getD_of hn] at hf ⊢
      exact he n (List.mem_of_getElem? hn) H1 e hf)
  rw [vN_len, given_nats] at c
  exact c
theorem filter_yes (l : List Nat) : l.filter (fun _ => true) = l := List.filter_eq_self.mpr fun _ _ => rfl
end
end K16
namespace K16
open PySem L2 Evl Gr StX EnT
section
variable {K : PySem.W.Frag} {σ : L2.St} {H : Hp} {ta tb te : TE}
/-- a comprehension over a new list of numbers -/
theorem el_numsN {l : List Nat} {tl : TE} {t : TT} {j : Nat} {vs : List Nat} (f : Nat → Bool) (g : Nat → Nat) (h : EvL tl σ H (vN l)) (hz : l.length ≤ 40000) (hw : ∀ x, wipe ((wipe σ vs).set j (some x)) vs = wipe σ vs)
    (ht : ∀ n ∈ l, ∀ H1, Ex H H1 → EvT t ((wipe σ vs).set j (some (.int (n : Int)))) H1 (f n)) (he : ∀ n ∈ l, ∀ H1, Ex H H1 → f n = true → Ev te ((wipe σ vs).set j (some (.int (n : Int)))) H1 (.int ((g n : Nat) : Int))) :
    EvL (tLc (iList K tl) (gName j) t te vs) σ H (vN ((l.filter f).map g)) := by
  have c := el_lcNL (K := K) (σ := σ) (H := H) (t := t) (te := te) (xs := vN l) (tl := tl) (j := j) (vs := vs) (fun i => f (l.getD i 0)) (fun i => V.int ((g (l.getD i 0) : Nat) : Int)) h (by rw [vN_len]; exact hz) hw
    (fun i x H1 e hi => by
      obtain ⟨n, hn, rfl⟩ := vN_get hi
      rw [getD_of hn]
      exact ht n (List.mem_of_getElem? hn) H1 e)
    (fun i x H1 e hi hf => by
      obtain ⟨n, hn, rfl⟩ := vN_get hi
      rw [getD_of hn] at hf ⊢
      exact he n (List.mem_of_getElem? hn) H1 e hf)
  rw [vN_len, given_nats] at c
  exact c
theorem map_idN (l : List Nat) : l.map (fun n => n) = l := List.map_id' l
/-- for i, x in enumerate(a tuple) -/
theorem q_forNT {a : Addr} {xs : List V} {ta : TA} {g : TG} {tu tz : TS} {D : Ends} (h : EvA ta σ H [.ref a]) (hx : SqT K H a xs) (Pv : Nat → L2.St → Hp → Prop) (h0 : ∀ H1, Ex H H1 → Pv 0 σ H1) (hl : ∀ i σ' H', i ≤ xs.length → Pv i σ' H' → SqT K H' a xs)
    (hs : ∀ i x σ' H' T, xs[i]? = some x → Pv i σ' H' → H' T = none → g (.ref T) σ' (L2.upd H' T (.tup [.int (i : Nat), x])) fun σ2 H2 => tu { D with nx := Pv (i + 1), ct := Pv (i + 1), bk := tz D } σ2 H2)
    (hd : ∀ σ' H', Pv xs.length σ' H' → tz D σ' H') : tSeq (tFor (iEnumT K ta) g tu) tz D σ H :=
  h H (Ex.refl H) _ fun H1 e1 => ⟨a, xs, rfl, ex_t e1 hx, for_it (D := { D with nx := tz D }) walk_enumT Pv (h0 H1 e1) hl (fun i v σ' H' H2 hi p y => by
    obtain ⟨T, x, z, rfl, hn, rfl, ex, ez⟩ := y
    obtain rfl := Option.some.inj ex
    exact hs i z σ' H' T ez p hn) hd⟩
/-- two lists of numbers, one behind the other -/
theorem el_catV {p : Addr} {xs ys : List Nat} (ha : Ev ta σ H (.ref p)) (hp : H p = some (.lst (vN xs))) (hb : EvL tb σ H (vN ys)) (hz : xs.length + ys.length ≤ 100000) : EvL (tOp rCat ta tb) σ H (vN (xs ++ ys)) := by
  have := el_catPL ha hp hb (by rw [zI_len, zI_len]; exact hz)
  rwa [← zI_app] at this
end
section
variable {P : Program} {w : World} {K : PySem.W.Frag} {mg : Str → Option Value} {base : Heap}
/-! ### heard_vectors -/
end
end K16
namespace K16
open PySem L2 Evl Gr StX EnT ClX RdX OwX OwC OpX Ls DnX
/-! ### machines of places, as they stand -/
def oV : Option Nat → V
  | none => .non
  | some l => .int (l : Int)
def pV (m : Pl) : List V := [.int (m.1 : Int), oV m.2]
def mV (m : Mark) : List V := [.int (m.1 : Int), .int (m.2.1 : Int), oV m.2.2]
theorem oV_inj {x y : Option Nat} (h : oV x = oV y) : x = y := by
  cases x <;> cases y
  · rfl
  · cases h
  · cases h
  · have h := V.int.inj h
    rw [Int.ofNat.inj h]
theorem mV_inj {x y : Mark} (h : mV x = mV y) : x = y := by
  obtain ⟨a, b, c⟩ := x
  obtain ⟨a', b', c'⟩ := y
  have h1 := List.cons.inj h
  have h2 := List.cons.inj h1.2
  have h3 := List.cons.inj h2.2
  exact Prod.ext (Int.ofNat.inj (V.int.inj h1.1)) (Prod.ext (Int.ofNat.inj (V.int.inj h2.1)) (oV_inj h3.1))
theorem mV_flat (m : Mark) : ∀ v ∈ mV m, FlatK v := fun v hv => by
  obtain ⟨a, b, c⟩ := m
  rcases List.mem_cons.mp hv with rfl | hv
  · exact True.intro
  · rcases List.mem_cons.mp hv with rfl | hv
    · exact True.intro
    · rw [List.mem_singleton.mp hv]
      cases c <;> exact True.intro
theorem mem_mV {m : Mark} {l : List Mark} : mV m ∈ l.map mV ↔ m ∈ l := ⟨fun h => by
  obtain ⟨x, hx, e⟩ := List.mem_map.mp h
  rw [← mV_inj e]
  exact hx, fun h => List.mem_map.mpr ⟨m, h, rfl⟩⟩
theorem idx_mV {m : Mark} : ∀ {l : List Mark}, (l.map mV).idxOf (mV m) = l.idxOf m
  | [] => rfl
  | x :: l => by
    rw [List.map_cons, List.idxOf_cons, List.idxOf_cons, idx_mV]
    by_cases c : x = m
    · subst c
      rw [beq_self_eq_true, beq_self_eq_true]
    · rw [show (x == m) = false from beq_eq_false_iff_ne.mpr c, show (mV x == mV m) = false from beq_eq_false_iff_ne.mpr fun z => c (mV_inj z)]
def PlR (K : PySem.W.Frag) (H : Hp) (xs : List V) (M : List Pl) : Prop := xs.length = M.length ∧ ∀ (i : Nat) (x : V) (m : Pl), xs[i]? = some x → M[i]? = some m → ∃ a, x = .ref a ∧ Sq K H a (pV m)
def MAt (K : PySem.W.Frag) (H : Hp) (a : Addr) (M : List Pl) : Prop := ∃ xs, Sq K H a xs ∧ PlR K H xs M
theorem sq_mono {K : PySem.W.Frag} {H H' : Hp} {a : Addr} {xs : List V} (e : Ex H H') (h : Sq K H a xs) : Sq K H' a xs := h.mono e
theorem PlR.mono {K : PySem.W.Frag} {H H' : Hp} {xs : List V} {M : List Pl} (e : Ex H H') (h : PlR K H xs M) : PlR K H' xs M := ⟨h.1, fun i x m hx hm => by
  obtain ⟨a, h1, h2⟩ := h.2 i x m hx hm
  exact ⟨a, h1, h2.mono e⟩⟩
theorem MAt.mono {K : PySem.W.Frag} {H H' : Hp} {a : Addr} {M : List Pl} (e : Ex H H') (h : MAt K H a M) : MAt K H' a M := by
  obtain ⟨xs, h1, h2⟩ := h
  exact ⟨xs, h1.mono e, h2.mono e⟩
theorem PlR.at {K : PySem.W.Frag} {H : Hp} {xs : List V} {M : List Pl} (h : PlR K H xs M) {i : Nat} {x : V} (hx : xs[i]? = some x) : ∃ a m, M[i]? = some m ∧ x = .ref a ∧ Sq K H a (pV m) := by
  have lt : i < M.length := by rw [← h.1]; exact (List.getElem?_eq_some_iff.mp hx).1
  obtain ⟨a, h1, h2⟩ := h.2 i x _ hx (List.getElem?_eq_getElem lt)
  exact ⟨a, _, List.getElem?_eq_getElem lt, h1, h2⟩
/-! ### a walk over enumerate of a list or a tuple; a target of two that is given either -/
abbrev iEnumQ (K : PySem.W.Frag) (ta : TA) : TI := fun σ H R => iEnum K ta σ H R ∨ iEnumT K ta σ H R
def gOr (g1 g2 : TG) : TG := fun v σ H Q => g1 v σ H Q ∨ g2 v σ H Q
theorem pg_or {X : Cx} {tg : Expr} {g1 g2 : TG} (h1 : PG X tg g1) (h2 : PG X tg g2) : PG X tg (gOr g1 g2) := ⟨fun pins s σ H v u Q I r h => h.elim (h1.run pins s σ H v u Q I r) (h2.run pins s σ H v u Q I r)⟩
theorem q_forEQ {K : PySem.W.Frag} {σ : L2.St} {H Hb : Hp} {a : Addr} {vs : List V} {ta : TA} {g : TG} {tu tz : TS} {D : Ends} (h : EvA ta σ H [.ref a]) (hx : Sq K Hb a vs) (eb : Ex Hb H) (Pv : Nat → L2.St → Hp → Prop) (h0 : ∀ H1, Ex H H1 → Pv 0 σ H1) (hl : ∀ i σ' H', i ≤ vs.length → Pv i σ' H' → Ex Hb H')
    (hs : ∀ i x σ' H' T, vs[i]? = some x → Pv i σ' H' → H' T = none → g (.ref T) σ' (L2.upd H' T (.tup [.int (i : Nat), x])) fun σ2 H2 => tu { D with nx := Pv (i + 1), ct := Pv (i + 1), bk := tz D } σ2 H2)
    (hd : ∀ σ' H', Pv vs.length σ' H' → tz D σ' H') : tSeq (tFor (iEnumQ K ta) g tu) tz D σ H := by
  rcases hx with hx | hx
  · exact Or.inl (h H (Ex.refl H) _ fun H1 e1 => ⟨a, vs, rfl, ex_l (eb.trans e1) hx, for_it (D := { D with nx := tz D }) walk_enum Pv (h0 H1 e1) (fun i σ' H' hi p => ex_l (hl i σ' H' hi p) hx) (fun i v σ' H' H2 hi p y => by
      obtain ⟨T, x, z, rfl, hn, rfl, ex, ez⟩ := y
      obtain rfl := Option.some.inj ex
      exact hs i z σ' H' T ez p hn) hd⟩)
  · exact Or.inr (h H (Ex.refl H) _ fun H1 e1 => ⟨a, vs, rfl, ex_t (eb.trans e1) hx, for_it (D := { D with nx := tz D }) walk_enumT Pv (h0 H1 e1) (fun i σ' H' hi p => ex_t (hl i σ' H' hi p) hx) (fun i v σ' H' H2 hi p y => by
      obtain ⟨T, x, z, rfl, hn, rfl, ex, ez⟩ := y
      obtain rfl := Option.some.inj ex
      exact hs i z σ' H' T ez p hn) hd⟩)
theorem nums_keep {P : Program} {w : World} {H H' : Hp} {a : Addr} {ks : List (List V)} (ht : ∀ b xs, H b = some (.tup xs) → H' b = some (.tup xs)) (ha : H' a = H a) (h : Nums P w H a ks) : Nums P w H' a ks := by
  obtain ⟨z, nd, fs, xs, en, q⟩ := h
  exact ⟨z, nd, fs, xs, ent_mono ht en, by rw [ha]; exact q⟩
theorem nums_mono {P : Program} {w : World} {H H' : Hp} {a : Addr} {ks : List (List V)} (e : Ex H H') (h : Nums P w H a ks) : Nums P w H' a ks := by
  refine nums_keep (fun b xs hb => e _ _ hb) ?_ h
  obtain ⟨_, _, _, xs, _, q⟩ := h
  rcases q with q | ⟨_, q⟩
  · rw [q]; exact e _ _ q
  · rw [q]; exact e _ _ q
theorem take_one {α : Type} {l : List α} {i : Nat} {x : α} (h : l[i]? = some x) : l.take (i + 1) = l.take i ++ [x] := by rw [List.take_add_one, h]; rfl
theorem g_pair {K : PySem.W.Frag} {σ : L2.St} {H : Hp} {i j : Nat} {b : Addr} {x y : V} {Q : L2.St → Hp → Prop} (h : Sq K H b [x, y]) (q : Q ((σ.set i (some x)).set j (some y)) H) : gOr (gTup K 2 (gCons (gName i) (gCons (gName j) gNil))) (gLst K 2 (gCons (gName i) (gCons (gName j) gNil))) (.ref b) σ H Q := by
  rcases h with h | h
  · exact .inr ⟨b, _, rfl, h, rfl, _, _, rfl, _, _, rfl, rfl, q⟩
  · exact .inl ⟨b, _, rfl, h, rfl, _, _, rfl, _, _, rfl, rfl, q⟩
/-! ### place_kinds -/
def finG (l : List Mark) : List Nat := l.map fun m => (fsts l).idxOf m
theorem finG_snoc (l : List Mark) (x : Mark) : finG (l ++ [x]) = finG l ++ [(fsts (l ++ [x])).idxOf x] := by
  unfold finG
  rw [List.map_append]
  congr 1
  refine List.map_congr_left fun m hm => ?_
  rw [fsts_snoc]
  split
  · rfl
  · exact idx_more (mem_fsts.mpr hm)
theorem loopK_succ {M : List Pl} {f : Nat} {ks : List Nat} {many : Nat} : loopK M (f + 1) ks many = if (fsts (marks M ks)).length = many then ks else loopK M f (finer M ks) (fsts (marks M ks)).length := rfl
theorem finer_is (M : List Pl) (ks : List Nat) : finer M ks = finG (marks M ks) := rfl
section
variable {P : Program} {w : World} {K : PySem.W.Frag} {mg : Str → Option Value} {base : Heap}
structure GlbM (mg : Str → Option Value) : Prop where
  enum : mg "enumerate" = none
  len : mg "len" = none
abbrev sKn : Stmt := top 19
abbrev nKn : List Str := ["places", "kinds", "_", "many", "numbers", "finer", "place", "kept", "lost", "mark"]
def spKn (K : PySem.W.Frag) : Sp := fun vs H Q _ => ∃ (a : Addr) (M : List Pl), vs = [.ref a] ∧ MAt K H a M ∧ OkM M ∧ 1 ≤ M.length ∧ M.length ≤ 100 ∧ ∀ p H', H p = none → Ex H H' → H' p = some (.lst (vN (kindsF M))) → Q (.ref p) H'
theorem scKn : FnScope nKn ["places"] (defScope sKn) := ⟨rfl, rfl, rfl, by decide +kernel, rfl, by decide +kernel, by decide +kernel⟩
theorem ok_Kn {f : Addr} {fd : FuncData} (F : Fun K "place_kinds" "place_kinds" sKn f fd) (G : GlbM mg) : FnOk P w K mg base CX0 1 f fd ["places"] (spKn K) := by
  refine F.ok scKn (fun vs H Q E h => ?_) (fun cdv A outer s H vs Q E hr h => ?_)
  · obtain ⟨a, M, rfl, _⟩ := h
    rfl
  · obtain ⟨a, M, rfl, hM, ok, l1, l100, k⟩ := h
    have hu : (A.deeper (PyProof.Rows.envOfC "place_kinds" (defScope sKn) s.heap.objs.size f cdv)).in1.units + 8 < cLine := by
      have := hr.un
      rw [Around.in1_units]
      omega
    refine ⟨_, (pss_cons (ps_setLc (te := tC (.int 0)) (i := 1) (own := [("_", 2)]) (g := gName 2) rfl scKn.nd rfl rfl (by rfl) (pi_seq (pv 0)) (blkOk_by (own := [("_", 2)]) (N := nKn) (sc := defScope sKn) (by decide +kernel)) (fun _ _ _ _ _ => pg_name (i := 2) scKn.nd rfl (Or.inl rfl)) (fun _ _ _ _ _ => pts_nil) (fun _ _ _ _ _ => pe_int))
      (pss_cons (ps_set (i := 3) scKn.nd rfl (.inl rfl) pe_int)
      (pss_one (ps_while PassesOwn.never (pt_val pe_bl)
        (pss_cons (ps_set (i := 4) scKn.nd rfl (.inl rfl) pe_dnewT)
      (pss_cons (ps_set (i := 5) scKn.nd rfl (.inl rfl) (pe_lst pa_nil))
      (pss_cons (ps_for PassesOwn.never rfl ((pi_enum (by rfl) G.enum (pa_cons (pv 0) pa_nil)).or (pi_enumT (by rfl) G.enum (pa_cons (pv 0) pa_nil))) (pg_tup rfl (pgs_cons (pg_name (i := 6) scKn.nd rfl (.inl rfl)) (pgs_cons (pg_or (pg_tup rfl (pgs_cons (pg_name (i := 7) scKn.nd rfl (.inl rfl)) (pgs_cons (pg_name (i := 8) scKn.nd rfl (.inl rfl)) pgs_nil))) (pg_lst rfl (pgs_cons (pg_name (i := 7) scKn.nd rfl (.inl rfl)) (pgs_cons (pg_name (i := 8) scKn.nd rfl (.inl rfl)) pgs_nil)))) pgs_nil)))
            (pss_cons (ps_set (i := 9) scKn.nd rfl (.inl rfl) (pe_tup (pa_cons (pe_ix (show IxR _ (rIxL K) from ix_list) (pv 1) (pv 6) (fun _ _ => rfl)) (pa_cons (pe_ix (show IxR _ (rIxL K) from ix_list) (pv 1) (pv 7) (fun _ _ => rfl)) (pa_cons (pe_ifExp (pt_cmpR op_isN1 (pv 8) pe_non (nomark _)) pe_non (pe_ix (show IxR _ (rIxL K) from ix_list) (pv 1) (pv 8) (fun _ _ => rfl))) pa_nil)))))
      (pss_cons (ps_if (pt_cmpR (op_niN hu) (pv 9) (pv 4) (by with_unfolding_all rfl)) (pss_one (ps_nput hu (pv 4) (pv 9) (pe_callB call_lenN (by rfl) G.len PySem.boot_len (pa_cons (pv 4) pa_nil)) rfl)) pss_nil)
      (pss_one (ps_expr (pe_bm PySem.F.plainAttrs_list PySem.F.slot_list_append PySem.F.type_list_append mt_append (pv 5) (pa_cons (pe_nget hu (pv 4) (pv 9) (fun _ _ => rfl)) pa_nil)))))))
      (pss_cons (ps_if (pt_cmpR op_eq (pe_callB call_lenN (by rfl) G.len PySem.boot_len (pa_cons (pv 4) pa_nil)) (pv 3) (nomark _)) (pss_one (ps_ret (pv 1))) pss_nil)
      (pss_cons (ps_set (i := 3) scKn.nd rfl (.inl rfl) (pe_callB call_lenN (by rfl) G.len PySem.boot_len (pa_cons (pv 4) pa_nil)))
      (pss_one (ps_set (i := 1) scKn.nd rfl (.inl rfl) (pv 5)))))))))))), ?_⟩
    obtain ⟨xs, hx, row⟩ := hM
    have lx := row.1
    have c0 := el_lcQ (K := K) (σ := [some (.ref a), none, none, none, none, none, none, none, none, none]) (H := H) (te := tC (.int 0)) (tl := tVar 0) (j := 2) (vs := [2]) (fun _ => V.int 0) (ev_var rfl) hx (by omega) (fun _ => rfl) (fun _ _ _ _ _ => ev_c)
    rw [show (List.range xs.length).map (fun _ => V.int 0) = vN (List.replicate M.length 0) by rw [lx, List.map_const', List.length_range]; unfold vN zI vI; rw [List.map_replicate, List.map_replicate]; rfl] at c0
    refine q_asgL c0 fun K0 H1 hK0 e1 h1 => ?_
    refine q_asg (v := .int 1) ev_c fun H2 e2 => ?_
    refine s_while (fun m σ' H' => ∃ (ks : List Nat) (many : Nat) (Kd : Addr) (x4 x5 x6 x7 x8 x9 : Option V), loopK M m ks many = kindsF M ∧ KInv M ks many ∧ M.length + 2 ≤ m + many ∧ σ' = [some (.ref a), some (.ref Kd), none, some (.int (many : Int)), x4, x5, x6, x7, x8, x9] ∧ Ex H H' ∧ H' Kd = some (.lst (vN ks)) ∧ H Kd = none) (M.length + 1)
      ⟨_, 1, K0, none, none, none, none, none, none, rfl, kinv_0 l1, by omega, rfl, e1.trans e2, e2 _ _ h1, hK0⟩ fun m σ' H3 hw => ⟨true, et_B ev_c, fun _ H4 e4 => ⟨_, fun _ _ h => h, ?_⟩, fun y => absurd y (by decide)⟩
    obtain ⟨ks, many, Kd, x4, x5, x6, x7, x8, x9, hl, inv, hf, rfl, e3, h3, hK⟩ := hw
    cases m with
    | zero =>
      have := (kinv_le inv).2.1
      omega
    | succ fu =>
      have lk := inv.1
      have E4 := e3.trans e4
      have h4 := e4 _ _ h3
      refine q_asgR fun N hN => ?_
      have e5 := Ex.new (o := .dT []) hN
      have n5 : Nums P w (upd H4 N (.dT [])) N [] := nums_nil upd_same
      have E5 := E4.trans e5
      have h5 := e5 _ _ h4
      have hNH : H N = none := fresh_back E4 hN
      have NK' : N ≠ Kd := fun z => by rw [z, h4] at hN; cases hN
      generalize upd H4 N (.dT []) = H5 at e5 n5 E5 h5 ⊢
      refine q_asgL (xs := []) el_nil fun Fn H6 hF e6 h6 => ?_
      have n6 := nums_mono e6 n5
      have E6 := E5.trans e6
      have FH : H Fn = none := fresh_back E5 hF
      have FN : Fn ≠ N := fun z => by
        obtain ⟨_, _, _, ys, _, q⟩ := n5
        rw [z] at hF
        rcases q with q | ⟨_, q⟩ <;> rw [q] at hF <;> cases hF
      have FK : Fn ≠ Kd := fun z => by rw [z, h5] at hF; cases hF
      have h6k := e6 _ _ h5
      have lm : (marks M ks).length = M.length := by unfold marks; rw [List.length_map, List.length_range]
      refine q_forEQ (K := K) (Hb := H) (a := a) (vs := xs) (ea_cons (ev_var rfl) ea_nil) hx E6 (fun i σ' H' => ∃ x6 x7 x8 x9 : Option V, σ' = [some (.ref a), some (.ref Kd), none, some (.int (many : Int)), some (.ref N), some (.ref Fn), x6, x7, x8, x9] ∧ Ex H H' ∧ H' Kd = some (.lst (vN ks)) ∧ Nums P w H' N ((fsts ((marks M ks).take i)).map mV) ∧ H' Fn = some (.lst (vN (finG ((marks M ks).take i)))))
        (fun H7 e7 => ⟨x6, x7, x8, x9, rfl, E6.trans e7, e7 _ _ h6k, nums_mono e7 n6, e7 _ _ h6⟩) (fun _ _ _ _ ⟨_, _, _, _, _, e, _⟩ => e) ?_ ?_
      · rintro i x σ' H7 T hxi ⟨y6, y7, y8, y9, rfl, e7, g1, g2, g3⟩ hT
        obtain ⟨b, m, hm, rfl, hb⟩ := row.at hxi
        have li : i < M.length := (List.getElem?_eq_some_iff.mp hm).1
        have eT := Ex.new (o := .tup [.int (i : Nat), V.ref b]) hT
        have hb7 := sq_mono (e7.trans eT) hb
        refine ⟨T, _, rfl, st_of upd_same, rfl, _, _, rfl, _, _, rfl, g_pair hb7 ⟨rfl, ?_⟩⟩
        have E7 := e7.trans eT
        have g1 := eT _ _ g1
        have g2 := nums_mono eT g2
        have g3 := eT _ _ g3
        clear hb7
        generalize upd H7 T (.tup [.int (i : Nat), V.ref b]) = H8 at eT E7 g1 g2 g3 ⊢
        have em : M.getD i (0, none) = m := by rw [List.getD_eq_getElem?_getD, hm]; rfl
        obtain ⟨m1, m2⟩ := m
        have okm := ok _ (List.mem_of_getElem? hm)
        have kd : ∀ j, j < M.length → (vN ks)[j]? = some (.int (at0 ks j : Nat)) := fun j hj => vN_at (by unfold at0; rw [List.getD_eq_getElem?_getD, List.getElem?_eq_getElem (by rw [lk]; exact hj)]; rfl)
        have emk : mV (mark M (at0 ks) i) = [.int (at0 ks i : Nat), .int (at0 ks m1 : Nat), oV (m2.map (at0 ks))] := by
          unfold mark mV kept lost
          rw [em]
        have hmk : (marks M ks)[i]? = some (mark M (at0 ks) i) := by unfold marks; rw [List.getElem?_map, List.getElem?_range li]; rfl
        have st1 := take_one hmk
        refine q_asgU (xs := mV (mark M (at0 ks) i)) ?_ fun T2 H9 hT2 e9 h9 => ?_
        · rw [emk]
          refine eu_tup (ea_cons (ev_op (ev_var rfl) (ev_var rfl) (rv_ixL (sq_of g1) (atI_nat (kd i li)))) (ea_cons (ev_op (ev_var rfl) (ev_var rfl) (rv_ixL (sq_of g1) (atI_nat (kd m1 okm.1)))) (ea_cons (ev_if (b := m2.isNone) (et_is (et_test (ev_op (ev_var (i := 8) rfl) ev_c fun H9 _ Q9 q9 => ⟨rfl, q9 H9 (Ex.refl H9)⟩)) ?_) (fun hn => ?_) (fun hn => ?_)) ea_nil))) (by show 3 ≤ 100000; decide)
          · cases m2 with
            | none => exact decide_eq_true rfl
            | some l => exact decide_eq_false fun z => by cases z
          · cases m2 with
            | none => exact ev_c
            | some l => cases hn
          · cases m2 with
            | none => cases hn
            | some l => exact ev_op (ev_var rfl) (ev_var rfl) (rv_ixL (sq_of g1) (atI_nat (kd l (okm.2 l rfl))))
        have E9 := E7.trans e9
        have g1 := e9 _ _ g1
        have g2 := nums_mono e9 g2
        have g3 := e9 _ _ g3
        have fin : ∀ {D : Ends} {HA : Hp}, Ex H HA → HA Kd = some (.lst (vN ks)) → HA T2 = some (.tup (mV (mark M (at0 ks) i))) → Nums P w HA N ((fsts ((marks M ks).take (i + 1))).map mV) → HA Fn = some (.lst (vN (finG ((marks M ks).take i)))) →
            (∀ H' , Ex H H' → H' Kd = some (.lst (vN ks)) → Nums P w H' N ((fsts ((marks M ks).take (i + 1))).map mV) → H' Fn = some (.lst (vN (finG ((marks M ks).take (i + 1))))) → D.nx [some (.ref a), some (.ref Kd), none, some (.int (many : Int)), some (.ref N), some (.ref Fn), some (.int (i : Nat)), some (.int (m1 : Int)), some (oV m2), some (.ref T2)] H') →
            tDrop (tBM K "list" rAppend (tVar 5) (tCons (tNGet (cxOf CX0 P w K mg base nKn "place_kinds" (defScope sKn) f cdv A outer s H E) (tVar 4) (tVar 9)) tNil)) D [some (.ref a), some (.ref Kd), none, some (.int (many : Int)), some (.ref N), some (.ref Fn), some (.int (i : Nat)), some (.int (m1 : Int)), some (oV m2), some (.ref T2)] HA := fun {D} {HA} eA a1 a2 a3 a4 q => by
          have fl : (finG ((marks M ks).take i)).length ≤ 100 := by unfold finG; rw [List.length_map, List.length_take]; omega
          refine s_app (K := K) (xs := vN (finG ((marks M ks).take i))) (v := .int (((fsts ((marks M ks).take (i + 1))).idxOf (mark M (at0 ks) i) : Nat) : Int)) a4 (ev_var rfl) (fun HB eB Q9 q9 => ⟨_, rfl, _, rfl, N, T2, _, _, rfl, rfl, nums_mono eB a3, eB _ _ a2, mem_mV.mpr (mem_fsts.mpr (by rw [st1]; exact List.mem_append_right _ List.mem_cons_self)), by rw [idx_mV]; exact q9 HB (Ex.refl HB)⟩) (by rw [vN_len]; omega) fun HB eB => ?_
          have b4 := eB _ _ a4
          refine q _ (Ex.mut (eA.trans eB) FH) (by rw [upd_ne FK.symm]; exact eB _ _ a1) (nums_keep (fun c ys hc => by rw [upd_ne fun z => by rw [z, b4] at hc; cases hc]; exact hc) (upd_ne FN.symm) (nums_mono eB a3)) ?_
          rw [upd_same, st1, finG_snoc, ← st1, vN_app]
        refine q_when (b := !decide (mV (mark M (at0 ks) i) ∈ (fsts ((marks M ks).take i)).map mV)) (et_test (ev_op (ev_var rfl) (ev_var rfl) fun HA eA Q9 q9 => ⟨N, T2, _, _, rfl, rfl, nums_mono eA g2, eA _ _ h9, mV_flat _, q9 HA (Ex.refl HA)⟩)) (fun hb HA eA => ?_) (fun hb HA eA => ?_)
        · have no : mV (mark M (at0 ks) i) ∉ (fsts ((marks M ks).take i)).map mV := fun z => by rw [decide_eq_true z] at hb; cases hb
          have few : (fsts ((marks M ks).take i)).length ≤ 100 := by
            have := sub_len _ ((marks M ks).take i) (fsts_nodup _) fun x hx => mem_fsts.mp hx
            rw [List.length_take] at this
            omega
          have fe : (fsts ((marks M ks).take (i + 1))).map mV = (fsts ((marks M ks).take i)).map mV ++ [mV (mark M (at0 ks) i)] := by
            rw [st1, fsts_snoc, if_neg fun z => no (mem_mV.mpr z), List.map_append]
            rfl
          have g2A := nums_mono eA g2
          have gN : ∀ (u : HO) (c : Addr) (o : HO), c ≠ N → HA c = some o → upd HA N u c = some o := fun u c o hc ho => by rw [upd_ne hc]; exact ho
          refine ⟨_, rfl, N, _, rfl, g2A, _, rfl, _, rfl, N, T2, _, _, rfl, rfl, rfl, g2A, eA _ _ h9, mV_flat _, no, sz_lt (by rw [List.length_map]; omega), fun u hn => ?_⟩
          rw [← fe] at hn
          exact fin (Ex.mut (E9.trans eA) hNH) (gN u _ _ NK'.symm (eA _ _ g1)) (gN u _ _ (fun z => by
            obtain ⟨_, _, _, ys, _, q⟩ := g2
            rw [z] at h9
            rcases q with q | ⟨_, q⟩ <;> rw [q] at h9 <;> cases h9) (eA _ _ h9)) hn (gN u _ _ FN (eA _ _ g3)) fun HB eB b1 b2 b3 => ⟨_, _, _, _, rfl, eB, b1, b2, b3⟩
        · have yes : mark M (at0 ks) i ∈ fsts ((marks M ks).take i) := mem_mV.mp (by
            refine Decidable.byContradiction fun z => ?_
            rw [decide_eq_false z] at hb
            cases hb)
          have fe : fsts ((marks M ks).take (i + 1)) = fsts ((marks M ks).take i) := by rw [st1, fsts_snoc, if_pos yes]
          exact fin (E9.trans eA) (eA _ _ g1) (eA _ _ h9) (by rw [fe]; exact nums_mono eA g2) (eA _ _ g3) fun HB eB b1 b2 b3 => ⟨_, _, _, _, rfl, eB, b1, b2, b3⟩
      · rintro σ' H7 ⟨y6, y7, y8, y9, rfl, e7, g1, g2, g3⟩
        rw [lx, ← lm, List.take_length] at g2 g3
        rw [← finer_is] at g3
        have ln : ∀ {H8 : Hp}, Ex H7 H8 → Ev (tCB (rLenN (cxOf CX0 P w K mg base nKn "place_kinds" (defScope sKn) f cdv A outer s H E)) (tCons (tVar 4) tNil)) [some (.ref a), some (.ref Kd), none, some (.int (many : Int)), some (.ref N), some (.ref Fn), y6, y7, y8, y9] H8 (.int ((fsts (marks M ks)).length : Nat)) := fun e => ev_is (ev_cb (ea_cons (ev_var rfl) ea_nil) fun H9 e9 Q9 q9 => ⟨N, _, rfl, nums_mono (e.trans e9) g2, q9 H9 (Ex.refl H9)⟩) (by rw [List.length_map])
        refine q_when (b := decide ((fsts (marks M ks)).length = many)) (et_is (et_test (ev_op (ln (Ex.refl H7)) (ev_var rfl) (rv_eq rfl))) (by rw [vint_inj]; exact decide_eq_decide.mpr (by omega))) (fun hb H8 e8 => ?_) (fun hb H8 e8 => ?_)
        · have eq := of_decide_eq_true hb
          have : kindsF M = ks := by
            rw [← hl]
            unfold loopK
            rw [if_pos eq]
          refine s_retR ⟨_, rfl, ?_⟩
          exact k Kd H8 hK (e7.trans e8) (by rw [this]; exact e8 _ _ g1)
        · have ne := of_decide_eq_false hb
          refine q_asg (ln e8) fun H9 e9 => ?_
          refine s_asg (ev_var rfl) fun HA eA => ?_
          have EA := e8.trans (e9.trans eA)
          have le := (kinv_le inv).1
          refine ⟨fu, Nat.lt_succ_self fu, finer M ks, _, Fn, _, _, _, _, _, _, ?_, kinv_step ok inv, by omega, rfl, e7.trans EA, EA _ _ g3, FH⟩
          rw [← hl, loopK_succ, if_neg ne]
end
end K16
namespace K16
open PySem L2 Evl Gr StX EnT ClX RdX OwX OwC OpX Ls DnX
/-! ### dicts that number numbers -/
def numK : List Nat → Nat → List (Key × V)
  | [], _ => []
  | k :: ks, n => ((.inl (k : Int) : Key), .int (n : Int)) :: numK ks (n + 1)
theorem numK_len : ∀ (ks : List Nat) (n : Nat), (numK ks n).length = ks.length
  | [], _ => rfl
  | _ :: ks, n => by show (numK ks (n + 1)).length + 1 = _; rw [numK_len ks]; rfl
theorem key_ne {k j : Nat} (h : k ≠ j) : ¬ ((Sum.inl (k : Int) : Key) = Sum.inl (j : Int)) := fun z => h (by have := Sum.inl.inj z; omega)
theorem numK_no {j : Nat} : ∀ {ks : List Nat} {n : Nat}, j ∉ ks → valV (numK ks n) (.inl (j : Int) : Key) = none
  | [], _, _ => rfl
  | k :: ks, n, h => by
    show valV (((.inl (k : Int) : Key), V.int (n : Int)) :: numK ks (n + 1)) _ = none
    rw [valV_neg (key_ne (k := k) (j := j) fun z => h (by rw [z]; exact List.mem_cons_self))]
    exact numK_no fun z => h (List.mem_cons_of_mem _ z)
theorem numK_yes {j : Nat} : ∀ {ks : List Nat} {n : Nat}, j ∈ ks → valV (numK ks n) (.inl (j : Int) : Key) = some (.int ((n + ks.idxOf j : Nat) : Int))
  | k :: ks, n, h => by
    show valV (((.inl (k : Int) : Key), V.int (n : Int)) :: numK ks (n + 1)) _ = _
    by_cases c : k = j
    · subst c
      rw [valV_pos rfl, List.idxOf_cons_self]
      rfl
    · rw [valV_neg (key_ne c), numK_yes ((List.mem_cons.mp h).resolve_left fun z => c z.symm), List.idxOf_cons, show (k == j) = false from beq_eq_false_iff_ne.mpr c, cond_false, show n + 1 + ks.idxOf j = n + (ks.idxOf j + 1) by omega]
theorem numK_snoc {j : Nat} : ∀ {ks : List Nat} {n : Nat}, numK (ks ++ [j]) n = numK ks n ++ [((.inl (j : Int) : Key), .int ((n + ks.length : Nat) : Int))]
  | [], _ => rfl
  | k :: ks, n => by
    show ((.inl (k : Int) : Key), V.int (n : Int)) :: numK (ks ++ [j]) (n + 1) = ((.inl (k : Int) : Key), V.int (n : Int)) :: (numK ks (n + 1) ++ _)
    rw [numK_snoc, show n + 1 + ks.length = n + (k :: ks).length by rw [List.length_cons]; omega]
theorem numK_put {j : Nat} {ks : List Nat} (h : j ∉ ks) : putK (numK ks 0) (.inl (j : Int) : Key) (.int (ks.length : Nat)) = numK (ks ++ [j]) 0 := by
  unfold putK
  rw [valV_any, numK_no h, if_neg (by decide), numK_snoc, Nat.zero_add]
section
variable {K : PySem.W.Frag} {σ : L2.St} {H : Hp} {ta tb to ti te : TE}
theorem ev_ixQ {p : Addr} {xs : List V} {j : Nat} {v : V} (ha : Ev ta σ H (.ref p)) (hb : Ev tb σ H (.int (j : Int))) (hx : Sq K H p xs) (hv : xs[j]? = some v) : Ev (tOp (rIx K) ta tb) σ H v := ev_op ha hb fun H1 e Q q => by
  rcases hx with hx | hx
  · exact .inl ⟨p, xs, _, v, rfl, rfl, ex_l e hx, atI_nat hv, q H1 (Ex.refl H1)⟩
  · exact .inr (.inl ⟨p, xs, _, v, rfl, rfl, ex_t e hx, atI_nat hv, q H1 (Ex.refl H1)⟩)
theorem ev_dget {d : Addr} {kvs : List (Key × V)} {k : Key} {v : V} (ho : Ev to σ H (.ref d)) (hi : Ev ti σ H (kV k)) (hd : H d = some (.dK kvs)) (hv : valV kvs k = some v) : Ev (tDGet to ti) σ H v := fun H1 e Q q =>
  ho H1 e _ fun H2 e2 => hi H2 (e.trans e2) _ fun H3 e3 => ⟨d, v, rfl, by rw [← hv]; exact DGet.k ((e.trans (e2.trans e3)) _ _ hd), q H3 (e2.trans e3)⟩
theorem et_dnotin {d : Addr} {kvs : List (Key × V)} {k : Key} (hi : Ev ti σ H (kV k)) (ho : Ev to σ H (.ref d)) (hd : H d = some (.dK kvs)) : EvT (tB (tDNotIn ti to)) σ H (!(valV kvs k).isSome) := fun H1 e Q q =>
  hi H1 e _ fun H2 e2 => ho H2 (e.trans e2) _ fun H3 e3 => ⟨d, _, rfl, DGet.k (k := k) ((e.trans (e2.trans e3)) _ _ hd), _, rfl, q H3 (e2.trans e3)⟩
theorem q_dputE {tz : TS} {D : Ends} {d : Addr} {kvs : List (Key × V)} {k : Key} {v : V} (ho : Ev to σ H (.ref d)) (hi : Ev ti σ H (kV k)) (hd : H d = some (.dK kvs)) (hz : kvs.length < 100000) (h : Ev te σ H v)
    (kk : ∀ H1, Ex H H1 → tz D σ (upd H1 d (.dK (putK kvs k v)))) : tSeq (sDPut to ti te) tz D σ H := h H (Ex.refl H) _ fun H1 e1 => ho H1 e1 _ fun H2 e2 => hi H2 (e1.trans e2) _ fun H3 e3 => ⟨d, _, rfl, DPut.k ((e1.trans (e2.trans e3)) _ _ hd) (sz_lt hz), kk H3 (e1.trans (e2.trans e3))⟩
theorem q_forQ {Hb : Hp} {a : Addr} {xs : List V} {tl : TE} {g : TG} {tu tz : TS} {D : Ends} (h : Ev tl σ H (.ref a)) (hx : Sq K Hb a xs) (eb : Ex Hb H) (Pv : Nat → L2.St → Hp → Prop) (h0 : ∀ H1, Ex H H1 → Pv 0 σ H1) (hl : ∀ i σ' H', i ≤ xs.length → Pv i σ' H' → Ex Hb H')
    (hs : ∀ i x σ' H', xs[i]? = some x → Pv i σ' H' → g x σ' H' fun σ2 H2 => tu { D with nx := Pv (i + 1), ct := Pv (i + 1), bk := tz D } σ2 H2) (hd : ∀ σ' H', Pv xs.length σ' H' → tz D σ' H') : tSeq (tFor (iQ K tl) g tu) tz D σ H := by
  rcases hx with hx | hx
  · exact Or.inl (h H (Ex.refl H) _ fun H1 e1 => ⟨a, rfl, ⟨xs, ex_l (eb.trans e1) hx⟩, for_it (D := { D with nx := tz D }) (walk_list (a := a) (xs := xs)) Pv (h0 H1 e1) (fun i σ' H' hi p => ex_l (hl i σ' H' hi p) hx) (fun i v σ' H' H2 hi p y => by
      obtain ⟨rfl, hxi⟩ := y
      exact hs i v σ' H2 hxi p) hd⟩)
  · exact Or.inr (h H (Ex.refl H) _ fun H1 e1 => ⟨a, rfl, ⟨xs, ex_t (eb.trans e1) hx⟩, for_it (D := { D with nx := tz D }) (walk_tup (a := a) (xs := xs)) Pv (h0 H1 e1) (fun i σ' H' hi p => ex_t (hl i σ' H' hi p) hx) (fun i v σ' H' H2 hi p y => by
      obtain ⟨rfl, hxi⟩ := y
      exact hs i v σ' H2 hxi p) hd⟩)
end
theorem eu_tupV {K : PySem.W.Frag} {σ : L2.St} {H : Hp} {te : TE} {p : Addr} {xs : List V} (h : Ev te σ H (.ref p)) (hs : SqL K H p xs) : EvU (tThen te (kTup K)) σ H xs := fun H1 e Q q =>
  h H1 e _ fun H2 e2 => .inl ⟨p, xs, rfl, ex_l (e.trans e2) hs, fun r hr => q r _ (fresh_back e2 hr) (e2.trans (Ex.new hr)) upd_same⟩
/-- a tuple of pairs that are tuples -/
def PlT (H : Hp) (xs : List V) (M : List Pl) : Prop := xs.length = M.length ∧ ∀ (i : Nat) (x : V) (m : Pl), xs[i]? = some x → M[i]? = some m → ∃ a, x = .ref a ∧ H a = some (.tup (pV m))
def MT (H : Hp) (a : Addr) (M : List Pl) : Prop := ∃ xs, H a = some (.tup xs) ∧ PlT H xs M
theorem PlT.mono {H H' : Hp} {xs : List V} {M : List Pl} (e : Ex H H') (h : PlT H xs M) : PlT H' xs M := ⟨h.1, fun i x m hx hm => by
  obtain ⟨a, h1, h2⟩ := h.2 i x m hx hm
  exact ⟨a, h1, e _ _ h2⟩⟩
theorem MT.mono {H H' : Hp} {a : Addr} {M : List Pl} (e : Ex H H') (h : MT H a M) : MT H' a M := by
  obtain ⟨xs, h1, h2⟩ := h
  exact ⟨xs, e _ _ h1, h2.mono e⟩
theorem MT.at {K : PySem.W.Frag} {H : Hp} {a : Addr} {M : List Pl} (h : MT H a M) : MAt K H a M := by
  obtain ⟨xs, h1, h2⟩ := h
  refine ⟨xs, .inr (st_of h1), h2.1, fun i x m hx hm => ?_⟩
  obtain ⟨b, e, hb⟩ := h2.2 i x m hx hm
  exact ⟨b, e, .inr (st_of hb)⟩
theorem plt_nil {H : Hp} : PlT H [] [] := ⟨rfl, fun i x m hx => by cases hx⟩
theorem PlT.snoc {H : Hp} {xs : List V} {M : List Pl} {b : Addr} {m : Pl} (h : PlT H xs M) (hb : H b = some (.tup (pV m))) : PlT H (xs ++ [.ref b]) (M ++ [m]) := ⟨by rw [List.length_append, List.length_append, h.1]; rfl, fun i x u hx hu => by
  rcases Nat.lt_or_ge i xs.length with c | c
  · rw [List.getElem?_append_left c] at hx
    rw [List.getElem?_append_left (by rw [← h.1]; exact c)] at hu
    exact h.2 i x u hx hu
  · rw [List.getElem?_append_right c] at hx
    rw [List.getElem?_append_right (by rw [← h.1]; exact c), ← h.1] at hu
    cases e : i - xs.length with
    | zero => rw [e] at hx hu; cases hx; cases hu; exact ⟨b, rfl, hb⟩
    | succ n => rw [e] at hx; cases hx⟩
theorem plt_keep {H H' : Hp} {xs : List V} {M : List Pl} (ht : ∀ b ys, H b = some (.tup ys) → H' b = some (.tup ys)) (h : PlT H xs M) : PlT H' xs M := ⟨h.1, fun i x m hx hm => by
  obtain ⟨a, h1, h2⟩ := h.2 i x m hx hm
  exact ⟨a, h1, ht _ _ h2⟩⟩
section
variable {P : Program} {w : World} {K : PySem.W.Frag} {mg : Str → Option Value} {base : Heap}
abbrev sLs : Stmt := top 20
abbrev nLs : List Str := ["places", "kinds", "order", "numbers", "rows", "row", "pair", "place"]
def spLs (K : PySem.W.Frag) : Sp := fun vs H Q _ => ∃ (a : Addr) (M : List Pl), vs = [.ref a] ∧ MAt K H a M ∧ OkM M ∧ 1 ≤ M.length ∧ M.length ≤ 100 ∧ ∀ p H', H p = none → Ex H H' → MT H' p (least M) → Q (.ref p) H'
theorem scLs : FnScope nLs ["places"] (defScope sLs) := ⟨rfl, rfl, rfl, by decide +kernel, rfl, by decide +kernel, by decide +kernel⟩
abbrev rLQ (K : PySem.W.Frag) : List V → Hp → VK → Prop := fun xs H Q => ∃ p ys, xs = [V.ref p] ∧ (SqL K H p ys ∨ SqT K H p ys) ∧ Q (.int ys.length) H
theorem noSl_name {x : Str} {p : Pos} : NoSl (.Name x p) := fun _ _ => rfl
theorem ok_Ls {f : Addr} {fd : FuncData} (F : Fun K "least_places" "least_places" sLs f fd) (S : GlbS mg) (GK : Gfn P w K mg base 1 "place_kinds" ["places"] (spKn K)) : FnOk P w K mg base CX0 2 f fd ["places"] (spLs K) := by
  obtain ⟨fK, fdK, GK, kK, bK, gK⟩ := GK
  refine F.ok scLs (fun vs H Q E h => ?_) (fun cdv A outer s H vs Q E hr h => ?_)
  · obtain ⟨a, M, rfl, _⟩ := h
    rfl
  · obtain ⟨a, M, rfl, hM, ok, l1, l100, k⟩ := h
    have hu : (A.deeper (PyProof.Rows.envOfC "least_places" (defScope sLs) s.heap.objs.size f cdv)).units + 1 < cLine := by
      have := hr.un
      omega
    refine ⟨_, (pss_cons (ps_set (i := 1) scLs.nd rfl (.inl rfl) (pe_call GK hr (by rfl) gK kK bK .nil pass0 (pa_cons (pv 0) pa_nil)))
      (pss_cons (ps_set (i := 2) scLs.nd rfl (.inl rfl) (pe_lst (pa_cons pe_int pa_nil)))
      (pss_cons (ps_set (i := 3) scLs.nd rfl (.inl rfl) (pe_disp (pps_cons (pe_ix (show IxR _ (rIxL K) from ix_list) (pv 1) pe_int (fun _ _ => rfl)) pe_int pps_nil) rfl rfl (by decide) (by decide)))
      (pss_cons (ps_set (i := 4) scLs.nd rfl (.inl rfl) (pe_lst pa_nil))
      (pss_cons (ps_while PassesOwn.never (pt_cmpR op_lt (pe_callB call_len_seq (by rfl) S.len PySem.boot_len (pa_cons (pv 4) pa_nil)) (pe_callB call_len_seq (by rfl) S.len PySem.boot_len (pa_cons (pv 2) pa_nil)) (nomark _))
        (pss_cons (ps_set (i := 5) scLs.nd rfl (.inl rfl) (pe_lst pa_nil))
      (pss_cons (ps_set (i := 6) scLs.nd rfl (.inl rfl) (pe_ix (show IxR _ (rIx K) from ix_seq) (pv 0) (pe_ix (show IxR _ (rIxL K) from ix_list) (pv 2) (pe_callB call_len_seq (by rfl) S.len PySem.boot_len (pa_cons (pv 4) pa_nil)) (fun _ _ => rfl)) (fun _ _ => rfl)))
      (pss_cons (ps_for PassesOwn.never rfl (pi_seq (pv 6)) (pg_name (i := 7) scLs.nd rfl (.inl rfl))
            (pss_cons (ps_if (pt_cmpR op_isN1 (pv 7) pe_non (nomark _)) (pss_cons (ps_expr (pe_bm PySem.F.plainAttrs_list PySem.F.slot_list_append PySem.F.type_list_append mt_append (pv 5) (pa_cons pe_non pa_nil)))
      (pss_one ps_continue)) pss_nil)
      (pss_cons (ps_if (pt_cmp (pc_dnotin hu (pe_ix (show IxR _ (rIxL K) from ix_list) (pv 1) (pv 7) (fun _ _ => rfl)) (pv 3))) (pss_cons (ps_dput hu (pv 3) (pe_ix (show IxR _ (rIxL K) from ix_list) (pv 1) (pv 7) (fun _ _ => rfl)) (pe_callB call_len_seq (by rfl) S.len PySem.boot_len (pa_cons (pv 2) pa_nil)) rfl)
      (pss_one (ps_expr (pe_bm PySem.F.plainAttrs_list PySem.F.slot_list_append PySem.F.type_list_append mt_append (pv 2) (pa_cons (pv 7) pa_nil))))) pss_nil)
      (pss_one (ps_expr (pe_bm PySem.F.plainAttrs_list PySem.F.slot_list_append PySem.F.type_list_append mt_append (pv 5) (pa_cons (pe_dget hu (pv 3) (pe_ix (show IxR _ (rIxL K) from ix_list) (pv 1) (pv 7) (fun _ _ => rfl)) (fun _ _ => rfl)) pa_nil)))))))
      (pss_one (ps_expr (pe_bm PySem.F.plainAttrs_list PySem.F.slot_list_append PySem.F.type_list_append mt_append (pv 4) (pa_cons (pe_tupleOf (by rfl) S.tuple (pv 5)) pa_nil))))))))
      (pss_one (ps_ret (pe_tupleOf (by rfl) S.tuple (pv 4))))))))), ?_⟩
    obtain ⟨xs, hx, row⟩ := hM
    obtain ⟨klen, _⟩ := kOf_same ok l1
    obtain ⟨oin, ond, _, _, oln⟩ := order_is ok l1
    have st : Stands (kOf M) id (· < M.length) := stands_id
    have cl := closedP_lt ok
    refine q_asgR ⟨_, rfl, a, M, rfl, ⟨xs, hx, row⟩, ok, l1, l100, fun Kd H1 hK e1 h1 => ?_⟩
    have kd : ∀ j, j < M.length → (vN (kindsF M))[j]? = some (.int (kOf M j : Nat)) := fun j hj => vN_at (by unfold kOf at0; rw [List.getD_eq_getElem?_getD, List.getElem?_eq_getElem (by rw [klen]; exact hj)]; rfl)
    refine q_asgL (el_lst (ea_cons ev_c ea_nil) (by show 1 ≤ 100000; decide)) fun Od H2 hO e2 h2 => ?_
    refine q_asgR fun d hd => ?_
    have e3 := Ex.new (o := .dK []) hd
    have E3 := (e1.trans e2).trans e3
    have dH : H d = none := fresh_back (e1.trans e2) hd
    have OH : H Od = none := fresh_back e1 hO
    have KO : Kd ≠ Od := fun z => by rw [← z, h1] at hO; cases hO
    have Kdd : Kd ≠ d := fun z => by rw [← z, e2 _ _ h1] at hd; cases hd
    have Odd : Od ≠ d := fun z => by rw [← z, h2] at hd; cases hd
    have h1 := e3 _ _ (e2 _ _ h1)
    have h2 := e3 _ _ h2
    have h3 : upd H2 d (.dK []) d = some (.dK []) := upd_same
    generalize upd H2 d (.dK []) = H3 at e3 E3 h1 h2 h3 ⊢
    refine ev_op (z := .int (kOf M 0 : Nat)) (ev_var (i := 1) rfl) ev_c (rv_ixL (sq_of h1) (atI_nat (kd 0 l1))) H3 (Ex.refl H3) _ fun H4 e4 => ⟨e4 _ _ h3, [((.inl (kOf M 0 : Int) : Key), .int 0)], rfl, (by show 1 ≤ 15; decide), ?_⟩
    have E5 : Ex H (upd H4 d (.dK (mergeK [] [((.inl (kOf M 0 : Int) : Key), .int 0)]))) := Ex.mut (E3.trans e4) dH
    have h5 : upd H4 d (.dK (mergeK [] [((.inl (kOf M 0 : Int) : Key), .int 0)])) d = some (.dK (numK (([0] : List Nat).map (kOf M)) 0)) := upd_same
    have k5 : upd H4 d (.dK (mergeK [] [((.inl (kOf M 0 : Int) : Key), .int 0)])) Kd = some (.lst (vN (kindsF M))) := by rw [upd_ne Kdd]; exact e4 _ _ h1
    have o5 : upd H4 d (.dK (mergeK [] [((.inl (kOf M 0 : Int) : Key), .int 0)])) Od = some (.lst (vN [0])) := by rw [upd_ne Odd]; exact e4 _ _ h2
    show tSeq _ _ _ [some (.ref a), some (.ref Kd), some (.ref Od), some (.ref d), none, none, none, none] (upd H4 d (.dK (mergeK [] [((.inl (kOf M 0 : Int) : Key), .int 0)])))
    generalize upd H4 d (.dK (mergeK [] [((.inl (kOf M 0 : Int) : Key), .int 0)])) = H5 at E5 h5 k5 o5 ⊢
    refine q_asgL (xs := []) el_nil fun Rw H6 hR e6 r6 => ?_
    have RH : H Rw = none := fresh_back E5 hR
    have RK : Rw ≠ Kd := fun z => by rw [z, k5] at hR; cases hR
    have RO : Rw ≠ Od := fun z => by rw [z, o5] at hR; cases hR
    have Rd : Rw ≠ d := fun z => by rw [z, h5] at hR; cases hR
    refine q_while (fun m σ' H' => ∃ (i : Nat) (ord : List Nat) (ys : List V) (x5 x6 x7 : Option V), m + i = M.length + 1 ∧ walk (kOf M) id M m i ord = orderF M ∧ i ≤ ord.length ∧ (∀ p ∈ ord, p < M.length) ∧ (ord.map (kOf M)).Nodup ∧ σ' = [some (.ref a), some (.ref Kd), some (.ref Od), some (.ref d), some (.ref Rw), x5, x6, x7] ∧
      Ex H H' ∧ H' Kd = some (.lst (vN (kindsF M))) ∧ H' Od = some (.lst (vN ord)) ∧ H' d = some (.dK (numK (ord.map (kOf M)) 0)) ∧ H' Rw = some (.lst ys) ∧ PlT H' ys ((ord.take i).map (rowOf (kOf M) M (orderF M)))) (M.length + 1)
      ⟨0, [0], [], none, none, none, rfl, rfl, Nat.zero_le _, (fun p hp => by rw [List.mem_singleton.mp hp]; omega), by simp, rfl, E5.trans e6, e6 _ _ k5, e6 _ _ o5, e6 _ _ h5, r6, plt_nil⟩ ?_
    rintro m σ' H7 ⟨i, ord, ys, x5, x6, x7, hm, hw, li, oi, nd, rfl, e7, k7, o7, d7, r7, p7⟩
    have few := ord_few oi nd
    have ly : ys.length = i := by rw [p7.1, List.length_map, List.length_take]; omega
    have lr : ∀ {σ2 : L2.St} {H8 : Hp}, Ex H7 H8 → σ2[4]? = some (some (.ref Rw)) → Ev (tCB (rLQ K) (tCons (tVar 4) tNil)) σ2 H8 (.int (i : Int)) := fun e hσ => ev_is (ev_cb (ea_cons (ev_var hσ) ea_nil) (rc_lenQ (.inl (sq_of (e _ _ r7))))) (by rw [ly])
    refine ⟨decide (i < ord.length), et_is (et_test (ev_op (lr (Ex.refl H7) rfl) (ev_is (ev_cb (ea_cons (ev_var rfl) ea_nil) (rc_lenQ (.inl (sq_of o7)))) (by rw [vN_len])) rv_I0)) (decide_eq_decide.mpr (by omega)), fun hb H8 e8 => ⟨_, fun _ _ h => h, ?_⟩, fun hb H8 e8 => ?_⟩
    · have lt := of_decide_eq_true hb
      obtain ⟨f', rfl⟩ : ∃ f', m = f' + 1 := ⟨m - 1, by omega⟩
      have hp := List.getElem?_eq_getElem lt
      generalize ord[i] = p at hp
      have pl := oi p (List.mem_of_getElem? hp)
      have hw2 : walk (kOf M) id M f' (i + 1) (visit (kOf M) id M ord p) = orderF M := by
        rw [← hw]
        show _ = (match ord[i]? with | some p => walk (kOf M) id M f' (i + 1) (visit (kOf M) id M ord p) | none => ord)
        rw [hp]
      obtain ⟨mo, hmo⟩ := walk_more (k := kOf M) (ρ := id) (M := M) f' (i + 1) (visit (kOf M) id M ord p)
      rw [hw2] at hmo
      have lp : p < xs.length := by rw [row.1]; exact pl
      have hM' := List.getElem?_eq_getElem lp
      obtain ⟨b, ⟨m1, m2⟩, hmp, ex, hb'⟩ := row.at hM'
      have okm := ok _ (List.mem_of_getElem? hmp)
      have emp : M.getD p (0, none) = (m1, m2) := by rw [List.getD_eq_getElem?_getD, hmp]; rfl
      have ek : kept M p = m1 := by unfold kept; rw [emp]
      have el : lost M p = m2 := by unfold lost; rw [emp]
      refine q_asgL (xs := []) el_nil fun Ro H9 hRo e9 r9 => ?_
      have E9 := e8.trans e9
      have RoH : H Ro = none := fresh_back (e7.trans e8) hRo
      have n1 : Ro ≠ Kd := fun z => by rw [z, e8 _ _ k7] at hRo; cases hRo
      have n2 : Ro ≠ Od := fun z => by rw [z, e8 _ _ o7] at hRo; cases hRo
      have n3 : Ro ≠ d := fun z => by rw [z, e8 _ _ d7] at hRo; cases hRo
      have n4 : Ro ≠ Rw := fun z => by rw [z, e8 _ _ r7] at hRo; cases hRo
      refine q_asg (v := .ref b) (ev_ixQ (xs := xs) (j := p) (ev_var rfl) (ev_op (ev_var rfl) (lr E9 rfl) (rv_ixL (sq_of (E9 _ _ o7)) (atI_nat (vN_at hp)))) (sq_mono (e7.trans E9) hx) (by rw [hM', ex])) fun HA eA => ?_
      have EA := E9.trans eA
      have inO : ∀ {o' : List Nat} {x : Nat}, (∃ more, visit (kOf M) id M ord p = o' ++ more) → kOf M x ∈ o'.map (kOf M) → (o'.map (kOf M)).idxOf (kOf M x) = ((orderF M).map (kOf M)).idxOf (kOf M x) := fun {o' x} ⟨more, h⟩ hx => by
        rw [hmo, h, List.map_append, List.map_append, List.append_assoc, idx_more hx]
      have one : ∀ {D : Ends} {o' : List Nat} {r' : List V} {q : Nat} {HB : Hp} {x7 : Option V}, q < M.length → (∀ p ∈ o', p < M.length) → o'.length ≤ 100 → r'.length ≤ 2 → (∃ more, visit (kOf M) id M ord p = grow (kOf M) id o' (some q) ++ more) → Ex H HB → HB Kd = some (.lst (vN (kindsF M))) → HB Od = some (.lst (vN o')) → HB d = some (.dK (numK (o'.map (kOf M)) 0)) → HB Rw = some (.lst ys) → PlT HB ys ((ord.take i).map (rowOf (kOf M) M (orderF M))) → HB Ro = some (.lst r') →
          (∀ H', Ex H H' → H' Kd = some (.lst (vN (kindsF M))) → H' Od = some (.lst (vN (grow (kOf M) id o' (some q)))) → H' d = some (.dK (numK ((grow (kOf M) id o' (some q)).map (kOf M)) 0)) → H' Rw = some (.lst ys) → PlT H' ys ((ord.take i).map (rowOf (kOf M) M (orderF M))) → H' Ro = some (.lst (r' ++ [.int (((orderF M).map (kOf M)).idxOf (kOf M q) : Nat)])) → D.nx [some (.ref a), some (.ref Kd), some (.ref Od), some (.ref d), some (.ref Rw), some (.ref Ro), some (.ref b), some (.int (q : Int))] H') →
          tSeq (tIfS (tTest (tOp rIsN (tVar 7) (tC .non))) (tSeq (tDrop (tBM K "list" rAppend (tVar 5) (tCons (tC .non) tNil))) tCont) tNext) (tSeq (tIfS (tB (tDNotIn (tOp (rIxL K) (tVar 1) (tVar 7)) (tVar 3))) (tSeq (sDPut (tVar 3) (tOp (rIxL K) (tVar 1) (tVar 7)) (tCB (rLQ K) (tCons (tVar 2) tNil))) (tDrop (tBM K "list" rAppend (tVar 2) (tCons (tVar 7) tNil)))) tNext) (tDrop (tBM K "list" rAppend (tVar 5) (tCons (tDGet (tVar 3) (tOp (rIxL K) (tVar 1) (tVar 7))) tNil)))) D
            [some (.ref a), some (.ref Kd), some (.ref Od), some (.ref d), some (.ref Rw), some (.ref Ro), some (.ref b), some (.int (q : Int))] HB := fun {D o' r' q HB x7} hq oi' l' lr' vis eB kB oB dB rB pB roB fin => by
        refine q_when (b := false) (et_is (et_test (ev_op (ev_var rfl) ev_c fun HC _ Q9 q9 => ⟨rfl, q9 HC (Ex.refl HC)⟩)) (decide_eq_false fun z => by cases z)) (fun y => absurd y (by decide)) fun _ HC eC => ?_
        have kx : ∀ {HD : Hp}, Ex HB HD → Ev (tOp (rIxL K) (tVar 1) (tVar 7)) [some (.ref a), some (.ref Kd), some (.ref Od), some (.ref d), some (.ref Rw), some (.ref Ro), some (.ref b), some (.int (q : Int))] HD (kV (.inl (kOf M q : Int) : Key)) := fun e => ev_op (ev_var rfl) (ev_var rfl) (rv_ixL (sq_of (e _ _ kB)) (atI_nat (kd q hq)))
        have kx' : ∀ {HD : Hp}, HD Kd = some (.lst (vN (kindsF M))) → Ev (tOp (rIxL K) (tVar 1) (tVar 7)) [some (.ref a), some (.ref Kd), some (.ref Od), some (.ref d), some (.ref Rw), some (.ref Ro), some (.ref b), some (.int (q : Int))] HD (kV (.inl (kOf M q : Int) : Key)) := fun e => ev_op (ev_var rfl) (ev_var rfl) (rv_ixL (sq_of e) (atI_nat (kd q hq)))
        have tail : ∀ {HD : Hp}, Ex H HD → HD Kd = some (.lst (vN (kindsF M))) → HD Od = some (.lst (vN (grow (kOf M) id o' (some q)))) → HD d = some (.dK (numK ((grow (kOf M) id o' (some q)).map (kOf M)) 0)) → HD Rw = some (.lst ys) → PlT HD ys ((ord.take i).map (rowOf (kOf M) M (orderF M))) → HD Ro = some (.lst r') →
            tDrop (tBM K "list" rAppend (tVar 5) (tCons (tDGet (tVar 3) (tOp (rIxL K) (tVar 1) (tVar 7))) tNil)) D [some (.ref a), some (.ref Kd), some (.ref Od), some (.ref d), some (.ref Rw), some (.ref Ro), some (.ref b), some (.int (q : Int))] HD := fun {HD} a0 a1 a2 a3 a4 a5 a6 => by
          have mem := grow_mem (S := (· < M.length)) st (ord := o') hq
          refine s_app (K := K) (xs := r') (v := .int (((orderF M).map (kOf M)).idxOf (kOf M q) : Nat)) a6 (ev_var rfl) (ev_dget (ev_var rfl) (kx' a1) a3 (by rw [numK_yes mem, Nat.zero_add, inO vis mem])) (by omega) fun HE eE => ?_
          exact fin _ (Ex.mut (a0.trans eE) RoH) (by rw [upd_ne n1.symm]; exact eE _ _ a1) (by rw [upd_ne n2.symm]; exact eE _ _ a2) (by rw [upd_ne n3.symm]; exact eE _ _ a3) (by rw [upd_ne n4.symm]; exact eE _ _ a4) (plt_keep (fun c zs hc => by rw [upd_ne fun z => by rw [z, eE _ _ a6] at hc; cases hc]; exact hc) (a5.mono eE)) upd_same
        refine q_when (b := !(valV (numK (o'.map (kOf M)) 0) (.inl (kOf M q : Int) : Key)).isSome) (et_dnotin (kx eC) (ev_var rfl) (eC _ _ dB)) (fun hb HD eD => ?_) (fun hb HD eD => ?_)
        · have no : kOf M q ∉ o'.map (kOf M) := fun z => by rw [numK_yes z] at hb; cases hb
          have ED := eC.trans eD
          have gr : grow (kOf M) id o' (some q) = o' ++ [q] := by rw [grow_some, if_neg no]; rfl
          refine q_dputE (v := .int ((o'.map (kOf M)).length : Nat)) (ev_var rfl) (kx ED) (ED _ _ dB) (by rw [numK_len, List.length_map]; omega) (ev_is (ev_cb (ea_cons (ev_var rfl) ea_nil) (rc_lenQ (.inl (sq_of (ED _ _ oB))))) (by rw [vN_len, List.length_map])) fun HE eE => ?_
          rw [numK_put no]
          have EE := ED.trans eE
          have oE : upd HE d (.dK (numK (o'.map (kOf M) ++ [kOf M q]) 0)) Od = some (.lst (vN o')) := by rw [upd_ne Odd]; exact EE _ _ oB
          have xE : Ex H (upd HE d (.dK (numK (o'.map (kOf M) ++ [kOf M q]) 0))) := Ex.mut (eB.trans EE) dH
          have kE : upd HE d (.dK (numK (o'.map (kOf M) ++ [kOf M q]) 0)) Kd = some (.lst (vN (kindsF M))) := by rw [upd_ne Kdd]; exact EE _ _ kB
          have rE : upd HE d (.dK (numK (o'.map (kOf M) ++ [kOf M q]) 0)) Rw = some (.lst ys) := by rw [upd_ne Rd]; exact EE _ _ rB
          have roE : upd HE d (.dK (numK (o'.map (kOf M) ++ [kOf M q]) 0)) Ro = some (.lst r') := by rw [upd_ne n3]; exact EE _ _ roB
          have pE : PlT (upd HE d (.dK (numK (o'.map (kOf M) ++ [kOf M q]) 0))) ys ((ord.take i).map (rowOf (kOf M) M (orderF M))) := plt_keep (fun c zs hc => by rw [upd_ne fun z => by rw [z, EE _ _ dB] at hc; cases hc]; exact hc) (pB.mono EE)
          have dE : upd HE d (.dK (numK (o'.map (kOf M) ++ [kOf M q]) 0)) d = some (.dK (numK (o'.map (kOf M) ++ [kOf M q]) 0)) := upd_same
          generalize upd HE d (.dK (numK (o'.map (kOf M) ++ [kOf M q]) 0)) = HF at oE xE kE rE roE pE dE ⊢
          refine s_app (K := K) (xs := vN o') (v := .int (q : Int)) oE (ev_var rfl) (ev_var rfl) (by rw [vN_len]; omega) fun HG eG => ?_
          refine tail (Ex.mut (xE.trans eG) OH) (by rw [upd_ne KO]; exact eG _ _ kE) (by rw [upd_same, gr, vN_app]) (by rw [upd_ne Odd.symm, gr, List.map_append]; exact eG _ _ dE) (by rw [upd_ne RO]; exact eG _ _ rE) (plt_keep (fun c zs hc => by rw [upd_ne fun z => by rw [z, eG _ _ oE] at hc; cases hc]; exact hc) (pE.mono eG)) (by rw [upd_ne n2]; exact eG _ _ roE)
        · have yes : kOf M q ∈ o'.map (kOf M) := Decidable.byContradiction fun z => by rw [numK_no z] at hb; cases hb
          have ED := eC.trans eD
          have gr : grow (kOf M) id o' (some q) = o' := by rw [grow_some, if_pos yes]
          exact tail (eB.trans ED) (ED _ _ kB) (by rw [gr]; exact ED _ _ oB) (by rw [gr]; exact ED _ _ dB) (ED _ _ rB) (pB.mono ED) (ED _ _ roB)
      have v2 : visit (kOf M) id M ord p = grow (kOf M) id (grow (kOf M) id ord (some m1)) m2 := by unfold visit; rw [ek, el]
      have gin : ∀ p ∈ grow (kOf M) id ord (some m1), p < M.length := grow_in (S := (· < M.length)) st (fun q e => by cases e; exact okm.1) oi
      have gnd : ((grow (kOf M) id ord (some m1)).map (kOf M)).Nodup := grow_nd (S := (· < M.length)) st (fun q e => by cases e; exact okm.1) nd
      have gfew := ord_few gin gnd
      refine q_forQ (K := K) (Hb := H) (a := b) (xs := pV (m1, m2)) (ev_var rfl) hb' (e7.trans EA) (fun j σ' H' => ∃ (x7 : Option V) (o' : List Nat) (r' : List V), σ' = [some (.ref a), some (.ref Kd), some (.ref Od), some (.ref d), some (.ref Rw), some (.ref Ro), some (.ref b), x7] ∧ Ex H H' ∧ H' Kd = some (.lst (vN (kindsF M))) ∧ H' Od = some (.lst (vN o')) ∧ H' d = some (.dK (numK (o'.map (kOf M)) 0)) ∧ H' Rw = some (.lst ys) ∧ PlT H' ys ((ord.take i).map (rowOf (kOf M) M (orderF M))) ∧ H' Ro = some (.lst r') ∧
          (j = 0 → o' = ord ∧ r' = []) ∧ (j = 1 → o' = grow (kOf M) id ord (some m1) ∧ r' = [.int (((orderF M).map (kOf M)).idxOf (kOf M m1) : Nat)]) ∧ (j = 2 → o' = visit (kOf M) id M ord p ∧ r' = pV (rowOf (kOf M) M (orderF M) p)))
        (fun HB eB => ⟨x7, ord, [], rfl, (e7.trans EA).trans eB, (EA.trans eB) _ _ k7, (EA.trans eB) _ _ o7, (EA.trans eB) _ _ d7, (EA.trans eB) _ _ r7, p7.mono (EA.trans eB), (eA.trans eB) _ _ r9, fun _ => ⟨rfl, rfl⟩, fun y => absurd y (by decide), fun y => absurd y (by decide)⟩) (fun _ _ _ _ ⟨_, _, _, _, e, _⟩ => e) ?_ ?_
      · rintro j x σ' HB hx' ⟨y7, o', r', rfl, eB, kB, oB, dB, rB, pB, roB, c0, c1, _⟩
        match j, hx' with
        | 0, hx' =>
          cases hx'
          obtain ⟨rfl, rfl⟩ := c0 rfl
          refine one (x7 := none) okm.1 oi (by omega) (by decide) (by rw [v2]; exact grow_more m2) eB kB oB dB rB pB roB fun H' b0 b1 b2 b3 b4 b5 b6 => ⟨_, _, _, rfl, b0, b1, b2, b3, b4, b5, b6, fun y => absurd y (by decide), fun _ => ⟨rfl, rfl⟩, fun y => absurd y (by decide)⟩
        | 1, hx' =>
          cases hx'
          obtain ⟨rfl, rfl⟩ := c1 rfl
          have rw_ : pV (rowOf (kOf M) M (orderF M) p) = [.int (((orderF M).map (kOf M)).idxOf (kOf M m1) : Nat), oV (m2.map fun l => ((orderF M).map (kOf M)).idxOf (kOf M l))] := by
            unfold pV rowOf
            rw [ek, el]
          cases m2 with
          | none =>
            refine q_when (b := true) (et_is (et_test (ev_op (ev_var (i := 7) rfl) ev_c fun HC _ Q9 q9 => ⟨rfl, q9 HC (Ex.refl HC)⟩)) (decide_eq_true rfl)) (fun _ HC eC => ?_) (fun y => absurd y (by decide))
            refine s_app (K := K) (v := .non) (eC _ _ roB) (ev_var rfl) ev_c (by show 1 < 100000; decide) fun HE eE => ?_
            have EE := eC.trans eE
            exact ⟨_, _, _, rfl, Ex.mut (eB.trans EE) RoH, (by rw [upd_ne n1.symm]; exact EE _ _ kB), (by rw [upd_ne n2.symm]; exact EE _ _ oB), (by rw [upd_ne n3.symm]; exact EE _ _ dB), (by rw [upd_ne n4.symm]; exact EE _ _ rB), plt_keep (fun c zs hc => by rw [upd_ne fun z => by rw [z, EE _ _ roB] at hc; cases hc]; exact hc) (pB.mono EE), upd_same, fun y => absurd y (by decide), fun y => absurd y (by decide), fun _ => ⟨v2.symm, by rw [rw_]; rfl⟩⟩
          | some q =>
            refine one (x7 := none) (okm.2 q rfl) gin (by omega) (by show 1 ≤ 2; decide) ⟨[], by rw [v2, List.append_nil]⟩ eB kB oB dB rB pB roB fun H' b0 b1 b2 b3 b4 b5 b6 => ⟨_, _, _, rfl, b0, b1, b2, b3, b4, b5, b6, fun y => absurd y (by decide), fun y => absurd y (by decide), fun _ => ⟨v2.symm, by rw [rw_]; rfl⟩⟩
        | j + 2, hx' => cases hx'
      · rintro σ' HB ⟨y7, o', r', rfl, eB, kB, oB, dB, rB, pB, roB, _, _, c2⟩
        obtain ⟨rfl, rfl⟩ := c2 rfl
        refine s_appU (K := K) rB (ev_var rfl) (eu_tupV (ev_var rfl) (sq_of roB)) (by rw [ly]; omega) fun T HC hT eC hTc => ?_
        refine ⟨f', Nat.lt_succ_self f', i + 1, _, _, _, _, _, by omega, hw2, ?_, visit_in (S := (· < M.length)) st cl pl oi, visit_nd (S := (· < M.length)) st cl pl nd, rfl, Ex.mut (eB.trans eC) RH, (by rw [upd_ne RK.symm]; exact eC _ _ kB), (by rw [upd_ne RO.symm]; exact eC _ _ oB), (by rw [upd_ne Rd.symm]; exact eC _ _ dB), upd_same, ?_⟩
        · obtain ⟨more, hmr⟩ := visit_more (k := kOf M) (ρ := id) (M := M) (ord := ord) p
          rw [hmr, List.length_append]
          omega
        · obtain ⟨more, hmr⟩ := visit_more (k := kOf M) (ρ := id) (M := M) (ord := ord) p
          have tk : (visit (kOf M) id M ord p).take (i + 1) = ord.take i ++ [p] := by
            rw [hmr, List.take_append_of_le_length (by omega), List.take_add_one, hp]
            rfl
          rw [tk, List.map_append]
          exact plt_keep (fun c zs hc => by rw [upd_ne fun z => by rw [z, eC _ _ rB] at hc; cases hc]; exact hc) ((pB.mono eC).snoc hTc)
    · have ge : ord.length ≤ i := Nat.le_of_not_lt (of_decide_eq_false hb)
      have eo : orderF M = ord := by
        rw [← hw]
        cases m with
        | zero => rfl
        | succ f' =>
          show (match ord[i]? with | some p => walk (kOf M) id M f' (i + 1) (visit (kOf M) id M ord p) | none => ord) = ord
          rw [List.getElem?_eq_none ge]
      have ei : i = ord.length := Nat.le_antisymm li ge
      refine s_retR ?_
      refine eu_tupV (ev_var rfl) (sq_of (e8 _ _ r7)) H8 (Ex.refl H8) _ fun T H9 hT e9 h9 => ?_
      refine k T H9 (fresh_back (e7.trans e8) hT) ((e7.trans e8).trans e9) ⟨ys, h9, ?_⟩
      have := p7.mono (e8.trans e9)
      rw [ei, List.take_length, ← eo] at this
      exact this
end
end K16
namespace K16
open PySem L2 Evl Gr StX EnT ClX RdX OwX OwC OpX Ls DnX
section
variable {K : PySem.W.Frag} {σ : L2.St} {H : Hp}
theorem kit_lt {T : String} (h : T = "list" ∨ T = "tuple") : PySem.W.kitAny K (.type T) [.type "list", .type "tuple"] = some true := by
  rcases h with rfl | rfl
  · exact kitAny_cons (b := true) (kit_ty (by decide +kernel)) (fun h => absurd h (by decide)) fun _ => rfl
  · exact kitAny_cons (b := false) (kit_ty (by decide +kernel)) (fun _ => kitAny_cons (b := true) (kit_ty (by decide +kernel)) (fun h => absurd h (by decide)) fun _ => rfl) fun h => absurd h (by decide)
/-- isinstance(e, (list, tuple)), e one of both -/
theorem ev_isLT {ta : TE} {a : Addr} {xs : List V} (ha : Ev ta σ H (.ref a)) (h : Sq K H a xs) : Ev (tCB (rIsiT K) (tCons ta (tCons (tTup (tCons (tC (.ty "list")) (tCons (tC (.ty "tuple")) tNil))) tNil))) σ H (.bl true) := fun H1 e Q q =>
  ha H1 e _ fun H2 e2 => eu_tup (σ := σ) (H := H2) (ea_cons ev_c (ea_cons ev_c ea_nil)) (by show 2 ≤ 100000; decide) H2 (Ex.refl H2) _ fun p H3 _ e3 h3 => by
    obtain ⟨T, ty, hT⟩ := sq_ty (h.mono ((e.trans e2).trans e3))
    exact ⟨_, p, _, _, _, true, rfl, h3, .cons (.ty "list") (.cons (.ty "tuple") .nil), ty, kit_lt hT, q H3 (e2.trans e3)⟩
end
section
variable {P : Program} {w : World} {K : PySem.W.Frag} {mg : Str → Option Value} {base : Heap}
/-! ### few_places, is_place_pair -/
abbrev sFp : Stmt := top 27
def spFp (K : PySem.W.Frag) : Sp := fun vs H Q _ => ∃ (a : Addr) (M : List Pl), vs = [.ref a] ∧ MAt K H a M ∧ OkM M ∧ 1 ≤ M.length ∧ M.length ≤ 12 ∧ ∀ p H', H p = none → Ex H H' → MT H' p (least M) → Q (.ref p) H'
theorem scFp : FnScope ["places", "least"] ["places"] (defScope sFp) := ⟨rfl, rfl, rfl, by decide +kernel, rfl, by decide +kernel, by decide +kernel⟩
theorem ok_Fp {f : Addr} {fd : FuncData} (F : Fun K "few_places" "few_places" sFp f fd) (S : GlbS mg) (hm : ∃ t, mg "MOST_PLACES" = some (.int 12 t)) (GL : Gfn P w K mg base 2 "least_places" ["places"] (spLs K)) : FnOk P w K mg base CX0 3 f fd ["places"] (spFp K) := by
  obtain ⟨fL, fdL, GL, kL, bL, gL⟩ := GL
  obtain ⟨t, hm⟩ := hm
  refine F.ok scFp (fun vs H Q E h => ?_) (fun cdv A outer s H vs Q E hr h => ?_)
  · obtain ⟨a, M, rfl, _⟩ := h
    rfl
  · obtain ⟨a, M, rfl, hM, ok, l1, l12, k⟩ := h
    refine ⟨_, (pss_cons (ps_set (i := 1) scFp.nd rfl (.inl rfl) (pe_call GL hr (by rfl) gL kL bL .nil pass0 (pa_cons (pv 0) pa_nil)))
      (pss_cons (ps_if (pt_cmpR op_gt (pe_callB call_len_seq (by rfl) S.len PySem.boot_len (pa_cons (pv 1) pa_nil)) (pe_glob (v := .int 12) (by rfl) hm ⟨t, rfl⟩) (nomark _)) (pss_one ps_no) pss_nil)
      (pss_one (ps_ret (pv 1))))), ?_⟩
    refine q_asgR ⟨_, rfl, a, M, rfl, hM, ok, l1, by omega, fun p H1 hp e1 mt => ?_⟩
    obtain ⟨xs, h1, row⟩ := id mt
    have few := least_few ok l1
    refine q_when (b := false) (et_is (et_test (ev_op (ev_cb (ea_cons (ev_var rfl) ea_nil) (rc_lenQ (.inr (st_of h1)))) ev_c rv_I0)) (decide_eq_false (by rw [row.1]; omega))) (fun y => absurd y (by decide)) fun _ H2 e2 => ?_
    exact s_retR ⟨_, rfl, k p H2 hp (e1.trans e2) (mt.mono e2)⟩
abbrev sIp : Stmt := top 26
abbrev nIp : List Str := ["value", "many", "kept", "lost"]
def spIp (K : PySem.W.Frag) : Sp := fun vs H Q _ => ∃ (a : Addr) (m : Pl) (n : Nat), vs = [.ref a, .int (n : Int)] ∧ Sq K H a (pV m) ∧ m.1 < n ∧ (∀ l, m.2 = some l → l < n) ∧ RetV (.bl true) H Q
theorem scIp : FnScope nIp ["value", "many"] (defScope sIp) := ⟨rfl, rfl, rfl, by decide +kernel, rfl, by decide +kernel, by decide +kernel⟩
theorem ok_Ip {f : Addr} {fd : FuncData} (F : Fun K "is_place_pair" "is_place_pair" sIp f fd) (T : GlbT mg) (S : GlbS mg) (GW : Gfn P w K mg base 2 "is_within" ["value", "least", "most"] (spWithin K)) : FnOk P w K mg base CX0 3 f fd ["value", "many"] (spIp K) := by
  obtain ⟨fW, fdW, GW, kW, bW, gW⟩ := GW
  refine F.ok scIp (fun vs H Q E h => ?_) (fun cdv A outer s H vs Q E hr h => ?_)
  · obtain ⟨a, m, n, rfl, _⟩ := h
    rfl
  · obtain ⟨a, ⟨m1, m2⟩, n, rfl, ha, h1, h2, k⟩ := h
    refine ⟨_, (pss_cons (ps_if (PW.pt (pw_or (pt_not (pt_val (pe_callB call_isiT (by rfl) T.inst (by decide +kernel) (pa_cons (pv 0) (pa_cons (pe_tup (pa_cons (pe_bltn (v := .ty "list") (by rfl) S.list (by decide +kernel) rfl) (pa_cons (pe_bltn (v := .ty "tuple") (by rfl) S.tuple (by decide +kernel) rfl) pa_nil))) pa_nil))))) (pw_or1 (pt_cmpR op_ne (pe_callB call_len_seq (by rfl) S.len PySem.boot_len (pa_cons (pv 0) pa_nil)) pe_int (nomark _))))) (pss_one (ps_ret pe_bl)) pss_nil)
      (pss_cons (ps_asg (pv 0) (pg_or (pg_tup rfl (pgs_cons (pg_name (i := 2) scIp.nd rfl (.inl rfl)) (pgs_cons (pg_name (i := 3) scIp.nd rfl (.inl rfl)) pgs_nil))) (pg_lst rfl (pgs_cons (pg_name (i := 2) scIp.nd rfl (.inl rfl)) (pgs_cons (pg_name (i := 3) scIp.nd rfl (.inl rfl)) pgs_nil)))))
      (pss_one (ps_ret (pe_and (pe_call GW hr (by rfl) gW kW bW .nil pass0 (pa_cons (pv 2) (pa_cons pe_int (pa_cons (pe_op op_sub (pv 1) pe_int) pa_nil)))) (pe_one (pe_or (pe_cmpR op_isN1 (pv 3) pe_non (nomark _)) (pe_one (pe_call GW hr (by rfl) gW kW bW .nil pass0 (pa_cons (pv 3) (pa_cons pe_int (pa_cons (pe_op op_sub (pv 1) pe_int) pa_nil)))))))))))), ?_⟩
    refine q_when (et_orF (et_is (et_not (et_B (ev_isLT (ev_var rfl) ha))) rfl) (et_neF (ev_op (ev_cb (ea_cons (ev_var rfl) ea_nil) (rc_lenQ ha)) ev_c (rv_ne rfl)) rfl)) (fun y => absurd y (by decide)) fun _ H1 e1 => ?_
    refine q_asgG ⟨_, rfl, g_pair (sq_mono e1 ha) ?_⟩
    have wi : ∀ {te : TE} {x : Nat} {H2 : Hp} {y : V}, x < n → Ev te [some (.ref a), some (.int (n : Int)), some (.int (m1 : Int)), some y] H2 (.int (x : Int)) → Ev (tCall (spWithin K) [] E0 (tCons te (tCons (tC (.int 0)) (tCons (tOp (rI0 fun i j => .int (i - j)) (tVar 1) (tC (.int 1))) tNil)))) [some (.ref a), some (.int (n : Int)), some (.int (m1 : Int)), some y] H2 (.bl true) := fun {te x H2 y} hx h => ev_call (z := .bl true) (ea_cons h (ea_cons ev_c (ea_cons (ev_op (ev_var (i := 1) rfl) ev_c rv_I0) ea_nil))) fun H3 e3 Q3 q3 E3 => .inl ⟨_, _, _, rfl, by
      rw [decide_eq_true (by omega : (0 : Int) ≤ (x : Int)), decide_eq_true (by omega : (x : Int) ≤ (n : Int) - 1)]
      exact q3⟩
    refine s_ret (ev_is (ev_andV (wi h1 (ev_var rfl)) fun _ => ev_orV (a := m2.isNone) (b := true) (ev_is (ev_op (ev_var (i := 3) rfl) ev_c fun H2 _ Q2 q2 => ⟨rfl, q2 H2 (Ex.refl H2)⟩) ?_) fun hn => ?_) (by rw [Bool.true_and, Bool.or_true])) fun H2 e2 => k H2 (e1.trans e2)
    · cases m2 with
      | none => exact congrArg V.bl (decide_eq_true rfl)
      | some l => exact congrArg V.bl (decide_eq_false fun z => by cases z)
    · cases m2 with
      | none => cases hn
      | some l => exact wi (h2 l rfl) (ev_var rfl)
/-! ### MachineRule.__init__ -/
structure LsC (K : PySem.W.Frag) (C : Addr) : Prop where
  cls : Cls K C
  pl : NoAttr K C "places"
/-- a rule of class C with these places -/
def RuAt (H : Hp) (C o : Addr) (L : List Pl) : Prop := ∃ dx q, H o = some (.ins C dx [("places", .ref q)]) ∧ MT H q L
theorem RuAt.mono {H H' : Hp} {C o : Addr} {L : List Pl} (e : Ex H H') (h : RuAt H C o L) : RuAt H' C o L := by
  obtain ⟨dx, q, h1, h2⟩ := h
  exact ⟨dx, q, e _ _ h1, h2.mono e⟩
theorem mt_keep {H H' : Hp} {a : Addr} {M : List Pl} (ht : ∀ b ys, H b = some (.tup ys) → H' b = some (.tup ys)) (h : MT H a M) : MT H' a M := by
  obtain ⟨xs, h1, h2⟩ := h
  exact ⟨xs, ht _ _ h1, plt_keep ht h2⟩
theorem ru_new {H : Hp} {C o dx q : Addr} {L : List Pl} {fs : List (Str × V)} (h : H o = some (.ins C dx fs)) (hq : MT H q L) : RuAt (upd H o (.ins C dx [("places", .ref q)])) C o L := ⟨dx, q, upd_same, mt_keep (fun b ys hb => by rw [upd_ne fun z => by rw [z, h] at hb; cases hb]; exact hb) hq⟩
abbrev sMr : Stmt := inClass (top 32) 0
abbrev nMr : List Str := ["self", "places", "at", "pair"]
theorem scMr : FnScope nMr ((["self"] : List Str) ++ (["places"] : List Str)) (defScope sMr) := ⟨rfl, rfl, rfl, by decide +kernel, rfl, by decide +kernel, by decide +kernel⟩
def spMr (K : PySem.W.Frag) (C : Addr) : Sp := fun vs H Q _ => ∃ (o p dx : Addr) (xs : List V) (M : List Pl), vs = [.ref o, .ref p] ∧ H o = some (.ins C dx []) ∧ SqT K H p xs ∧ PlR K H xs M ∧ OkM M ∧ 1 ≤ M.length ∧ M.length ≤ 12 ∧
  ∀ H1, Ex H H1 → ∀ q, MT H1 q (least M) → Q .non (upd H1 o (.ins C dx [("places", .ref q)]))
def spMrA (K : PySem.W.Frag) (C : Addr) : Sp := fun vs H Q E => ∃ ws rest, vs = ws ++ rest ∧ ws.length = (["self"] : List Str).length ∧ rest.length ≤ sizeLine ∧ ∀ p, H p = none → spMr K C (ws ++ [V.ref p]) (L2.upd H p (.tup rest)) Q E
theorem ok_Mr {C f : Addr} {fd : FuncData} (F : Fun K "__init__" "MachineRule.__init__" sMr f fd) (G : LsC K C) (S : GlbS mg) (enum : mg "enumerate" = none) (hm : ∃ t, mg "MOST_PLACES" = some (.int 12 t)) (GI : Gfn P w K mg base 3 "is_place_pair" ["value", "many"] (spIp K)) (GF : Gfn P w K mg base 3 "few_places" ["places"] (spFp K)) :
    FnR P w K mg base CX0 4 f (spMrA K C) := by
  obtain ⟨fI, fdI, GI, kI, bI, gI⟩ := GI
  obtain ⟨fF, fdF, GF, kF, bF, gF⟩ := GF
  obtain ⟨t4, hm⟩ := hm
  obtain ⟨oc, od, kV, doc, pm, an, cdv, ct, osl, rfl, lk, hcd⟩ := F.ex
  refine fn_star (ps := ["self"]) (sp := spMr K C) lk hcd scMr cxUp_none (bind_star1 (B := fun us => bindArgs (PySem.W.fnOf "__init__" "MachineRule.__init__" (defArgs sMr) (defBody sMr) (defScope sMr) .none kV doc pm an cdv ct) ⟨us, []⟩) (fun a => rfl) fun a r rs => rfl) (fun A outer s H vs Q E hr h => ?_)
  suffices z : ∃ t, PSs (cxOf CX0 P w K mg base nMr "MachineRule.__init__" (defScope sMr) f cdv A outer s H E).nox (defBody sMr) t ∧ t { nx := fun _ H' => Q .non H', rt := Q } (L2.start nMr vs) H from
    let ⟨t, a, b⟩ := z
    ⟨t, a.nox, b⟩
  obtain ⟨o, p, dx, xs, M, rfl, hO, hP, row, ok, l1, l12, k⟩ := h
  refine ⟨_, (pss_cons (ps_for PassesOwn.never rfl (pi_enumT (by rfl) enum (pa_cons (pv 1) pa_nil)) (pg_tup rfl (pgs_cons (pg_name (i := 2) scMr.nd rfl (.inl rfl)) (pgs_cons (pg_name (i := 3) scMr.nd rfl (.inl rfl)) pgs_nil)))
        (pss_one (ps_if (pt_not (pt_val (pe_call GI hr (by rfl) gI kI bI .nil pass0 (pa_cons (pv 3) (pa_cons (pe_callB call_len_seq (by rfl) S.len PySem.boot_len (pa_cons (pv 1) pa_nil)) pa_nil))))) (pss_one ps_no) pss_nil)))
      (pss_cons (ps_if (pt_not (pt_chain op_le op_le pe_int (pe_callB call_len_seq (by rfl) S.len PySem.boot_len (pa_cons (pv 1) pa_nil)) (pe_glob (v := .int 12) (by rfl) hm ⟨t4, rfl⟩))) (pss_one ps_no) pss_nil)
      (pss_one (ps_fld (pv 0) (pe_call GF hr (by rfl) gF kF bF .nil pass0 (pa_cons (pv 1) pa_nil)) (by rfl))))), ?_⟩
  have ln : ∀ {x y : Option V} {H1 : Hp}, Ex H H1 → Ev (tCB (rLQ K) (tCons (tVar 1) tNil)) [some (.ref o), some (.ref p), x, y] H1 (.int (M.length : Int)) := fun e => ev_is (ev_cb (ea_cons (ev_var rfl) ea_nil) (rc_lenQ (.inr (ex_t e hP)))) (by rw [row.1])
  refine q_forNT (K := K) (a := p) (xs := xs) (ea_cons (ev_var rfl) ea_nil) hP (fun _ σ' H' => (∃ x1 x2 : Option V, σ' = [some (.ref o), some (.ref p), x1, x2]) ∧ Ex H H') (fun H2 e2 => ⟨⟨none, none, rfl⟩, e2⟩) (fun _ _ H' _ q => ex_t q.2 hP) ?_ ?_
  · rintro i z σ' H2 T2 hz ⟨⟨x1, x2, rfl⟩, e2⟩ hT2
    have e3 := e2.trans (Ex.new (o := .tup [.int (i : Nat), z]) hT2)
    refine ⟨T2, [.int (i : Nat), z], rfl, st_of upd_same, rfl, _, _, rfl, _, _, rfl, rfl, ?_⟩
    obtain ⟨b, m, hm', rfl, hb⟩ := row.at hz
    have okm := ok m (List.mem_of_getElem? hm')
    exact s_if (b := false) (et_is (et_not (et_B (ev_call (z := .bl true) (ea_cons (ev_var rfl) (ea_cons (ln e3) ea_nil)) fun H3 e4 Q3 q3 E3 => ⟨b, m, M.length, rfl, sq_mono (e3.trans e4) hb, okm.1, okm.2, q3⟩))) rfl) (fun z => absurd z (by decide)) fun _ H3 e4 => ⟨⟨_, _, rfl⟩, e3.trans e4⟩
  rintro σ' H2 ⟨⟨x1, x2, rfl⟩, e2⟩
  refine q_when (b := false) (et_is (et_not (et_test (ev_chain ev_c (ln e2) ev_c))) ?_) (fun z => absurd z (by decide)) (fun _ H3 e3 => ?_)
  · show (!(decide ((1 : Int) ≤ (M.length : Int)) && decide ((M.length : Int) ≤ 12))) = false
    rw [decide_eq_true (by omega), decide_eq_true (by omega)]
    rfl
  have E3 := e2.trans e3
  refine ⟨_, rfl, p, M, rfl, ⟨xs, .inr (ex_t E3 hP), row.mono E3⟩, ok, l1, l12, fun q H4 hq e4 mt => ?_⟩
  have E4 := E3.trans e4
  exact ⟨_, rfl, o, C, dx, [], rfl, E4 _ _ hO, G.cls, G.pl, Nat.le_of_ble_eq_true rfl, k H4 E4 q mt⟩
end
end K16
namespace K16
open PySem L2 Evl Gr StX EnT ClX RdX OwX OwC OpX Ls DnX
/-! ### new rows of new pairs -/
def EvM (te : TE) (σ : L2.St) (H : Hp) (M : List Pl) : Prop := ∀ H1, Ex H H1 → ∀ Q : VK, (∀ p xs H2, H1 p = none → Ex H1 H2 → H2 p = some (.lst xs) → PlT H2 xs M → Q (.ref p) H2) → te σ H1 Q
section
variable {K : PySem.W.Frag} {σ : L2.St} {H : Hp} {ta : TA} {te : TE} {j : Nat} {vs : List Nat}
theorem call_i {sp : Sp} {dvs : List V} {E : XK} {t : TA} {σ : L2.St} {H : Hp} {Q : VK} (h : t σ H fun vs H1 => sp (vs ++ dvs) H1 Q E) : tCall sp dvs E t σ H Q := h
theorem fld_i {K : PySem.W.Frag} {ta tv : TE} {f : Str} {σ : L2.St} {H : Hp} {D : Ends} (h : tv σ H fun y H1 => ta σ H1 fun x H2 => ∃ a C dx fs, x = .ref a ∧ H2 a = some (.ins C dx fs) ∧ Cls K C ∧ NoAttr K C f ∧ fs.length < 1000 ∧ D.nx σ (upd H2 a (.ins C dx (putF f y fs)))) : sFld K ta tv f D σ H := h
/-- what stands while the row grows -/
def Pw (H1 : Hp) (D : Addr) (g : Nat → Pl) (i : Nat) (H' : Hp) : Prop := H1 D = none ∧ Ex H1 H' ∧ ∃ xs, H' D = some (.lst xs) ∧ PlT H' xs ((List.range i).map g)
theorem pw_0 {H1 : Hp} {D : Addr} {g : Nat → Pl} (hD : H1 D = none) : Pw H1 D g 0 (upd H1 D (.lst [])) := ⟨hD, Ex.new hD, [], upd_same, plt_nil⟩
theorem pw_step {H1 H' : Hp} {D : Addr} {g : Nat → Pl} {i : Nat} {σ2 : L2.St} (p : Pw H1 D g i H') (hi : i < 50000) (he : ∀ H2, Ex H1 H2 → EvU te σ2 H2 (pV (g i))) : tYes σ2 H' fun b H3 => if b = true then te σ2 H3 fun y H4 => ∃ acc, H4 D = some (.lst acc) ∧ acc.length < sizeLine ∧ Pw H1 D g (i + 1) (upd H4 D (.lst (acc ++ [y]))) else Pw H1 D g (i + 1) H3 := by
  obtain ⟨hD, e, xs, h1, h2⟩ := p
  refine yes_i (A := fun H3 => te σ2 H3 fun y H4 => ∃ acc, H4 D = some (.lst acc) ∧ acc.length < sizeLine ∧ Pw H1 D g (i + 1) (upd H4 D (.lst (acc ++ [y])))) ?_
  refine he H' e H' (Ex.refl H') _ fun T H4 hT e4 h4 => ?_
  have ln := h2.1
  rw [List.length_map, List.length_range] at ln
  refine ⟨xs, e4 _ _ h1, sz_lt (by omega), hD, Ex.mut (e.trans e4) hD, xs ++ [.ref T], upd_same, ?_⟩
  rw [List.range_succ, List.map_append]
  exact (plt_keep (fun c ys hc => by rw [upd_ne fun z => by rw [z, e4 _ _ h1] at hc; cases hc]; exact hc) ((h2.mono e4).snoc h4))
theorem em_R1 {n : Nat} (g : Nat → Pl) (h : EvA ta σ H [.int (n : Int)]) (hn : n ≤ 1000) (hw : ∀ x, wipe ((wipe σ vs).set j (some x)) vs = wipe σ vs) (he : ∀ i, i < n → ∀ H1, Ex H H1 → EvU te ((wipe σ vs).set j (some (.int (i : Int)))) H1 (pV (g i))) :
    EvM (tLc (iRng1 ta) (gName j) tYes te vs) σ H ((List.range n).map g) := fun H0 e Q q => h H0 e _ fun H1 e1 => ⟨(n : Int), rfl, by omega, by omega, fun Dl hD => by
  rw [Int.toNat_natCast]
  refine lc_range (lo := 0) (n := n) (Pw H1 Dl g) (pw_0 hD) (fun i H' hi p => ?_) (fun H' p => ?_)
  · have e0 : (0 : Int) + (i : Int) = (i : Int) := Int.zero_add _
    rw [e0]
    exact ⟨hw _, pw_step p (by omega) fun H2 e2 => he i hi H2 ((e.trans e1).trans e2)⟩
  · obtain ⟨_, p2, xs, p3, p4⟩ := p
    exact q Dl xs H' (fresh_back e1 hD) (e1.trans p2) p3 p4⟩
theorem em_R2 {lo hi : Nat} (g : Nat → Pl) (h : EvA ta σ H [.int (lo : Int), .int (hi : Int)]) (hn : lo ≤ hi) (h1000 : hi ≤ 1000) (hw : ∀ x, wipe ((wipe σ vs).set j (some x)) vs = wipe σ vs) (he : ∀ i, i < hi - lo → ∀ H1, Ex H H1 → EvU te ((wipe σ vs).set j (some (.int ((lo + i : Nat) : Int)))) H1 (pV (g i))) :
    EvM (tLc (iRng2 ta) (gName j) tYes te vs) σ H ((List.range (hi - lo)).map g) := fun H0 e Q q => h H0 e _ fun H1 e1 => ⟨(lo : Int), (hi : Int), rfl, ⟨by omega, by omega, by omega, by omega⟩, fun Dl hD => by
  rw [show ((hi : Int) - (lo : Int)).toNat = hi - lo by omega]
  refine lc_range (lo := (lo : Int)) (n := hi - lo) (Pw H1 Dl g) (pw_0 hD) (fun i H' hi' p => ?_) (fun H' p => ?_)
  · have e0 : (lo : Int) + (i : Int) = ((lo + i : Nat) : Int) := by omega
    rw [e0]
    exact ⟨hw _, pw_step p (by omega) fun H2 e2 => he i hi' H2 ((e.trans e1).trans e2)⟩
  · obtain ⟨_, p2, xs, p3, p4⟩ := p
    exact q Dl xs H' (fresh_back e1 hD) (e1.trans p2) p3 p4⟩
/-- (x, y if t else None) -/
theorem eu_pair {x y : TE} {tt : TT} {m : Pl} (hx : Ev x σ H (.int (m.1 : Int))) (b : Bool) (ht : EvT tt σ H b) (h1 : b = true → ∃ l, m.2 = some l ∧ Ev y σ H (.int (l : Int))) (h2 : b = false → m.2 = none) : EvU (tTup (tCons x (tCons (tIf tt y (tC .non)) tNil))) σ H (pV m) :=
  eu_tup (ea_cons hx (ea_cons (ev_if (b := b) ht (fun hb => by
    obtain ⟨l, e, h⟩ := h1 hb
    rw [e]
    exact h) (fun hb => by rw [h2 hb]; exact ev_c)) ea_nil)) (by show 2 ≤ 100000; decide)
end
section
variable {P : Program} {w : World} {K : PySem.W.Frag} {mg : Str → Option Value} {base : Heap}
/-! ### Total.__init__ -/
abbrev sTo : Stmt := inClass (top 33) 0
abbrev nTo : List Str := ["self", "most", "at"]
def spTo (C : Addr) : Sp := fun vs H Q _ => ∃ (o dx : Addr) (m : Nat), vs = [.ref o, .int (m : Int)] ∧ H o = some (.ins C dx []) ∧ m ≤ 8 ∧ ∀ H1, Ex H H1 → ∀ q, MT H1 q (least (totalM m)) → Q .non (upd H1 o (.ins C dx [("places", .ref q)]))
theorem scTo : FnScope nTo ["self", "most"] (defScope sTo) := ⟨rfl, rfl, rfl, by decide +kernel, rfl, by decide +kernel, by decide +kernel⟩
theorem ok_To {C f : Addr} {fd : FuncData} (F : Fun K "__init__" "Total.__init__" sTo f fd) (G : LsC K C) (S : GlbS mg) (hm : ∃ t, mg "MOST_LOSSES" = some (.int 8 t)) (GW : Gfn P w K mg base 2 "is_within" ["value", "least", "most"] (spWithin K)) (GF : Gfn P w K mg base 3 "few_places" ["places"] (spFp K)) :
    FnOk P w K mg base CX0 4 f fd ["self", "most"] (spTo C) := by
  obtain ⟨fW, fdW, GW, kW, bW, gW⟩ := GW
  obtain ⟨fF, fdF, GF, kF, bF, gF⟩ := GF
  obtain ⟨t8, hm⟩ := hm
  refine F.ok scTo (fun vs H Q E h => ?_) (fun cdv A outer s H vs Q E hr h => ?_)
  · obtain ⟨o, dx, m, rfl, _⟩ := h
    rfl
  · obtain ⟨o, dx, m, rfl, hO, h8, k⟩ := h
    have r2 := hr.mono (show 2 ≤ 3 by decide)
    refine ⟨_, (pss_cons (ps_if (pt_not (pt_val (pe_call GW r2 (by rfl) gW kW bW .nil pass0 (pa_cons (pv 1) (pa_cons pe_int (pa_cons (pe_glob (v := .int 8) (by rfl) hm ⟨t8, rfl⟩) pa_nil)))))) (pss_one ps_no) pss_nil)
      (pss_one (ps_fld (pv 0) (pe_call GF hr (by rfl) gF kF bF .nil pass0 (pa_cons (pe_lc (te := tTup (tCons (tVar 2) (tCons (tIf (tTest (tOp (rI0 fun i j => .bl (decide (i < j))) (tVar 2) (tVar 1))) (tOp (rI0 fun i j => .int (i + j)) (tVar 2) (tC (.int 1))) (tC .non)) tNil))) (own := [("at", 2)]) (g := gName 2) rfl scTo.nd (pi_range1 (by rfl) S.range (pa_cons (pe_op op_add (pv 1) pe_int) pa_nil)) (blkOk_by (own := [("at", 2)]) (N := nTo) (sc := defScope sTo) (by decide +kernel)) (fun _ _ _ _ _ => pg_name (i := 2) scTo.nd rfl (Or.inl rfl)) (fun _ _ _ _ _ => pts_nil)
        (fun _ _ _ _ _ => pe_tup (pa_cons (pv 2) (pa_cons (pe_ifExp (pt_cmpR op_lt (pv 2) (pv 1) (nomark _)) (pe_op op_add (pv 2) pe_int) pe_non) pa_nil)))) pa_nil)) (by rfl)))), ?_⟩
    refine q_when (b := false) (et_is (et_not (et_B (ev_call (z := .bl true) (ea_cons (ev_var rfl) (ea_cons ev_c (ea_cons ev_c ea_nil))) fun H1 e1 Q1 q1 E1 => .inl ⟨_, _, _, rfl, by rw [decide_eq_true (by omega : (0 : Int) ≤ (m : Int)), decide_eq_true (by omega : (m : Int) ≤ 8)]; exact q1⟩))) rfl) (fun y => absurd y (by decide)) fun _ H1 e1 => ?_
    have c : EvM (tLc (iRng1 (tCons (tOp (rI0 fun i j => .int (i + j)) (tVar 1) (tC (.int 1))) tNil)) (gName 2) tYes (tTup (tCons (tVar 2) (tCons (tIf (tTest (tOp (rI0 fun i j => .bl (decide (i < j))) (tVar 2) (tVar 1))) (tOp (rI0 fun i j => .int (i + j)) (tVar 2) (tC (.int 1))) (tC .non)) tNil))) [2]) [some (.ref o), some (.int (m : Int)), none] H1 (totalM m) :=
      em_R1 (n := m + 1) (fun i => (i, if i < m then some (i + 1) else none)) (ea_cons (ev_is (ev_op (ev_var rfl) ev_c rv_I0) (by show V.int _ = V.int _; congr 1)) ea_nil) (by omega) (fun _ => rfl) fun i hi H2 e2 => eu_pair (m := (i, if i < m then some (i + 1) else none)) (ev_var rfl) (decide (i < m)) (et_is (et_test (ev_op (x := .int (i : Int)) (y := .int (m : Int)) (ev_var rfl) (ev_var rfl) rv_I0)) (decide_eq_decide.mpr (by omega))) (fun hb => ⟨i + 1, if_pos (of_decide_eq_true hb), ev_is (ev_op (x := .int (i : Int)) (y := .int 1) (ev_var rfl) ev_c rv_I0) (by show V.int _ = V.int _; congr 1)⟩) (fun hb => if_neg (of_decide_eq_false hb))
    refine fld_i (call_i (cons_i (c H1 (Ex.refl H1) _ fun p xs H2 hp e2 h2 row => ?_)))
    have len : (totalM m).length = m + 1 := by unfold totalM; rw [List.length_map, List.length_range]
    have mat : MAt K H2 p (totalM m) := ⟨xs, .inl (sq_of h2), row.1, fun i x u hx hu => by
      obtain ⟨b, e, hb⟩ := row.2 i x u hx hu
      exact ⟨b, e, .inr (st_of hb)⟩⟩
    refine ⟨p, totalM m, rfl, mat, total_ok m, by omega, by omega, fun q H3 hq e3 mt => ?_⟩
    have E3 := (e1.trans e2).trans e3
    exact ⟨_, rfl, o, C, dx, [], rfl, E3 _ _ hO, G.cls, G.pl, Nat.le_of_ble_eq_true rfl, k H3 E3 q mt⟩
end
end K16
namespace K16
open PySem L2 Evl Gr StX EnT ClX RdX OwX OwC OpX Ls DnX
theorem PlT.app {H : Hp} {xs ys : List V} {M N : List Pl} (h : PlT H xs M) (h' : PlT H ys N) : PlT H (xs ++ ys) (M ++ N) := ⟨by rw [List.length_append, List.length_append, h.1, h'.1], fun i x m hx hm => by
  rcases Nat.lt_or_ge i xs.length with c | c
  · rw [List.getElem?_append_left c] at hx
    rw [List.getElem?_append_left (by rw [← h.1]; exact c)] at hm
    exact h.2 i x m hx hm
  · rw [List.getElem?_append_right c] at hx
    rw [List.getElem?_append_right (by rw [← h.1]; exact c), ← h.1] at hm
    exact h'.2 _ x m hx hm⟩
theorem plt_one {H : Hp} {b : Addr} {m : Pl} (h : H b = some (.tup (pV m))) : PlT H [.ref b] [m] := by
  have := plt_nil.snoc h
  exact this
section
variable {P : Program} {w : World} {K : PySem.W.Frag} {mg : Str → Option Value} {base : Heap}
/-! ### burst_places -/
abbrev sBp : Stmt := top 28
abbrev nBp : List Str := ["most", "apart", "many", "behind", "lost", "at", "kept"]
def spBp : Sp := fun vs H Q _ => ∃ m a : Nat, vs = [.int (m : Int), .int (a : Int)] ∧ 1 ≤ m ∧ m ≤ 8 ∧ 1 ≤ a ∧ a ≤ 8 ∧ ∀ p xs H', H p = none → Ex H H' → H' p = some (.lst xs) → PlT H' xs (burstM m a) → Q (.ref p) H'
theorem scBp : FnScope nBp ["most", "apart"] (defScope sBp) := ⟨rfl, rfl, rfl, by decide +kernel, rfl, by decide +kernel, by decide +kernel⟩
theorem ok_Bp {f : Addr} {fd : FuncData} (F : Fun K "burst_places" "burst_places" sBp f fd) (S : GlbS mg) : FnOk P w K mg base CX0 1 f fd ["most", "apart"] spBp := by
  refine F.ok scBp (fun vs H Q E h => ?_) (fun cdv A outer s H vs Q E hr h => ?_)
  · obtain ⟨m, a, rfl, _⟩ := h
    rfl
  · obtain ⟨m, a, rfl, m1, m8, a1, a8, k⟩ := h
    refine ⟨_, (pss_cons (ps_set (i := 2) scBp.nd rfl (.inr rfl) (pe_op op_add (pv 0) (pv 1)))
      (pss_cons (ps_set (i := 3) scBp.nd rfl (.inr rfl) (pe_op op_mod (pe_op op_add (pv 0) pe_int) (pv 2)))
      (pss_cons (ps_setLc (te := tTup (tCons (tVar 3) (tCons (tIf (tTest (tOp (rI0 fun i j => .bl (decide (i < j))) (tVar 5) (tVar 0))) (tOp (rI0 fun i j => .int (i + j)) (tVar 5) (tC (.int 1))) (tC .non)) tNil))) (i := 4) (own := [("at", 5)]) (g := gName 5) rfl scBp.nd rfl rfl (by rfl) (pi_range2 (by rfl) S.range (pa_cons pe_int (pa_cons (pe_op op_add (pv 0) pe_int) pa_nil))) (blkOk_by (own := [("at", 5)]) (N := nBp) (sc := defScope sBp) (by decide +kernel)) (fun _ _ _ _ _ => pg_name (i := 5) scBp.nd rfl (Or.inl rfl)) (fun _ _ _ _ _ => pts_nil)
        (fun _ _ _ _ _ => pe_tup (pa_cons (pv 3) (pa_cons (pe_ifExp (pt_cmpR op_lt (pv 5) (pv 0) (nomark _)) (pe_op op_add (pv 5) pe_int) pe_non) pa_nil))))
      (pss_cons (ps_setLc (te := tTup (tCons (tOp (rI (fun _ j => 0 < j) fun i j => .int (i % j)) (tOp (rI0 fun i j => .int (i + j)) (tVar 5) (tC (.int 1))) (tVar 2)) (tCons (tC .non) tNil))) (i := 6) (own := [("at", 5)]) (g := gName 5) rfl scBp.nd rfl rfl (by rfl) (pi_range2 (by rfl) S.range (pa_cons (pe_op op_add (pv 0) pe_int) (pa_cons (pv 2) pa_nil))) (blkOk_by (own := [("at", 5)]) (N := nBp) (sc := defScope sBp) (by decide +kernel)) (fun _ _ _ _ _ => pg_name (i := 5) scBp.nd rfl (Or.inl rfl)) (fun _ _ _ _ _ => pts_nil)
        (fun _ _ _ _ _ => pe_tup (pa_cons (pe_op op_mod (pe_op op_add (pv 5) pe_int) (pv 2)) (pa_cons pe_non pa_nil))))
      (pss_one (ps_ret (pe_lst (pa_cons (pe_tup (pa_cons pe_int (pa_cons pe_int pa_nil))) (pa_star (pv 4) (pa_star (pv 6) pa_nil)))))))))), ?_⟩
    refine q_asg (v := .int ((m + a : Nat) : Int)) (ev_is (ev_op (ev_var rfl) (ev_var rfl) rv_I0) (by show V.int _ = V.int _; congr 1)) fun H1 e1 => ?_
    refine q_asg (v := .int (((m + 1) % (m + a) : Nat) : Int)) (ev_is (ev_op (ev_op (x := .int (m : Int)) (y := .int 1) (ev_var rfl) ev_c rv_I0) (ev_var rfl) (rv_I (C := fun _ j => 0 < j) (g := fun i j => .int (i % j)) (show (0 : Int) < ((m + a : Nat) : Int) by omega))) (by show V.int _ = V.int _; congr 1)) fun H2 e2 => ?_
    have c1 : EvM (tLc (iRng2 (tCons (tC (.int 1)) (tCons (tOp (rI0 fun i j => .int (i + j)) (tVar 0) (tC (.int 1))) tNil))) (gName 5) tYes (tTup (tCons (tVar 3) (tCons (tIf (tTest (tOp (rI0 fun i j => .bl (decide (i < j))) (tVar 5) (tVar 0))) (tOp (rI0 fun i j => .int (i + j)) (tVar 5) (tC (.int 1))) (tC .non)) tNil))) [5]) [some (.int (m : Int)), some (.int (a : Int)), some (.int ((m + a : Nat) : Int)), some (.int (((m + 1) % (m + a) : Nat) : Int)), none, none, none] H2 ((List.range (m + 1 - 1)).map fun i => ((m + 1) % (m + a), if i + 1 < m then some (i + 2) else none)) :=
      em_R2 (lo := 1) (hi := m + 1) (fun i => ((m + 1) % (m + a), if i + 1 < m then some (i + 2) else none)) (ea_cons ev_c (ea_cons (ev_is (ev_op (x := .int (m : Int)) (y := .int 1) (ev_var rfl) ev_c rv_I0) (by show V.int _ = V.int _; congr 1)) ea_nil)) (by omega) (by omega) (fun _ => rfl) fun i hi H3 e3 => eu_pair (m := ((m + 1) % (m + a), if i + 1 < m then some (i + 2) else none)) (ev_var rfl) (decide (i + 1 < m)) (et_is (et_test (ev_op (x := .int ((1 + i : Nat) : Int)) (y := .int (m : Int)) (ev_var rfl) (ev_var rfl) rv_I0)) (decide_eq_decide.mpr (by omega))) (fun hb => ⟨i + 2, if_pos (of_decide_eq_true hb), ev_is (ev_op (x := .int ((1 + i : Nat) : Int)) (y := .int 1) (ev_var rfl) ev_c rv_I0) (by show V.int _ = V.int _; congr 1; omega)⟩) (fun hb => if_neg (of_decide_eq_false hb))
    refine q_asgR (c1 H2 (Ex.refl H2) _ fun p1 xs1 H3 hp1 e3 h3 row1 => ?_)
    have c2 : EvM (tLc (iRng2 (tCons (tOp (rI0 fun i j => .int (i + j)) (tVar 0) (tC (.int 1))) (tCons (tVar 2) tNil))) (gName 5) tYes (tTup (tCons (tOp (rI (fun _ j => 0 < j) fun i j => .int (i % j)) (tOp (rI0 fun i j => .int (i + j)) (tVar 5) (tC (.int 1))) (tVar 2)) (tCons (tC .non) tNil))) [5]) [some (.int (m : Int)), some (.int (a : Int)), some (.int ((m + a : Nat) : Int)), some (.int (((m + 1) % (m + a) : Nat) : Int)), some (.ref p1), none, none] H3 ((List.range (m + a - (m + 1))).map fun i => ((m + 1 + i + 1) % (m + a), none)) :=
      em_R2 (lo := m + 1) (hi := m + a) (fun i => ((m + 1 + i + 1) % (m + a), none)) (ea_cons (ev_is (ev_op (x := .int (m : Int)) (y := .int 1) (ev_var rfl) ev_c rv_I0) (by show V.int _ = V.int _; congr 1)) (ea_cons (ev_var rfl) ea_nil)) (by omega) (by omega) (fun _ => rfl) fun i hi H4 e4 => eu_tup (vs := pV ((m + 1 + i + 1) % (m + a), none)) (ea_cons (ev_is (ev_op (x := .int ((m + 1 + i + 1 : Nat) : Int)) (ev_is (ev_op (x := .int ((m + 1 + i : Nat) : Int)) (y := .int 1) (ev_var rfl) ev_c rv_I0) (by show V.int _ = V.int _; congr 1)) (ev_var rfl) (rv_I (C := fun _ j => 0 < j) (g := fun i j => .int (i % j)) (show (0 : Int) < ((m + a : Nat) : Int) by omega))) (by show V.int _ = V.int _; congr 1)) (ea_cons ev_c ea_nil)) (by show 2 ≤ 100000; decide)
    refine q_asgR (c2 H3 (Ex.refl H3) _ fun p2 xs2 H4 hp2 e4 h4 row2 => ?_)
    have E3 := (e1.trans e2).trans e3
    refine s_retR (lst_i (cons_i (tup_i (cons_i (c_i (cons_i (c_i ⟨by show 2 ≤ sizeLine; decide, fun t ht => ?_⟩)))))))
    have e5 := Ex.new (o := .tup [V.int 0, .int 1]) ht
    have ht5 : upd H4 t (.tup [V.int 0, .int 1]) t = some (.tup (pV (0, some 1))) := upd_same
    have h35 := (e4.trans e5) _ _ h3
    have h45 := e5 _ _ h4
    have row15 := row1.mono (e4.trans e5)
    have row25 := row2.mono e5
    generalize upd H4 t (.tup [V.int 0, .int 1]) = H5 at e5 ht5 h35 h45 row15 row25 ⊢
    refine ⟨_, rfl, p1, xs1, rfl, .inr (sq_of h35), _, rfl, p2, xs2, rfl, .inr (sq_of h45), ?_, fun l hl => ?_⟩
    · have a1' := row15.1
      have a2' := row25.1
      rw [List.length_map, List.length_range] at a1' a2'
      refine sz_of (n := 1 + (xs1.length + (xs2.length + 0))) (by omega) |> fun h => ?_
      simp only [List.length_cons, List.length_append, List.length_nil] at h ⊢
      omega
    · have e6 := Ex.new (o := .lst (V.ref t :: (xs1 ++ (xs2 ++ [])))) hl
      refine k l (V.ref t :: (xs1 ++ (xs2 ++ []))) _ (fresh_back ((E3.trans e4).trans e5) hl) (((E3.trans e4).trans e5).trans e6) upd_same ?_
      rw [List.append_nil]
      have := (((plt_one ht5).app row15).app row25).mono e6
      rw [show m + 1 - 1 = m by omega, show m + a - (m + 1) = a - 1 by omega, List.append_nil] at this
      exact this
/-! ### Burst.__init__ -/
abbrev sBu : Stmt := inClass (top 34) 0
def spBu (C : Addr) : Sp := fun vs H Q _ => ∃ (o dx : Addr) (m a : Nat), vs = [.ref o, .int (m : Int), .int (a : Int)] ∧ H o = some (.ins C dx []) ∧ 1 ≤ m ∧ m ≤ 8 ∧ 1 ≤ a ∧ a ≤ 8 ∧ m + a ≤ 12 ∧ ∀ H1, Ex H H1 → ∀ q, MT H1 q (least (burstM m a)) → Q .non (upd H1 o (.ins C dx [("places", .ref q)]))
theorem scBu : FnScope ["self", "most", "apart"] ["self", "most", "apart"] (defScope sBu) := ⟨rfl, rfl, rfl, by decide +kernel, rfl, by decide +kernel, by decide +kernel⟩
theorem ok_Bu {C f : Addr} {fd : FuncData} (F : Fun K "__init__" "Burst.__init__" sBu f fd) (G : LsC K C) (hm : ∃ t, mg "MOST_LOSSES" = some (.int 8 t)) (GW : Gfn P w K mg base 2 "is_within" ["value", "least", "most"] (spWithin K)) (GB : Gfn P w K mg base 1 "burst_places" ["most", "apart"] spBp) (GF : Gfn P w K mg base 3 "few_places" ["places"] (spFp K)) :
    FnOk P w K mg base CX0 4 f fd ["self", "most", "apart"] (spBu C) := by
  obtain ⟨fW, fdW, GW, kW, bW, gW⟩ := GW
  obtain ⟨fB, fdB, GB, kB, bB, gB⟩ := GB
  obtain ⟨fF, fdF, GF, kF, bF, gF⟩ := GF
  obtain ⟨t8, hm⟩ := hm
  refine F.ok scBu (fun vs H Q E h => ?_) (fun cdv A outer s H vs Q E hr h => ?_)
  · obtain ⟨o, dx, m, a, rfl, _⟩ := h
    rfl
  · obtain ⟨o, dx, m, a, rfl, hO, m1, m8, a1, a8, ma, k⟩ := h
    have r1 := hr.mono (show 1 ≤ 3 by decide)
    have r2 := hr.mono (show 2 ≤ 3 by decide)
    refine ⟨_, (pss_cons (ps_if (pt_not (pt_val (pe_call GW r2 (by rfl) gW kW bW .nil pass0 (pa_cons (pv 1) (pa_cons pe_int (pa_cons (pe_glob (v := .int 8) (by rfl) hm ⟨t8, rfl⟩) pa_nil)))))) (pss_one ps_no) pss_nil)
      (pss_cons (ps_if (pt_not (pt_val (pe_call GW r2 (by rfl) gW kW bW .nil pass0 (pa_cons (pv 2) (pa_cons pe_int (pa_cons (pe_glob (v := .int 8) (by rfl) hm ⟨t8, rfl⟩) pa_nil)))))) (pss_one ps_no) pss_nil)
      (pss_one (ps_fld (pv 0) (pe_call GF hr (by rfl) gF kF bF .nil pass0 (pa_cons (pe_call GB r1 (by rfl) gB kB bB .nil pass0 (pa_cons (pv 1) (pa_cons (pv 2) pa_nil))) pa_nil)) (by rfl))))), ?_⟩
    have wi : ∀ {i x : Nat} {H2 : Hp}, ([some (.ref o), some (.int (m : Int)), some (.int (a : Int))] : L2.St)[i]? = some (some (.int (x : Int))) → 1 ≤ x → x ≤ 8 → EvT (tNot (tB (tCall (spWithin K) [] E0 (tCons (tVar i) (tCons (tC (.int 1)) (tCons (tC (.int 8)) tNil)))))) [some (.ref o), some (.int (m : Int)), some (.int (a : Int))] H2 false := fun {i x H2} hi x1 x8 => et_is (et_not (et_B (ev_call (z := .bl true) (ea_cons (ev_var hi) (ea_cons ev_c (ea_cons ev_c ea_nil))) fun H3 e3 Q3 q3 E3 => .inl ⟨_, _, _, rfl, by
      rw [decide_eq_true (by omega : (1 : Int) ≤ (x : Int)), decide_eq_true (by omega : (x : Int) ≤ 8)]
      exact q3⟩))) rfl
    refine q_when (wi (i := 1) rfl m1 m8) (fun y => absurd y (by decide)) fun _ H1 e1 => ?_
    refine q_when (wi (i := 2) rfl a1 a8) (fun y => absurd y (by decide)) fun _ H2 e2 => ?_
    refine fld_i (call_i (cons_i ⟨_, rfl, _, rfl, m, a, rfl, m1, m8, a1, a8, fun p xs H3 hp e3 h3 row => ?_⟩))
    have len := burst_len (m := m) (a := a) a1
    have mat : MAt K H3 p (burstM m a) := ⟨xs, .inl (sq_of h3), row.1, fun i x u hx hu => by
      obtain ⟨b, e, hb⟩ := row.2 i x u hx hu
      exact ⟨b, e, .inr (st_of hb)⟩⟩
    refine ⟨p, burstM m a, rfl, mat, burst_ok m1 a1, by omega, by omega, fun q H4 hq e4 mt => ?_⟩
    have E4 := ((e1.trans e2).trans e3).trans e4
    exact ⟨_, rfl, o, C, dx, [], rfl, E4 _ _ hO, G.cls, G.pl, Nat.le_of_ble_eq_true rfl, k H4 E4 q mt⟩
end
end K16
namespace K16
open PySem L2 Evl Gr StX EnT
/-! ### losses: texts of kept and lost slots -/
def LsOk (z : Str) : Prop := ∀ c ∈ z.cps.toList, c = 46 ∨ c = 120
def keptAt (z : Str) (i : Nat) : Bool := z.cps.toList[i]? == some 46
theorem tw_all {p : Nat → Bool} : ∀ l : List Nat, (∀ c ∈ l, p c = true) → l.takeWhile p = l
  | [], _ => rfl
  | c :: r, h => by rw [List.takeWhile_cons, if_pos (h c List.mem_cons_self), tw_all r fun d hd => h d (List.mem_cons_of_mem _ hd)]
theorem strip_all {z y : Str} (h : ∀ c ∈ z.cps.toList, y.cps.contains c = true) : Txt.stripChars z y = "" := by
  have e1 : z.cps.toList.takeWhile y.cps.contains = z.cps.toList := tw_all _ h
  have e0 : stripLo y.cps.contains true z = z.length := by
    unfold stripLo
    rw [if_pos rfl, e1]
    exact Array.length_toList ..
  have e3 : stripHi y.cps.contains true z z.length = z.length := by
    unfold stripHi
    rw [if_pos rfl, List.drop_eq_nil_of_le (by rw [Array.length_toList]; exact Nat.le_refl _)]
    rfl
  unfold Txt.stripChars Txt.stripBy stripSame stripped
  rw [e0, e3]
  by_cases c : z.length = 0
  · rw [if_pos (by rw [c]; rfl)]
    have : z.cps = #[] := Array.eq_empty_of_size_eq_zero c
    cases z
    cases this
    decide +kernel
  · rw [if_neg (by simp [c])]
    unfold PySem.Builtin.Str.strSub
    have : z.cps.extract z.length z.length = #[] := by
      apply Array.eq_empty_of_size_eq_zero
      rw [Array.size_extract]
      omega
    rw [this]
    decide +kernel
theorem rc_lenS {K : PySem.W.Frag} {H : Hp} {z : Str} (h : z.length ≤ 100000) : RC (fun xs H Q => ∃ x n, xs = [x] ∧ LenV K x H n ∧ Q (.int n) H) [.str z] H (.int (z.length : Int)) := fun H1 _ _ q => ⟨.str z, z.length, rfl, ⟨sz_of h, rfl⟩, q H1 (Ex.refl H1)⟩
section
variable {P : Program} {w : World} {K : PySem.W.Frag} {mg : Str → Option Value} {base : Heap}
abbrev sIsl : Stmt := top 14
abbrev sIlo : Stmt := top 15
def spIsl : Sp := fun vs H Q _ => ∃ z : Str, vs = [.str z] ∧ LsOk z ∧ z.length ≤ 400 ∧ RetV (.bl true) H Q
theorem scIsl : FnScope ["value"] ["value"] (defScope sIsl) := ⟨rfl, rfl, rfl, by decide +kernel, rfl, by decide +kernel, by decide +kernel⟩
theorem scIlo : FnScope ["value"] ["value"] (defScope sIlo) := ⟨rfl, rfl, rfl, by decide +kernel, rfl, by decide +kernel, by decide +kernel⟩
theorem ls_dot {z : Str} (h : LsOk z) : ∀ c ∈ z.cps.toList, (".x" : Str).cps.contains c = true := fun c hc => by
  rcases h c hc with rfl | rfl <;> decide +kernel
theorem kit_ss : kitB "str" "str" = some true := by decide +kernel
theorem ok_Isl {f : Addr} {fd : FuncData} (F : Fun K "is_slots" "is_slots" sIsl f fd) (T : GlbT mg) : FnOk P w K mg base CX0 1 f fd ["value"] spIsl := by
  refine F.ok scIsl (fun vs H Q E h => ?_) (fun cdv A outer s H vs Q E hr h => ?_)
  · obtain ⟨z, rfl, _⟩ := h
    rfl
  · obtain ⟨z, rfl, hz, hl, k⟩ := h
    refine ⟨_, (pss_one (ps_ret (pe_and (pe_callB call_isi (by rfl) T.inst (by decide +kernel) (pa_cons (pv 0) (pa_cons (pe_bltn (v := .ty "str") (by rfl) T.str (by decide +kernel) rfl) pa_nil))) (pe_one (pe_cmpR op_eq (pe_bm PySem.F.plainAttrs_str PySem.F.slot_str_strip PySem.F.type_str_strip mt_stripChars (pv 0) (pa_cons pe_str pa_nil)) pe_str (nomark _)))))), ?_⟩
    refine s_ret (ev_is (ev_andV (a := true) (ev_cb (ea_cons (ev_var rfl) (ea_cons ev_c ea_nil)) (rc_isi (.base (.str z)) kit_ss)) fun _ => ev_is (ev_op (x := .str "") (y := .str "") (fun H1 e Q q => ⟨_, rfl, rfl, z, ".x", rfl, rfl, sz_of (by omega), by rw [strip_all (ls_dot hz)]; exact q H1 (Ex.refl H1)⟩) ev_c (rv_eq rfl)) (congrArg V.bl (decide_eq_true rfl))) rfl) k
theorem ok_Ilo {f : Addr} {fd : FuncData} (F : Fun K "is_losses" "is_losses" sIlo f fd) (T : GlbT mg) (hm : ∃ t, mg "MOST_SLOTS" = some (.int 400 t)) (GS : Gfn P w K mg base 1 "is_slots" ["value"] spIsl) : FnOk P w K mg base CX0 2 f fd ["value"] spIsl := by
  obtain ⟨fS, fdS, GS, kS, bS, gS⟩ := GS
  obtain ⟨t, hm⟩ := hm
  refine F.ok scIlo (fun vs H Q E h => ?_) (fun cdv A outer s H vs Q E hr h => ?_)
  · obtain ⟨z, rfl, _⟩ := h
    rfl
  · obtain ⟨z, rfl, hz, hl, k⟩ := h
    refine ⟨_, (pss_one (ps_ret (pe_and (pe_call GS hr (by rfl) gS kS bS .nil pass0 (pa_cons (pv 0) pa_nil)) (pe_one (pe_cmpR op_le (pe_callB call_len (by rfl) T.len PySem.boot_len (pa_cons (pv 0) pa_nil)) (pe_glob (v := .int 400) (by rfl) hm ⟨t, rfl⟩) (nomark _)))))), ?_⟩
    refine s_ret (ev_is (ev_andV (a := true) (ev_call (z := .bl true) (ea_cons (ev_var rfl) ea_nil) fun H1 e Q q E => ⟨z, rfl, hz, hl, q⟩) fun _ => ev_op (ev_cb (ea_cons (ev_var rfl) ea_nil) (rc_lenS (K := K) (z := z) (by omega))) ev_c rv_I0) ?_) k
    rw [decide_eq_true (by omega)]
    rfl
end
end K16
namespace K16
open PySem L2 Evl Gr StX EnT ClX RdX OwX OwC OpX Ls DnX
/-! ### a place, or gone -/
def gV : Option Nat → V
  | none => .int (-1)
  | some p => .int (p : Int)
def stepO (L : List Pl) (b : Bool) : Option Nat → Option Nat
  | none => none
  | some p => if b = true then lost L p else some (kept L p)
def InL (L : List Pl) (x : Option Nat) : Prop := ∀ p, x = some p → p < L.length
theorem step_in {L : List Pl} (ok : OkM L) {b : Bool} {x : Option Nat} (h : InL L x) : InL L (stepO L b x) := fun q hq => by
  cases x with
  | none => cases hq
  | some p =>
    have c := closedP_lt ok p (h p rfl)
    cases b with
    | true => exact c.2 q hq
    | false =>
      cases hq
      exact c.1
theorem run_step {L : List Pl} (w : List Bool) (b : Bool) (x : Option Nat) : run L x (w ++ [b]) = stepO L b (run L x w) := by
  rw [run_snoc]
  cases run L x w <;> rfl
theorem run_in {L : List Pl} (ok : OkM L) : ∀ (w : List Bool) {x : Option Nat}, InL L x → InL L (run L x w)
  | [], none, h => h
  | [], some p, h => h
  | b :: w, none, h => h
  | b :: w, some p, h => run_in ok w (step_in (b := b) ok h)
/-- which slots are lost -/
def bits (z : Str) : List Bool := z.cps.toList.map fun c => !(c == 46)
section
variable {K : PySem.W.Frag} {σ : L2.St} {H : Hp} {te : TE}
theorem q_forS {z : Str} {g : TG} {tu tz : TS} {D : Ends} (h : Ev te σ H (.str z)) (Pv : Nat → L2.St → Hp → Prop) (h0 : ∀ H1, Ex H H1 → Pv 0 σ H1)
    (hs : ∀ (i : Nat) (c : Nat) σ' H', z.cps.toList[i]? = some c → Pv i σ' H' → g (.str ⟨#[c]⟩) σ' H' fun σ2 H2 => tu { D with nx := Pv (i + 1), ct := Pv (i + 1), bk := tz D } σ2 H2) (hd : ∀ σ' H', Pv z.cps.toList.length σ' H' → tz D σ' H') : tSeq (tFor (iStr te) g tu) tz D σ H :=
  h H (Ex.refl H) _ fun H1 e => ⟨z, rfl, for_it (D := { D with nx := tz D }) walk_str Pv (h0 H1 e) (fun _ _ _ _ _ => trivial) (fun i x σ' H' H2 hi p y => by
    obtain ⟨rfl, c, hc, rfl⟩ := y
    exact hs i c σ' H2 (by rw [← hc]; exact Array.getElem?_toList) p) (fun σ' H' p => hd σ' H' (by rw [Array.length_toList]; exact p))⟩
end
section
variable {P : Program} {w : World} {K : PySem.W.Frag} {mg : Str → Option Value} {base : Heap}
abbrev sPb : Stmt := top 16
def spPb : Sp := fun vs H Q _ => ∃ (q : Addr) (L : List Pl) (x : Option Nat) (b : Bool), vs = [.ref q, gV x, .int (if b = true then 1 else 0)] ∧ MT H q L ∧ InL L x ∧ RetV (gV (stepO L b x)) H Q
theorem scPb : FnScope ["places", "place", "slot"] ["places", "place", "slot"] (defScope sPb) := ⟨rfl, rfl, rfl, by decide +kernel, rfl, by decide +kernel, by decide +kernel⟩
theorem gV_gone {x : Option Nat} : decide (gV x = V.int (-1)) = x.isNone := by
  cases x with
  | none => exact decide_eq_true rfl
  | some p => exact decide_eq_false fun z => by have := V.int.inj z; omega
theorem gV_scal (x : Option Nat) (i : Int) : scal (gV x) (.int i) = true := by cases x <;> rfl
theorem ok_Pb {f : Addr} {fd : FuncData} (F : Fun K "place_behind" "place_behind" sPb f fd) (hg : ∃ t, mg "GONE" = some (.int (-1) t)) : FnOk P w K mg base CX0 1 f fd ["places", "place", "slot"] spPb := by
  obtain ⟨t, hg⟩ := hg
  refine F.ok scPb (fun vs H Q E h => ?_) (fun cdv A outer s H vs Q E hr h => ?_)
  · obtain ⟨q, L, x, b, rfl, _⟩ := h
    rfl
  · obtain ⟨q, L, x, b, rfl, mt, hx, k⟩ := h
    refine ⟨_, (pss_cons (ps_if (PW.pt (pw_or (pt_cmpR op_eq (pv 1) (pe_glob (v := .int (-1)) (by rfl) hg ⟨t, rfl⟩) (nomark _)) (pw_or1 (pt_cmpR op_isN1 (pe_ix (show IxR _ (rIxT K) from ix_tup) (pe_ix (show IxR _ (rIxT K) from ix_tup) (pv 0) (pv 1) (fun _ _ => rfl)) (pv 2) (fun _ _ => rfl)) pe_non (nomark _))))) (pss_one (ps_ret (pe_glob (v := .int (-1)) (by rfl) hg ⟨t, rfl⟩))) pss_nil)
      (pss_one (ps_ret (pe_ix (show IxR _ (rIxT K) from ix_tup) (pe_ix (show IxR _ (rIxT K) from ix_tup) (pv 0) (pv 1) (fun _ _ => rfl)) (pv 2) (fun _ _ => rfl))))), ?_⟩
    cases x with
    | none => exact q_when (b := true) (et_is (et_or (a := true) (b := true) (et_is (et_test (ev_op (ev_var rfl) ev_c (rv_eq rfl))) (decide_eq_true rfl)) fun y => absurd y (by decide)) rfl) (fun _ H1 e1 => s_ret ev_c fun H2 e2 => k H2 (e1.trans e2)) (fun y => absurd y (by decide))
    | some p =>
      obtain ⟨xs, h1, row⟩ := mt
      have lp := hx p rfl
      have lx : p < xs.length := by rw [row.1]; exact lp
      obtain ⟨c, hc, hcp⟩ := row.2 p _ _ (List.getElem?_eq_getElem lx) (List.getElem?_eq_getElem lp)
      have hxp : xs[p]? = some (.ref c) := by rw [List.getElem?_eq_getElem lx, hc]
      have eL : L.getD p (0, none) = L[p] := by rw [List.getD_eq_getElem?_getD, List.getElem?_eq_getElem lp]; rfl
      have at_ : (pV L[p])[if b = true then 1 else 0]? = some (if b = true then oV (lost L p) else .int (kept L p : Int)) := by
        unfold lost kept
        rw [eL]
        cases b <;> rfl
      have ix : ∀ {H2 : Hp}, Ex H H2 → Ev (tOp (rIxT K) (tOp (rIxT K) (tVar 0) (tVar 1)) (tVar 2)) [some (.ref q), some (gV (some p)), some (.int (if b = true then 1 else 0))] H2 (if b = true then oV (lost L p) else .int (kept L p : Int)) := fun e => ev_op (ev_op (ev_var rfl) (ev_var rfl) (rv_ixT (st_of (e _ _ h1)) (atI_nat hxp))) (ev_is (ev_var rfl) (show V.int (if b = true then 1 else 0) = V.int (((if b = true then 1 else 0 : Nat) : Nat) : Int) by cases b <;> rfl)) (rv_ixT (st_of (e _ _ hcp)) (atI_nat at_))
      have no1 : EvT (tTest (tOp rEq (tVar 1) (tC (.int (-1))))) [some (.ref q), some (gV (some p)), some (.int (if b = true then 1 else 0))] H false := et_is (et_test (ev_op (ev_var rfl) ev_c (rv_eq rfl))) gV_gone
      by_cases c2 : b = true ∧ lost L p = none
      · obtain ⟨rfl, ln⟩ := c2
        refine q_when (b := true) (et_is (et_or no1 fun _ => et_is (b := true) (et_test (ev_op (ix (Ex.refl H)) ev_c fun H2 _ Q2 q2 => ⟨rfl, q2 H2 (Ex.refl H2)⟩)) (by rw [if_pos rfl, ln]; exact decide_eq_true rfl)) rfl) (fun _ H1 e1 => s_ret ev_c fun H2 e2 => ?_) (fun y => absurd y (by decide))
        have := k H2 (e1.trans e2)
        rw [show stepO L true (some p) = lost L p from rfl, ln] at this
        exact this
      · have val : (if b = true then oV (lost L p) else .int (kept L p : Int)) = gV (stepO L b (some p)) := by
          cases b with
          | false => rfl
          | true =>
            show oV (lost L p) = gV (lost L p)
            cases h : lost L p with
            | none => exact absurd ⟨rfl, h⟩ c2
            | some l => rfl
        have nn : (if b = true then oV (lost L p) else .int (kept L p : Int)) ≠ V.non := by
          rw [val]
          cases stepO L b (some p) <;> exact fun z => by cases z
        refine q_when (b := false) (et_orF no1 (et_is (et_test (ev_op (ix (Ex.refl H)) ev_c fun H2 _ Q2 q2 => ⟨rfl, q2 H2 (Ex.refl H2)⟩)) (decide_eq_false nn))) (fun y => absurd y (by decide)) fun _ H1 e1 => ?_
        exact s_ret (ev_is (ix e1) val) fun H2 e2 => k H2 (e1.trans e2)
/-! ### LossRule.lets, is_calm -/
abbrev sLr (i : Nat) : Stmt := inClass (top 31) i
def spLe (C : Addr) : Sp := fun vs H Q _ => ∃ (o : Addr) (L : List Pl) (z : Str), vs = [.ref o, .str z] ∧ RuAt H C o L ∧ OkM L ∧ 1 ≤ L.length ∧ LsOk z ∧ z.length ≤ 400 ∧ RetV (.bl (letsF L (bits z))) H Q
theorem scLe : FnScope ["self", "losses", "place", "sign"] ["self", "losses"] (defScope (sLr 2)) := ⟨rfl, rfl, rfl, by decide +kernel, rfl, by decide +kernel, by decide +kernel⟩
theorem ok_Le {C f : Addr} {fd : FuncData} (F : Fun K "lets" "LossRule.lets" (sLr 2) f fd) (G : LsC K C) (hg : ∃ t, mg "GONE" = some (.int (-1) t)) (GL : Gfn P w K mg base 2 "is_losses" ["value"] spIsl) (GB : Gfn P w K mg base 1 "place_behind" ["places", "place", "slot"] spPb) : FnOk P w K mg base CX0 3 f fd ["self", "losses"] (spLe C) := by
  obtain ⟨fL, fdL, GL, kL, bL, gL⟩ := GL
  obtain ⟨fB, fdB, GB, kB, bB, gB⟩ := GB
  obtain ⟨t, hg⟩ := hg
  refine F.ok scLe (fun vs H Q E h => ?_) (fun cdv A outer s H vs Q E hr h => ?_)
  · obtain ⟨o, L, z, rfl, _⟩ := h
    rfl
  · obtain ⟨o, L, z, rfl, hO, ok, l1, lz, z400, k⟩ := h
    have r1 := hr.mono (show 1 ≤ 2 by decide)
    refine ⟨_, (pss_cons (ps_if (pt_not (pt_val (pe_call GL hr (by rfl) gL kL bL .nil pass0 (pa_cons (pv 1) pa_nil)))) (pss_one ps_no) pss_nil)
      (pss_cons (ps_set (i := 2) scLe.nd rfl (.inl rfl) pe_int)
      (pss_cons (ps_for PassesOwn.never rfl (pi_str (pv 1)) (pg_name (i := 3) scLe.nd rfl (.inl rfl))
        (pss_one (ps_set (i := 2) scLe.nd rfl (.inl rfl) (pe_call GB r1 (by rfl) gB kB bB .nil pass0 (pa_cons (pe_fld (pv 0) rfl) (pa_cons (pv 2) (pa_cons (pe_ifExp (pt_cmpR op_eq (pv 3) pe_str (nomark _)) pe_int pe_int) pa_nil)))))))
      (pss_one (ps_ret (pe_cmpR op_ne (pv 2) (pe_glob (v := .int (-1)) (by rfl) hg ⟨t, rfl⟩) (nomark _))))))), ?_⟩
    obtain ⟨dx, q, h1, mt⟩ := hO
    refine q_when (b := false) (et_is (et_not (et_B (ev_call (z := .bl true) (ea_cons (ev_var rfl) ea_nil) fun H1 e1 Q1 q1 E1 => ⟨z, rfl, lz, z400, q1⟩))) rfl) (fun y => absurd y (by decide)) fun _ H1 e1 => ?_
    refine q_asg (v := .int 0) ev_c fun H2 e2 => ?_
    have lb : (bits z).length = z.cps.toList.length := by unfold bits; rw [List.length_map]
    refine q_forS (z := z) (ev_var rfl) (fun i σ' H' => ∃ x3 : Option V, σ' = [some (.ref o), some (.str z), some (gV (run L (some 0) ((bits z).take i))), x3] ∧ Ex H H') (fun H3 e3 => ⟨none, rfl, (e1.trans e2).trans e3⟩) ?_ ?_
    · rintro i c σ' H3 hc ⟨x3, rfl, e3⟩
      have hb : (bits z)[i]? = some (!(c == 46)) := by unfold bits; rw [List.getElem?_map, hc]; rfl
      have run0 : InL L (run L (some 0) ((bits z).take i)) := run_in ok _ fun p hp => by cases hp; omega
      have sg : decide (V.str ⟨#[c]⟩ = V.str ".") = (c == 46) := by
        rcases lz c (List.mem_of_getElem? hc) with rfl | rfl <;> decide +kernel
      refine s_asg (v := gV (stepO L (!(c == 46)) (run L (some 0) ((bits z).take i)))) (ev_call (ea_cons (ev_fld (ev_var rfl) (e3 _ _ h1) G.cls G.pl rfl) (ea_cons (ev_var rfl) (ea_cons (ev_is (ev_if (v := .int (if (!(c == 46)) = true then 1 else 0)) (b := (c == 46)) (et_is (et_test (ev_op (ev_var (i := 3) rfl) ev_c (rv_eq rfl))) sg) (fun h => ev_is ev_c (by rw [h]; rfl)) (fun h => ev_is ev_c (by rw [h]; rfl))) rfl) ea_nil))) fun H4 e4 Q4 q4 E4 => ⟨q, L, _, _, rfl, mt.mono (e3.trans e4), run0, q4⟩) fun H4 e4 => ⟨some (V.str ⟨#[c]⟩), ?_, e3.trans e4⟩
      rw [take_one hb, run_step]
      rfl
    · rintro σ' H3 ⟨x3, rfl, e3⟩
      rw [← lb, List.take_length]
      refine s_ret (ev_is (ev_op (ev_var (i := 2) rfl) ev_c (rv_ne (gV_scal _ _))) ?_) fun H4 e4 => k H4 (e3.trans e4)
      rw [gV_gone]
      unfold letsF
      cases run L (some 0) (bits z) <;> rfl
end
end K16
namespace K16
open PySem L2 Evl Gr StX EnT ClX RdX OwX OwC OpX Ls DnX
/-! ### LossRule.__eq__ -/
def oD : Option Nat → PyData
  | none => .none
  | some l => .int (l : Int)
def pD (m : Pl) : PyData := .tuple [.int (m.1 : Int), oD m.2]
def plD (L : List Pl) : PyData := .tuple (L.map pD)
theorem oD_eqv (x y : Option Nat) : PyData.eqv (oD x) (oD y) = decide (x = y) := by
  cases x <;> cases y <;> simp [oD, PyData.eqv]
  rename_i a b
  rw [Bool.eq_iff_iff, beq_iff_eq, decide_eq_true_iff]
  omega
theorem pD_eqv (x y : Pl) : PyData.eqv (pD x) (pD y) = decide (x = y) := by
  obtain ⟨a, b⟩ := x
  obtain ⟨c, d⟩ := y
  have h : PyData.eqv (pD (a, b)) (pD (c, d)) = (PyData.eqv (.int (a : Int)) (.int (c : Int)) && (PyData.eqv (oD b) (oD d) && true)) := by simp [pD, PyData.eqv, PyData.eqvAll]
  rw [h, oD_eqv, Bool.and_true, Bool.eq_iff_iff, Bool.and_eq_true, decide_eq_true_iff, decide_eq_true_iff, Prod.mk.injEq]
  refine and_congr ?_ Iff.rfl
  rw [show PyData.eqv (.int (a : Int)) (.int (c : Int)) = ((a : Int) == (c : Int)) by simp [PyData.eqv], beq_iff_eq]
  omega
theorem plD_eqv (L N : List Pl) : PyData.eqv (plD L) (plD N) = decide (L = N) := by
  show PyData.eqvAll (L.map pD) (N.map pD) = _
  exact eqvAll_map pD pD_eqv L N
theorem plD_low (L : List Pl) : Low 2 (plD L) := low_tup (n := 1) fun d hd => by
  obtain ⟨⟨a, b⟩, _, rfl⟩ := List.mem_map.mp hd
  refine low_tup (n := 0) fun d hd => ?_
  rcases List.mem_cons.mp hd with rfl | hd
  · exact low_int _
  · rw [List.mem_singleton.mp hd]
    cases b
    · exact low_non
    · exact low_int _
theorem dp_pV {K : PySem.W.Frag} {H : Hp} (m : Pl) : DpAll K H (pV m) [.int (m.1 : Int), oD m.2] := by
  refine .cons (.int _) (.cons ?_ .nil)
  cases m.2
  · exact .non
  · exact .int _
theorem PlT.tail {H : Hp} {x : V} {xs : List V} {m : Pl} {L : List Pl} (h : PlT H (x :: xs) (m :: L)) : PlT H xs L := ⟨by have := h.1; simpa using this, fun i y u hy hu => h.2 (i + 1) y u hy hu⟩
theorem plt_dp {K : PySem.W.Frag} {H : Hp} : ∀ {xs : List V} {L : List Pl}, PlT H xs L → DpAll K H xs (L.map pD)
  | [], [], _ => .nil
  | [], _ :: _, h => by cases h.1
  | _ :: _, [], h => by cases h.1
  | x :: xs, m :: L, h => by
    obtain ⟨a, rfl, ha⟩ := h.2 0 x m rfl rfl
    exact .cons (.tup (st_of ha) (dp_pV m)) (plt_dp h.tail)
theorem mt_dp {K : PySem.W.Frag} {H : Hp} {a : Addr} {L : List Pl} (h : MT H a L) : Dp K H (.ref a) (plD L) := by
  obtain ⟨xs, h1, h2⟩ := h
  exact .tup (st_of h1) (plt_dp h2)
/-- a class of rules -/
structure LsK (K : PySem.W.Frag) (CL C : Addr) : Prop where
  ls : LsC K C
  ca : PySem.W.findIn K (.ref C) "__class__" = some (some (.builtin "object.__class__"))
  cn : PySem.W.specialIn K (.builtin "object.__class__") "__get__" = some (some (.builtin "getset_descriptor.__get__"))
  ct : PySem.W.takesIn K (.builtin "object.__class__") = some true
  cm : PySem.W.mroIn K C (.type "object") = some true
  kit : PySem.W.kitOne K (.ref C) (.ref CL) = some true
theorem ev_pl {K : PySem.W.Frag} {σ : L2.St} {H : Hp} {ta : TE} {C o : Addr} {L : List Pl} (G : LsC K C) (h : Ev ta σ H (.ref o)) (ho : RuAt H C o L) : ∃ q, Ev (tFld K ta "places") σ H (.ref q) ∧ MT H q L := by
  obtain ⟨dx, q, h1, mt⟩ := ho
  exact ⟨q, ev_fld h h1 G.cls G.pl rfl, mt⟩
theorem ed_pl {K : PySem.W.Frag} {σ : L2.St} {H : Hp} {ta : TE} {C o : Addr} {L : List Pl} (G : LsC K C) (h : Ev ta σ H (.ref o)) (ho : RuAt H C o L) : EvD K (tFld K ta "places") σ H (plD L) := by
  obtain ⟨q, h1, mt⟩ := ev_pl G h ho
  exact ed_of h1 fun H1 e => mt_dp (mt.mono e)
section
variable {P : Program} {w : World} {K : PySem.W.Frag} {mg : Str → Option Value} {base : Heap}
def spEqR (K : PySem.W.Frag) (CL : Addr) : Sp := fun vs H Q _ => ∃ (o C : Addr) (y : V) (L : List Pl), vs = [.ref o, y] ∧ LsK K CL C ∧ RuAt H C o L ∧
  ((∃ (u D : Addr) (N : List Pl), y = .ref u ∧ LsK K CL D ∧ RuAt H D u N ∧ RetV (.bl (decide (L = N))) H Q) ∨ ∃ T : String, TyX K H y (.type T) ∧ PySem.W.kitOne K (.type T) (.ref CL) = some false ∧ RetV (.bl false) H Q)
theorem scEqR : FnScope ["self", "other"] ["self", "other"] (defScope (sLr 0)) := ⟨rfl, rfl, rfl, by decide +kernel, rfl, by decide +kernel, by decide +kernel⟩
theorem ok_EqR {CL f : Addr} {fd : FuncData} (F : Fun K "__eq__" "LossRule.__eq__" (sLr 0) f fd) (gC : mg "LossRule" = some (.ref CL)) (T : GlbT mg) : FnOk P w K mg base CX0 1 f fd ["self", "other"] (spEqR K CL) := by
  refine F.ok scEqR (fun vs H Q E h => ?_) (fun cdv A outer s H vs Q E hr h => ?_)
  · obtain ⟨o, C, y, L, rfl, _⟩ := h
    rfl
  · obtain ⟨o, C, y, L, rfl, G, hO, k⟩ := h
    refine ⟨_, pss_one (ps_ret (pe_and (pe_callB call_isi (by rfl) T.inst (by decide +kernel) (pa_cons (pv 1) (pa_cons (pe_glob (v := .ref CL) (by rfl) gC (by rfl)) pa_nil))) (pe_one (pe_cmpR (op_eqD hr.units) (pe_fld (pv 0) rfl) (pe_fld (pv 1) rfl) (nomark _))))), ?_⟩
    rcases k with ⟨u, D, N, rfl, GD, hU, k⟩ | ⟨T', ht, hk, k⟩
    · obtain ⟨dx, q, hi, _⟩ := id hU
      have isi : RC (rIsi K) [.ref u, .ref CL] H (.bl true) := fun H1 e _ q => ⟨.ref u, .ref CL, .ref D, .ref CL, true, rfl, .own CL, tyx_mono e (.base (.ins hi GD.ls.cls GD.ca GD.cn GD.ct GD.cm)), GD.kit, q H1 (Ex.refl H1)⟩
      refine s_ret (ev_is (ev_andV (ev_cb (ea_cons (ev_var rfl) (ea_cons ev_c ea_nil)) isi) fun _ => ev_eqD (ed_pl G.ls (ev_var rfl) hO) (ed_pl GD.ls (ev_var rfl) hU) (low_shaped (plD_low _) (by decide)) (low_shaped (plD_low _) (by decide))) (by rw [Bool.true_and, plD_eqv])) k
    · have isi : RC (rIsi K) [y, .ref CL] H (.bl false) := fun H1 e _ q => ⟨y, .ref CL, .type T', .ref CL, false, rfl, .own CL, tyx_mono e ht, hk, q H1 (Ex.refl H1)⟩
      exact s_ret (ev_is (ev_andV (b := false) (ev_cb (ea_cons (ev_var rfl) (ea_cons ev_c ea_nil)) isi) fun y => absurd y (by decide)) (by rw [Bool.and_false])) k
end
end K16
namespace K16
open PySem L2 Evl Gr StX EnT ClX RdX OwX OwC OpX Ls DnX
theorem told_pl (L : List Pl) : (List.range L.length).map (fun k => (kept L k, lost L k)) = L := by
  refine List.ext_getElem? fun i => ?_
  rw [List.getElem?_map]
  rcases Nat.lt_or_ge i L.length with h | h
  · rw [List.getElem?_range h, List.getElem?_eq_getElem h]
    have eL : L.getD i (0, none) = L[i] := by rw [List.getD_eq_getElem?_getD, List.getElem?_eq_getElem h]; rfl
    show some ((L.getD i (0, none)).1, (L.getD i (0, none)).2) = _
    rw [eL]
  · rw [List.getElem?_eq_none (by rw [List.length_range]; exact h), List.getElem?_eq_none h]
    rfl
theorem plt_plr {K : PySem.W.Frag} {H : Hp} {xs : List V} {L : List Pl} (h : PlT H xs L) : PlR K H xs L := ⟨h.1, fun i x m hx hm => by
  obtain ⟨a, e, ha⟩ := h.2 i x m hx hm
  exact ⟨a, e, .inr (st_of ha)⟩⟩
section
variable {K : PySem.W.Frag} {σ : L2.St} {H : Hp} {ta : TA} {te : TE} {j : Nat} {vs : List Nat}
theorem ed_tupP {p : Addr} {xs : List V} {L : List Pl} (h : Ev te σ H (.ref p)) (hp : H p = some (.lst xs)) (row : PlT H xs L) : EvD K (tThen te (kTup K)) σ H (plD L) := fun H1 e Q q =>
  etu_tupleP h (sq_of hp) H1 e _ fun r H2 e2 hr => q (.ref r) H2 e2 (.tup hr (plt_dp (row.mono (e.trans e2))))
end
theorem mr_made {K : PySem.W.Frag} {C : Addr} {H : Hp} {x dx : Addr} {xs : List V} {L : List Pl} {Q : VK} {E : XK} (hx : H x = none) (hd : H dx = none) (hn : dx ≠ x) (row : PlR K H xs L) (ok : OkM L) (l1 : 1 ≤ L.length) (l12 : L.length ≤ 12)
    (k : ∀ H', Ex H H' → RuAt H' C x (least L) → Q .non H') : spMrA K C (V.ref x :: xs) (upd (upd H dx (.own x)) x (.ins C dx [])) Q E := by
  have e3 : Ex H (upd (upd H dx (.own x)) x (.ins C dx [])) := (Ex.new hd).trans (Ex.new (by rw [upd_ne hn.symm]; exact hx))
  have lx := row.1
  refine ⟨[.ref x], xs, rfl, rfl, sz_of (by omega), fun p hp => ?_⟩
  have e4 := Ex.new (o := .tup xs) hp
  refine ⟨x, p, dx, xs, L, rfl, e4 _ _ upd_same, st_of upd_same, row.mono (e3.trans e4), ok, l1, l12, fun H1 e1 q mt => ?_⟩
  have i1 : H1 x = some (.ins C dx []) := e1 _ _ (e4 _ _ upd_same)
  exact k _ (Ex.mut ((e3.trans e4).trans e1) hx) (ru_new i1 mt)
def LT (H : Hp) (a : Addr) (M : List Pl) : Prop := ∃ xs, H a = some (.lst xs) ∧ PlT H xs M
theorem LT.mono {H H' : Hp} {a : Addr} {M : List Pl} (e : Ex H H') (h : LT H a M) : LT H' a M := by
  obtain ⟨xs, h1, h2⟩ := h
  exact ⟨xs, e _ _ h1, h2.mono e⟩
end K16
namespace K16
open PySem L2 Evl Gr StX EnT ClX RdX OwX OwC OpX Ls DnX
/-! ### _law_of_pairs -/
theorem mk_i {C : Addr} {sp : Sp} {E : XK} {t : TA} {σ : L2.St} {H : Hp} {ys : List V} {Q : VK} (h : EvA t σ H ys) (k : ∀ H1, Ex H H1 → ∀ x dx, H1 x = none → H1 dx = none → dx ≠ x → sp (V.ref x :: ys) (upd (upd H1 dx (.own x)) x (.ins C dx [])) (fun v H2 => v = .non ∧ Q (.ref x) H2) E) : tMakeR C sp E t σ H Q :=
  h H (Ex.refl H) _ fun H1 e1 => k H1 e1
section
variable {P : Program} {w : World} {K : PySem.W.Frag} {mg : Str → Option Value} {base : Heap}
abbrev nOp : List Str := ["_law_places_so", "_law_a"]
def spOp (CM : Addr) : Sp := fun vs H Q _ => ∃ (q : Addr) (L : List Pl), vs = [.ref q] ∧ LT H q L ∧ OkM L ∧ 1 ≤ L.length ∧ L.length ≤ 4 ∧ ∀ o H', Ex H H' → RuAt H' CM o (least L) → Q (.ref o) H'
theorem scOp : FnScope nOp ["_law_places_so"] (defScope (top 40)) := ⟨rfl, rfl, rfl, by decide +kernel, rfl, by decide +kernel, by decide +kernel⟩
theorem ok_Op {CM fI f : Addr} {fd : FuncData} (F : Fun K "_law_of_pairs" "_law_of_pairs" (top 40) f fd) (T : GlbT mg) (M : Mk K CM fI) (FI : FnR P w K mg base CX0 4 fI (spMrA K CM)) (gM : mg "MachineRule" = some (.ref CM)) : FnOk P w K mg base CX0 6 f fd ["_law_places_so"] (spOp CM) := by
  refine F.ok scOp (fun vs H Q E h => ?_) (fun cdv A outer s H vs Q E hr h => ?_)
  · obtain ⟨q, L, rfl, _⟩ := h
    rfl
  · obtain ⟨q, L, rfl, hq, ok, l1, l4, k⟩ := h
    refine ⟨_, (pss_cons (ps_set (i := 1) scOp.nd rfl (.inl rfl) (pv 0))
      (pss_cons (ps_if (pt_cmpR op_eq (pe_callB call_len_seq (by rfl) T.len PySem.boot_len (pa_cons (pv 1) pa_nil)) pe_int (nomark _)) (pss_one (ps_ret (pe_makeR (E := E0) M FI hr (by rfl) gM pass0 (pa_cons (pe_ix (show IxR _ (rIxL K) from ix_list) (pv 1) pe_int (fun _ _ => rfl)) pa_nil)))) pss_nil)
      (pss_cons (ps_if (pt_cmpR op_eq (pe_callB call_len_seq (by rfl) T.len PySem.boot_len (pa_cons (pv 1) pa_nil)) pe_int (nomark _)) (pss_one (ps_ret (pe_makeR (E := E0) M FI hr (by rfl) gM pass0 (pa_cons (pe_ix (show IxR _ (rIxL K) from ix_list) (pv 1) pe_int (fun _ _ => rfl)) (pa_cons (pe_ix (show IxR _ (rIxL K) from ix_list) (pv 1) pe_int (fun _ _ => rfl)) pa_nil))))) pss_nil)
      (pss_cons (ps_if (pt_cmpR op_eq (pe_callB call_len_seq (by rfl) T.len PySem.boot_len (pa_cons (pv 1) pa_nil)) pe_int (nomark _)) (pss_one (ps_ret (pe_makeR (E := E0) M FI hr (by rfl) gM pass0 (pa_cons (pe_ix (show IxR _ (rIxL K) from ix_list) (pv 1) pe_int (fun _ _ => rfl)) (pa_cons (pe_ix (show IxR _ (rIxL K) from ix_list) (pv 1) pe_int (fun _ _ => rfl)) (pa_cons (pe_ix (show IxR _ (rIxL K) from ix_list) (pv 1) pe_int (fun _ _ => rfl)) pa_nil)))))) pss_nil)
      (pss_one (ps_ret (pe_makeR (E := E0) M FI hr (by rfl) gM pass0 (pa_cons (pe_ix (show IxR _ (rIxL K) from ix_list) (pv 1) pe_int (fun _ _ => rfl)) (pa_cons (pe_ix (show IxR _ (rIxL K) from ix_list) (pv 1) pe_int (fun _ _ => rfl)) (pa_cons (pe_ix (show IxR _ (rIxL K) from ix_list) (pv 1) pe_int (fun _ _ => rfl)) (pa_cons (pe_ix (show IxR _ (rIxL K) from ix_list) (pv 1) pe_int (fun _ _ => rfl)) pa_nil))))))))))), ?_⟩
    obtain ⟨xs, h1, row⟩ := hq
    have lx := row.1
    refine q_asg (v := .ref q) (ev_var rfl) fun H1 e1 => ?_
    have ln : ∀ {H2 : Hp} {n : Nat}, Ex H H2 → xs.length = n → Ev (tCB (rLQ K) (tCons (tVar 1) tNil)) [some (.ref q), some (.ref q)] H2 (.int (n : Int)) := fun e h => ev_is (ev_cb (ea_cons (ev_var rfl) ea_nil) (rc_lenQ (.inl (sq_of (e _ _ h1))))) (by rw [h])
    have ix : ∀ {H2 : Hp} {i : Int} {v : V}, Ex H H2 → atI xs i = some v → Ev (tOp (rIxL K) (tVar 1) (tC (.int i))) [some (.ref q), some (.ref q)] H2 v := fun e h => ev_op (ev_var rfl) ev_c (rv_ixL (sq_of (e _ _ h1)) h)
    have no : ∀ {H2 : Hp} {n m : Nat}, Ex H H2 → xs.length = n → n ≠ m → EvT (tTest (tOp rEq (tCB (rLQ K) (tCons (tVar 1) tNil)) (tC (.int (m : Int))))) [some (.ref q), some (.ref q)] H2 false := fun e h hn => et_is (et_test (ev_op (ln e h) ev_c (rv_eq rfl))) (decide_eq_false fun z => hn (by have := V.int.inj z; omega))
    have yes : ∀ {H2 : Hp} {n : Nat}, Ex H H2 → xs.length = n → EvT (tTest (tOp rEq (tCB (rLQ K) (tCons (tVar 1) tNil)) (tC (.int (n : Int))))) [some (.ref q), some (.ref q)] H2 true := fun e h => et_is (et_test (ev_op (ln e h) ev_c (rv_eq rfl))) (decide_eq_true rfl)
    have fin : ∀ {H2 H3 : Hp} {x dx : Addr}, Ex H H2 → Ex H2 H3 → H3 x = none → H3 dx = none → dx ≠ x → spMrA K CM (V.ref x :: xs) (upd (upd H3 dx (.own x)) x (.ins CM dx [])) (fun v H2 => v = .non ∧ Q (.ref x) H2) E0 := fun e e' hx hd hn => mr_made hx hd hn (plt_plr (row.mono (e.trans e'))) ok l1 (by omega) fun H4 e4 ru => ⟨rfl, k _ H4 ((e.trans e').trans e4) ru⟩
    rcases xs with _ | ⟨x0, _ | ⟨x1, _ | ⟨x2, _ | ⟨x3, _ | ⟨x4, r⟩⟩⟩⟩⟩
    · exact absurd lx (by show ¬ (0 = L.length); omega)
    · refine q_when (b := true) (yes (n := 1) e1 rfl) (fun _ H2 e2 => ?_) (fun z => absurd z (by decide))
      exact s_retR (mk_i (ea_cons (ix (e1.trans e2) rfl) ea_nil) fun H3 e3 x dx hx hd hn => fin (e1.trans e2) e3 hx hd hn)
    · refine q_when (b := false) (no (n := 2) (m := 1) e1 rfl (by decide)) (fun z => absurd z (by decide)) (fun _ H2 e2 => ?_)
      refine q_when (b := true) (yes (n := 2) (e1.trans e2) rfl) (fun _ H3 e3 => ?_) (fun z => absurd z (by decide))
      have e := (e1.trans e2).trans e3
      exact s_retR (mk_i (ea_cons (ix e rfl) (ea_cons (ix e rfl) ea_nil)) fun H4 e4 x dx hx hd hn => fin e e4 hx hd hn)
    · refine q_when (b := false) (no (n := 3) (m := 1) e1 rfl (by decide)) (fun z => absurd z (by decide)) (fun _ H2 e2 => ?_)
      refine q_when (b := false) (no (n := 3) (m := 2) (e1.trans e2) rfl (by decide)) (fun z => absurd z (by decide)) (fun _ H3 e3 => ?_)
      refine q_when (b := true) (yes (n := 3) ((e1.trans e2).trans e3) rfl) (fun _ H4 e4 => ?_) (fun z => absurd z (by decide))
      have e := ((e1.trans e2).trans e3).trans e4
      exact s_retR (mk_i (ea_cons (ix e rfl) (ea_cons (ix e rfl) (ea_cons (ix e rfl) ea_nil))) fun H5 e5 x dx hx hd hn => fin e e5 hx hd hn)
    · refine q_when (b := false) (no (n := 4) (m := 1) e1 rfl (by decide)) (fun z => absurd z (by decide)) (fun _ H2 e2 => ?_)
      refine q_when (b := false) (no (n := 4) (m := 2) (e1.trans e2) rfl (by decide)) (fun z => absurd z (by decide)) (fun _ H3 e3 => ?_)
      refine q_when (b := false) (no (n := 4) (m := 3) ((e1.trans e2).trans e3) rfl (by decide)) (fun z => absurd z (by decide)) (fun _ H4 e4 => ?_)
      have e := ((e1.trans e2).trans e3).trans e4
      exact s_retR (mk_i (ea_cons (ix e rfl) (ea_cons (ix e rfl) (ea_cons (ix e rfl) (ea_cons (ix e rfl) ea_nil)))) fun H5 e5 x dx hx hd hn => fin e e5 hx hd hn)
    · exact absurd lx (by rw [List.length_cons, List.length_cons, List.length_cons, List.length_cons, List.length_cons]; omega)
end
end K16
namespace K16
open PySem L2 Evl Gr StX EnT ClX RdX OwX OwC OpX Ls DnX
/-! ### walks of the law: its own lists of kinds -/
theorem keep_ex {F : Addr} {H0 H H' : Hp} (e : Ex H0 H) (hF : H0 F = none) (k : Keep F H H') : Ex H0 H' := fun b u hb => k b u (e b u hb) fun z => by rw [z, hF] at hb; cases hb
theorem in_nums {q : Nat} : ∀ {l : List Nat}, inV (V.int (q : Int)) (vN l) = decide (q ∈ l)
  | [] => rfl
  | n :: l => by
    have ih := in_nums (q := q) (l := l)
    have e : inV (V.int (q : Int)) (vN (n :: l)) = (((n : Int) == (q : Int)) || inV (V.int (q : Int)) (vN l)) := rfl
    rw [e, ih, Bool.eq_iff_iff, Bool.or_eq_true, decide_eq_true_iff, decide_eq_true_iff, beq_iff_eq, List.mem_cons]
    constructor
    · rintro (h | h)
      · exact .inl (by omega)
      · exact .inr h
    · rintro (h | h)
      · exact .inl (by omega)
      · exact .inr h
theorem flat_nums (l : List Nat) : (vN l).all flatV = true := List.all_eq_true.mpr fun x hx => by
  obtain ⟨y, _, rfl⟩ := List.mem_map.mp hx
  rfl
theorem grow_fix {k ρ : Nat → Nat} {ord : List Nat} {x : Option Nat} (hx : ∀ q, x = some q → ρ (ρ q) = ρ q) (h : ∀ p ∈ ord, ρ p = p) : ∀ p ∈ grow k ρ ord x, ρ p = p := by
  cases x with
  | none => exact h
  | some q =>
    rw [grow_some]
    split
    · exact h
    · intro p hp
      rcases List.mem_append.mp hp with c | c
      · exact h p c
      · rw [List.mem_singleton.mp c]
        exact hx q rfl
section
variable {K : PySem.W.Frag} {σ : L2.St} {H : Hp} {ti to : TE}
theorem et_ninN {a : Addr} {l : List Nat} {q : Nat} (hi : Ev ti σ H (.int (q : Int))) (ho : Ev to σ H (.ref a)) (hp : H a = some (.lst (vN l))) : EvT (tTest (tOp (rIn K true) ti to)) σ H (!decide (q ∈ l)) :=
  et_test (ev_op hi ho fun H1 e Q q' => ⟨a, _, rfl, .inl (sq_of (e _ _ hp)), rfl, flat_nums l, by
    rw [in_nums]
    exact q' H1 (Ex.refl H1)⟩)
theorem s_grow {k ρ : Nat → Nat} {o : List Nat} {x : Option Nat} {D : Ends} {b f : Nat} {F : Addr} {tk : TE} (hb : σ[b]? = some (some (oV x))) (hf : σ[f]? = some (some (.ref F))) (hF : H F = some (.lst (vN (o.map k)))) (l100 : o.length ≤ 1000)
    (hk : ∀ q, x = some q → k (ρ q) = k q ∧ Ev tk σ H (.int (k q : Int))) (kk : ∀ H', Keep F H H' → H' F = some (.lst (vN ((grow k ρ o x).map k))) → D.nx σ H') :
    tIfS (tAnd (tTest (tOp rNotN (tVar b) (tC .non))) (tTest (tOp (rIn K true) tk (tVar f)))) (tDrop (tBM K "list" rAppend (tVar f) (tCons tk tNil))) tNext D σ H := by
  cases x with
  | none =>
    refine s_when (b := false) (et_is (et_and (a := false) (b := false) (et_is (et_test (ev_op (ev_var hb) ev_c fun H4 _ Q4 q4 => ⟨rfl, q4 H4 (Ex.refl H4)⟩)) (by decide)) fun z => absurd z (by decide)) rfl) (fun z => absurd z (by decide)) fun _ H1 e1 => ?_
    exact kk H1 (Keep.of_ex e1) (e1 _ _ hF)
  | some q =>
    obtain ⟨kq, ek⟩ := hk q rfl
    refine s_when (b := !decide (k q ∈ o.map k)) (et_is (et_and (a := true) (et_is (et_test (ev_op (ev_var hb) ev_c fun H4 _ Q4 q4 => ⟨rfl, q4 H4 (Ex.refl H4)⟩)) (by show (!decide (V.int (q : Int) = V.non)) = true; rw [decide_eq_false fun z => by cases z]; rfl)) fun _ => et_ninN ek (ev_var hf) hF) (Bool.true_and _)) (fun hc H1 e1 => ?_) (fun hc H1 e1 => ?_)
    · have no : k q ∉ o.map k := by simpa using hc
      refine s_app (K := K) (xs := vN (o.map k)) (v := .int (k q : Int)) (e1 _ _ hF) (ev_var hf) (ek.mono e1) (by rw [vN_len, List.length_map]; omega) fun H2 e2 => ?_
      refine kk _ (fun c u hc hn => by rw [upd_ne hn]; exact (e1.trans e2) _ _ hc) ?_
      rw [upd_same, grow_some, if_neg no, List.map_append, vN_app]
      show some (HO.lst (vN (o.map k ++ [k q]))) = some (.lst (vN (o.map k ++ [k (ρ q)])))
      rw [kq]
    · have yes : k q ∈ o.map k := by simpa using hc
      refine kk H1 (Keep.of_ex e1) ?_
      rw [grow_some, if_pos yes]
      exact e1 _ _ hF
theorem q_walk {k ρ : Nat → Nat} {M : List Pl} {S : Nat → Prop} {F : Addr} {f at_ b : Nat} {tk tsrc : TE} {tz : TS} {D : Ends} (st : Option V → Nat → L2.St) (y0 : Option V)
    (hb : ∀ y i, (st y i)[b]? = some y) (hf : ∀ y i, (st y i)[f]? = some (some (.ref F))) (ha : ∀ y i, (st y i)[at_]? = some (some (.int (i : Int)))) (sb : ∀ y i z, (st y i).set b (some z) = st (some z) i) (sa : ∀ y i (j : Nat), (st y i).set at_ (some (.int (j : Int))) = st y j)
    (stn : Stands k ρ S) (cl : ClosedP M S) (lt : ∀ p, S p → p < M.length) (l100 : M.length ≤ 100) {p0 : Nat} (h0 : S p0) (hρ : ∀ q, S q → ρ (ρ q) = ρ q) (h0ρ : ρ p0 = p0) (hF : H F = some (.lst (vN [k p0])))
    (hk : ∀ q i H', S q → Keep F H H' → Ev tk (st (some (.int (q : Int))) i) H' (.int (k q : Int)))
    (hsrc : ∀ z i p (ord : List Nat) H', S p → ρ p = p → ord[i]? = some p → Keep F H H' → H' F = some (.lst (vN (ord.map k))) → ∃ T, Ev tsrc (st z i) H' (.ref T) ∧ H' T = some (.tup (pV (kept M p, lost M p))))
    (kk : ∀ z i H', Keep F H H' → (∀ p ∈ walk k ρ M (M.length + 1) 0 [p0], ρ p = p) → H' F = some (.lst (vN ((walk k ρ M (M.length + 1) 0 [p0]).map k))) → tz D (st z i) H') :
    tSeq (tWhile (tTest (tOp (rI0 fun i j => .bl (decide (i < j))) (tVar at_) (tCB (rLQ K) (tCons (tVar f) tNil)))) (tSeq (tFor (iTup K tsrc) (gName b) (tIfS (tAnd (tTest (tOp rNotN (tVar b) (tC .non))) (tTest (tOp (rIn K true) tk (tVar f)))) (tDrop (tBM K "list" rAppend (tVar f) (tCons tk tNil))) tNext)) (tAsg (tOp (rI0 fun i j => .int (i + j)) (tVar at_) (tC (.int 1))) (gName at_)))) tz D (st y0 0) H := by
  refine q_while (fun m σ' H' => ∃ (i : Nat) (ord : List Nat) (z : Option V), m + i = M.length + 1 ∧ walk k ρ M m i ord = walk k ρ M (M.length + 1) 0 [p0] ∧ i ≤ ord.length ∧ (∀ p ∈ ord, S p) ∧ (∀ p ∈ ord, ρ p = p) ∧ (ord.map k).Nodup ∧ σ' = st z i ∧ Keep F H H' ∧ H' F = some (.lst (vN (ord.map k)))) (M.length + 1)
    ⟨0, [p0], y0, rfl, rfl, Nat.zero_le _, (fun p hp => by rw [List.mem_singleton.mp hp]; exact h0), (fun p hp => by rw [List.mem_singleton.mp hp]; exact h0ρ), by simp, rfl, Keep.of_ex (Ex.refl H), hF⟩ ?_
  rintro m σ' H1 ⟨i, ord, z, hm, hw, li, oi, ofx, nd, rfl, k1, f1⟩
  have few := ord_few (fun p hp => lt p (oi p hp)) nd
  refine ⟨decide (i < ord.length), et_is (et_test (ev_op (ev_var (ha z i)) (ev_is (ev_cb (ea_cons (ev_var (hf z i)) ea_nil) (rc_lenQ (.inl (sq_of f1)))) (by rw [vN_len, List.length_map])) rv_I0)) (decide_eq_decide.mpr (by omega)), fun hc H2 e2 => ⟨_, fun _ _ h => h, ?_⟩, fun hc H2 e2 => ?_⟩
  · have lt1 := of_decide_eq_true hc
    obtain ⟨f', rfl⟩ : ∃ f', m = f' + 1 := ⟨m - 1, by omega⟩
    have hp := List.getElem?_eq_getElem lt1
    generalize ord[i] = p at hp
    have pS := oi p (List.mem_of_getElem? hp)
    have hw2 : walk k ρ M f' (i + 1) (visit k ρ M ord p) = walk k ρ M (M.length + 1) 0 [p0] := by
      rw [← hw]
      show _ = (match ord[i]? with | some p => walk k ρ M f' (i + 1) (visit k ρ M ord p) | none => ord)
      rw [hp]
    have K2 := k1.trans (Keep.of_ex e2)
    have f2 := e2 _ _ f1
    obtain ⟨T, hT, t2⟩ := hsrc z i p ord H2 pS (ofx p (List.mem_of_getElem? hp)) hp K2 f2
    have TF : T ≠ F := fun z => by rw [z, f2] at t2; cases t2
    have v2 : visit k ρ M ord p = grow k ρ (grow k ρ ord (some (kept M p))) (lost M p) := rfl
    have ck := (cl p pS).1
    have gin : ∀ p' ∈ grow k ρ ord (some (kept M p)), S p' := grow_in stn (fun q e => by cases e; exact ck) oi
    have gnd : ((grow k ρ ord (some (kept M p))).map k).Nodup := grow_nd stn (fun q e => by cases e; exact ck) nd
    have gfew := ord_few (fun p hp => lt p (gin p hp)) gnd
    refine hT H2 (Ex.refl H2) _ fun H3 e3 => ⟨T, rfl, ⟨_, st_of (e3 _ _ t2)⟩, ?_⟩
    refine for_it (walk_tup (K := K) (a := T) (xs := pV (kept M p, lost M p))) (fun j σ' H' => ∃ (y : Option V) (o' : List Nat), σ' = st y i ∧ Keep F H H' ∧ H' T = some (.tup (pV (kept M p, lost M p))) ∧ H' F = some (.lst (vN (o'.map k))) ∧ (j = 0 → o' = ord) ∧ (j = 1 → o' = grow k ρ ord (some (kept M p))) ∧ (j = 2 → o' = visit k ρ M ord p))
      ⟨z, ord, rfl, K2.trans (Keep.of_ex e3), e3 _ _ t2, e3 _ _ f2, fun _ => rfl, fun y => absurd y (by decide), fun y => absurd y (by decide)⟩ (fun j σ' H' _ ⟨_, _, _, _, h, _⟩ => st_of h) ?_ ?_
    · rintro j v σ' H4 H5 hj ⟨y, o', rfl, k4, t4, f4, c0, c1, _⟩ hy
      obtain ⟨rfl, hv⟩ := hy
      match j, hv with
      | 0, hv =>
        cases hv
        obtain rfl := c0 rfl
        show tIfS _ _ _ _ ((st y i).set b (some (V.int (kept M p : Int)))) _
        rw [sb]
        refine s_grow (K := K) (k := k) (ρ := ρ) (o := o') (x := some (kept M p)) (hb _ _) (hf _ _) f4 (by omega) (fun q e => by cases e; exact ⟨(stn _ ck).1, hk _ _ _ ck k4⟩) fun H6 k6 f6 => ?_
        exact ⟨_, _, rfl, k4.trans k6, k6 _ _ t4 TF, f6, fun y => absurd y (by decide), fun _ => rfl, fun y => absurd y (by decide)⟩
      | 1, hv =>
        cases hv
        obtain rfl := c1 rfl
        show tIfS _ _ _ _ ((st y i).set b (some (oV (lost M p)))) _
        rw [sb]
        refine s_grow (K := K) (k := k) (ρ := ρ) (x := lost M p) (hb _ _) (hf _ _) f4 (by omega) (fun q e => ⟨(stn _ ((cl p pS).2 q e)).1, by rw [e]; exact hk _ _ _ ((cl p pS).2 q e) k4⟩) fun H6 k6 f6 => ?_
        exact ⟨_, _, rfl, k4.trans k6, k6 _ _ t4 TF, f6, fun y => absurd y (by decide), fun y => absurd y (by decide), fun _ => rfl⟩
      | j + 2, hv => cases hv
    · rintro σ' H4 ⟨y, o', rfl, k4, t4, f4, _, _, c2⟩
      obtain rfl := c2 rfl
      refine s_asg (v := .int ((i + 1 : Nat) : Int)) (ev_is (ev_op (ev_var (ha _ _)) ev_c rv_I0) (by show V.int _ = V.int _; congr 1)) fun H5 e5 => ?_
      rw [sa]
      refine ⟨f', Nat.lt_succ_self f', i + 1, _, y, by omega, hw2, ?_, visit_in stn cl pS oi, grow_fix (fun q e => hρ q ((cl p pS).2 q e)) (grow_fix (fun q e => by cases e; exact hρ _ ck) ofx), visit_nd stn cl pS nd, rfl, k4.trans (Keep.of_ex e5), e5 _ _ f4⟩
      obtain ⟨more, hmr⟩ := visit_more (k := k) (ρ := ρ) (M := M) (ord := ord) p
      rw [hmr, List.length_append]
      omega
  · have ge : ord.length ≤ i := Nat.le_of_not_lt (of_decide_eq_false hc)
    have eo : walk k ρ M (M.length + 1) 0 [p0] = ord := by
      rw [← hw]
      cases m with
      | zero => rfl
      | succ f' =>
        show (match ord[i]? with | some p => walk k ρ M f' (i + 1) (visit k ρ M ord p) | none => ord) = ord
        rw [List.getElem?_eq_none ge]
    refine kk z i H2 (k1.trans (Keep.of_ex e2)) ?_ ?_
    · rw [eo]; exact ofx
    rw [eo]
    exact e2 _ _ f1
end
section
variable {P : Program} {w : World} {K : PySem.W.Frag} {mg : Str → Option Value} {base : Heap}
/-! ### _law_reached -/
abbrev nRe : List Str := ["_law_places_so", "_law_found", "_law_at", "_law_behind"]
def spRe : Sp := fun vs H Q _ => ∃ (q : Addr) (L : List Pl), vs = [.ref q] ∧ LT H q L ∧ OkM L ∧ 1 ≤ L.length ∧ L.length ≤ 100 ∧ ∀ r H', H r = none → Ex H H' → H' r = some (.lst (vN (reachF L))) → Q (.ref r) H'
theorem scRe : FnScope nRe ["_law_places_so"] (defScope (top 41)) := ⟨rfl, rfl, rfl, by decide +kernel, rfl, by decide +kernel, by decide +kernel⟩
theorem ok_Re {f : Addr} {fd : FuncData} (F : Fun K "_law_reached" "_law_reached" (top 41) f fd) (S : GlbS mg) : FnOk P w K mg base CX0 1 f fd ["_law_places_so"] spRe := by
  refine F.ok scRe (fun vs H Q E h => ?_) (fun cdv A outer s H vs Q E hr h => ?_)
  · obtain ⟨q, L, rfl, _⟩ := h
    rfl
  · obtain ⟨q, L, rfl, hq, ok, l1, l100, kk⟩ := h
    refine ⟨_, (pss_cons (ps_par (i := 1) (j := 2) rfl scRe.nd rfl rfl (by decide) rfl rfl (pa_cons (pe_lst (pa_cons pe_int pa_nil)) (pa_cons pe_int pa_nil)) (by rfl))
      (pss_cons (ps_while PassesOwn.never (pt_cmpR op_lt (pv 2) (pe_callB call_len_seq (by rfl) S.len PySem.boot_len (pa_cons (pv 1) pa_nil)) (nomark _))
        (pss_cons (ps_for PassesOwn.never rfl (pi_tup (pe_ix (show IxR _ (rIxL K) from ix_list) (pv 0) (pe_ix (show IxR _ (rIxL K) from ix_list) (pv 1) (pv 2) (fun _ _ => rfl)) (fun _ _ => rfl))) (pg_name (i := 3) scRe.nd rfl (.inl rfl))
            (pss_one (ps_if (PW.pt (pw_and (pt_cmpR op_notN1 (pv 3) pe_non (nomark _)) (pw_and1 (pt_cmpR (show OpR _ _ (rIn K true) from op_notIn_seq) (pv 3) (pv 1) (by with_unfolding_all rfl))))) (pss_one (ps_expr (pe_bm PySem.F.plainAttrs_list PySem.F.slot_list_append PySem.F.type_list_append mt_append (pv 1) (pa_cons (pv 3) pa_nil)))) pss_nil)))
      (pss_one (ps_set (i := 2) scRe.nd rfl (.inl rfl) (pe_op op_add (pv 2) pe_int)))))
      (pss_one (ps_ret (pv 1))))), ?_⟩
    obtain ⟨xs, hx, row⟩ := hq
    refine q_par (cons_i (el_lst (σ := [some (.ref q), none, none, none]) (H := H) (ea_cons ev_c ea_nil) (by show 1 ≤ 100000; decide) H (Ex.refl H) _ fun F0 H1 hF e1 f1 => cons_i (c_i ⟨_, _, rfl, ?_⟩)))
    have qF : q ≠ F0 := fun z => by rw [z, hF] at hx; cases hx
    refine q_walk (K := K) (k := id) (ρ := id) (M := L) (S := (· < L.length)) (F := F0) (f := 1) (at_ := 2) (b := 3) (p0 := 0) (fun y i => [some (.ref q), some (.ref F0), some (.int (i : Int)), y]) none (fun _ _ => rfl) (fun _ _ => rfl) (fun _ _ => rfl) (fun _ _ _ => rfl) (fun _ _ _ => rfl) stands_id (closedP_lt ok) (fun _ h => h) l100 (by omega) (fun _ _ => rfl) rfl f1
      (fun p i H2 _ _ => ev_var rfl) (fun z i p ord H2 pl _ hp k2 f2 => ?_) (fun z i H2 k2 _ f2 => ?_)
    · have lx : p < xs.length := by rw [row.1]; exact pl
      obtain ⟨d, hd, hdp⟩ := row.2 p _ _ (List.getElem?_eq_getElem lx) (List.getElem?_eq_getElem pl)
      have hxp : xs[p]? = some (.ref d) := by rw [List.getElem?_eq_getElem lx, hd]
      have eL : L.getD p (0, none) = L[p] := by rw [List.getD_eq_getElem?_getD, List.getElem?_eq_getElem pl]; rfl
      have dF : d ≠ F0 := fun z => by rw [z, hF] at hdp; cases hdp
      refine ⟨d, ev_op (ev_var rfl) (ev_op (ev_var rfl) (ev_var rfl) (rv_ixL (sq_of f2) (atI_nat (vN_at (by rw [List.map_id]; exact hp))))) (rv_ixL (sq_of (k2 _ _ (e1 _ _ hx) qF)) (atI_nat hxp)), ?_⟩
      unfold kept lost
      rw [eL]
      exact k2 _ _ (e1 _ _ hdp) dF
    · rw [List.map_id] at f2
      refine s_ret (v := .ref F0) (ev_var rfl) fun H3 e3 => kk F0 H3 hF ((keep_ex e1 hF k2).trans e3) (e3 _ _ f2)
end
end K16
namespace K16
open PySem L2 Evl Gr StX EnT ClX RdX OwX OwC OpX Ls DnX
structure GlbZ (mg : Str → Option Value) : Prop where
  zip : mg "zip" = none
  enum : mg "enumerate" = none
  dict : mg "dict" = none
  repr : mg "repr" = none
end K16
namespace K16
open PySem L2 Evl Gr StX EnT ClX RdX OwX OwC OpX Ls DnX
/-! ### dicts of kinds -/
def kindD (κ : Nat → Nat) (S : List Nat) : List (Key × V) := S.map fun p : Nat => ((.inl (p : Int) : Key), V.int (κ p : Int))
theorem kind_no {κ : Nat → Nat} {p : Nat} : ∀ {S : List Nat}, p ∉ S → valV (kindD κ S) (.inl (p : Int) : Key) = none
  | [], _ => rfl
  | q :: S, h => by
    show valV (((.inl (q : Int) : Key), V.int (κ q : Int)) :: kindD κ S) _ = none
    rw [valV_neg (key_ne (k := q) (j := p) fun z => h (by rw [z]; exact List.mem_cons_self))]
    exact kind_no fun z => h (List.mem_cons_of_mem _ z)
theorem kind_at {κ : Nat → Nat} {p : Nat} : ∀ {S : List Nat}, p ∈ S → valV (kindD κ S) (.inl (p : Int) : Key) = some (.int (κ p : Int))
  | q :: S, h => by
    show valV (((.inl (q : Int) : Key), V.int (κ q : Int)) :: kindD κ S) _ = _
    by_cases c : q = p
    · subst c
      rw [valV_pos rfl]
    · rw [valV_neg (key_ne c)]
      exact kind_at ((List.mem_cons.mp h).resolve_left fun z => c z.symm)
theorem kind_app (κ : Nat → Nat) (S T : List Nat) : kindD κ (S ++ T) = kindD κ S ++ kindD κ T := by unfold kindD; rw [List.map_append]
theorem merge_go {κ : Nat → Nat} : ∀ (T S : List Nat), (S ++ T).Nodup → mergeK (kindD κ S) (kindD κ T) = kindD κ (S ++ T)
  | [], S, _ => by rw [List.append_nil]; rfl
  | p :: T, S, h => by
    have no : p ∉ S := fun z => (List.nodup_append.mp h).2.2 p z p List.mem_cons_self rfl
    have e : putK (kindD κ S) (.inl (p : Int) : Key) (.int (κ p : Int)) = kindD κ (S ++ [p]) := by
      unfold putK
      rw [valV_any, kind_no no, if_neg (by decide), kind_app]
      rfl
    show mergeK (putK (kindD κ S) (.inl (p : Int) : Key) (.int (κ p : Int))) (kindD κ T) = _
    rw [e, merge_go T (S ++ [p]) (by rw [List.append_assoc]; exact h), List.append_assoc]
    rfl
theorem merge_kind {κ : Nat → Nat} {S : List Nat} (h : S.Nodup) : mergeK [] (kindD κ S) = kindD κ S := merge_go S [] h
theorem paired_of {K : PySem.W.Frag} {H : Hp} {κ : Nat → Nat} : ∀ {S : List Nat} {xs : List V}, PlT H xs (S.map fun p => (p, some (κ p))) → ∃ ps : List Addr, xs = ps.map V.ref ∧ Paired (fun p (kv : Key × V) => SqT K H p [kV kv.1, kv.2]) ps (kindD κ S)
  | [], [], _ => ⟨[], rfl, .nil⟩
  | [], _ :: _, h => by cases h.1
  | _ :: _, [], h => by cases h.1
  | p :: S, x :: xs, h => by
    obtain ⟨a, rfl, ha⟩ := h.2 0 x (p, some (κ p)) rfl rfl
    obtain ⟨ps, rfl, pr⟩ := paired_of (K := K) (S := S) (xs := xs) (PlT.tail (m := (p, some (κ p))) h)
    exact ⟨a :: ps, rfl, .cons (st_of ha) pr⟩
abbrev rDictP (K : PySem.W.Frag) : List V → Hp → VK → Prop := fun xs H Q => ∃ (a : Addr) (ps : List Addr) (kvs : List (Key × V)), xs = [.ref a] ∧ SqL K H a (ps.map V.ref) ∧ Paired (fun p kv => SqT K H p [kV kv.1, kv.2]) ps kvs ∧ ∀ p, H p = none → Q (.ref p) (upd H p (.dK (mergeK [] kvs)))
/-! ### rows of marks -/
def MkT (H : Hp) (xs : List V) (ms : List Mark) : Prop := xs.length = ms.length ∧ ∀ (i : Nat) (x : V) (m : Mark), xs[i]? = some x → ms[i]? = some m → ∃ a, x = .ref a ∧ H a = some (.tup (mV m))
theorem mkt_nil {H : Hp} : MkT H [] [] := ⟨rfl, fun i x m hx => by cases hx⟩
theorem MkT.mono {H H' : Hp} {xs : List V} {ms : List Mark} (e : Ex H H') (h : MkT H xs ms) : MkT H' xs ms := ⟨h.1, fun i x m hx hm => by
  obtain ⟨a, h1, h2⟩ := h.2 i x m hx hm
  exact ⟨a, h1, e _ _ h2⟩⟩
theorem mkt_keep {H H' : Hp} {xs : List V} {ms : List Mark} (ht : ∀ b ys, H b = some (.tup ys) → H' b = some (.tup ys)) (h : MkT H xs ms) : MkT H' xs ms := ⟨h.1, fun i x m hx hm => by
  obtain ⟨a, h1, h2⟩ := h.2 i x m hx hm
  exact ⟨a, h1, ht _ _ h2⟩⟩
theorem MkT.snoc {H : Hp} {xs : List V} {ms : List Mark} {b : Addr} {m : Mark} (h : MkT H xs ms) (hb : H b = some (.tup (mV m))) : MkT H (xs ++ [.ref b]) (ms ++ [m]) := ⟨by rw [List.length_append, List.length_append, h.1]; rfl, fun i x u hx hu => by
  rcases Nat.lt_or_ge i xs.length with c | c
  · rw [List.getElem?_append_left c] at hx
    rw [List.getElem?_append_left (by rw [← h.1]; exact c)] at hu
    exact h.2 i x u hx hu
  · rw [List.getElem?_append_right c] at hx
    rw [List.getElem?_append_right (by rw [← h.1]; exact c), ← h.1] at hu
    cases e : i - xs.length with
    | zero => rw [e] at hx hu; cases hx; cases hu; exact ⟨b, rfl, hb⟩
    | succ n => rw [e] at hx; cases hx⟩
theorem MkT.tail {H : Hp} {x : V} {xs : List V} {m : Mark} {ms : List Mark} (h : MkT H (x :: xs) (m :: ms)) : MkT H xs ms := ⟨by have := h.1; simpa using this, fun i y u hy hu => h.2 (i + 1) y u hy hu⟩
def mD (m : Mark) : PyData := .tuple [.int (m.1 : Int), .int (m.2.1 : Int), oD m.2.2]
theorem mD_eqv (x y : Mark) : PyData.eqv (mD x) (mD y) = decide (x = y) := by
  obtain ⟨a, b, c⟩ := x
  obtain ⟨a', b', c'⟩ := y
  have h : PyData.eqv (mD (a, b, c)) (mD (a', b', c')) = (PyData.eqv (.int (a : Int)) (.int (a' : Int)) && (PyData.eqv (.int (b : Int)) (.int (b' : Int)) && (PyData.eqv (oD c) (oD c') && true))) := by simp [mD, PyData.eqv, PyData.eqvAll]
  have i : ∀ u v : Nat, PyData.eqv (.int (u : Int)) (.int (v : Int)) = decide (u = v) := fun u v => by
    rw [show PyData.eqv (.int (u : Int)) (.int (v : Int)) = ((u : Int) == (v : Int)) by simp [PyData.eqv], Bool.eq_iff_iff, beq_iff_eq, decide_eq_true_iff]
    omega
  rw [h, oD_eqv, i, i, Bool.and_true, Bool.eq_iff_iff, Bool.and_eq_true, Bool.and_eq_true, decide_eq_true_iff, decide_eq_true_iff, decide_eq_true_iff, decide_eq_true_iff, Prod.mk.injEq, Prod.mk.injEq]
theorem mD_low (m : Mark) : Low 1 (mD m) := low_tup (n := 0) fun d hd => by
  rcases List.mem_cons.mp hd with rfl | hd
  · exact low_int _
  · rcases List.mem_cons.mp hd with rfl | hd
    · exact low_int _
    · rw [List.mem_singleton.mp hd]
      cases m.2.2
      · exact low_non
      · exact low_int _
theorem dp_mV {K : PySem.W.Frag} {H : Hp} {a : Addr} (m : Mark) (h : H a = some (.tup (mV m))) : Dp K H (.ref a) (mD m) := by
  refine .tup (st_of h) (.cons (.int _) (.cons (.int _) (.cons ?_ .nil)))
  cases m.2.2
  · exact .non
  · exact .int _
theorem mkt_dp {K : PySem.W.Frag} {H : Hp} : ∀ {xs : List V} {ms : List Mark}, MkT H xs ms → DpAll K H xs (ms.map mD)
  | [], [], _ => .nil
  | [], _ :: _, h => by cases h.1
  | _ :: _, [], h => by cases h.1
  | x :: xs, m :: ms, h => by
    obtain ⟨a, rfl, ha⟩ := h.2 0 x m rfl rfl
    exact .cons (dp_mV m ha) (mkt_dp h.tail)
theorem idx_get {α : Type} [BEq α] [LawfulBEq α] {l : List α} {x : α} (h : x ∈ l) : l[l.idxOf x]? = some x := by
  have lt := List.idxOf_lt_length_of_mem h
  rw [List.getElem?_eq_getElem lt, List.getElem_idxOf lt]
theorem idx_first {α : Type} [BEq α] [LawfulBEq α] {l : List α} {x y : α} {n : Nat} (hn : n < l.idxOf x) (hy : l[n]? = some y) : y ≠ x := fun e => by
  subst e
  induction l generalizing n with
  | nil => cases hy
  | cons z l ih =>
    rw [List.idxOf_cons] at hn
    by_cases c : z = y
    · rw [show (z == y) = true from beq_iff_eq.mpr c] at hn
      exact absurd hn (Nat.not_lt_zero _)
    · rw [show (z == y) = false from beq_eq_false_iff_ne.mpr c, cond_false] at hn
      cases n with
      | zero => exact c (Option.some.inj hy)
      | succ n => exact ih hy (by omega)
section
variable {K : PySem.W.Frag} {σ : L2.St} {H : Hp} {te ti to tl : TE} {ta : TA} {i j : Nat} {vs : List Nat}
theorem dict_i {S : List Nat} {κ : Nat → Nat} {Q : VK} (h : EvM te σ H (S.map fun p => (p, some (κ p)))) (nd : S.Nodup) (k : ∀ d H', H d = none → Ex H H' → H' d = some (.dK (kindD κ S)) → Q (.ref d) H') : tCB (rDictP K) (tCons te tNil) σ H Q :=
  cons_i (h H (Ex.refl H) _ fun p xs H2 hp e2 h2 row => by
    obtain ⟨ps, rfl, pr⟩ := paired_of (K := K) row
    exact ⟨p, ps, _, rfl, sq_of h2, pr, fun d hd => k d _ (fresh_back e2 hd) (e2.trans (Ex.new hd)) (by rw [upd_same, merge_kind nd])⟩)
theorem ev_kind {S : List Nat} {κ : Nat → Nat} {d : Addr} {p : Nat} (ho : Ev to σ H (.ref d)) (hd : H d = some (.dK (kindD κ S))) (hi : Ev ti σ H (.int (p : Int))) (hp : p ∈ S) : Ev (tDGet to ti) σ H (.int (κ p : Int)) := ev_dget (k := .inl (p : Int)) ho hi hd (kind_at hp)
theorem ev_index {F : Addr} {l : List Nat} {q : Nat} (ho : Ev to σ H (.ref F)) (hF : H F = some (.lst (vN l))) (hi : Ev ti σ H (.int (q : Int))) (hq : q ∈ l) : Ev (tBM K "list" (rIndex K) to (tCons ti tNil)) σ H (.int ((l.idxOf q : Nat) : Int)) := fun H1 e Q k =>
  ho H1 e _ fun H2 e2 => ⟨.inl ⟨rfl, _, sq_of ((e.trans e2) _ _ hF)⟩, hi H2 (e.trans e2) _ fun H3 e3 => ⟨F, vN l, _, l.idxOf q, _, rfl, rfl, sq_of ((e.trans (e2.trans e3)) _ _ hF), rfl, flat_nums l, vN_at (idx_get hq), by show ((q : Int) == (q : Int)) = true; exact beq_self_eq_true _, fun n z hn hz => by
    obtain ⟨y, hy, rfl⟩ := vN_get hz
    have := idx_first hn hy
    show ((y : Int) == (q : Int)) = false
    exact beq_eq_false_iff_ne.mpr (by omega), k H3 (e2.trans e3)⟩⟩
theorem ev_indexM {F b : Addr} {xs : List V} {ms : List Mark} {m : Mark} (ho : Ev to σ H (.ref F)) (hF : H F = some (.lst xs)) (row : MkT H xs ms) (hi : Ev ti σ H (.ref b)) (hb : H b = some (.tup (mV m))) (hm : m ∈ ms) : Ev (tBM K "list" (rIndexD K) to (tCons ti tNil)) σ H (.int ((ms.idxOf m : Nat) : Int)) := fun H1 e Q k =>
  ho H1 e _ fun H2 e2 => ⟨.inl ⟨rfl, _, sq_of ((e.trans e2) _ _ hF)⟩, hi H2 (e.trans e2) _ fun H3 e3 => ⟨F, _, mD m, ms.map mD, ms.idxOf m, mD m, rfl, rfl, .lst (sq_of ((e.trans (e2.trans e3)) _ _ hF)) (mkt_dp (row.mono (e.trans (e2.trans e3)))), dp_mV m ((e.trans (e2.trans e3)) _ _ hb),
    low_shaped (n := 2) (low_list (n := 1) fun d hd => by
      obtain ⟨m', _, rfl⟩ := List.mem_map.mp hd
      exact mD_low m') (by decide), low_shaped (mD_low m) (by decide), by rw [List.getElem?_map, idx_get hm]; rfl, by rw [mD_eqv]; exact decide_eq_true rfl, fun n z hn hz => by
    rw [List.getElem?_map] at hz
    obtain ⟨y, hy, rfl⟩ := Option.map_eq_some_iff.mp hz
    rw [mD_eqv]
    exact decide_eq_false (idx_first hn hy), k H3 (e2.trans e3)⟩⟩
theorem map_getD {α : Type} (S : List Nat) (g : Nat → α) : (List.range S.length).map (fun i => g (S.getD i 0)) = S.map g := by
  refine List.ext_getElem? fun i => ?_
  rw [List.getElem?_map, List.getElem?_map]
  rcases Nat.lt_or_ge i S.length with h | h
  · rw [List.getElem?_range h, List.getElem?_eq_getElem h]
    show some (g (S.getD i 0)) = some (g S[i])
    rw [List.getD_eq_getElem?_getD, List.getElem?_eq_getElem h]
    rfl
  · rw [List.getElem?_eq_none (by rw [List.length_range]; exact h), List.getElem?_eq_none h]
    rfl
/-- [a new pair for p in a list of numbers] -/
theorem em_L {a : Addr} {S : List Nat} (g : Nat → Pl) (h : Ev tl σ H (.ref a)) (hx : SqL K H a (vN S)) (hz : S.length ≤ 1000) (hw : ∀ x, wipe ((wipe σ vs).set j (some x)) vs = wipe σ vs) (he : ∀ p ∈ S, ∀ H1, Ex H H1 → EvU te ((wipe σ vs).set j (some (.int (p : Int)))) H1 (pV (g p))) :
    EvM (tLc (iList K tl) (gName j) tYes te vs) σ H (S.map g) := fun H0 e Q q => h H0 e _ fun H1 e1 => ⟨a, rfl, ⟨_, ex_l (e.trans e1) hx⟩, fun Dl hD =>
  lc_list (xs := vN S) (Pw H1 Dl fun i => g (S.getD i 0)) (pw_0 hD) (fun i H' _ p => ex_l ((e.trans e1).trans p.2.1) hx) (fun i x H' hi p => by
    obtain ⟨n, hn, rfl⟩ := vN_get hi
    have e2 : S.getD i 0 = n := by rw [List.getD_eq_getElem?_getD, hn]; rfl
    have li := (List.getElem?_eq_some_iff.mp hn).1
    exact ⟨hw _, pw_step p (by omega) fun H2 e3 => by
      show EvU te _ H2 (pV (g (S.getD i 0)))
      rw [e2]
      exact he n (List.mem_of_getElem? hn) H2 ((e.trans e1).trans e3)⟩)
    (fun H' p => by
      obtain ⟨_, p2, xs, p3, p4⟩ := p
      rw [vN_len, map_getD] at p4
      exact q Dl xs H' (fresh_back e1 hD) (e1.trans p2) p3 p4)⟩
/-- [a new pair for i, p in enumerate(a list of numbers)] -/
theorem em_E {a : Addr} {S : List Nat} (g : Nat → Pl) (h : EvA ta σ H [.ref a]) (hx : SqL K H a (vN S)) (hz : S.length ≤ 1000) (hw : ∀ x y, wipe (((wipe σ vs).set i (some x)).set j (some y)) vs = wipe σ vs) (he : ∀ (n p : Nat), S[n]? = some p → ∀ H1, Ex H H1 → EvU te (((wipe σ vs).set i (some (.int (n : Int)))).set j (some (.int (p : Int)))) H1 (pV (g p))) :
    EvM (tLc (iEnum K ta) (gTup K 2 (gCons (gName i) (gCons (gName j) gNil))) tYes te vs) σ H (S.map g) := fun H0 e Q q => h H0 e _ fun H1 e1 => ⟨a, _, rfl, ex_l (e.trans e1) hx, fun Dl hD =>
  lc_it (n := (vN S).length) (walk_enum (K := K)) (Pw H1 Dl fun i => g (S.getD i 0)) (pw_0 hD) (fun _ H' _ p => ex_l ((e.trans e1).trans p.2.1) hx) (fun k x H' H'' hk p y => by
    obtain ⟨T, x1, y1, rfl, hT, rfl, ex, ey⟩ := y
    obtain rfl := Option.some.inj ex
    obtain ⟨n, hn, rfl⟩ := vN_get ey
    have e2 : S.getD k 0 = n := by rw [List.getD_eq_getElem?_getD, hn]; rfl
    have li := (List.getElem?_eq_some_iff.mp hn).1
    have e3 := Ex.new (H := H') (o := .tup [.int (k : Nat), V.int (n : Int)]) hT
    have p' : Pw H1 Dl (fun i => g (S.getD i 0)) k (upd H' T (.tup [.int (k : Nat), V.int (n : Int)])) := by
      obtain ⟨p1, p2, xs, p3, p4⟩ := p
      exact ⟨p1, p2.trans e3, xs, e3 _ _ p3, p4.mono e3⟩
    exact ⟨T, _, rfl, st_of upd_same, rfl, _, _, rfl, _, _, rfl, rfl, hw _ _, pw_step p' (by omega) fun H2 e4 => by
      show EvU te _ H2 (pV (g (S.getD k 0)))
      rw [e2]
      exact he k n hn H2 ((e.trans e1).trans e4)⟩)
    (fun H' p => by
      obtain ⟨_, p2, xs, p3, p4⟩ := p
      rw [vN_len, map_getD] at p4
      exact q Dl xs H' (fresh_back e1 hD) (e1.trans p2) p3 p4)⟩
end
end K16
namespace K16
open PySem L2 Evl Gr StX EnT ClX RdX OwX OwC OpX Ls DnX
/-! ### _law_least -/
theorem s_asgR {σ : L2.St} {H : Hp} {te : TE} {i : Nat} {D : Ends} (h : te σ H fun x H1 => D.nx (σ.set i (some x)) H1) : tAsg te (gName i) D σ H := h
theorem LT.pair {H : Hp} {q : Addr} {L : List Pl} (h : LT H q L) : ∃ xs, H q = some (.lst xs) ∧ ∀ p, p < L.length → ∃ d, xs[p]? = some (.ref d) ∧ H d = some (.tup (pV (kept L p, lost L p))) := by
  obtain ⟨xs, h1, row⟩ := h
  refine ⟨xs, h1, fun p pl => ?_⟩
  have lx : p < xs.length := by rw [row.1]; exact pl
  obtain ⟨d, hd, hdp⟩ := row.2 p _ _ (List.getElem?_eq_getElem lx) (List.getElem?_eq_getElem pl)
  have eL : L.getD p (0, none) = L[p] := by rw [List.getD_eq_getElem?_getD, List.getElem?_eq_getElem pl]; rfl
  refine ⟨d, by rw [List.getElem?_eq_getElem lx, hd], ?_⟩
  unfold kept lost
  rw [eL]
  exact hdp
theorem rL_rL {M : List Pl} {p : Nat} (hp : p ∈ reachF M) : rL M (rL M p) = rL M p := by
  obtain ⟨_, _, e⟩ := rL_is hp
  show (reachF M).getD (kL M (rL M p)) 0 = (reachF M).getD (kL M p) 0
  rw [e]
section
variable {P : Program} {w : World} {K : PySem.W.Frag} {mg : Str → Option Value} {base : Heap}
abbrev nLl : List Str := ["_law_places_so", "_law_some", "_law_kinds", "_law_place", "_law_turn", "_law_signs", "_law_kept_so", "_law_lost_so", "_law_at", "_law_firsts", "_law_behind", "_law_found", "_law_kind"]
def spLl : Sp := fun vs H Q _ => ∃ (q : Addr) (L : List Pl), vs = [.ref q] ∧ LT H q L ∧ OkM L ∧ 1 ≤ L.length ∧ L.length ≤ 100 ∧ ∀ r H', H r = none → Ex H H' → LT H' r (least L) → Q (.ref r) H'
theorem scLl : FnScope nLl ["_law_places_so"] (defScope (top 42)) := ⟨rfl, rfl, rfl, by decide +kernel, rfl, by decide +kernel, by decide +kernel⟩
theorem ok_Ll {f : Addr} {fd : FuncData} (F : Fun K "_law_least" "_law_least" (top 42) f fd) (S : GlbS mg) (Z : GlbZ mg) (GR : Gfn P w K mg base 1 "_law_reached" ["_law_places_so"] spRe) : FnOk P w K mg base CX0 2 f fd ["_law_places_so"] spLl := by
  obtain ⟨fR, fdR, GR, kR, bR, gR⟩ := GR
  refine F.ok scLl (fun vs H Q E h => ?_) (fun cdv A outer s H vs Q E hr h => ?_)
  · obtain ⟨q, L, rfl, _⟩ := h
    rfl
  · obtain ⟨q, L, rfl, hq, ok, l1, l100, kk⟩ := h
    have hu : (A.deeper (PyProof.Rows.envOfC "_law_least" (defScope (top 42)) s.heap.objs.size f cdv)).units + 1 < cLine := by
      have := hr.un
      omega
    have hu65 : (A.deeper (PyProof.Rows.envOfC "_law_least" (defScope (top 42)) s.heap.objs.size f cdv)).units + 65 < cLine := by
      have := hr.un
      omega
    refine ⟨_, (pss_cons (ps_set (i := 1) scLl.nd rfl (.inl rfl) (pe_call GR hr (by rfl) gR kR bR .nil pass0 (pa_cons (pv 0) pa_nil)))
      (pss_cons (ps_set (i := 2) scLl.nd rfl (.inl rfl) (pe_callTy (call_dictP rfl) (by rfl) Z.dict (by decide +kernel) (pa_cons (pe_lc (te := tTup (tCons (tVar 3) (tCons (tC (.int 0)) tNil))) (tt := tYes) (own := [("_law_place", 3)]) (g := gName 3) rfl scLl.nd (pi_list (pv 1)) (blkOk_by (own := [("_law_place", 3)]) (N := nLl) (sc := defScope (top 42)) (by decide +kernel)) (fun _ _ _ _ _ => pg_name (i := 3) scLl.nd rfl (Or.inl rfl)) (fun _ _ _ _ _ => pts_nil) (fun _ _ _ _ _ => pe_tup (pa_cons (pv 3) (pa_cons pe_int pa_nil)))) pa_nil)))
      (pss_cons (ps_for PassesOwn.never rfl (pi_range1 (by rfl) S.range (pa_cons (pe_op op_add (pe_callB call_len_seq (by rfl) S.len PySem.boot_len (pa_cons (pv 1) pa_nil)) pe_int) pa_nil)) (pg_name (i := 4) scLl.nd rfl (.inl rfl))
        (pss_cons (ps_set (i := 5) scLl.nd rfl (.inr rfl) (pe_lst pa_nil))
      (pss_cons (ps_for PassesOwn.never rfl (pi_list (pv 1)) (pg_name (i := 3) scLl.nd rfl (.inl rfl))
            (pss_cons (ps_asg (pe_ix (show IxR _ (rIxL K) from ix_list) (pv 0) (pv 3) (fun _ _ => rfl)) (pg_tup rfl (pgs_cons (pg_name (i := 6) scLl.nd rfl (.inl rfl)) (pgs_cons (pg_name (i := 7) scLl.nd rfl (.inl rfl)) pgs_nil))))
      (pss_one (ps_expr (pe_bm PySem.F.plainAttrs_list PySem.F.slot_list_append PySem.F.type_list_append mt_append (pv 5) (pa_cons (pe_tup (pa_cons (pe_dget hu (pv 2) (pv 3) (fun _ _ => rfl)) (pa_cons (pe_dget hu (pv 2) (pv 6) (fun _ _ => rfl)) (pa_cons (pe_ifExp (pt_cmpR op_isN1 (pv 7) pe_non (nomark _)) pe_non (pe_dget hu (pv 2) (pv 7) (fun _ _ => rfl))) pa_nil)))) pa_nil))))))
      (pss_one (ps_set (i := 2) scLl.nd rfl (.inl rfl) (pe_callTy (call_dictP rfl) (by rfl) Z.dict (by decide +kernel) (pa_cons (pe_lc (te := tTup (tCons (tVar 3) (tCons (tBM K "list" (rIndexD K) (tVar 5) (tCons (tOp (rIxL K) (tVar 5) (tVar 8)) tNil)) tNil))) (tt := tYes) (own := [("_law_at", 8), ("_law_place", 3)]) (g := gTup K 2 (gCons (gName 8) (gCons (gName 3) gNil))) rfl scLl.nd (pi_enum (by rfl) Z.enum (pa_cons (pv 1) pa_nil)) (blkOk_by (own := [("_law_at", 8), ("_law_place", 3)]) (N := nLl) (sc := defScope (top 42)) (by decide +kernel)) (fun _ _ _ _ _ => pg_tup rfl (pgs_cons (pg_name (i := 8) scLl.nd rfl (Or.inl rfl)) (pgs_cons (pg_name (i := 3) scLl.nd rfl (Or.inl rfl)) pgs_nil))) (fun _ _ _ _ _ => pts_nil)
            (fun _ _ _ _ _ => pe_tup (pa_cons (pv 3) (pa_cons (pe_bm PySem.F.plainAttrs_list PySem.F.slot_list_index PySem.F.type_list_index (show MtR _ "list.index" (rIndexD K) from mt_indexD hu65) (pv 5) (pa_cons (pe_ix (show IxR _ (rIxL K) from ix_list) (pv 5) (pv 8) (fun _ _ => rfl)) pa_nil)) pa_nil)))) pa_nil)))))))
      (pss_cons (ps_par (i := 9) (j := 8) rfl scLl.nd rfl rfl (by decide) rfl rfl (pa_cons (pe_lst (pa_cons (pe_dget hu (pv 2) pe_int (fun _ _ => rfl)) pa_nil)) (pa_cons pe_int pa_nil)) (by rfl))
      (pss_cons (ps_while PassesOwn.never (pt_cmpR op_lt (pv 8) (pe_callB call_len_seq (by rfl) S.len PySem.boot_len (pa_cons (pv 9) pa_nil)) (nomark _))
        (pss_cons (ps_for PassesOwn.never rfl (pi_tup (pe_ix (show IxR _ (rIxL K) from ix_list) (pv 0) (pe_ix (show IxR _ (rIxL K) from ix_list) (pv 1) (pe_ix (show IxR _ (rIxL K) from ix_list) (pv 9) (pv 8) (fun _ _ => rfl)) (fun _ _ => rfl)) (fun _ _ => rfl))) (pg_name (i := 10) scLl.nd rfl (.inl rfl))
            (pss_one (ps_if (PW.pt (pw_and (pt_cmpR op_notN1 (pv 10) pe_non (nomark _)) (pw_and1 (pt_cmpR (show OpR _ _ (rIn K true) from op_notIn_seq) (pe_dget hu (pv 2) (pv 10) (fun _ _ => rfl)) (pv 9) (by with_unfolding_all rfl))))) (pss_one (ps_expr (pe_bm PySem.F.plainAttrs_list PySem.F.slot_list_append PySem.F.type_list_append mt_append (pv 9) (pa_cons (pe_dget hu (pv 2) (pv 10) (fun _ _ => rfl)) pa_nil)))) pss_nil)))
      (pss_one (ps_set (i := 8) scLl.nd rfl (.inl rfl) (pe_op op_add (pv 8) pe_int)))))
      (pss_cons (ps_set (i := 11) scLl.nd rfl (.inl rfl) (pe_lst pa_nil))
      (pss_cons (ps_for PassesOwn.never rfl (pi_list (pv 9)) (pg_name (i := 12) scLl.nd rfl (.inl rfl))
        (pss_cons (ps_asg (pe_ix (show IxR _ (rIxL K) from ix_list) (pv 0) (pe_ix (show IxR _ (rIxL K) from ix_list) (pv 1) (pv 12) (fun _ _ => rfl)) (fun _ _ => rfl)) (pg_tup rfl (pgs_cons (pg_name (i := 6) scLl.nd rfl (.inl rfl)) (pgs_cons (pg_name (i := 7) scLl.nd rfl (.inl rfl)) pgs_nil))))
      (pss_one (ps_expr (pe_bm PySem.F.plainAttrs_list PySem.F.slot_list_append PySem.F.type_list_append mt_append (pv 11) (pa_cons (pe_tup (pa_cons (pe_bm PySem.F.plainAttrs_list PySem.F.slot_list_index PySem.F.type_list_index mt_index (pv 9) (pa_cons (pe_dget hu (pv 2) (pv 6) (fun _ _ => rfl)) pa_nil)) (pa_cons (pe_ifExp (pt_cmpR op_isN1 (pv 7) pe_non (nomark _)) pe_non (pe_bm PySem.F.plainAttrs_list PySem.F.slot_list_index PySem.F.type_list_index mt_index (pv 9) (pa_cons (pe_dget hu (pv 2) (pv 7) (fun _ _ => rfl)) pa_nil))) pa_nil))) pa_nil))))))
      (pss_one (ps_ret (pv 11)))))))))), ?_⟩
    obtain ⟨ra, rnd, rcl, r0⟩ := reach_is ok l1
    have rlen : (reachF L).length ≤ L.length := ord_few (k := id) ra (by rw [List.map_id]; exact rnd)
    obtain ⟨ys, y1, yp⟩ := hq.pair
    refine q_asgR ⟨_, rfl, q, L, rfl, hq, ok, l1, l100, fun Sa H1 hS e1 s1 => ?_⟩
    refine q_asgR (dict_i (S := reachF L) (κ := kapF L 0) (em_L (K := K) (a := Sa) (fun p => (p, some 0)) (ev_var rfl) (sq_of s1) (by omega) (fun _ => rfl) fun p hp H2 e2 => eu_tup (ea_cons (ev_var rfl) (ea_cons ev_c ea_nil)) (by show 2 ≤ 100000; decide)) rnd fun Kd H2 hK e2 k2 => ?_)
    have E2 := e1.trans e2
    have S2 := e2 _ _ s1
    refine q_forR1 (n := (((reachF L).length + 1 : Nat) : Int)) (ea_cons (ev_is (ev_op (ev_cb (ea_cons (ev_var (i := 1) rfl) ea_nil) (rc_lenQ (.inl (sq_of S2)))) ev_c rv_I0) (by show V.int _ = V.int _; rw [vN_len]; congr 1)) ea_nil) (by omega)
      (fun t σ' H' => ∃ (Kd' : Addr) (x3 x4 x5 x6 x7 : Option V), σ' = [some (.ref q), some (.ref Sa), some (.ref Kd'), x3, x4, x5, x6, x7, none, none, none, none, none] ∧ Ex H2 H' ∧ H' Kd' = some (.dK (kindD (kapF L t) (reachF L))))
      (fun H3 e3 => ⟨Kd, none, none, none, none, none, rfl, e3, e3 _ _ k2⟩) ?_ ?_
    · rintro t σ' H3 ht ⟨Kd', x3, x4, x5, x6, x7, rfl, e3, k3⟩
      refine q_asgL (xs := []) el_nil fun Sg H4 hSg e4 g4 => ?_
      refine q_forLn (K := K) (a := Sa) (xs := vN (reachF L)) (ev_var rfl) (sq_of ((e3.trans e4) _ _ S2))
        (fun i σ' H' => ∃ (x3 x6 x7 : Option V) (xs : List V), σ' = [some (.ref q), some (.ref Sa), some (.ref Kd'), x3, some (.int (t : Int)), some (.ref Sg), x6, x7, none, none, none, none, none] ∧ Ex H3 H' ∧ H' Sg = some (.lst xs) ∧ MkT H' xs (((reachF L).take i).map (mark L (kapF L t))))
        (fun H5 e5 => ⟨x3, x6, x7, [], rfl, e4.trans e5, e5 _ _ g4, mkt_nil⟩) (fun i σ' H' _ ⟨_, _, _, _, _, h, _⟩ => sq_of (h _ _ (e3 _ _ S2))) ?_ ?_
      · rintro i v σ' H5 hv ⟨y3, y6, y7, xs, rfl, e5, g5, row⟩
        obtain ⟨p, hp, rfl⟩ := vN_get hv
        have pin := List.mem_of_getElem? hp
        have pl := ra p pin
        obtain ⟨d, hd, hdp⟩ := yp p pl
        have EH := E2.trans (e3.trans e5)
        refine q_asgG (ev_op (ev_var (i := 0) rfl) (ev_var rfl) (rv_ixL (sq_of (EH _ _ y1)) (atI_nat hd)) H5 (Ex.refl H5) _ fun H6 e6 => ⟨d, _, rfl, st_of ((EH.trans e6) _ _ hdp), rfl, _, _, rfl, _, _, rfl, rfl, ?_⟩)
        have k6 := (e5.trans e6) _ _ k3
        have cp := rcl p pin
        refine s_appU (K := K) (ys := mV (mark L (kapF L t) p)) (e6 _ _ g5) (ev_var rfl) (eu_tup (ea_cons (ev_kind (ev_var rfl) k6 (ev_var rfl) pin) (ea_cons (ev_kind (ev_var rfl) k6 (ev_var rfl) cp.1) (ea_cons ?_ ea_nil))) (by show 3 ≤ 100000; decide)) (by have := row.1; rw [List.length_map, List.length_take] at this; omega) fun T H7 hT e7 t7 => ?_
        · show Ev _ _ _ (oV ((lost L p).map (kapF L t)))
          cases hl : lost L p with
          | none => exact ev_if (b := true) (et_is (et_test (ev_op (ev_var rfl) ev_c fun H4 _ Q4 q4 => ⟨rfl, q4 H4 (Ex.refl H4)⟩)) (decide_eq_true rfl)) (fun _ => ev_c) fun z => absurd z (by decide)
          | some l => exact ev_if (b := false) (et_is (et_test (ev_op (ev_var rfl) ev_c fun H4 _ Q4 q4 => ⟨rfl, q4 H4 (Ex.refl H4)⟩)) (decide_eq_false fun z => by cases z)) (fun z => absurd z (by decide)) fun _ => ev_kind (ev_var rfl) k6 (ev_var rfl) (cp.2 l hl)
        · have SgH : H3 Sg = none := hSg
          have g7 := (e6.trans e7) _ _ g5
          refine ⟨_, _, _, _, rfl, Ex.mut (e5.trans (e6.trans e7)) SgH, upd_same, ?_⟩
          rw [take_one hp, List.map_append]
          exact mkt_keep (fun c zs hc => by rw [upd_ne fun z => by rw [z, g7] at hc; cases hc]; exact hc) ((row.mono (e6.trans e7)).snoc t7)
      · rintro σ' H5 ⟨y3, y6, y7, xs, rfl, e5, g5, row⟩
        rw [vN_len, List.take_length] at row
        refine s_asgR (dict_i (S := reachF L) (κ := kapF L (t + 1)) (em_E (K := K) (a := Sa) (fun p => (p, some (kapF L (t + 1) p))) (ea_cons (ev_var rfl) ea_nil) (sq_of ((e3.trans e5) _ _ S2)) (by omega) (fun _ _ => rfl) fun n p hn H6 e6 => ?_) rnd fun Kd2 H6 hK6 e6 k6 => ⟨Kd2, _, _, _, _, _, rfl, e3.trans (e5.trans e6), k6⟩)
        have mn : ((reachF L).map (mark L (kapF L t)))[n]? = some (mark L (kapF L t) p) := by rw [List.getElem?_map, hn]; rfl
        have ln : n < xs.length := by rw [row.1]; exact (List.getElem?_eq_some_iff.mp mn).1
        obtain ⟨b, hb, hbm⟩ := row.2 n _ _ (List.getElem?_eq_getElem ln) mn
        have hxb : xs[n]? = some (.ref b) := by rw [List.getElem?_eq_getElem ln, hb]
        exact eu_tup (ea_cons (ev_var rfl) (ea_cons (ev_indexM (ev_var rfl) (e6 _ _ g5) (row.mono e6) (ev_op (ev_var rfl) (ev_var rfl) (rv_ixL (sq_of (e6 _ _ g5)) (atI_nat hxb))) (e6 _ _ hbm) (List.mem_of_getElem? mn)) ea_nil)) (by show 2 ≤ 100000; decide)
    rintro σ' H3 ⟨Kd', x3, x4, x5, x6, x7, rfl, e3, k3⟩
    rw [Int.toNat_natCast] at k3
    have E3 := E2.trans e3
    have S3 := e3 _ _ S2
    have k3 : H3 Kd' = some (.dK (kindD (kL L) (reachF L))) := k3
    have r0m := List.mem_of_getElem? r0
    refine q_par (cons_i (el_lst (vs := vN [kL L 0]) (ea_cons (ev_kind (p := 0) (ev_var rfl) k3 ev_c r0m) ea_nil) (by show 1 ≤ 100000; decide) H3 (Ex.refl H3) _ fun F0 H4 hF e4 f4 => cons_i (c_i ⟨_, _, rfl, ?_⟩)))
    refine q_walk (K := K) (k := kL L) (ρ := rL L) (M := L) (S := (· ∈ reachF L)) (F := F0) (f := 9) (at_ := 8) (b := 10) (p0 := 0) (fun y i => [some (.ref q), some (.ref Sa), some (.ref Kd'), x3, x4, x5, x6, x7, some (.int (i : Int)), some (.ref F0), y, none, none]) none (fun _ _ => rfl) (fun _ _ => rfl) (fun _ _ => rfl) (fun _ _ _ => rfl) (fun _ _ _ => rfl) law_stands (law_closed ok l1) (fun p hp => ra p hp) l100 r0m (fun q hq => rL_rL hq) (rL_0 ok l1) f4
      (fun p i H5 hp k5 => ev_kind (ev_var rfl) (keep_ex e4 hF k5 _ _ k3) (ev_var rfl) hp) (fun z i p ord H5 hp fx ho k5 f5 => ?_) (fun z i H5 k5 fx f5 => ?_)
    · obtain ⟨d, hd, hdp⟩ := yp p (ra p hp)
      have E5 := E3.trans (keep_ex e4 hF k5)
      obtain ⟨rs, _, _⟩ := rL_is hp
      rw [fx] at rs
      refine ⟨d, ev_op (ev_var rfl) (ev_op (ev_var rfl) (ev_op (ev_var rfl) (ev_var rfl) (rv_ixL (sq_of f5) (atI_nat (vN_at (by rw [List.getElem?_map, ho]; rfl))))) (rv_ixL (sq_of (keep_ex e4 hF k5 _ _ S3)) (atI_nat (vN_at rs)))) (rv_ixL (sq_of (E5 _ _ y1)) (atI_nat hd)), E5 _ _ hdp⟩
    have X5 := keep_ex e4 hF k5
    have E5 := E3.trans X5
    obtain ⟨la, lnd, ldone, llen⟩ := lawO_is ok l1
    have f5 : H5 F0 = some (.lst (vN ((lawO L).map (kL L)))) := f5
    refine q_asgL (xs := []) el_nil fun Fo H6 hFo e6 o6 => ?_
    refine q_forLn (K := K) (a := F0) (xs := vN ((lawO L).map (kL L))) (ev_var rfl) (sq_of (e6 _ _ f5))
      (fun i' σ' H' => ∃ (x6 x7 x12 : Option V) (xs : List V), σ' = [some (.ref q), some (.ref Sa), some (.ref Kd'), x3, x4, x5, x6, x7, some (.int (i : Int)), some (.ref F0), z, some (.ref Fo), x12] ∧ Ex H5 H' ∧ H' Fo = some (.lst xs) ∧ PlT H' xs (((lawO L).take i').map (rowOf (kL L) L (lawO L))))
      (fun H7 e7 => ⟨x6, x7, none, [], rfl, e6.trans e7, e7 _ _ o6, plt_nil⟩) (fun i σ' H' _ ⟨_, _, _, _, _, h, _⟩ => sq_of (h _ _ f5)) ?_ ?_
    · rintro n v σ' H7 hv ⟨y6, y7, y12, xs, rfl, e7, o7, row⟩
      obtain ⟨kp, hkp, rfl⟩ := vN_get hv
      rw [List.getElem?_map] at hkp
      obtain ⟨p, hp, rfl⟩ := Option.map_eq_some_iff.mp hkp
      have pin := List.mem_of_getElem? hp
      have pr := la p pin
      obtain ⟨d, hd, hdp⟩ := yp p (ra p pr)
      obtain ⟨rs, _, _⟩ := rL_is pr
      rw [fx p pin] at rs
      have E7 := E5.trans e7
      refine q_asgG (ev_op (ev_var (i := 0) rfl) (ev_op (ev_var rfl) (ev_var rfl) (rv_ixL (sq_of ((X5.trans e7) _ _ S3)) (atI_nat (vN_at rs)))) (rv_ixL (sq_of (E7 _ _ y1)) (atI_nat hd)) H7 (Ex.refl H7) _ fun H8 e8 => ⟨d, _, rfl, st_of ((E7.trans e8) _ _ hdp), rfl, _, _, rfl, _, _, rfl, rfl, ?_⟩)
      have X8 := X5.trans (e7.trans e8)
      have k8 := X8 _ _ k3
      have f8 := (e7.trans e8) _ _ f5
      have cp := rcl p pr
      obtain ⟨d1, d2⟩ := ldone p pin
      refine s_appU (K := K) (ys := pV (rowOf (kL L) L (lawO L) p)) (e8 _ _ o7) (ev_var rfl) (eu_tup (ea_cons (ev_index (ev_var rfl) f8 (ev_kind (ev_var rfl) k8 (ev_var rfl) cp.1) d1) (ea_cons ?_ ea_nil)) (by show 2 ≤ 100000; decide)) (by have := row.1; rw [List.length_map, List.length_take] at this; omega) fun T H9 hT e9 t9 => ?_
      · unfold rowOf
        cases hl : lost L p with
        | none => exact ev_if (b := true) (et_is (et_test (ev_op (ev_var rfl) ev_c fun H4 _ Q4 q4 => ⟨rfl, q4 H4 (Ex.refl H4)⟩)) (decide_eq_true rfl)) (fun _ => ev_c) fun z => absurd z (by decide)
        | some l => exact ev_if (b := false) (et_is (et_test (ev_op (ev_var rfl) ev_c fun H4 _ Q4 q4 => ⟨rfl, q4 H4 (Ex.refl H4)⟩)) (decide_eq_false fun z => by cases z)) (fun z => absurd z (by decide)) fun _ => ev_index (ev_var rfl) f8 (ev_kind (ev_var rfl) k8 (ev_var rfl) (cp.2 l hl)) (d2 l hl)
      · have o9 := (e8.trans e9) _ _ o7
        refine ⟨_, _, _, _, rfl, Ex.mut (e7.trans (e8.trans e9)) hFo, upd_same, ?_⟩
        rw [take_one hp, List.map_append]
        exact plt_keep (fun c zs hc => by rw [upd_ne fun z => by rw [z, o9] at hc; cases hc]; exact hc) ((row.mono (e8.trans e9)).snoc t9)
    · rintro σ' H7 ⟨y6, y7, y12, xs, rfl, e7, o7, row⟩
      rw [vN_len, List.length_map, List.take_length] at row
      have row : PlT H7 xs (rowsO (kL L) L (lawO L)) := row
      rw [law_least ok l1] at row
      exact s_ret (v := .ref Fo) (ev_var rfl) fun H8 e8 => kk Fo H8 (fresh_back E5 hFo) (E5.trans (e7.trans e8)) ⟨xs, e8 _ _ o7, row.mono e8⟩
end
end K16
/-! machines that let the same have one least machine -/
namespace Ls
/-- what is let from a place on -/
def lang (M : List Pl) (p : Nat) (w : List Bool) : Bool := (run M (some p) w).isSome
theorem lang_f (M : List Pl) (p : Nat) (w : List Bool) : lang M p (false :: w) = lang M (kept M p) w := rfl
theorem lang_t (M : List Pl) (p : Nat) (w : List Bool) : lang M p (true :: w) = match lost M p with | none => false | some l => lang M l w := by
  show (run M (if true = true then lost M p else some (kept M p)) w).isSome = _
  rw [if_pos rfl]
  cases lost M p with
  | none => rw [run_none]; rfl
  | some l => rfl
theorem lang_1 (M : List Pl) (p : Nat) : lang M p [true] = (lost M p).isSome := by
  rw [lang_t]
  cases lost M p <;> rfl
theorem same_run {M : List Pl} : ∀ (w : List Bool) {p q : Nat}, Same M p q → lang M p w = lang M q w
  | [], _, _, _ => rfl
  | false :: w, p, q, h => by rw [lang_f, lang_f]; exact same_run w h.kept
  | true :: w, p, q, h => by
    rw [lang_t, lang_t]
    rcases h.lost with ⟨e1, e2⟩ | ⟨a, b, e1, e2, hab⟩
    · rw [e1, e2]
    · rw [e1, e2]
      exact same_run w hab
theorem run_alike {M : List Pl} : ∀ (t : Nat) {p q : Nat}, (∀ w, lang M p w = lang M q w) → alike M t p q = true
  | 0, _, _, _ => rfl
  | t + 1, p, q, h => by
    show (alike M t p q && alike M t (kept M p) (kept M q) && both (alike M t) (lost M p) (lost M q)) = true
    rw [run_alike t h, run_alike t (p := kept M p) (q := kept M q) fun w => h (false :: w)]
    have h1 := h [true]
    rw [lang_1, lang_1] at h1
    cases e1 : lost M p with
    | none =>
      cases e2 : lost M q with
      | none => rfl
      | some b => rw [e1, e2] at h1; cases h1
    | some a =>
      cases e2 : lost M q with
      | none => rw [e1, e2] at h1; cases h1
      | some b =>
        show (true && true && alike M t a b) = true
        rw [run_alike t fun w => by
          have := h (true :: w)
          rw [lang_t, lang_t, e1, e2] at this
          exact this]
        rfl
theorem same_iff {M : List Pl} {p q : Nat} : Same M p q ↔ ∀ w, lang M p w = lang M q w := ⟨fun h w => same_run w h, fun h t => run_alike t h⟩
theorem least_lang {M N : List Pl} (okM : OkM M) (okN : OkM N) (m1 : 1 ≤ M.length) (n1 : 1 ≤ N.length) (h : ∀ w, letsF M w = letsF N w) : least M = least N := by
  obtain ⟨_, km⟩ := kOf_same okM m1
  obtain ⟨_, kn⟩ := kOf_same okN n1
  have s : Sides (kOf M) id (kOf N) id M N fun p p' => p < M.length ∧ p' < N.length ∧ ∀ w, lang M p w = lang N p' w := ⟨fun p p' ⟨a, b, c⟩ => ⟨(closedP_lt okM p a).1, (closedP_lt okN p' b).1, fun w => c (false :: w)⟩, fun p p' ⟨a, b, c⟩ => by
      have h1 := c [true]
      rw [lang_1, lang_1] at h1
      cases e1 : lost M p with
      | none =>
        cases e2 : lost N p' with
        | none => exact .inl ⟨rfl, rfl⟩
        | some b => rw [e1, e2] at h1; cases h1
      | some x =>
        cases e2 : lost N p' with
        | none => rw [e1, e2] at h1; cases h1
        | some y => exact .inr ⟨x, y, rfl, rfl, (closedP_lt okM p a).2 x e1, (closedP_lt okN p' b).2 y e2, fun w => by
            have := c (true :: w)
            rw [lang_t, lang_t, e1, e2] at this
            exact this⟩,
    fun p p' q q' ⟨a, b, c⟩ ⟨a', b', c'⟩ => by
      rw [km p a q a', kn p' b q' b', same_iff, same_iff]
      exact ⟨fun z w => by rw [← c, z, c'], fun z w => by rw [c, z, c']⟩,
    fun p p' h => h⟩
  have p0 : Pairs (fun p p' => p < M.length ∧ p' < N.length ∧ ∀ w, lang M p w = lang N p' w) [0] [0] := ⟨rfl, fun i p q hp hq => by
    cases i with
    | zero => cases hp; cases hq; exact ⟨by omega, by omega, h⟩
    | succ n => cases hp⟩
  have rows := s.rows (s.walk (M.length + N.length + 1) 0 _ _ p0)
  have eM : orderF M = walk (kOf M) id M (M.length + N.length + 1) 0 [0] := walk_fuel (M := M) (k := kOf M) (ρ := id) stands_id (closedP_lt okM) (fun _ h => h) (M.length + 1) (M.length + N.length + 1) 0 [0] (fun p hp => by rw [List.mem_singleton.mp hp]; omega) (by simp) (by omega) (by omega)
  have eN : orderF N = walk (kOf N) id N (M.length + N.length + 1) 0 [0] := walk_fuel (M := N) (k := kOf N) (ρ := id) stands_id (closedP_lt okN) (fun _ h => h) (N.length + 1) (M.length + N.length + 1) 0 [0] (fun p hp => by rw [List.mem_singleton.mp hp]; omega) (by simp) (by omega) (by omega)
  unfold least
  rw [eM, eN]
  exact rows
end Ls
/-! walks over anything; machines side by side -/
namespace Ls
section
variable {α : Type} [DecidableEq α]
def gr (ord : List α) (s : α) : List α := if s ∈ ord then ord else ord ++ [s]
def grs (ord : List α) (l : List α) : List α := l.foldl gr ord
def bfs (succ : α → List α) : Nat → Nat → List α → List α
  | 0, _, ord => ord
  | f + 1, i, ord => match ord[i]? with
    | some s => bfs succ f (i + 1) (grs ord (succ s))
    | none => ord
theorem gr_more (ord : List α) (s : α) : ∃ m, gr ord s = ord ++ m := by
  unfold gr
  by_cases c : s ∈ ord
  · exact ⟨[], by rw [if_pos c, List.append_nil]⟩
  · exact ⟨[s], by rw [if_neg c]⟩
theorem gr_mem (ord : List α) (s : α) : s ∈ gr ord s := by
  unfold gr
  by_cases c : s ∈ ord
  · rw [if_pos c]; exact c
  · rw [if_neg c]; exact List.mem_append_right _ List.mem_cons_self
theorem gr_in {P : α → Prop} {ord : List α} {s : α} (hs : P s) (h : ∀ x ∈ ord, P x) : ∀ x ∈ gr ord s, P x := by
  unfold gr
  split
  · exact h
  · intro x hx
    rcases List.mem_append.mp hx with c | c
    · exact h x c
    · rw [List.mem_singleton.mp c]; exact hs
theorem gr_nd {ord : List α} {s : α} (h : ord.Nodup) : (gr ord s).Nodup := by
  unfold gr
  split
  · exact h
  · rename_i c
    rw [List.nodup_append]
    exact ⟨h, by simp, fun a ha b hb z => c (by rw [← List.mem_singleton.mp hb, ← z]; exact ha)⟩
theorem grs_more : ∀ (l ord : List α), ∃ m, grs ord l = ord ++ m
  | [], ord => ⟨[], by rw [List.append_nil]; rfl⟩
  | s :: l, ord => by
    obtain ⟨a, ha⟩ := gr_more ord s
    obtain ⟨b, hb⟩ := grs_more l (gr ord s)
    exact ⟨a ++ b, by show grs (gr ord s) l = _; rw [hb, ha, List.append_assoc]⟩
theorem grs_mem : ∀ (l ord : List α), ∀ s ∈ l, s ∈ grs ord l
  | x :: l, ord, s, hs => by
    obtain ⟨m, hm⟩ := grs_more l (gr ord x)
    show s ∈ grs (gr ord x) l
    rcases List.mem_cons.mp hs with rfl | hs
    · rw [hm]
      exact List.mem_append_left _ (gr_mem _ _)
    · exact grs_mem l _ s hs
theorem grs_in {P : α → Prop} : ∀ (l ord : List α), (∀ s ∈ l, P s) → (∀ x ∈ ord, P x) → ∀ x ∈ grs ord l, P x
  | [], _, _, h => h
  | s :: l, ord, hl, h => grs_in l (gr ord s) (fun x hx => hl x (List.mem_cons_of_mem _ hx)) (gr_in (hl s List.mem_cons_self) h)
theorem grs_nd : ∀ (l ord : List α), ord.Nodup → (grs ord l).Nodup
  | [], _, h => h
  | s :: l, ord, h => grs_nd l (gr ord s) (gr_nd h)
theorem bfs_succ {succ : α → List α} {f i : Nat} {ord : List α} {s : α} (h : ord[i]? = some s) : bfs succ (f + 1) i ord = bfs succ f (i + 1) (grs ord (succ s)) := by
  show (match ord[i]? with | some s => bfs succ f (i + 1) (grs ord (succ s)) | none => ord) = _
  rw [h]
theorem bfs_stop {succ : α → List α} {f i : Nat} {ord : List α} (h : ord.length ≤ i) : bfs succ f i ord = ord := by
  cases f with
  | zero => rfl
  | succ f =>
    show (match ord[i]? with | some s => bfs succ f (i + 1) (grs ord (succ s)) | none => ord) = _
    rw [List.getElem?_eq_none h]
theorem bfs_more {succ : α → List α} : ∀ (f i : Nat) (ord : List α), ∃ m, bfs succ f i ord = ord ++ m
  | 0, _, ord => ⟨[], by rw [List.append_nil]; rfl⟩
  | f + 1, i, ord => by
    cases h : ord[i]? with
    | none => exact ⟨[], by rw [bfs_stop (List.getElem?_eq_none_iff.mp h), List.append_nil]⟩
    | some s =>
      obtain ⟨a, ha⟩ := grs_more (succ s) ord
      obtain ⟨b, hb⟩ := bfs_more (succ := succ) f (i + 1) (grs ord (succ s))
      exact ⟨a ++ b, by rw [bfs_succ h, hb, ha, List.append_assoc]⟩
theorem bfs_in {succ : α → List α} {P : α → Prop} (cl : ∀ s, P s → ∀ t ∈ succ s, P t) : ∀ (f i : Nat) (ord : List α), (∀ s ∈ ord, P s) → ∀ s ∈ bfs succ f i ord, P s
  | 0, _, _, h => h
  | f + 1, i, ord, h => by
    cases e : ord[i]? with
    | none => rw [bfs_stop (List.getElem?_eq_none_iff.mp e)]; exact h
    | some s =>
      rw [bfs_succ e]
      exact bfs_in cl f (i + 1) _ (grs_in _ _ (cl s (h s (List.mem_of_getElem? e))) h)
theorem bfs_nd {succ : α → List α} : ∀ (f i : Nat) (ord : List α), ord.Nodup → (bfs succ f i ord).Nodup
  | 0, _, _, h => h
  | f + 1, i, ord, h => by
    cases e : ord[i]? with
    | none => rw [bfs_stop (List.getElem?_eq_none_iff.mp e)]; exact h
    | some s =>
      rw [bfs_succ e]
      exact bfs_nd f (i + 1) _ (grs_nd _ _ h)
theorem bfs_done {succ : α → List α} {P : α → Prop} {n : Nat} (cl : ∀ s, P s → ∀ t ∈ succ s, P t) (few : ∀ l : List α, l.Nodup → (∀ x ∈ l, P x) → l.length ≤ n) : ∀ (f i : Nat) (ord : List α), (∀ s ∈ ord, P s) → ord.Nodup → n + 1 ≤ f + i → (∀ (j : Nat) (s : α), j < i → ord[j]? = some s → ∀ t ∈ succ s, t ∈ ord) → ∀ s ∈ bfs succ f i ord, ∀ t ∈ succ s, t ∈ bfs succ f i ord
  | 0, i, ord, h, nd, hn, d => by
    have := few ord nd h
    intro s hs t ht
    have hs : s ∈ ord := hs
    obtain ⟨j, hj⟩ := List.getElem?_of_mem hs
    exact d j s (by have := (List.getElem?_eq_some_iff.mp hj).1; omega) hj t ht
  | f + 1, i, ord, h, nd, hn, d => by
    cases e : ord[i]? with
    | none =>
      have le := List.getElem?_eq_none_iff.mp e
      rw [bfs_stop le]
      intro s hs t ht
      obtain ⟨j, hj⟩ := List.getElem?_of_mem hs
      exact d j s (by have := (List.getElem?_eq_some_iff.mp hj).1; omega) hj t ht
    | some s =>
      rw [bfs_succ e]
      have sP := h s (List.mem_of_getElem? e)
      obtain ⟨m, hm⟩ := grs_more (succ s) ord
      refine bfs_done cl few f (i + 1) _ (grs_in _ _ (cl s sP) h) (grs_nd _ _ nd) (by omega) fun j x hj hx t ht => ?_
      have lt := (List.getElem?_eq_some_iff.mp e).1
      by_cases c : j < i
      · rw [hm, List.getElem?_append_left (by omega)] at hx
        rw [hm]
        exact List.mem_append_left _ (d j x c hx t ht)
      · obtain rfl : j = i := by omega
        rw [hm, List.getElem?_append_left lt, e] at hx
        cases hx
        exact grs_mem _ _ t ht
end
/-! ### two machines at once -/
abbrev PS := Option Nat × Option Nat
def stp (M : List Pl) (b : Bool) : Option Nat → Option Nat
  | none => none
  | some p => if b = true then lost M p else some (kept M p)
def nxt (M N : List Pl) (s : PS) (b : Bool) : PS := (stp M b s.1, stp N b s.2)
/-- e: it is enough that one lets it -/
def gone (e : Bool) (s : PS) : Bool := if e = true then s.1.isNone && s.2.isNone else s.1.isNone || s.2.isNone
def sucP (e : Bool) (M N : List Pl) (s : PS) : List PS := [nxt M N s false, nxt M N s true].filter fun t => !gone e t
def many2 (M N : List Pl) : Nat := (M.length + 1) * (N.length + 1)
def ordP (e : Bool) (M N : List Pl) : List PS := bfs (sucP e M N) (many2 M N + 1) 0 [(some 0, some 0)]
def rowP (e : Bool) (M N : List Pl) (O : List PS) (s : PS) : Pl := (O.idxOf (nxt M N s false), if gone e (nxt M N s true) = true then none else some (O.idxOf (nxt M N s true)))
def joinP (e : Bool) (M N : List Pl) : List Pl := (ordP e M N).map (rowP e M N (ordP e M N))
def VP (e : Bool) (M N : List Pl) (s : PS) : Prop := (∀ p, s.1 = some p → p < M.length) ∧ (∀ q, s.2 = some q → q < N.length) ∧ gone e s = false
theorem run_stp (M : List Pl) (x : Option Nat) (b : Bool) (w : List Bool) : run M x (b :: w) = run M (stp M b x) w := by
  cases x with
  | none => rw [run_none]; exact (run_none _).symm
  | some p => rfl
theorem run_end (M : List Pl) (w : List Bool) (b : Bool) (x : Option Nat) : run M x (w ++ [b]) = stp M b (run M x w) := by
  rw [run_snoc]
  cases run M x w <;> rfl
theorem stp_f (M : List Pl) (x : Option Nat) : (stp M false x).isNone = x.isNone := by cases x <;> rfl
theorem gone_f {e : Bool} {M N : List Pl} {s : PS} (h : gone e s = false) : gone e (nxt M N s false) = false := by
  have g : gone e (nxt M N s false) = gone e s := by
    unfold gone nxt
    rw [stp_f, stp_f]
  rw [g, h]
theorem stp_lt {M : List Pl} (ok : OkM M) {b : Bool} {x : Option Nat} (h : ∀ p, x = some p → p < M.length) : ∀ p, stp M b x = some p → p < M.length := fun q hq => by
  cases x with
  | none => cases hq
  | some p =>
    have c := closedP_lt ok p (h p rfl)
    cases b with
    | true => exact c.2 q hq
    | false => cases hq; exact c.1
theorem mem_suc {e : Bool} {M N : List Pl} {s t : PS} : t ∈ sucP e M N s ↔ (∃ b, t = nxt M N s b) ∧ gone e t = false := by
  unfold sucP
  rw [List.mem_filter]
  constructor
  · rintro ⟨h, g⟩
    refine ⟨?_, by simpa using g⟩
    rcases List.mem_cons.mp h with rfl | h
    · exact ⟨false, rfl⟩
    · exact ⟨true, List.mem_singleton.mp h⟩
  · rintro ⟨⟨b, rfl⟩, g⟩
    refine ⟨?_, by rw [g]; rfl⟩
    cases b
    · exact List.mem_cons_self
    · exact List.mem_cons_of_mem _ List.mem_cons_self
def allP (M N : List Pl) : List PS := (none :: (List.range M.length).map some).flatMap fun x => (none :: (List.range N.length).map some).map fun y => (x, y)
theorem allP_len (M N : List Pl) : (allP M N).length = many2 M N := by
  unfold allP many2
  have g : ∀ (l : List (Option Nat)) (r : List (Option Nat)), (l.flatMap fun x => r.map fun y => (x, y)).length = l.length * r.length := fun l r => by
    induction l with
    | nil => simp
    | cons x l ih => rw [List.flatMap_cons, List.length_append, ih, List.length_map, List.length_cons, Nat.succ_mul, Nat.add_comm]
  rw [g]
  simp
theorem few2 (e : Bool) (M N : List Pl) : ∀ l : List PS, l.Nodup → (∀ x ∈ l, VP e M N x) → l.length ≤ many2 M N := fun l nd h => by
  rw [← allP_len]
  refine sub_len l (allP M N) nd fun s hs => ?_
  obtain ⟨h1, h2, _⟩ := h s hs
  obtain ⟨x, y⟩ := s
  refine List.mem_flatMap.mpr ⟨x, ?_, List.mem_map.mpr ⟨y, ?_, rfl⟩⟩
  · cases x with
    | none => exact List.mem_cons_self
    | some p => exact List.mem_cons_of_mem _ (List.mem_map.mpr ⟨p, List.mem_range.mpr (h1 p rfl), rfl⟩)
  · cases y with
    | none => exact List.mem_cons_self
    | some p => exact List.mem_cons_of_mem _ (List.mem_map.mpr ⟨p, List.mem_range.mpr (h2 p rfl), rfl⟩)
section
variable {e : Bool} {M N : List Pl}
theorem vp_suc (okM : OkM M) (okN : OkM N) : ∀ s, VP e M N s → ∀ t ∈ sucP e M N s, VP e M N t := fun s hs t ht => by
  obtain ⟨⟨b, rfl⟩, g⟩ := mem_suc.mp ht
  exact ⟨stp_lt okM hs.1, stp_lt okN hs.2.1, g⟩
theorem vp_0 (m1 : 1 ≤ M.length) (n1 : 1 ≤ N.length) : VP e M N (some 0, some 0) := ⟨fun p hp => by cases hp; omega, fun q hq => by cases hq; omega, by cases e <;> rfl⟩
theorem ordP_is (okM : OkM M) (okN : OkM N) (m1 : 1 ≤ M.length) (n1 : 1 ≤ N.length) : (∀ s ∈ ordP e M N, VP e M N s) ∧ (ordP e M N).Nodup ∧ (∀ s ∈ ordP e M N, ∀ b, gone e (nxt M N s b) = false → nxt M N s b ∈ ordP e M N) ∧ (ordP e M N)[0]? = some (some 0, some 0) ∧ (ordP e M N).length ≤ many2 M N := by
  have i0 : ∀ s ∈ ([(some 0, some 0)] : List PS), VP e M N s := fun s hs => by rw [List.mem_singleton.mp hs]; exact vp_0 m1 n1
  have a := bfs_in (vp_suc (e := e) okM okN) (many2 M N + 1) 0 _ i0
  have nd := bfs_nd (succ := sucP e M N) (many2 M N + 1) 0 [(some 0, some 0)] (by simp)
  refine ⟨a, nd, fun s hs b g => bfs_done (vp_suc okM okN) (few2 e M N) (many2 M N + 1) 0 _ i0 (by simp) (by omega) (fun j s hj _ => by omega) s hs _ (mem_suc.mpr ⟨⟨b, rfl⟩, g⟩), ?_, few2 e M N _ nd a⟩
  obtain ⟨m, hm⟩ := bfs_more (succ := sucP e M N) (many2 M N + 1) 0 [(some 0, some 0)]
  unfold ordP
  rw [hm]
  rfl
theorem idx_at {α : Type} [BEq α] [LawfulBEq α] {l : List α} {x : α} (h : x ∈ l) : l[l.idxOf x]? = some x := by
  have lt := List.idxOf_lt_length_of_mem h
  rw [List.getElem?_eq_getElem lt, List.getElem_idxOf lt]
theorem join_len1 (okM : OkM M) (okN : OkM N) (m1 : 1 ≤ M.length) (n1 : 1 ≤ N.length) : 1 ≤ (joinP e M N).length ∧ (joinP e M N).length ≤ many2 M N := by
  obtain ⟨_, _, _, o0, l⟩ := ordP_is (e := e) okM okN m1 n1
  unfold joinP
  rw [List.length_map]
  have := (List.getElem?_eq_some_iff.mp o0).1
  exact ⟨this, l⟩
theorem join_ok (okM : OkM M) (okN : OkM N) (m1 : 1 ≤ M.length) (n1 : 1 ≤ N.length) : OkM (joinP e M N) := fun x hx => by
  obtain ⟨v, _, d, _, _⟩ := ordP_is (e := e) okM okN m1 n1
  have len : (joinP e M N).length = (ordP e M N).length := by unfold joinP; rw [List.length_map]
  obtain ⟨s, hs, rfl⟩ := List.mem_map.mp hx
  rw [len]
  refine ⟨List.idxOf_lt_length_of_mem (d s hs false (gone_f (v s hs).2.2)), fun l hl => ?_⟩
  have hl : (if gone e (nxt M N s true) = true then none else some ((ordP e M N).idxOf (nxt M N s true))) = some l := hl
  split at hl
  · cases hl
  · rename_i g
    cases hl
    exact List.idxOf_lt_length_of_mem (d s hs true (by simpa using g))
def cmb (e a b : Bool) : Bool := if e = true then a || b else a && b
theorem cmb_gone {s : PS} : cmb e s.1.isSome s.2.isSome = !gone e s := by
  obtain ⟨x, y⟩ := s
  cases e <;> cases x <;> cases y <;> rfl
theorem join_run (okM : OkM M) (okN : OkM N) (m1 : 1 ≤ M.length) (n1 : 1 ≤ N.length) : ∀ (w : List Bool) (i : Nat) (s : PS), (ordP e M N)[i]? = some s → (run (joinP e M N) (some i) w).isSome = cmb e (run M s.1 w).isSome (run N s.2 w).isSome := by
  obtain ⟨v, _, d, _, _⟩ := ordP_is (e := e) okM okN m1 n1
  have row : ∀ {i : Nat} {s : PS}, (ordP e M N)[i]? = some s → (joinP e M N).getD i (0, none) = rowP e M N (ordP e M N) s := fun {i s} h => by
    unfold joinP
    rw [List.getD_eq_getElem?_getD, List.getElem?_map, h]
    rfl
  intro w
  induction w with
  | nil =>
    intro i s hs
    have g := (v s (List.mem_of_getElem? hs)).2.2
    have c := cmb_gone (e := e) (s := s)
    rw [g] at c
    have r : ∀ (M : List Pl) (x : Option Nat), run M x [] = x := fun M x => by cases x <;> rfl
    rw [r, r, r, c]
    rfl
  | cons b w ih =>
    intro i s hs
    have sin := List.mem_of_getElem? hs
    rw [run_stp, run_stp M, run_stp N]
    cases b with
    | false =>
      have g := gone_f (M := M) (N := N) (v s sin).2.2
      have e1 : stp (joinP e M N) false (some i) = some ((ordP e M N).idxOf (nxt M N s false)) := by
        show some (kept (joinP e M N) i) = _
        unfold kept
        rw [row hs]
        rfl
      rw [e1]
      exact ih _ _ (idx_at (d s sin false g))
    | true =>
      have e1 : stp (joinP e M N) true (some i) = if gone e (nxt M N s true) = true then none else some ((ordP e M N).idxOf (nxt M N s true)) := by
        show lost (joinP e M N) i = _
        unfold lost
        rw [row hs]
        rfl
      rw [e1]
      by_cases g : gone e (nxt M N s true) = true
      · rw [if_pos g, run_none]
        show false = cmb e (run M (nxt M N s true).1 w).isSome (run N (nxt M N s true).2 w).isSome
        generalize nxt M N s true = t at g
        obtain ⟨x, y⟩ := t
        cases e with
        | true =>
          cases x with
          | some _ => cases g
          | none =>
            cases y with
            | some _ => cases g
            | none => rw [run_none, run_none]; rfl
        | false =>
          cases x with
          | none => rw [run_none]; rfl
          | some _ =>
            cases y with
            | some _ => cases g
            | none => rw [run_none (M := N)]; show false = (_ && false); rw [Bool.and_false]
      · rw [if_neg g]
        exact ih _ _ (idx_at (d s sin true (by simpa using g)))
theorem join_lets (okM : OkM M) (okN : OkM N) (m1 : 1 ≤ M.length) (n1 : 1 ≤ N.length) (w : List Bool) : letsF (joinP e M N) w = cmb e (letsF M w) (letsF N w) := join_run okM okN m1 n1 w 0 _ (ordP_is okM okN m1 n1).2.2.2.1
/-! ### whether one lets all that the other lets -/
def Part (M N : List Pl) : Prop := ∀ w, letsF M w = true → letsF N w = true
def bad (M N : List Pl) (s : PS) (b : Bool) : Bool := (nxt M N s b).1.isSome && (nxt M N s b).2.isNone
def Rch (M N : List Pl) (s : PS) : Prop := ∃ w, s = (run M (some 0) w, run N (some 0) w)
theorem rch_suc (M N : List Pl) (s : PS) (b : Bool) (h : Rch M N s) : Rch M N (nxt M N s b) := by
  obtain ⟨w, rfl⟩ := h
  exact ⟨w ++ [b], by rw [run_end, run_end]; rfl⟩
theorem rch_ord : ∀ s ∈ ordP e M N, Rch M N s := bfs_in (P := Rch M N) (fun s hs t ht => by
  obtain ⟨⟨b, rfl⟩, _⟩ := mem_suc.mp ht
  exact rch_suc M N s b hs) _ 0 _ fun s hs => ⟨[], by rw [List.mem_singleton.mp hs]; rfl⟩
theorem bad_no {s : PS} {b : Bool} (h : Rch M N s) (hb : bad M N s b = true) : ¬ Part M N := fun p => by
  obtain ⟨w, e1⟩ := rch_suc M N s b h
  unfold bad at hb
  rw [e1, Bool.and_eq_true] at hb
  have := p w hb.1
  unfold letsF at this
  have h2 : (run N (some 0) w).isNone = true := hb.2
  rw [Option.isNone_iff_eq_none] at h2
  rw [h2] at this
  cases this
theorem part_yes (okM : OkM M) (okN : OkM N) (m1 : 1 ≤ M.length) (n1 : 1 ≤ N.length) (h : ∀ s ∈ ordP false M N, ∀ b, bad M N s b = false) : Part M N := by
  obtain ⟨v, _, d, o0, _⟩ := ordP_is (e := false) okM okN m1 n1
  have main : ∀ (w : List Bool) (s : PS), s ∈ ordP false M N → (run M s.1 w).isSome = true → (run N s.2 w).isSome = true := fun w => by
    induction w with
    | nil =>
      intro s hs hr
      have g := (v s hs).2.2
      obtain ⟨x, y⟩ := s
      cases y with
      | some q => rfl
      | none => cases x <;> cases g
    | cons b w ih =>
      intro s hs hr
      rw [run_stp] at hr ⊢
      have nb := h s hs b
      have x : (nxt M N s b).1.isSome = true := by
        show (stp M b s.1).isSome = true
        cases c : stp M b s.1 with
        | none => rw [c, run_none] at hr; cases hr
        | some _ => rfl
      unfold bad at nb
      rw [x, Bool.true_and] at nb
      refine ih (nxt M N s b) (d s hs b ?_) hr
      unfold gone
      rw [if_neg (by decide), nb, Bool.or_false]
      cases c : (nxt M N s b).1 with
      | none => rw [c] at x; cases x
      | some _ => rfl
  exact fun w hw => main w (some 0, some 0) (List.mem_of_getElem? o0) hw
theorem part_least (okM : OkM M) (okN : OkM N) (m1 : 1 ≤ M.length) (n1 : 1 ≤ N.length) : Part (least M) (least N) ↔ Part M N := by
  unfold Part
  refine forall_congr' fun w => ?_
  rw [lets_least okM m1, lets_least okN n1]
end
end Ls
/-! {k: v}, k a tuple of ints and texts -/
namespace DdT
open PySem PySem.Spec PyProof.Rows L2
/-- the new dict stands empty while the pair is made -/
def tDisp1 (tk tv : TE) : TE := fun σ H Q => ∀ p, H p = none → tk σ (upd H p (.dT [])) fun x H1 => tv σ H1 fun v H2 => ∃ (b : Addr) (k : List L2.Key), x = .ref b ∧ H2 b = some (.tup (k.map kV)) ∧ H2 p = some (.dT []) ∧ Q (.ref p) (upd H2 p (.dT [(k, v)]))
theorem pe_disp1 {X : Cx} {k v : Expr} {pos : Pos} {tk tv : TE} (hu : X.A.units + 1 < cLine) (hk : PE X k tk) (hv : PE X v tv) : PE X (.Dict [some k] [v] pos) (tDisp1 tk tv) := by
  refine ⟨fun pins s σ H Q I q => ?_⟩
  have hn := I.hok.fresh (Nat.le_refl s.heap.objs.size)
  have I1 := I.laid (a := s.heap.objs.size) (o := .dT []) (h' := s.heap.push { cls := .type "dict", data := .dict #[] }) (t' := s.toks) (fun _ _ q => Heap.get?_push_of_some _ q) (Nat.le_refl _) (dt_empty s.heap I.big)
  have zp := zip_pairTrees [some k] [v] X.env pos rfl rfl
  rw [arm_eval_Dict, zp, dictDisplay_pairs (pairTrees [some k] [v] X.env pos) (by intro z; cases z) (by show 1 < 17; decide)]
  refine wpAny_bind (wpAny_standAt (wpAny_bind (wpAny_subDictH (knd := tupleKind (mixKind X.prog X.w)) (Q := fun d s' => wpAny (model X.prog X.w) X.A (pure (Value.ref d)) _ X.xe s') (show X.A.units < cLine by omega) (by show 1 ≤ 15; decide) ?_)))
  have pps : PPs X pos [some k] [v] [(tk, tv)] := pps_cons hk hv pps_nil
  have go : tPairs [(tk, tv)] σ (upd H s.heap.objs.size (.dT [])) fun ps H2 => ∃ (b : Addr) (key : List L2.Key) (y : V), ps = [(.ref b, y)] ∧ H2 b = some (.tup (key.map kV)) ∧ H2 s.heap.objs.size = some (.dT []) ∧ Q (.ref s.heap.objs.size) (upd H2 s.heap.objs.size (.dT [(key, y)])) := by
    have q0 := q _ hn
    show tk σ (upd H s.heap.objs.size (.dT [])) fun x H1 => tv σ H1 fun y H2 => ∃ (b : Addr) (key : List L2.Key) (y' : V), [(x, y)] = [(V.ref b, y')] ∧ H2 b = some (.tup (key.map kV)) ∧ H2 s.heap.objs.size = some (.dT []) ∧ Q (.ref s.heap.objs.size) (upd H2 s.heap.objs.size (.dT [(key, y')]))
    have e : (fun (x : V) (H1 : Hp) => tv σ H1 fun (v : V) (H2 : Hp) => ∃ (b : Addr) (k : List L2.Key), x = V.ref b ∧ H2 b = some (.tup (k.map kV)) ∧ H2 s.heap.objs.size = some (.dT []) ∧ Q (.ref s.heap.objs.size) (upd H2 s.heap.objs.size (.dT [(k, v)]))) =
        fun x H1 => tv σ H1 fun y H2 => ∃ (b : Addr) (key : List L2.Key) (y' : V), [(x, y)] = [(V.ref b, y')] ∧ H2 b = some (.tup (key.map kV)) ∧ H2 s.heap.objs.size = some (.dT []) ∧ Q (.ref s.heap.objs.size) (upd H2 s.heap.objs.size (.dT [(key, y')])) := by
      funext x H1
      congr 1
      funext y H2
      refine propext ⟨fun ⟨b, key, h1, h2, h3, h4⟩ => ⟨b, key, y, by rw [h1], h2, h3, h4⟩, fun ⟨b, key, y', h1, h2, h3, h4⟩ => ?_⟩
      cases h1
      exact ⟨b, key, rfl, h2, h3, h4⟩
    rw [← e]
    exact q0
  refine thn (pps.run pins _ σ _ _ I1 go) fun ws s2 ⟨ps, H2, I2, rel, b, key, y, ep, hb, hd, q2⟩ => ?_
  subst ep
  cases rel with
  | @cons p0 u l0 m0 r t =>
    cases t
    obtain ⟨u1, u2⟩ := u
    obtain ⟨r1, r2⟩ := r
    cases (show u1 = Value.ref b from r1)
    have r2 : RelV y u2 := r2
    obtain ⟨z, hdd, xs0, r0, dd⟩ := dt_of I2.hok hd
    cases r0
    refine ⟨[(key, b, u2)], ⟨rfl, rfl, key_of I2.hok hb, True.intro⟩, dd, fun h' tk' dd' hs => wpAny_pure ⟨.ref s.heap.objs.size, _, ?_, rfl, q2⟩⟩
    have st : storedAllH [] [(key, b, u2)] = [(key, b, u2)] := rfl
    rw [st] at dd'
    obtain ⟨o, es, ep, hq, h2, h3, h4, _, h5⟩ := dd'
    refine d_write I2 (by rw [hd]; exact True.intro) hs ⟨o, hq⟩ ⟨by show 1 ≤ sizeLine; decide, hdd, [(key, b, u2)], .cons ⟨rfl, ?_, r2⟩ .nil, o, es, ep, hq, h2, h3, h4, h5⟩
    rw [upd_ne (ne_of hb hd (fun z => nomatch z))]
    exact hb
end DdT
namespace K16
open PySem L2 Evl Gr StX EnT ClX RdX OwX OwC OpX Ls DnX DdT
/-! ### rows of tuples -/
def RowT {α : Type} (f : α → List V) (H : Hp) (xs : List V) (l : List α) : Prop := xs.length = l.length ∧ ∀ (i : Nat) (x : V) (m : α), xs[i]? = some x → l[i]? = some m → ∃ a, x = .ref a ∧ H a = some (.tup (f m))
section
variable {α : Type} {f : α → List V} {H H' : Hp} {xs : List V} {l : List α}
theorem rwt_nil : RowT f H [] [] := ⟨rfl, fun i x m hx => by cases hx⟩
theorem RowT.mono (e : Ex H H') (h : RowT f H xs l) : RowT f H' xs l := ⟨h.1, fun i x m hx hm => by
  obtain ⟨a, h1, h2⟩ := h.2 i x m hx hm
  exact ⟨a, h1, e _ _ h2⟩⟩
theorem rwt_keep (ht : ∀ b ys, H b = some (.tup ys) → H' b = some (.tup ys)) (h : RowT f H xs l) : RowT f H' xs l := ⟨h.1, fun i x m hx hm => by
  obtain ⟨a, h1, h2⟩ := h.2 i x m hx hm
  exact ⟨a, h1, ht _ _ h2⟩⟩
theorem RowT.snoc {b : Addr} {m : α} (h : RowT f H xs l) (hb : H b = some (.tup (f m))) : RowT f H (xs ++ [.ref b]) (l ++ [m]) := ⟨by rw [List.length_append, List.length_append, h.1]; rfl, fun i x u hx hu => by
  rcases Nat.lt_or_ge i xs.length with c | c
  · rw [List.getElem?_append_left c] at hx
    rw [List.getElem?_append_left (by rw [← h.1]; exact c)] at hu
    exact h.2 i x u hx hu
  · rw [List.getElem?_append_right c] at hx
    rw [List.getElem?_append_right (by rw [← h.1]; exact c), ← h.1] at hu
    cases e : i - xs.length with
    | zero => rw [e] at hx hu; cases hx; cases hu; exact ⟨b, rfl, hb⟩
    | succ n => rw [e] at hx; cases hx⟩
theorem RowT.at {i : Nat} {m : α} (h : RowT f H xs l) (hm : l[i]? = some m) : ∃ a, xs[i]? = some (.ref a) ∧ H a = some (.tup (f m)) := by
  have lt : i < xs.length := by rw [h.1]; exact (List.getElem?_eq_some_iff.mp hm).1
  obtain ⟨a, e, ha⟩ := h.2 i _ m (List.getElem?_eq_getElem lt) hm
  exact ⟨a, by rw [List.getElem?_eq_getElem lt, e], ha⟩
end
/-! ### two machines side by side: pairs of places, gone ones -1 -/
def gI : Option Nat → Int
  | none => -1
  | some p => (p : Int)
def tK (s : PS) : List L2.Key := [.inl (gI s.1), .inl (gI s.2)]
def tV (s : PS) : List V := [gV s.1, gV s.2]
theorem gV_I (x : Option Nat) : gV x = .int (gI x) := by cases x <;> rfl
theorem tK_V (s : PS) : (tK s).map kV = tV s := by
  unfold tV tK
  rw [gV_I, gV_I]
  rfl
theorem tV_I (s : PS) : tV s = vI [gI s.1, gI s.2] := by
  unfold tV
  rw [gV_I, gV_I]
  rfl
theorem gI_inj : ∀ {x y : Option Nat}, gI x = gI y → x = y
  | none, none, _ => rfl
  | none, some b, h => absurd (show (-1 : Int) = (b : Int) from h) (by omega)
  | some a, none, h => absurd (show (a : Int) = (-1 : Int) from h) (by omega)
  | some a, some b, h => by
    have h : (a : Int) = (b : Int) := h
    congr 1
    omega
theorem gI_gone : ∀ {x : Option Nat}, decide (gI x = -1) = x.isNone
  | none => rfl
  | some p => decide_eq_false fun z => absurd (show (p : Int) = (-1 : Int) from z) (by omega)
theorem tK_inj {s t : PS} (h : tK s = tK t) : s = t := by
  unfold tK at h
  have h1 := List.cons.inj h
  have h2 := List.cons.inj h1.2
  exact Prod.ext (gI_inj (Sum.inl.inj h1.1)) (gI_inj (Sum.inl.inj h2.1))
theorem stepO_stp (L : List Pl) (b : Bool) (x : Option Nat) : stepO L b x = stp L b x := by cases x <;> rfl
/-- dicts that number pairs -/
def numT : List PS → Nat → List (List L2.Key × V)
  | [], _ => []
  | s :: ks, n => (tK s, .int (n : Int)) :: numT ks (n + 1)
theorem numT_len : ∀ (ks : List PS) (n : Nat), (numT ks n).length = ks.length
  | [], _ => rfl
  | _ :: ks, n => by show (numT ks (n + 1)).length + 1 = _; rw [numT_len ks]; rfl
theorem numT_no {s : PS} : ∀ {ks : List PS} {n : Nat}, s ∉ ks → valV (numT ks n) (tK s) = none
  | [], _, _ => rfl
  | k :: ks, n, h => by
    show valV ((tK k, V.int (n : Int)) :: numT ks (n + 1)) _ = none
    rw [valV_neg fun z => h (by rw [tK_inj z]; exact List.mem_cons_self)]
    exact numT_no fun z => h (List.mem_cons_of_mem _ z)
theorem numT_yes {s : PS} : ∀ {ks : List PS} {n : Nat}, s ∈ ks → valV (numT ks n) (tK s) = some (.int ((n + ks.idxOf s : Nat) : Int))
  | k :: ks, n, h => by
    show valV ((tK k, V.int (n : Int)) :: numT ks (n + 1)) _ = _
    by_cases c : k = s
    · subst c
      rw [valV_pos rfl, List.idxOf_cons_self]
      rfl
    · rw [valV_neg fun z => c (tK_inj z), numT_yes ((List.mem_cons.mp h).resolve_left fun z => c z.symm), List.idxOf_cons, show (k == s) = false from beq_eq_false_iff_ne.mpr c, cond_false, show n + 1 + ks.idxOf s = n + (ks.idxOf s + 1) by omega]
theorem numT_snoc {s : PS} : ∀ {ks : List PS} {n : Nat}, numT (ks ++ [s]) n = numT ks n ++ [(tK s, .int ((n + ks.length : Nat) : Int))]
  | [], _ => rfl
  | k :: ks, n => by
    show (tK k, V.int (n : Int)) :: numT (ks ++ [s]) (n + 1) = (tK k, V.int (n : Int)) :: (numT ks (n + 1) ++ _)
    rw [numT_snoc, show n + 1 + ks.length = n + (k :: ks).length by rw [List.length_cons]; omega]
theorem numT_put {s : PS} {ks : List PS} (h : s ∉ ks) : putK (numT ks 0) (tK s) (.int (ks.length : Nat)) = numT (ks ++ [s]) 0 := by
  unfold putK
  rw [valV_any, numT_no h, if_neg (by decide), numT_snoc, Nat.zero_add]
section
variable {K : PySem.W.Frag} {σ : L2.St} {H : Hp} {ta tb to ti te : TE}
theorem ev_tget {d b : Addr} {kvs : List (List L2.Key × V)} {k : List L2.Key} {v : V} (ho : Ev to σ H (.ref d)) (hi : Ev ti σ H (.ref b)) (hb : H b = some (.tup (k.map kV))) (hd : H d = some (.dT kvs)) (hv : valV kvs k = some v) : Ev (tDGet to ti) σ H v := fun H1 e Q q =>
  ho H1 e _ fun H2 e2 => hi H2 (e.trans e2) _ fun H3 e3 => ⟨d, v, rfl, by rw [← hv]; exact DGet.t ((e.trans (e2.trans e3)) _ _ hd) ((e.trans (e2.trans e3)) _ _ hb), q H3 (e2.trans e3)⟩
theorem et_tnotin {d b : Addr} {kvs : List (List L2.Key × V)} {k : List L2.Key} (hi : Ev ti σ H (.ref b)) (ho : Ev to σ H (.ref d)) (hb : H b = some (.tup (k.map kV))) (hd : H d = some (.dT kvs)) : EvT (tB (tDNotIn ti to)) σ H (!(valV kvs k).isSome) := fun H1 e Q q =>
  hi H1 e _ fun H2 e2 => ho H2 (e.trans e2) _ fun H3 e3 => ⟨d, _, rfl, DGet.t (k := k) ((e.trans (e2.trans e3)) _ _ hd) ((e.trans (e2.trans e3)) _ _ hb), _, rfl, q H3 (e2.trans e3)⟩
theorem et_tin {d b : Addr} {kvs : List (List L2.Key × V)} {k : List L2.Key} (hi : Ev ti σ H (.ref b)) (ho : Ev to σ H (.ref d)) (hb : H b = some (.tup (k.map kV))) (hd : H d = some (.dT kvs)) : EvT (tB (tDIn ti to)) σ H ((valV kvs k).isSome) := fun H1 e Q q =>
  hi H1 e _ fun H2 e2 => ho H2 (e.trans e2) _ fun H3 e3 => ⟨d, _, rfl, DGet.t (k := k) ((e.trans (e2.trans e3)) _ _ hd) ((e.trans (e2.trans e3)) _ _ hb), _, rfl, q H3 (e2.trans e3)⟩
theorem q_tputE {tz : TS} {D : Ends} {d b : Addr} {kvs : List (List L2.Key × V)} {k : List L2.Key} {v : V} (ho : Ev to σ H (.ref d)) (hi : Ev ti σ H (.ref b)) (hb : H b = some (.tup (k.map kV))) (hd : H d = some (.dT kvs)) (hz : kvs.length < 100000) (h : Ev te σ H v)
    (kk : ∀ H1, Ex H H1 → tz D σ (upd H1 d (.dT (putK kvs k v)))) : tSeq (sDPut to ti te) tz D σ H := h H (Ex.refl H) _ fun H1 e1 => ho H1 e1 _ fun H2 e2 => hi H2 (e1.trans e2) _ fun H3 e3 => ⟨d, _, rfl, DPut.t ((e1.trans (e2.trans e3)) _ _ hd) ((e1.trans (e2.trans e3)) _ _ hb) (sz_lt hz), kk H3 (e1.trans (e2.trans e3))⟩
theorem in_gone {x y : Option Nat} : inV (V.int (-1)) [gV x, gV y] = (x.isNone || y.isNone) := by
  rw [gV_I, gV_I]
  show (((gI x) == (-1 : Int)) || (((gI y) == (-1 : Int)) || false)) = _
  rw [Bool.or_false, ← gI_gone, ← gI_gone]
  rfl
theorem et_goneIn {b : Addr} {s : PS} (hi : Ev ti σ H (.int (-1))) (ho : Ev to σ H (.ref b)) (hb : H b = some (.tup (tV s))) : EvT (tTest (tOp (rIn K false) ti to)) σ H (s.1.isNone || s.2.isNone) :=
  et_test (ev_op hi ho fun H1 e Q q' => ⟨b, _, rfl, .inr (st_of (e _ _ hb)), rfl, by unfold tV; rw [gV_I, gV_I]; rfl, by
    show Q (.bl (inV (V.int (-1)) [gV s.1, gV s.2])) H1
    rw [in_gone]
    exact q' H1 (Ex.refl H1)⟩)
end
theorem gone_is (e : Bool) (s : PS) : gone e s = ((s.1.isNone && s.2.isNone) || (!e && (s.1.isNone || s.2.isNone))) := by
  obtain ⟨x, y⟩ := s
  cases e <;> cases x <;> cases y <;> rfl
end K16
namespace K16
open PySem L2 Evl Gr StX EnT ClX RdX OwX OwC OpX Ls DnX DdT
/-! ### joined_places -/
theorem many2_le {L M : List Pl} (hL : L.length ≤ 12) (hM : M.length ≤ 12) : many2 L M ≤ 169 := by
  unfold many2
  exact Nat.le_trans (Nat.mul_le_mul (Nat.succ_le_succ hL) (Nat.succ_le_succ hM)) (by decide)
theorem for_iT {K : PySem.W.Frag} {σ : L2.St} {H : Hp} {tl : TE} {g : TG} {tu tz : TS} {D : Ends} (h : tl σ H fun x H1 => ∃ a, x = .ref a ∧ (∃ xs, SqT K H1 a xs) ∧ tFor (fun _ _ R => R (Itt K a) H1) g tu { D with nx := tz D } σ H1) : tSeq (tFor (iTup K tl) g tu) tz D σ H := h
theorem grs_suc {e : Bool} {L M : List Pl} {s : PS} {ord : List PS} (g0 : gone e (nxt L M s false) = false) : grs ord (sucP e L M s) = if gone e (nxt L M s true) = true then gr ord (nxt L M s false) else gr (gr ord (nxt L M s false)) (nxt L M s true) := by
  unfold sucP
  by_cases g1 : gone e (nxt L M s true) = true
  · rw [if_pos g1, List.filter_cons, if_pos (by rw [g0]; rfl), List.filter_cons, if_neg (by rw [g1]; decide)]
    rfl
  · rw [if_neg g1, List.filter_cons, if_pos (by rw [g0]; rfl), List.filter_cons, if_pos (by simpa using g1)]
    rfl
section
variable {P : Program} {w : World} {K : PySem.W.Frag} {mg : Str → Option Value} {base : Heap}
abbrev nJp : List Str := ["one", "other", "is_both", "order", "numbers", "rows", "left", "right", "row", "slot", "pair"]
def spJp : Sp := fun vs H Q _ => ∃ (a b : Addr) (L M : List Pl) (e : Bool), vs = [.ref a, .ref b, .bl (!e)] ∧ MT H a L ∧ MT H b M ∧ OkM L ∧ OkM M ∧ 1 ≤ L.length ∧ 1 ≤ M.length ∧ L.length ≤ 12 ∧ M.length ≤ 12 ∧ ∀ p H', H p = none → Ex H H' → LT H' p (joinP e L M) → Q (.ref p) H'
theorem scJp : FnScope nJp ["one", "other", "is_both"] (defScope (top 17)) := ⟨rfl, rfl, rfl, by decide +kernel, rfl, by decide +kernel, by decide +kernel⟩
theorem ok_Jp {f : Addr} {fd : FuncData} (F : Fun K "joined_places" "joined_places" (top 17) f fd) (S : GlbS mg) (hg : ∃ t, mg "GONE" = some (.int (-1) t)) (GB : Gfn P w K mg base 1 "place_behind" ["places", "place", "slot"] spPb) : FnOk P w K mg base CX0 2 f fd ["one", "other", "is_both"] spJp := by
  obtain ⟨fB, fdB, GB, kB, bB, gB⟩ := GB
  obtain ⟨tg, hg⟩ := hg
  refine F.ok scJp (fun vs H Q E h => ?_) (fun cdv A outer s H vs Q E hr h => ?_)
  · obtain ⟨a, b, L, M, e, rfl, _⟩ := h
    rfl
  · obtain ⟨a, b, L, M, e, rfl, hL, hM, okL, okM, l1, m1, l12, m12, kk⟩ := h
    have hu : (A.deeper (PyProof.Rows.envOfC "joined_places" (defScope (top 17)) s.heap.objs.size f cdv)).units + 1 < cLine := by
      have := hr.un
      omega
    refine ⟨_, (pss_cons (ps_set (i := 3) scJp.nd rfl (.inl rfl) (pe_lst (pa_cons (pe_tup (pa_cons pe_int (pa_cons pe_int pa_nil))) pa_nil)))
      (pss_cons (ps_set (i := 4) scJp.nd rfl (.inl rfl) (pe_disp1 hu (pe_tup (pa_cons pe_int (pa_cons pe_int pa_nil))) pe_int))
      (pss_cons (ps_set (i := 5) scJp.nd rfl (.inl rfl) (pe_lst pa_nil))
      (pss_cons (ps_while PassesOwn.never (pt_cmpR op_lt (pe_callB call_len_seq (by rfl) S.len PySem.boot_len (pa_cons (pv 5) pa_nil)) (pe_callB call_len_seq (by rfl) S.len PySem.boot_len (pa_cons (pv 3) pa_nil)) (nomark _))
        (pss_cons (ps_asg (pe_ix (show IxR _ (rIxL K) from ix_list) (pv 3) (pe_callB call_len_seq (by rfl) S.len PySem.boot_len (pa_cons (pv 5) pa_nil)) (fun _ _ => rfl)) (pg_tup rfl (pgs_cons (pg_name (i := 6) scJp.nd rfl (.inl rfl)) (pgs_cons (pg_name (i := 7) scJp.nd rfl (.inl rfl)) pgs_nil))))
      (pss_cons (ps_set (i := 8) scJp.nd rfl (.inl rfl) (pe_lst pa_nil))
      (pss_cons (ps_for PassesOwn.never rfl (pi_tup (pe_tup (pa_cons pe_int (pa_cons pe_int pa_nil)))) (pg_name (i := 9) scJp.nd rfl (.inl rfl))
            (pss_cons (ps_set (i := 10) scJp.nd rfl (.inl rfl) (pe_tup (pa_cons (pe_call GB hr (by rfl) gB kB bB .nil pass0 (pa_cons (pv 0) (pa_cons (pv 6) (pa_cons (pv 9) pa_nil)))) (pa_cons (pe_call GB hr (by rfl) gB kB bB .nil pass0 (pa_cons (pv 1) (pa_cons (pv 7) (pa_cons (pv 9) pa_nil)))) pa_nil))))
      (pss_cons (ps_if (PW.pt (pw_or (pt_cmpR (op_eqD hr.units) (pv 10) (pe_tup (pa_cons (pe_glob (v := .int (-1)) (by rfl) hg ⟨tg, rfl⟩) (pa_cons (pe_glob (v := .int (-1)) (by rfl) hg ⟨tg, rfl⟩) pa_nil))) (nomark _)) (pw_or1 (PW.pt (pw_and (pt_val (pv 2)) (pw_and1 (pt_cmpR (show OpR _ _ (rIn K false) from op_in_seq) (pe_glob (v := .int (-1)) (by rfl) hg ⟨tg, rfl⟩) (pv 10) (by with_unfolding_all rfl)))))))) (pss_cons (ps_expr (pe_bm PySem.F.plainAttrs_list PySem.F.slot_list_append PySem.F.type_list_append mt_append (pv 8) (pa_cons pe_non pa_nil)))
      (pss_one ps_continue)) pss_nil)
      (pss_cons (ps_if (pt_cmp (pc_dnotin hu (pv 10) (pv 4))) (pss_cons (ps_dput hu (pv 4) (pv 10) (pe_callB call_len_seq (by rfl) S.len PySem.boot_len (pa_cons (pv 3) pa_nil)) rfl)
      (pss_one (ps_expr (pe_bm PySem.F.plainAttrs_list PySem.F.slot_list_append PySem.F.type_list_append mt_append (pv 3) (pa_cons (pv 10) pa_nil))))) pss_nil)
      (pss_one (ps_expr (pe_bm PySem.F.plainAttrs_list PySem.F.slot_list_append PySem.F.type_list_append mt_append (pv 8) (pa_cons (pe_dget hu (pv 4) (pv 10) (fun _ _ => rfl)) pa_nil))))))))
      (pss_one (ps_expr (pe_bm PySem.F.plainAttrs_list PySem.F.slot_list_append PySem.F.type_list_append mt_append (pv 5) (pa_cons (pe_tupleOf (by rfl) S.tuple (pv 8)) pa_nil))))))))
      (pss_one (ps_ret (pv 5))))))), ?_⟩
    have bnd := many2_le l12 m12
    obtain ⟨ov, ond, odn, o0, olen⟩ := ordP_is (e := e) okL okM l1 m1
    have start : L2.start nJp [V.ref a, .ref b, .bl (!e)] = [some (.ref a), some (.ref b), some (.bl (!e)), none, none, none, none, none, none, none, none] := rfl
    rw [start]
    refine q_asgR (lst_i (cons_i (eu_tup (vs := tV (some 0, some 0)) (ea_cons ev_c (ea_cons ev_c ea_nil)) (by show 2 ≤ 100000; decide) H (Ex.refl H) _ fun t0 H1 ht0 e1 h1 => ⟨by show 1 ≤ sizeLine; decide, fun Or hOr => ?_⟩)))
    have e2 := Ex.new (o := .lst [V.ref t0]) hOr
    have OH : H Or = none := fresh_back e1 hOr
    have o2 : upd H1 Or (.lst [V.ref t0]) Or = some (.lst [V.ref t0]) := upd_same
    have h2 := e2 _ _ h1
    have E2 := e1.trans e2
    generalize upd H1 Or (.lst [V.ref t0]) = H2 at e2 o2 h2 E2 ⊢
    refine q_asgR fun Nu hNu => ?_
    have NH : H Nu = none := fresh_back E2 hNu
    have ON : Or ≠ Nu := fun z => by rw [z, hNu] at o2; cases o2
    have e3 := Ex.new (o := .dT []) hNu
    refine eu_tup (vs := tV (some 0, some 0)) (ea_cons ev_c (ea_cons ev_c ea_nil)) (by show 2 ≤ 100000; decide) _ (Ex.refl _) _ fun t1 H4 ht1 e4 h4 => c_i ⟨t1, tK (some 0, some 0), rfl, by rw [tK_V]; exact h4, e4 _ _ upd_same, ?_⟩
    have E5 : Ex H (upd H4 Nu (.dT [(tK (some 0, some 0), V.int 0)])) := Ex.mut ((E2.trans e3).trans e4) NH
    have n5 : upd H4 Nu (.dT [(tK (some 0, some 0), V.int 0)]) Nu = some (.dT (numT [(some 0, some 0)] 0)) := upd_same
    have o5 : upd H4 Nu (.dT [(tK (some 0, some 0), V.int 0)]) Or = some (.lst [V.ref t0]) := by rw [upd_ne ON]; exact e4 _ _ (e3 _ _ o2)
    have t5 : upd H4 Nu (.dT [(tK (some 0, some 0), V.int 0)]) t0 = some (.tup (tV (some 0, some 0))) := by
      rw [upd_ne fun z => by rw [z, hNu] at h2; cases h2]
      exact e4 _ _ (e3 _ _ h2)
    generalize upd H4 Nu (.dT [(tK (some 0, some 0), V.int 0)]) = H5 at E5 n5 o5 t5 ⊢
    refine q_asgL (xs := []) el_nil fun Rw H6 hRw e6 r6 => ?_
    have RH : H Rw = none := fresh_back E5 hRw
    have RO : Rw ≠ Or := fun z => by rw [z, o5] at hRw; cases hRw
    have RN : Rw ≠ Nu := fun z => by rw [z, n5] at hRw; cases hRw
    refine q_while (fun m σ' H' => ∃ (i : Nat) (ord : List PS) (xs ys : List V) (x6 x7 x8 x9 x10 : Option V), m + i = many2 L M + 1 ∧ bfs (sucP e L M) m i ord = ordP e L M ∧ i ≤ ord.length ∧ (∀ s ∈ ord, VP e L M s) ∧ ord.Nodup ∧ σ' = [some (.ref a), some (.ref b), some (.bl (!e)), some (.ref Or), some (.ref Nu), some (.ref Rw), x6, x7, x8, x9, x10] ∧
      Ex H H' ∧ H' Or = some (.lst xs) ∧ RowT tV H' xs ord ∧ H' Nu = some (.dT (numT ord 0)) ∧ H' Rw = some (.lst ys) ∧ PlT H' ys ((ord.take i).map (rowP e L M (ordP e L M)))) (many2 L M + 1)
      ⟨0, [(some 0, some 0)], [V.ref t0], [], none, none, none, none, none, rfl, rfl, Nat.zero_le _, (fun s hs => by rw [List.mem_singleton.mp hs]; exact vp_0 l1 m1), by simp, rfl, E5.trans e6, e6 _ _ o5, rwt_nil.snoc (e6 _ _ t5), e6 _ _ n5, r6, plt_nil⟩ ?_
    rintro m σ' H7 ⟨i, ord, xs, ys, x6, x7, x8, x9, x10, hm, hw, li, oi, nd, rfl, e7, o7, row7, n7, r7, p7⟩
    have few := few2 e L M ord nd oi
    have lx := row7.1
    have ly : ys.length = i := by rw [p7.1, List.length_map, List.length_take]; omega
    have lr : ∀ {σ2 : L2.St} {H8 : Hp}, Ex H7 H8 → σ2[5]? = some (some (.ref Rw)) → Ev (tCB (rLQ K) (tCons (tVar 5) tNil)) σ2 H8 (.int (i : Int)) := fun e hσ => ev_is (ev_cb (ea_cons (ev_var hσ) ea_nil) (rc_lenQ (.inl (sq_of (e _ _ r7))))) (by rw [ly])
    refine ⟨decide (i < ord.length), et_is (et_test (ev_op (lr (Ex.refl H7) rfl) (ev_is (ev_cb (ea_cons (ev_var rfl) ea_nil) (rc_lenQ (.inl (sq_of o7)))) (by rw [lx])) rv_I0)) (decide_eq_decide.mpr (by omega)), fun hb H8 e8 => ⟨_, fun _ _ h => h, ?_⟩, fun hb H8 e8 => ?_⟩
    · have lt := of_decide_eq_true hb
      obtain ⟨f', rfl⟩ : ∃ f', m = f' + 1 := ⟨m - 1, by omega⟩
      have hp := List.getElem?_eq_getElem lt
      generalize ord[i] = s0 at hp
      have sv := oi s0 (List.mem_of_getElem? hp)
      have hw2 : bfs (sucP e L M) f' (i + 1) (grs ord (sucP e L M s0)) = ordP e L M := by rw [← hw, bfs_succ hp]
      obtain ⟨mo, hmo⟩ := bfs_more (succ := sucP e L M) f' (i + 1) (grs ord (sucP e L M s0))
      rw [hw2] at hmo
      obtain ⟨ta, hta, tva⟩ := row7.at hp
      have E8 := e7.trans e8
      refine q_asgG (ev_op (ev_var (i := 3) rfl) (lr e8 rfl) (rv_ixL (sq_of (e8 _ _ o7)) (atI_nat hta)) H8 (Ex.refl H8) _ fun H9 e9 => ⟨ta, _, rfl, st_of ((e8.trans e9) _ _ tva), rfl, _, _, rfl, _, _, rfl, rfl, ?_⟩)
      refine q_asgL (xs := []) el_nil fun Ro HA hRo eA rA => ?_
      have EA := e8.trans (e9.trans eA)
      have EHA := e7.trans EA
      have RoH : H Ro = none := fresh_back (e7.trans (e8.trans e9)) hRo
      have n1 : Ro ≠ Or := fun z => by rw [z, (e8.trans e9) _ _ o7] at hRo; cases hRo
      have n2 : Ro ≠ Nu := fun z => by rw [z, (e8.trans e9) _ _ n7] at hRo; cases hRo
      have n3 : Ro ≠ Rw := fun z => by rw [z, (e8.trans e9) _ _ r7] at hRo; cases hRo
      have one : ∀ {D : Ends} {c : Bool} {o' : List PS} {xs' r' : List V} {HB : Hp} {x10 : Option V}, D.ct = D.nx → o'.length ≤ 169 → r'.length ≤ 2 → (∃ more, ordP e L M = (if gone e (nxt L M s0 c) = true then o' else gr o' (nxt L M s0 c)) ++ more) → Ex H HB → HB Or = some (.lst xs') → RowT tV HB xs' o' → HB Nu = some (.dT (numT o' 0)) → HB Rw = some (.lst ys) → PlT HB ys ((ord.take i).map (rowP e L M (ordP e L M))) → HB Ro = some (.lst r') →
          (∀ (H' : Hp) (xs'' : List V) (y : Option V), (∀ c zs, HB c = some (.tup zs) → H' c = some (.tup zs)) → Ex H H' → H' Or = some (.lst xs'') → RowT tV H' xs'' (if gone e (nxt L M s0 c) = true then o' else gr o' (nxt L M s0 c)) → H' Nu = some (.dT (numT (if gone e (nxt L M s0 c) = true then o' else gr o' (nxt L M s0 c)) 0)) → H' Rw = some (.lst ys) → PlT H' ys ((ord.take i).map (rowP e L M (ordP e L M))) → H' Ro = some (.lst (r' ++ [oV (if gone e (nxt L M s0 c) = true then none else some ((ordP e L M).idxOf (nxt L M s0 c)))])) →
            D.nx [some (.ref a), some (.ref b), some (.bl (!e)), some (.ref Or), some (.ref Nu), some (.ref Rw), some (gV s0.1), some (gV s0.2), some (.ref Ro), some (.int (if c = true then 1 else 0)), y] H') →
          tSeq (tAsg (tTup (tCons (tCall spPb [] E0 (tCons (tVar 0) (tCons (tVar 6) (tCons (tVar 9) tNil)))) (tCons (tCall spPb [] E0 (tCons (tVar 1) (tCons (tVar 7) (tCons (tVar 9) tNil)))) tNil))) (gName 10))
            (tSeq (tIfS (tOr (tTest (tOp (rEqD K) (tVar 10) (tTup (tCons (tC (.int (-1))) (tCons (tC (.int (-1))) tNil))))) (tAnd (tB (tVar 2)) (tTest (tOp (rIn K false) (tC (.int (-1))) (tVar 10))))) (tSeq (tDrop (tBM K "list" rAppend (tVar 8) (tCons (tC .non) tNil))) tCont) tNext)
            (tSeq (tIfS (tB (tDNotIn (tVar 10) (tVar 4))) (tSeq (sDPut (tVar 4) (tVar 10) (tCB (rLQ K) (tCons (tVar 3) tNil))) (tDrop (tBM K "list" rAppend (tVar 3) (tCons (tVar 10) tNil)))) tNext)
              (tDrop (tBM K "list" rAppend (tVar 8) (tCons (tDGet (tVar 4) (tVar 10)) tNil))))) D
            [some (.ref a), some (.ref b), some (.bl (!e)), some (.ref Or), some (.ref Nu), some (.ref Rw), some (gV s0.1), some (gV s0.2), some (.ref Ro), some (.int (if c = true then 1 else 0)), x10] HB := fun {D c o' xs' r' HB x10} hct l' lr' vis EB oB rowB nB rB pB roB fin => by
        have TV : tV (nxt L M s0 c) = [gV (stepO L c s0.1), gV (stepO M c s0.2)] := by
          rw [stepO_stp, stepO_stp]
          rfl
        refine q_asgU (xs := tV (nxt L M s0 c)) ?_ fun T HC hT eC hTc => ?_
        · rw [TV]
          exact eu_tup (ea_cons (ev_call (ea_cons (ev_var rfl) (ea_cons (ev_var rfl) (ea_cons (ev_var rfl) ea_nil))) fun H1 e1 Q1 q1 E1 => ⟨a, L, s0.1, c, rfl, hL.mono (EB.trans e1), sv.1, q1⟩) (ea_cons (ev_call (ea_cons (ev_var rfl) (ea_cons (ev_var rfl) (ea_cons (ev_var rfl) ea_nil))) fun H1 e1 Q1 q1 E1 => ⟨b, M, s0.2, c, rfl, hM.mono (EB.trans e1), sv.2.1, q1⟩) ea_nil)) (by show 2 ≤ 100000; decide)
        have EC := EB.trans eC
        have oC := eC _ _ oB
        have rowC := rowB.mono eC
        have nC := eC _ _ nB
        have rC := eC _ _ rB
        have pC := pB.mono eC
        have roC := eC _ _ roB
        generalize nxt L M s0 c = t at hTc vis fin TV
        have hTk : HC T = some (.tup ((tK t).map kV)) := by rw [tK_V]; exact hTc
        have TO : T ≠ Or := fun z => by rw [z, oC] at hTc; cases hTc
        have keep : ∀ {HF : Hp} {u : HO} {x : Addr} {l : List V}, HF x = some (.lst l) → ∀ c ys, HF c = some (.tup ys) → upd HF x u c = some (.tup ys) := fun hx c ys hc => by rw [upd_ne fun z => by rw [z, hx] at hc; cases hc]; exact hc
        refine q_when (b := gone e t) (et_is (et_or (a := decide ([gI t.1, gI t.2] = [-1, -1])) (et_test (ev_eqTuG (xs := [gI t.1, gI t.2]) (ys := [-1, -1]) (etu_var rfl (by rw [← tV_I]; exact st_of hTc)) (etu_disp (ea_cons ev_c (ea_cons ev_c ea_nil)) (by show 2 ≤ 100000; decide)))) fun _ => et_and (et_B (ev_var rfl)) fun _ => et_goneIn ev_c (ev_var rfl) hTc) ?_) (fun hb HD eD => ?_) (fun hb HD eD => ?_)
        · rw [gone_is, ← gI_gone, ← gI_gone]
          congr 1
          rw [Bool.eq_iff_iff, decide_eq_true_iff, Bool.and_eq_true, decide_eq_true_iff, decide_eq_true_iff]
          simp
        · rw [if_pos hb] at vis fin
          refine s_app (D := { D with nx := tCont D }) (K := K) (v := .non) (eD _ _ roC) (ev_var rfl) ev_c (by omega) fun HE eE => ?_
          have EE := eD.trans eE
          show D.ct _ _
          rw [hct]
          have ro1 := EE _ _ roC
          exact fin _ xs' _ (fun c zs h => keep ro1 _ _ ((eC.trans EE) _ _ h)) (Ex.mut (EC.trans EE) RoH) (by rw [upd_ne n1.symm]; exact EE _ _ oC) (rwt_keep (keep ro1) (rowC.mono EE)) (by rw [upd_ne n2.symm]; exact EE _ _ nC) (by rw [upd_ne n3.symm]; exact EE _ _ rC) (plt_keep (keep ro1) (pC.mono EE)) (by rw [upd_same, if_pos hb]; rfl)
        · rw [if_neg (by rw [hb]; decide)] at vis fin
          obtain ⟨more, vis⟩ := vis
          have tail : ∀ {HF : Hp} {xs'' : List V}, (∀ c zs, HB c = some (.tup zs) → HF c = some (.tup zs)) → Ex H HF → HF Or = some (.lst xs'') → RowT tV HF xs'' (gr o' t) → HF Nu = some (.dT (numT (gr o' t) 0)) → HF Rw = some (.lst ys) → PlT HF ys ((ord.take i).map (rowP e L M (ordP e L M))) → HF Ro = some (.lst r') → HF T = some (.tup ((tK t).map kV)) →
              tDrop (tBM K "list" rAppend (tVar 8) (tCons (tDGet (tVar 4) (tVar 10)) tNil)) D [some (.ref a), some (.ref b), some (.bl (!e)), some (.ref Or), some (.ref Nu), some (.ref Rw), some (gV s0.1), some (gV s0.2), some (.ref Ro), some (.int (if c = true then 1 else 0)), some (.ref T)] HF := fun {HF xs''} at_ a0 a1 a2 a3 a4 a5 a6 a7 => by
            have mem := gr_mem o' t
            have ix : (ordP e L M).idxOf t = (gr o' t).idxOf t := by rw [vis, idx_more mem]
            refine s_app (K := K) (v := .int (((ordP e L M).idxOf t : Nat) : Int)) a6 (ev_var rfl) (ev_tget (ev_var rfl) (ev_var rfl) a7 a3 (by rw [numT_yes mem, Nat.zero_add, ix])) (by omega) fun HG eG => ?_
            have ro1 := eG _ _ a6
            exact fin _ xs'' _ (fun c zs h => keep ro1 _ _ (eG _ _ (at_ c zs h))) (Ex.mut (a0.trans eG) RoH) (by rw [upd_ne n1.symm]; exact eG _ _ a1) (rwt_keep (keep ro1) (a2.mono eG)) (by rw [upd_ne n2.symm]; exact eG _ _ a3) (by rw [upd_ne n3.symm]; exact eG _ _ a4) (plt_keep (keep ro1) (a5.mono eG)) (by rw [upd_same, if_neg (by rw [hb]; decide)]; rfl)
          refine q_when (b := !(valV (numT o' 0) (tK t)).isSome) (et_tnotin (ev_var rfl) (ev_var rfl) (eD _ _ hTk) (eD _ _ nC)) (fun hb2 HE eE => ?_) (fun hb2 HE eE => ?_)
          · have no : t ∉ o' := fun z => by rw [numT_yes z] at hb2; cases hb2
            have EE := eD.trans eE
            have grE : gr o' t = o' ++ [t] := if_neg no
            have lxs := rowC.1
            refine q_tputE (v := .int (o'.length : Nat)) (ev_var rfl) (ev_var rfl) (EE _ _ hTk) (EE _ _ nC) (by rw [numT_len]; omega) (ev_is (ev_cb (ea_cons (ev_var rfl) ea_nil) (rc_lenQ (.inl (sq_of (EE _ _ oC))))) (by rw [lxs])) fun HF eF => ?_
            rw [numT_put no]
            have EF := EE.trans eF
            have nF : HF Nu = some (.dT (numT o' 0)) := EF _ _ nC
            have kT : ∀ c ys, HF c = some (.tup ys) → upd HF Nu (.dT (numT (o' ++ [t]) 0)) c = some (.tup ys) := fun c ys hc => by rw [upd_ne fun z => by rw [z, nF] at hc; cases hc]; exact hc
            have xF : Ex H (upd HF Nu (.dT (numT (o' ++ [t]) 0))) := Ex.mut (EC.trans EF) NH
            have oF : upd HF Nu (.dT (numT (o' ++ [t]) 0)) Or = some (.lst xs') := by rw [upd_ne ON]; exact EF _ _ oC
            have rowF := rwt_keep kT (rowC.mono EF)
            have rF : upd HF Nu (.dT (numT (o' ++ [t]) 0)) Rw = some (.lst ys) := by rw [upd_ne RN]; exact EF _ _ rC
            have pF := plt_keep kT (pC.mono EF)
            have roF : upd HF Nu (.dT (numT (o' ++ [t]) 0)) Ro = some (.lst r') := by rw [upd_ne n2]; exact EF _ _ roC
            have tF := kT _ _ (EF _ _ hTk)
            have allF : ∀ c zs, HB c = some (.tup zs) → upd HF Nu (.dT (numT (o' ++ [t]) 0)) c = some (.tup zs) := fun c zs h => kT _ _ ((eC.trans EF) _ _ h)
            have n2F : upd HF Nu (.dT (numT (o' ++ [t]) 0)) Nu = some (.dT (numT (o' ++ [t]) 0)) := upd_same
            generalize upd HF Nu (.dT (numT (o' ++ [t]) 0)) = HG at xF oF rowF rF pF roF tF n2F allF ⊢
            refine s_app (K := K) (v := .ref T) oF (ev_var rfl) (ev_var rfl) (by rw [rowF.1]; omega) fun HI eI => ?_
            have oI := eI _ _ oF
            have tI := eI _ _ tF
            refine tail (fun c zs h => keep oI _ _ (eI _ _ (allF c zs h))) (Ex.mut (xF.trans eI) OH) upd_same (by rw [grE]; exact rwt_keep (keep oI) ((rowF.mono eI).snoc (by rw [← tK_V]; exact tI))) (by rw [upd_ne ON.symm, grE]; exact eI _ _ n2F) (by rw [upd_ne RO]; exact eI _ _ rF) (plt_keep (keep oI) (pF.mono eI)) (by rw [upd_ne n1]; exact eI _ _ roF) (keep oI _ _ tI)
          · have yes : t ∈ o' := Decidable.byContradiction fun z => by rw [numT_no z] at hb2; cases hb2
            have EE := eD.trans eE
            have grE : gr o' t = o' := if_pos yes
            exact tail (fun c zs h => (eC.trans EE) _ _ h) (EC.trans EE) (EE _ _ oC) (by rw [grE]; exact rowC.mono EE) (by rw [grE]; exact EE _ _ nC) (EE _ _ rC) (pC.mono EE) (EE _ _ roC) (EE _ _ hTk)
      have g0 := gone_f (M := L) (N := M) sv.2.2
      have suc := grs_suc (e := e) (L := L) (M := M) (s := s0) (ord := ord) g0
      refine for_iT (eu_tup (vs := [.int 0, .int 1]) (ea_cons ev_c (ea_cons ev_c ea_nil)) (by show 2 ≤ 100000; decide) HA (Ex.refl HA) _ fun Sx HB hSx eB sB => ⟨Sx, rfl, ⟨_, st_of sB⟩, ?_⟩)
      have EB := EA.trans eB
      refine for_it (walk_tup (K := K) (a := Sx) (xs := [.int 0, .int 1])) (fun j σ' H' => ∃ (o' : List PS) (xs' r' : List V) (y9 y10 : Option V), σ' = [some (.ref a), some (.ref b), some (.bl (!e)), some (.ref Or), some (.ref Nu), some (.ref Rw), some (gV s0.1), some (gV s0.2), some (.ref Ro), y9, y10] ∧ Ex H H' ∧ H' Sx = some (.tup [.int 0, .int 1]) ∧ H' Or = some (.lst xs') ∧ RowT tV H' xs' o' ∧ H' Nu = some (.dT (numT o' 0)) ∧ H' Rw = some (.lst ys) ∧ PlT H' ys ((ord.take i).map (rowP e L M (ordP e L M))) ∧ H' Ro = some (.lst r') ∧
          (j = 0 → o' = ord ∧ r' = []) ∧ (j = 1 → o' = gr ord (nxt L M s0 false) ∧ r' = [.int ((ordP e L M).idxOf (nxt L M s0 false) : Nat)]) ∧ (j = 2 → o' = grs ord (sucP e L M s0) ∧ r' = pV (rowP e L M (ordP e L M) s0)))
        ⟨ord, xs, [], x9, x10, rfl, e7.trans EB, sB, EB _ _ o7, row7.mono EB, EB _ _ n7, EB _ _ r7, p7.mono EB, eB _ _ rA, fun _ => ⟨rfl, rfl⟩, fun y => absurd y (by decide), fun y => absurd y (by decide)⟩ (fun j σ' H' _ ⟨_, _, _, _, _, _, _, h, _⟩ => st_of h) ?_ ?_
      · rintro j v σ' H4' H5' hj ⟨o', xs', r', y9, y10, rfl, eC, sC, oC, rowC, nC, rC, pC, roC, c0, c1, _⟩ hy
        obtain ⟨rfl, hv⟩ := hy
        match j, hv with
        | 0, hv =>
          cases hv
          obtain ⟨rfl, rfl⟩ := c0 rfl
          refine one (c := false) (x10 := y10) rfl (by omega) (by decide) ?_ eC oC rowC nC rC pC roC fun H' xs'' y tt b0 b1 b2 b3 b4 b5 b6 => ?_
          · rw [if_neg (by rw [g0]; decide)]
            obtain ⟨m1', hm1⟩ := grs_more ([nxt L M s0 true].filter fun t => !gone e t) (gr o' (nxt L M s0 false))
            refine ⟨m1' ++ mo, ?_⟩
            rw [hmo, ← List.append_assoc, ← hm1]
            congr 1
            unfold sucP
            rw [List.filter_cons, if_pos (by rw [g0]; rfl)]
            rfl
          · rw [if_neg (by rw [g0]; decide)] at b2 b3 b6
            exact ⟨_, xs'', _, _, _, rfl, b0, tt _ _ sC, b1, b2, b3, b4, b5, b6, fun y => absurd y (by decide), fun _ => ⟨rfl, rfl⟩, fun y => absurd y (by decide)⟩
        | 1, hv =>
          cases hv
          obtain ⟨rfl, rfl⟩ := c1 rfl
          have l2 : (gr ord (nxt L M s0 false)).length ≤ 169 := Nat.le_trans (few2 e L M _ (gr_nd nd) (gr_in (vp_suc okL okM s0 sv _ (mem_suc.mpr ⟨⟨false, rfl⟩, g0⟩)) oi)) bnd
          refine one (c := true) (x10 := y10) rfl l2 (by show 1 ≤ 2; decide) ⟨mo, by rw [hmo, suc]⟩ eC oC rowC nC rC pC roC fun H' xs'' y tt b0 b1 b2 b3 b4 b5 b6 => ?_
          exact ⟨_, xs'', _, _, _, rfl, b0, tt _ _ sC, b1, b2, b3, b4, b5, b6, fun y => absurd y (by decide), fun y => absurd y (by decide), fun _ => ⟨suc.symm, rfl⟩⟩
        | j + 2, hv => cases hv
      · rintro σ' HC ⟨o', xs', r', y9, y10, rfl, eC, sC, oC, rowC, nC, rC, pC, roC, _, _, c2⟩
        obtain ⟨rfl, rfl⟩ := c2 rfl
        refine s_appU (K := K) rC (ev_var rfl) (eu_tupV (ev_var rfl) (sq_of roC)) (by rw [ly]; omega) fun T HD hT eD hTc => ?_
        have rD := eD _ _ rC
        have kR : ∀ c zs, HD c = some (.tup zs) → upd HD Rw (.lst (ys ++ [.ref T])) c = some (.tup zs) := fun c zs hc => by rw [upd_ne fun z => by rw [z, rD] at hc; cases hc]; exact hc
        obtain ⟨mr, hmr⟩ := grs_more (sucP e L M s0) ord
        refine ⟨f', Nat.lt_succ_self f', i + 1, _, _, _, _, _, _, _, _, by omega, hw2, ?_, grs_in _ _ (vp_suc okL okM s0 sv) oi, grs_nd _ _ nd, rfl, Ex.mut (eC.trans eD) RH, (by rw [upd_ne RO.symm]; exact eD _ _ oC), rwt_keep kR (rowC.mono eD), (by rw [upd_ne RN.symm]; exact eD _ _ nC), upd_same, ?_⟩
        · rw [hmr, List.length_append]
          omega
        · have tk : (grs ord (sucP e L M s0)).take (i + 1) = ord.take i ++ [s0] := by
            rw [hmr, List.take_append_of_le_length (by omega), List.take_add_one, hp]
            rfl
          rw [tk, List.map_append]
          exact plt_keep kR ((pC.mono eD).snoc hTc)
    · have ge : ord.length ≤ i := Nat.le_of_not_lt (of_decide_eq_false hb)
      have eo : ordP e L M = ord := by rw [← hw, bfs_stop ge]
      have ei : i = ord.length := Nat.le_antisymm li ge
      refine s_ret (v := .ref Rw) (ev_var rfl) fun H9 e9 => kk Rw H9 RH ((e7.trans e8).trans e9) ⟨ys, (e8.trans e9) _ _ r7, ?_⟩
      have := p7.mono (e8.trans e9)
      rw [ei, List.take_length, ← eo] at this
      exact this
end
end K16
namespace K16
open PySem L2 Evl Gr StX EnT ClX RdX OwX OwC OpX Ls DnX DdT
/-! ### is_part -/
def trueT (l : List PS) : List (List L2.Key × V) := l.map fun s => (tK s, V.bl true)
theorem trueT_is {s : PS} : ∀ {l : List PS}, (valV (trueT l) (tK s)).isSome = decide (s ∈ l)
  | [] => rfl
  | t :: l => by
    show (valV ((tK t, V.bl true) :: trueT l) (tK s)).isSome = _
    by_cases c : t = s
    · subst c
      rw [valV_pos rfl, decide_eq_true List.mem_cons_self]
      rfl
    · rw [valV_neg fun z => c (tK_inj z), trueT_is, decide_eq_decide.mpr]
      exact ⟨fun h => List.mem_cons_of_mem _ h, fun h => (List.mem_cons.mp h).resolve_left fun z => c z.symm⟩
theorem trueT_put {s : PS} {l : List PS} (h : s ∉ l) : putK (trueT l) (tK s) (.bl true) = trueT (l ++ [s]) := by
  unfold putK
  rw [valV_any, trueT_is, decide_eq_false h, if_neg (by decide)]
  unfold trueT
  rw [List.map_append]
  rfl
theorem q_augI {σ : L2.St} {H : Hp} {te : TE} {i : Nat} {f : Int → Int → Int} {a b : Int} {tz : TS} {D : Ends} (hx : σ[i]? = some (some (.int a))) (h : Ev te σ H (.int b)) (k : ∀ H1, Ex H H1 → tz D (σ.set i (some (.int (f a b)))) H1) : tSeq (tAug i te (ipI f)) tz D σ H := s_aug (D := { D with nx := tz D }) hx h k
theorem s_forT {K : PySem.W.Frag} {σ : L2.St} {H : Hp} {tl : TE} {g : TG} {tu : TS} {D : Ends} (h : tl σ H fun x H1 => ∃ a, x = .ref a ∧ (∃ xs, SqT K H1 a xs) ∧ tFor (fun _ _ R => R (Itt K a) H1) g tu D σ H1) : tFor (iTup K tl) g tu D σ H := h
section
variable {P : Program} {w : World} {K : PySem.W.Frag} {mg : Str → Option Value} {base : Heap}
abbrev nPt : List Str := ["one", "other", "order", "seen", "at", "left", "right", "slot", "pair"]
def spPt : Sp := fun vs H Q _ => ∃ (a b : Addr) (L M : List Pl), vs = [.ref a, .ref b] ∧ MT H a L ∧ MT H b M ∧ OkM L ∧ OkM M ∧ 1 ≤ L.length ∧ 1 ≤ M.length ∧ L.length ≤ 12 ∧ M.length ≤ 12 ∧ ∀ r : Bool, (r = true ↔ Part L M) → RetV (.bl r) H Q
theorem scPt : FnScope nPt ["one", "other"] (defScope (top 18)) := ⟨rfl, rfl, rfl, by decide +kernel, rfl, by decide +kernel, by decide +kernel⟩
theorem ok_Pt {f : Addr} {fd : FuncData} (F : Fun K "is_part" "is_part" (top 18) f fd) (S : GlbS mg) (hg : ∃ t, mg "GONE" = some (.int (-1) t)) (GB : Gfn P w K mg base 1 "place_behind" ["places", "place", "slot"] spPb) : FnOk P w K mg base CX0 2 f fd ["one", "other"] spPt := by
  obtain ⟨fB, fdB, GB, kB, bB, gB⟩ := GB
  obtain ⟨tg, hg⟩ := hg
  refine F.ok scPt (fun vs H Q E h => ?_) (fun cdv A outer s H vs Q E hr h => ?_)
  · obtain ⟨a, b, L, M, rfl, _⟩ := h
    rfl
  · obtain ⟨a, b, L, M, rfl, hL, hM, okL, okM, l1, m1, l12, m12, kk⟩ := h
    have hu : (A.deeper (PyProof.Rows.envOfC "is_part" (defScope (top 18)) s.heap.objs.size f cdv)).units + 1 < cLine := by
      have := hr.un
      omega
    refine ⟨_, (pss_cons (ps_set (i := 2) scPt.nd rfl (.inl rfl) (pe_lst (pa_cons (pe_tup (pa_cons pe_int (pa_cons pe_int pa_nil))) pa_nil)))
      (pss_cons (ps_set (i := 3) scPt.nd rfl (.inl rfl) (pe_disp1 hu (pe_tup (pa_cons pe_int (pa_cons pe_int pa_nil))) pe_bl))
      (pss_cons (ps_set (i := 4) scPt.nd rfl (.inl rfl) pe_int)
      (pss_cons (ps_while PassesOwn.never (pt_cmpR op_lt (pv 4) (pe_callB call_len_seq (by rfl) S.len PySem.boot_len (pa_cons (pv 2) pa_nil)) (nomark _))
        (pss_cons (ps_asg (pe_ix (show IxR _ (rIxL K) from ix_list) (pv 2) (pv 4) (fun _ _ => rfl)) (pg_tup rfl (pgs_cons (pg_name (i := 5) scPt.nd rfl (.inl rfl)) (pgs_cons (pg_name (i := 6) scPt.nd rfl (.inl rfl)) pgs_nil))))
      (pss_cons (ps_aug (i := 4) scPt.nd rfl (.inl rfl) pe_int ip_add)
      (pss_one (ps_for PassesOwn.never rfl (pi_tup (pe_tup (pa_cons pe_int (pa_cons pe_int pa_nil)))) (pg_name (i := 7) scPt.nd rfl (.inl rfl))
            (pss_cons (ps_set (i := 8) scPt.nd rfl (.inl rfl) (pe_tup (pa_cons (pe_call GB hr (by rfl) gB kB bB .nil pass0 (pa_cons (pv 0) (pa_cons (pv 5) (pa_cons (pv 7) pa_nil)))) (pa_cons (pe_call GB hr (by rfl) gB kB bB .nil pass0 (pa_cons (pv 1) (pa_cons (pv 6) (pa_cons (pv 7) pa_nil)))) pa_nil))))
      (pss_cons (ps_if (PW.pt (pw_or (pt_cmpR op_eq (pe_ix (show IxR _ (rIxT K) from ix_tup) (pv 8) pe_int (fun _ _ => rfl)) (pe_glob (v := .int (-1)) (by rfl) hg ⟨tg, rfl⟩) (nomark _)) (pw_or1 (pt_cmp (pc_din hu (pv 8) (pv 3)))))) (pss_one ps_continue) pss_nil)
      (pss_cons (ps_if (pt_cmpR op_eq (pe_ix (show IxR _ (rIxT K) from ix_tup) (pv 8) pe_int (fun _ _ => rfl)) (pe_glob (v := .int (-1)) (by rfl) hg ⟨tg, rfl⟩) (nomark _)) (pss_one (ps_ret pe_bl)) pss_nil)
      (pss_cons (ps_dput hu (pv 3) (pv 8) pe_bl rfl)
      (pss_one (ps_expr (pe_bm PySem.F.plainAttrs_list PySem.F.slot_list_append PySem.F.type_list_append mt_append (pv 2) (pa_cons (pv 8) pa_nil)))))))))))))
      (pss_one (ps_ret pe_bl)))))), ?_⟩
    have bnd := many2_le l12 m12
    obtain ⟨ov, ond, odn, o0, olen⟩ := ordP_is (e := false) okL okM l1 m1
    have start : L2.start nPt [V.ref a, .ref b] = [some (.ref a), some (.ref b), none, none, none, none, none, none, none] := rfl
    rw [start]
    refine q_asgR (lst_i (cons_i (eu_tup (vs := tV (some 0, some 0)) (ea_cons ev_c (ea_cons ev_c ea_nil)) (by show 2 ≤ 100000; decide) H (Ex.refl H) _ fun t0 H1 ht0 e1 h1 => ⟨by show 1 ≤ sizeLine; decide, fun Or hOr => ?_⟩)))
    have e2 := Ex.new (o := .lst [V.ref t0]) hOr
    have OH : H Or = none := fresh_back e1 hOr
    have o2 : upd H1 Or (.lst [V.ref t0]) Or = some (.lst [V.ref t0]) := upd_same
    have h2 := e2 _ _ h1
    have E2 := e1.trans e2
    generalize upd H1 Or (.lst [V.ref t0]) = H2 at e2 o2 h2 E2 ⊢
    refine q_asgR fun Nu hNu => ?_
    have NH : H Nu = none := fresh_back E2 hNu
    have ON : Or ≠ Nu := fun z => by rw [z, hNu] at o2; cases o2
    have e3 := Ex.new (o := .dT []) hNu
    refine eu_tup (vs := tV (some 0, some 0)) (ea_cons ev_c (ea_cons ev_c ea_nil)) (by show 2 ≤ 100000; decide) _ (Ex.refl _) _ fun t1 H4 ht1 e4 h4 => c_i ⟨t1, tK (some 0, some 0), rfl, by rw [tK_V]; exact h4, e4 _ _ upd_same, ?_⟩
    have E5 : Ex H (upd H4 Nu (.dT [(tK (some 0, some 0), V.bl true)])) := Ex.mut ((E2.trans e3).trans e4) NH
    have n5 : upd H4 Nu (.dT [(tK (some 0, some 0), V.bl true)]) Nu = some (.dT (trueT [(some 0, some 0)])) := upd_same
    have o5 : upd H4 Nu (.dT [(tK (some 0, some 0), V.bl true)]) Or = some (.lst [V.ref t0]) := by rw [upd_ne ON]; exact e4 _ _ (e3 _ _ o2)
    have t5 : upd H4 Nu (.dT [(tK (some 0, some 0), V.bl true)]) t0 = some (.tup (tV (some 0, some 0))) := by
      rw [upd_ne fun z => by rw [z, hNu] at h2; cases h2]
      exact e4 _ _ (e3 _ _ h2)
    generalize upd H4 Nu (.dT [(tK (some 0, some 0), V.bl true)]) = H5 at E5 n5 o5 t5 ⊢
    refine q_asg (v := .int 0) ev_c fun H6 e6 => ?_
    refine q_while (fun m σ' H' => ∃ (i : Nat) (ord : List PS) (xs : List V) (x5 x6 x7 x8 : Option V), m + i = many2 L M + 1 ∧ bfs (sucP false L M) m i ord = ordP false L M ∧ i ≤ ord.length ∧ (∀ s ∈ ord, VP false L M s ∧ Rch L M s) ∧ ord.Nodup ∧ (∀ (j : Nat) (s : PS), j < i → ord[j]? = some s → ∀ c, bad L M s c = false) ∧ σ' = [some (.ref a), some (.ref b), some (.ref Or), some (.ref Nu), some (.int (i : Int)), x5, x6, x7, x8] ∧
      Ex H H' ∧ H' Or = some (.lst xs) ∧ RowT tV H' xs ord ∧ H' Nu = some (.dT (trueT ord))) (many2 L M + 1)
      ⟨0, [(some 0, some 0)], [V.ref t0], none, none, none, none, rfl, rfl, Nat.zero_le _, (fun s hs => by rw [List.mem_singleton.mp hs]; exact ⟨vp_0 l1 m1, [], rfl⟩), by simp, (fun j s hj _ => by omega), rfl, E5.trans e6, e6 _ _ o5, rwt_nil.snoc (e6 _ _ t5), e6 _ _ n5⟩ ?_
    rintro m σ' H7 ⟨i, ord, xs, x5, x6, x7, x8, hm, hw, li, oi, nd, nob, rfl, e7, o7, row7, n7⟩
    have few := few2 false L M ord nd fun s hs => (oi s hs).1
    have lx := row7.1
    refine ⟨decide (i < ord.length), et_is (et_test (ev_op (ev_var rfl) (ev_is (ev_cb (ea_cons (ev_var rfl) ea_nil) (rc_lenQ (.inl (sq_of o7)))) (by rw [lx])) rv_I0)) (decide_eq_decide.mpr (by omega)), fun hb H8 e8 => ⟨_, fun _ _ h => h, ?_⟩, fun hb H8 e8 => ?_⟩
    · have lt := of_decide_eq_true hb
      obtain ⟨f', rfl⟩ : ∃ f', m = f' + 1 := ⟨m - 1, by omega⟩
      have hp := List.getElem?_eq_getElem lt
      generalize ord[i] = s0 at hp
      obtain ⟨sv, sr⟩ := oi s0 (List.mem_of_getElem? hp)
      have hw2 : bfs (sucP false L M) f' (i + 1) (grs ord (sucP false L M s0)) = ordP false L M := by rw [← hw, bfs_succ hp]
      obtain ⟨ta, hta, tva⟩ := row7.at hp
      have E8 := e7.trans e8
      refine q_asgG (ev_op (ev_var (i := 2) rfl) (ev_var rfl) (rv_ixL (sq_of (e8 _ _ o7)) (atI_nat hta)) H8 (Ex.refl H8) _ fun H9 e9 => ⟨ta, _, rfl, st_of ((e8.trans e9) _ _ tva), rfl, _, _, rfl, _, _, rfl, rfl, ?_⟩)
      refine q_augI (a := (i : Int)) (b := 1) rfl ev_c fun HA eA => ?_
      have ei1 : ((i : Int) + 1) = ((i + 1 : Nat) : Int) := by omega
      rw [ei1]
      have EA := e8.trans (e9.trans eA)
      have one : ∀ {D : Ends} {c : Bool} {o' : List PS} {xs' : List V} {HB : Hp} {x8 : Option V}, D.ct = D.nx → D.rt = Q → o'.length ≤ 169 → Ex H HB → HB Or = some (.lst xs') → RowT tV HB xs' o' → HB Nu = some (.dT (trueT o')) →
          (bad L M s0 c = false → ∀ (H' : Hp) (xs'' : List V) (y : Option V), (∀ c zs, HB c = some (.tup zs) → H' c = some (.tup zs)) → Ex H H' → H' Or = some (.lst xs'') → RowT tV H' xs'' (if gone false (nxt L M s0 c) = true then o' else gr o' (nxt L M s0 c)) → H' Nu = some (.dT (trueT (if gone false (nxt L M s0 c) = true then o' else gr o' (nxt L M s0 c)))) →
            D.nx [some (.ref a), some (.ref b), some (.ref Or), some (.ref Nu), some (.int ((i + 1 : Nat) : Int)), some (gV s0.1), some (gV s0.2), some (.int (if c = true then 1 else 0)), y] H') → (∀ x ∈ o', VP false L M x) →
          tSeq (tAsg (tTup (tCons (tCall spPb [] E0 (tCons (tVar 0) (tCons (tVar 5) (tCons (tVar 7) tNil)))) (tCons (tCall spPb [] E0 (tCons (tVar 1) (tCons (tVar 6) (tCons (tVar 7) tNil)))) tNil))) (gName 8))
            (tSeq (tIfS (tOr (tTest (tOp rEq (tOp (rIxT K) (tVar 8) (tC (.int 0))) (tC (.int (-1))))) (tB (tDIn (tVar 8) (tVar 3)))) tCont tNext)
            (tSeq (tIfS (tTest (tOp rEq (tOp (rIxT K) (tVar 8) (tC (.int 1))) (tC (.int (-1))))) (tRet (tC (.bl false))) tNext)
              (tSeq (sDPut (tVar 3) (tVar 8) (tC (.bl true))) (tDrop (tBM K "list" rAppend (tVar 2) (tCons (tVar 8) tNil)))))) D
            [some (.ref a), some (.ref b), some (.ref Or), some (.ref Nu), some (.int ((i + 1 : Nat) : Int)), some (gV s0.1), some (gV s0.2), some (.int (if c = true then 1 else 0)), x8] HB := fun {D c o' xs' HB x8} hct hrt l' EB oB rowB nB fin ovp => by
        have TV : tV (nxt L M s0 c) = [gV (stepO L c s0.1), gV (stepO M c s0.2)] := by
          rw [stepO_stp, stepO_stp]
          rfl
        refine q_asgU (xs := tV (nxt L M s0 c)) ?_ fun T HC hT eC hTc => ?_
        · rw [TV]
          exact eu_tup (ea_cons (ev_call (ea_cons (ev_var rfl) (ea_cons (ev_var rfl) (ea_cons (ev_var rfl) ea_nil))) fun H1 e1 Q1 q1 E1 => ⟨a, L, s0.1, c, rfl, hL.mono (EB.trans e1), sv.1, q1⟩) (ea_cons (ev_call (ea_cons (ev_var rfl) (ea_cons (ev_var rfl) (ea_cons (ev_var rfl) ea_nil))) fun H1 e1 Q1 q1 E1 => ⟨b, M, s0.2, c, rfl, hM.mono (EB.trans e1), sv.2.1, q1⟩) ea_nil)) (by show 2 ≤ 100000; decide)
        have EC := EB.trans eC
        have oC := eC _ _ oB
        have rowC := rowB.mono eC
        have nC := eC _ _ nB
        have kb : bad L M s0 c = true → ∀ {HX}, Ex H HX → Q (.bl false) HX := fun hb {HX} eX => kk false ⟨fun z => absurd z (by decide), fun p => absurd p (bad_no sr hb)⟩ HX eX
        have bd : bad L M s0 c = ((nxt L M s0 c).1.isSome && (nxt L M s0 c).2.isNone) := rfl
        generalize nxt L M s0 c = t at hTc fin TV bd
        have hTk : HC T = some (.tup ((tK t).map kV)) := by rw [tK_V]; exact hTc
        have x0 : ∀ {HX : Hp}, Ex HC HX → Ev (tOp (rIxT K) (tVar 8) (tC (.int 0))) [some (.ref a), some (.ref b), some (.ref Or), some (.ref Nu), some (.int ((i + 1 : Nat) : Int)), some (gV s0.1), some (gV s0.2), some (.int (if c = true then 1 else 0)), some (.ref T)] HX (gV t.1) := fun e => ev_op (ev_var rfl) ev_c (rv_ixT (st_of (e _ _ hTc)) (atI_nat (j := 0) rfl))
        have x1 : ∀ {HX : Hp}, Ex HC HX → Ev (tOp (rIxT K) (tVar 8) (tC (.int 1))) [some (.ref a), some (.ref b), some (.ref Or), some (.ref Nu), some (.int ((i + 1 : Nat) : Int)), some (gV s0.1), some (gV s0.2), some (.int (if c = true then 1 else 0)), some (.ref T)] HX (gV t.2) := fun e => ev_op (ev_var rfl) ev_c (rv_ixT (st_of (e _ _ hTc)) (atI_nat (j := 1) rfl))
        have gone2 : gone false t = (t.1.isNone || t.2.isNone) := rfl
        refine q_when (b := t.1.isNone || decide (t ∈ o')) (et_or (a := t.1.isNone) (et_is (et_test (ev_op (x0 (Ex.refl HC)) ev_c (rv_eq (gV_scal _ _)))) gV_gone) fun _ => et_is (et_tin (ev_var rfl) (ev_var rfl) hTk nC) trueT_is) (fun hb HD eD => ?_) (fun hb HD eD => ?_)
        · show D.ct _ _
          rw [hct]
          have nb : bad L M s0 c = false := by
            rw [bd]
            rcases (Bool.or_eq_true _ _).mp hb with h | h
            · rw [Option.isNone_iff_eq_none] at h
              rw [h]
              rfl
            · have := (ovp t (of_decide_eq_true h)).2.2
              rw [gone2, Bool.or_eq_false_iff] at this
              rw [this.2, Bool.and_false]
          have gg : (if gone false t = true then o' else gr o' t) = o' := by
            rcases (Bool.or_eq_true _ _).mp hb with h | h
            · rw [if_pos (by rw [gone2, h]; rfl)]
            · have hin := of_decide_eq_true h
              split
              · rfl
              · exact if_pos hin
          refine fin nb HD xs' _ (fun c zs h => (eC.trans eD) _ _ h) (EC.trans eD) (eD _ _ oC) (by rw [gg]; exact rowC.mono eD) (by rw [gg]; exact eD _ _ nC)
        · rw [Bool.or_eq_false_iff] at hb
          have no := of_decide_eq_false hb.2
          refine q_when (b := t.2.isNone) (et_is (et_test (ev_op (x1 eD) ev_c (rv_eq (gV_scal _ _)))) gV_gone) (fun hb2 HE eE => ?_) (fun hb2 HE eE => ?_)
          · refine s_ret (v := .bl false) ev_c fun HF eF => ?_
            show D.rt _ _
            rw [hrt]
            refine kb ?_ (EC.trans (eD.trans (eE.trans eF)))
            rw [bd, hb2, Bool.and_true]
            cases h : t.1 with
            | none => rw [h] at hb; exact absurd hb.1 (by decide)
            | some _ => rfl
          · have nb : bad L M s0 c = false := by rw [bd, hb2, Bool.and_false]
            have ng : gone false t = false := by rw [gone2, hb.1, hb2]; rfl
            have gg : (if gone false t = true then o' else gr o' t) = o' ++ [t] := by
              rw [if_neg (by rw [ng]; decide)]
              exact if_neg no
            have EE := eD.trans eE
            refine q_tputE (v := .bl true) (ev_var rfl) (ev_var rfl) (EE _ _ hTk) (EE _ _ nC) (by unfold trueT; rw [List.length_map]; omega) ev_c fun HF eF => ?_
            rw [trueT_put no]
            have EF := EE.trans eF
            have nF : HF Nu = some (.dT (trueT o')) := EF _ _ nC
            have kT : ∀ c ys, HF c = some (.tup ys) → upd HF Nu (.dT (trueT (o' ++ [t]))) c = some (.tup ys) := fun c ys hc => by rw [upd_ne fun z => by rw [z, nF] at hc; cases hc]; exact hc
            have xF : Ex H (upd HF Nu (.dT (trueT (o' ++ [t])))) := Ex.mut (EC.trans EF) NH
            have oF : upd HF Nu (.dT (trueT (o' ++ [t]))) Or = some (.lst xs') := by rw [upd_ne ON]; exact EF _ _ oC
            have rowF := rwt_keep kT (rowC.mono EF)
            have tF := kT _ _ (EF _ _ hTc)
            have allF : ∀ c zs, HB c = some (.tup zs) → upd HF Nu (.dT (trueT (o' ++ [t]))) c = some (.tup zs) := fun c zs h => kT _ _ ((eC.trans EF) _ _ h)
            have n2F : upd HF Nu (.dT (trueT (o' ++ [t]))) Nu = some (.dT (trueT (o' ++ [t]))) := upd_same
            generalize upd HF Nu (.dT (trueT (o' ++ [t]))) = HG at xF oF rowF tF n2F allF ⊢
            refine s_app (K := K) (v := .ref T) oF (ev_var rfl) (ev_var rfl) (by rw [rowF.1]; omega) fun HI eI => ?_
            have oI := eI _ _ oF
            have kI : ∀ c ys, HI c = some (.tup ys) → upd HI Or (.lst (xs' ++ [.ref T])) c = some (.tup ys) := fun c ys hc => by rw [upd_ne fun z => by rw [z, oI] at hc; cases hc]; exact hc
            refine fin nb _ _ _ (fun c zs h => kI _ _ (eI _ _ (allF c zs h))) (Ex.mut (xF.trans eI) OH) upd_same (by rw [gg]; exact rwt_keep kI ((rowF.mono eI).snoc (eI _ _ tF))) (by rw [upd_ne ON.symm, gg]; exact eI _ _ n2F)
      have g0 := gone_f (M := L) (N := M) sv.2.2
      have suc := grs_suc (e := false) (L := L) (M := M) (s := s0) (ord := ord) g0
      have rch1 : ∀ c, Rch L M (nxt L M s0 c) := fun c => rch_suc L M s0 c sr
      refine s_forT (eu_tup (vs := [.int 0, .int 1]) (ea_cons ev_c (ea_cons ev_c ea_nil)) (by show 2 ≤ 100000; decide) HA (Ex.refl HA) _ fun Sx HB hSx eB sB => ⟨Sx, rfl, ⟨_, st_of sB⟩, ?_⟩)
      have EB := EA.trans eB
      have in0 : ∀ x ∈ ord, VP false L M x := fun x hx => (oi x hx).1
      have in1 : ∀ x ∈ gr ord (nxt L M s0 false), VP false L M x := gr_in (vp_suc okL okM s0 sv _ (mem_suc.mpr ⟨⟨false, rfl⟩, g0⟩)) in0
      refine for_it (walk_tup (K := K) (a := Sx) (xs := [.int 0, .int 1])) (fun j σ' H' => ∃ (o' : List PS) (xs' : List V) (y7 y8 : Option V), σ' = [some (.ref a), some (.ref b), some (.ref Or), some (.ref Nu), some (.int ((i + 1 : Nat) : Int)), some (gV s0.1), some (gV s0.2), y7, y8] ∧ Ex H H' ∧ H' Sx = some (.tup [.int 0, .int 1]) ∧ H' Or = some (.lst xs') ∧ RowT tV H' xs' o' ∧ H' Nu = some (.dT (trueT o')) ∧
          (j = 0 → o' = ord) ∧ (j = 1 → o' = gr ord (nxt L M s0 false) ∧ bad L M s0 false = false) ∧ (j = 2 → o' = grs ord (sucP false L M s0) ∧ bad L M s0 false = false ∧ bad L M s0 true = false))
        ⟨ord, xs, x7, x8, rfl, e7.trans EB, sB, EB _ _ o7, row7.mono EB, EB _ _ n7, fun _ => rfl, fun y => absurd y (by decide), fun y => absurd y (by decide)⟩ (fun j σ' H' _ ⟨_, _, _, _, _, _, h, _⟩ => st_of h) ?_ ?_
      · rintro j v σ' H4' H5' hj ⟨o', xs', y7, y8, rfl, eC, sC, oC, rowC, nC, c0, c1, _⟩ hy
        obtain ⟨rfl, hv⟩ := hy
        match j, hv with
        | 0, hv =>
          cases hv
          obtain rfl := c0 rfl
          refine one (c := false) (x8 := y8) rfl rfl (by omega) eC oC rowC nC (fun nb H' xs'' y tt b0 b1 b2 b3 => ?_) in0
          rw [if_neg (by rw [g0]; decide)] at b2 b3
          exact ⟨_, xs'', _, _, rfl, b0, tt _ _ sC, b1, b2, b3, fun y => absurd y (by decide), fun _ => ⟨rfl, nb⟩, fun y => absurd y (by decide)⟩
        | 1, hv =>
          cases hv
          obtain ⟨rfl, nb0⟩ := c1 rfl
          have l2 : (gr ord (nxt L M s0 false)).length ≤ 169 := Nat.le_trans (few2 false L M _ (gr_nd nd) in1) bnd
          refine one (c := true) (x8 := y8) rfl rfl l2 eC oC rowC nC (fun nb H' xs'' y tt b0 b1 b2 b3 => ?_) in1
          exact ⟨_, xs'', _, _, rfl, b0, tt _ _ sC, b1, b2, b3, fun y => absurd y (by decide), fun y => absurd y (by decide), fun _ => ⟨suc.symm, nb0, nb⟩⟩
        | j + 2, hv => cases hv
      · rintro σ' HC ⟨o', xs', y7, y8, rfl, eC, sC, oC, rowC, nC, _, _, c2⟩
        obtain ⟨rfl, nb0, nb1⟩ := c2 rfl
        obtain ⟨mr, hmr⟩ := grs_more (sucP false L M s0) ord
        refine ⟨f', Nat.lt_succ_self f', i + 1, _, _, _, _, _, _, by omega, hw2, ?_, grs_in _ _ (fun t ht => ⟨vp_suc okL okM s0 sv t ht, ?_⟩) oi, grs_nd _ _ nd, fun j s hj hs c => ?_, rfl, eC, oC, rowC, nC⟩
        · rw [hmr, List.length_append]
          omega
        · obtain ⟨⟨c, rfl⟩, _⟩ := mem_suc.mp ht
          exact rch1 c
        · rw [hmr, List.getElem?_append_left (by omega)] at hs
          by_cases cj : j < i
          · exact nob j s cj hs c
          · obtain rfl : j = i := by omega
            rw [hp] at hs
            cases hs
            cases c
            · exact nb0
            · exact nb1
    · have ge : ord.length ≤ i := Nat.le_of_not_lt (of_decide_eq_false hb)
      have eo : ordP false L M = ord := by rw [← hw, bfs_stop ge]
      refine s_ret (v := .bl true) ev_c fun H9 e9 => kk true ⟨fun _ => part_yes okL okM l1 m1 fun s hs c => ?_, fun _ => rfl⟩ H9 ((e7.trans e8).trans e9)
      rw [eo] at hs
      obtain ⟨j, hj⟩ := List.getElem?_of_mem hs
      exact nob j s (by have := (List.getElem?_eq_some_iff.mp hj).1; omega) hj c
end
end K16
namespace L2
open PySem PySem.Spec PyProof.Rows
section
variable {X : Cx} {st : Stmt} {t : TS}
theorem PS.calm_ (h : PS X.nox st t) : PS X st t := ⟨fun pins s σ H D I hw => wpAny_mono (h.run pins s σ H D (I.wish _) hw) (fun f s' q => SP.unwish q) fun _ _ z => absurd z id⟩
end
end L2
namespace K16
open PySem L2 Evl Gr StX EnT ClX RdX OwX OwC OpX Ls DnX DdT ClK
/-! ### few_places, too many; &, |, within -/
section
variable {P : Program} {w : World} {K : PySem.W.Frag} {mg : Str → Option Value} {base : Heap}
abbrev Many (cT : Addr) (H : Hp) (E : XK) : Prop := Out2 cT "what" "most" (.str "places") (.int 12) H E
def spFx (K : PySem.W.Frag) (cT : Addr) : Sp := fun vs H Q E => ∃ (a : Addr) (M : List Pl), vs = [.ref a] ∧ MAt K H a M ∧ OkM M ∧ 1 ≤ M.length ∧ M.length ≤ 100 ∧ (12 < (least M).length → Many cT H E) ∧ ((least M).length ≤ 12 → ∀ p H', H p = none → Ex H H' → MT H' p (least M) → Q (.ref p) H')
theorem ok_Fx {cT fT f : Addr} {fd fdT : FuncData} (F : Fun K "few_places" "few_places" sFp f fd) (S : GlbS mg) (hm : ∃ t, mg "MOST_PLACES" = some (.int 12 t)) (B : GTwo P w K mg base "TooMany" "what" "most" cT fT fdT) (GL : Gfn P w K mg base 2 "least_places" ["places"] (spLs K)) : FnOk P w K mg base (L2.CX P w) 3 f fd ["places"] (spFx K cT) := by
  obtain ⟨fL, fdL, GL, kL, bL, gL⟩ := GL
  obtain ⟨t, hm⟩ := hm
  refine F.okX scFp (fun vs H Q E h => ?_) (fun cdv A outer s H vs Q E hr h => ?_)
  · obtain ⟨a, M, rfl, _⟩ := h
    rfl
  · obtain ⟨a, M, rfl, hM, ok, l1, l100, kE, k⟩ := h
    refine ⟨_, (pss_cons (PS.calm_ (ps_set (i := 1) scFp.nd rfl (.inl rfl) (pe_call GL hr (by rfl) gL kL bL .nil pass0 (pa_cons (pv 0) pa_nil))))
      (pss_cons (ps_if (pt_cmpR op_gt (pe_callB call_len_seq (by rfl) S.len PySem.boot_len (pa_cons (pv 1) pa_nil)) (pe_glob (v := .int 12) (by rfl) hm ⟨t, rfl⟩) (nomark _)) (pss_one (ps_raise rfl (takes_of rfl rfl rfl rfl) (pmk_oex B.ox B.init B.ty B.ok hr B.b .nil pass0 (by rfl) B.g (pa_cons pe_str (pa_cons (pe_glob (v := .int 12) (by rfl) hm ⟨t, rfl⟩) pa_nil))))) pss_nil)
      (pss_one (ps_ret (pv 1))))), ?_⟩
    refine q_asgR ⟨_, rfl, a, M, rfl, hM, ok, l1, l100, fun p H1 hp e1 mt => ?_⟩
    obtain ⟨xs, h1, row⟩ := id mt
    refine q_when (b := decide (12 < (least M).length)) (et_is (et_test (ev_op (ev_cb (ea_cons (ev_var rfl) ea_nil) (rc_lenQ (.inr (st_of h1)))) ev_c rv_I0)) (decide_eq_decide.mpr (by rw [row.1]; omega))) (fun hb H2 e2 => ?_) fun hb H2 e2 => ?_
    · exact raise_two (ea_cons ev_c (ea_cons ev_c ea_nil)) ((kE (of_decide_eq_true hb)).mono (e1.trans e2))
    · exact s_retR ⟨_, rfl, k (Nat.le_of_not_lt (of_decide_eq_false hb)) p H2 hp (e1.trans e2) (mt.mono e2)⟩
/-- one op other: e as in joinP -/
def spBn (K : PySem.W.Frag) (CL CM cT : Addr) (e : Bool) : Sp := fun vs H Q E => ∃ (o u C D : Addr) (L M : List Pl), vs = [.ref o, .ref u] ∧ LsK K CL C ∧ LsK K CL D ∧ RuAt H C o L ∧ RuAt H D u M ∧ OkM L ∧ OkM M ∧ 1 ≤ L.length ∧ 1 ≤ M.length ∧ L.length ≤ 8 ∧ M.length ≤ 8 ∧
  (12 < (least (joinP e L M)).length → Many cT H E) ∧ ((least (joinP e L M)).length ≤ 12 → ∀ x H', Ex H H' → RuAt H' CM x (least (joinP e L M)) → Q (.ref x) H')
abbrev nBn : List Str := ["self", "other", "places"]
theorem scAn : FnScope nBn ["self", "other"] (defScope (sLr 3)) := ⟨rfl, rfl, rfl, by decide +kernel, rfl, by decide +kernel, by decide +kernel⟩
theorem scOr : FnScope nBn ["self", "other"] (defScope (sLr 4)) := ⟨rfl, rfl, rfl, by decide +kernel, rfl, by decide +kernel, by decide +kernel⟩
theorem rc_isL {K : PySem.W.Frag} {CL D u : Addr} {H : Hp} {M : List Pl} (GD : LsK K CL D) (hU : RuAt H D u M) : RC (rIsi K) [.ref u, .ref CL] H (.bl true) := fun H1 e _ q => by
  obtain ⟨dx, r, hi, _⟩ := hU
  exact ⟨.ref u, .ref CL, .ref D, .ref CL, true, rfl, .own CL, tyx_mono e (.base (.ins hi GD.ls.cls GD.ca GD.cn GD.ct GD.cm)), GD.kit, q H1 (Ex.refl H1)⟩
theorem bn_run {CL CM cT : Addr} {e : Bool} {X : Cx} {E2 : XK} {Q : VK} {E : XK} {o u C D : Addr} {L M : List Pl} {H : Hp} {be : Bool} (hbe : be = !e) (hE : E2 = E) (GC : LsK K CL C) (GD : LsK K CL D) (hO : RuAt H C o L) (hU : RuAt H D u M) (okL : OkM L) (okM : OkM M) (l1 : 1 ≤ L.length) (m1 : 1 ≤ M.length) (l8 : L.length ≤ 8) (m8 : M.length ≤ 8)
    (kE : 12 < (least (joinP e L M)).length → Many cT H E) (k : (least (joinP e L M)).length ≤ 12 → ∀ x H', Ex H H' → RuAt H' CM x (least (joinP e L M)) → Q (.ref x) H') :
    tSeq (tIfS (tNot (tB (tCB (rIsi K) (tCons (tVar 1) (tCons (tC (.ref CL)) tNil))))) tNo tNext)
      (tSeq (tAsg (tCall (spFx K cT) [] E2 (tCons (tCall spJp [] E0 (tCons (tFld K (tVar 0) "places") (tCons (tFld K (tVar 1) "places") (tCons (tC (.bl be)) tNil)))) tNil)) (gName 2)) (tRet (tMakeS X CM (spMrA K CM) E0 (tVar 2)))) { nx := fun _ H' => Q .non H', rt := Q } [some (.ref o), some (.ref u), none] H := by
  subst hbe hE
  refine q_when (b := false) (et_is (et_not (et_B (ev_cb (ea_cons (ev_var rfl) (ea_cons ev_c ea_nil)) (rc_isL GD hU)))) rfl) (fun z => absurd z (by decide)) fun _ H1 e1 => ?_
  obtain ⟨dx, q, h1, mt⟩ := hO.mono e1
  obtain ⟨dx2, q2, h2, mt2⟩ := hU.mono e1
  have jl := join_len1 (e := e) okL okM l1 m1
  have jb : many2 L M ≤ 81 := by
    unfold many2
    exact Nat.le_trans (Nat.mul_le_mul (Nat.succ_le_succ l8) (Nat.succ_le_succ m8)) (by decide)
  refine q_asgR (call_i (cons_i (call_i (cons_i (ev_fld (ev_var (i := 0) rfl) h1 GC.ls.cls GC.ls.pl rfl H1 (Ex.refl H1) _ fun H2 e2 => cons_i (ev_fld (ev_var (i := 1) rfl) (e2 _ _ h2) GD.ls.cls GD.ls.pl rfl H2 (Ex.refl H2) _ fun H3 e3 => cons_i (c_i ?_)))))))
  refine ⟨q, q2, L, M, e, rfl, mt.mono (e2.trans e3), mt2.mono (e2.trans e3), okL, okM, l1, m1, by omega, by omega, fun p H4 hp e4 lt => ?_⟩
  have E4 := e1.trans ((e2.trans e3).trans e4)
  obtain ⟨xs, hxs, row⟩ := lt
  refine ⟨p, joinP e L M, rfl, ⟨xs, .inl (sq_of hxs), plt_plr row⟩, join_ok okL okM l1 m1, jl.1, by omega, fun hb => (kE hb).mono E4, fun hb r H5 hr5 e5 mt5 => ?_⟩
  have okJ := join_ok (e := e) okL okM l1 m1
  obtain ⟨ys, hys, row5⟩ := mt5
  refine s_retR ⟨.ref r, rfl, r, ys, rfl, .inl (st_of hys), fun x dx hx hd hn => mr_made hx hd hn (plt_plr row5) (least_ok okJ jl.1) (least_pos okJ jl.1) hb fun H6 e6 ru => ⟨rfl, ?_⟩⟩
  rw [least_least okJ jl.1] at ru
  exact k hb x H6 (E4.trans (e5.trans e6)) ru
theorem ok_An {CL CM cT fI f : Addr} {fd : FuncData} (F : Fun K "__and__" "LossRule.__and__" (sLr 3) f fd) (T : GlbT mg) (gC : mg "LossRule" = some (.ref CL)) (M : Mk K CM fI) (FI : FnR P w K mg base CX0 4 fI (spMrA K CM)) (gM : mg "MachineRule" = some (.ref CM))
    (GJ : Gfn P w K mg base 2 "joined_places" ["one", "other", "is_both"] spJp) {fF : Addr} {fdF : FuncData} (FF : FnOk P w K mg base (L2.CX P w) 3 fF fdF ["places"] (spFx K cT)) (kF : PySem.W.keepIn K (.ref fF) = true) (bF : Binds K fdF ["places"] []) (gF : mg "few_places" = some (.ref fF)) : FnOk P w K mg base (L2.CX P w) 6 f fd ["self", "other"] (spBn K CL CM cT false) := by
  obtain ⟨fJ, fdJ, GJ, kJ, bJ, gJ⟩ := GJ
  refine F.okX scAn (fun vs H Q E h => ?_) (fun cdv A outer s H vs Q E hr h => ?_)
  · obtain ⟨o, u, C, D, L, M, rfl, _⟩ := h
    rfl
  · obtain ⟨o, u, C, D, L, N, rfl, GC, GD, hO, hU, okL, okM, l1, m1, l8, m8, kE, k⟩ := h
    have r2 := hr.mono (show 2 ≤ 5 by decide)
    have r3 := hr.mono (show 3 ≤ 5 by decide)
    refine ⟨_, (pss_cons (ps_if (pt_not (pt_val (pe_callB call_isi (by rfl) T.inst (by decide +kernel) (pa_cons (pv 1) (pa_cons (pe_glob (v := .ref CL) (by rfl) gC (by rfl)) pa_nil))))) (pss_one ps_no) pss_nil)
      (pss_cons (ps_asg (pe_call (E := E) FF r3 (by rfl) gF kF bF .nil (passes_call (takes_of rfl rfl rfl rfl) fun _ _ _ _ z => z) (pa_cons (pe_call GJ r2 (by rfl) gJ kJ bJ .nil pass0 (pa_cons (pe_fld (pv 0) rfl) (pa_cons (pe_fld (pv 1) rfl) (pa_cons pe_bl pa_nil)))) pa_nil)) (pg_name (i := 2) scAn.nd rfl (.inl rfl)))
      (pss_one (ps_ret (pe_makeS1 (E := E0) M FI hr (by rfl) gM pass0 (pv 2)))))), ?_⟩
    exact bn_run rfl rfl GC GD hO hU okL okM l1 m1 l8 m8 kE k
theorem ok_Or {CL CM cT fI f : Addr} {fd : FuncData} (F : Fun K "__or__" "LossRule.__or__" (sLr 4) f fd) (T : GlbT mg) (gC : mg "LossRule" = some (.ref CL)) (M : Mk K CM fI) (FI : FnR P w K mg base CX0 4 fI (spMrA K CM)) (gM : mg "MachineRule" = some (.ref CM))
    (GJ : Gfn P w K mg base 2 "joined_places" ["one", "other", "is_both"] spJp) {fF : Addr} {fdF : FuncData} (FF : FnOk P w K mg base (L2.CX P w) 3 fF fdF ["places"] (spFx K cT)) (kF : PySem.W.keepIn K (.ref fF) = true) (bF : Binds K fdF ["places"] []) (gF : mg "few_places" = some (.ref fF)) : FnOk P w K mg base (L2.CX P w) 6 f fd ["self", "other"] (spBn K CL CM cT true) := by
  obtain ⟨fJ, fdJ, GJ, kJ, bJ, gJ⟩ := GJ
  refine F.okX scOr (fun vs H Q E h => ?_) (fun cdv A outer s H vs Q E hr h => ?_)
  · obtain ⟨o, u, C, D, L, M, rfl, _⟩ := h
    rfl
  · obtain ⟨o, u, C, D, L, N, rfl, GC, GD, hO, hU, okL, okM, l1, m1, l8, m8, kE, k⟩ := h
    have r2 := hr.mono (show 2 ≤ 5 by decide)
    have r3 := hr.mono (show 3 ≤ 5 by decide)
    refine ⟨_, (pss_cons (ps_if (pt_not (pt_val (pe_callB call_isi (by rfl) T.inst (by decide +kernel) (pa_cons (pv 1) (pa_cons (pe_glob (v := .ref CL) (by rfl) gC (by rfl)) pa_nil))))) (pss_one ps_no) pss_nil)
      (pss_cons (ps_asg (pe_call (E := E) FF r3 (by rfl) gF kF bF .nil (passes_call (takes_of rfl rfl rfl rfl) fun _ _ _ _ z => z) (pa_cons (pe_call GJ r2 (by rfl) gJ kJ bJ .nil pass0 (pa_cons (pe_fld (pv 0) rfl) (pa_cons (pe_fld (pv 1) rfl) (pa_cons pe_bl pa_nil)))) pa_nil)) (pg_name (i := 2) scOr.nd rfl (.inl rfl)))
      (pss_one (ps_ret (pe_makeS1 (E := E0) M FI hr (by rfl) gM pass0 (pv 2)))))), ?_⟩
    exact bn_run rfl rfl GC GD hO hU okL okM l1 m1 l8 m8 kE k
def spWn (K : PySem.W.Frag) (CL : Addr) : Sp := fun vs H Q _ => ∃ (o u C D : Addr) (L M : List Pl), vs = [.ref o, .ref u] ∧ LsK K CL C ∧ LsK K CL D ∧ RuAt H C o L ∧ RuAt H D u M ∧ OkM L ∧ OkM M ∧ 1 ≤ L.length ∧ 1 ≤ M.length ∧ L.length ≤ 12 ∧ M.length ≤ 12 ∧ ∀ r : Bool, (r = true ↔ Part L M) → RetV (.bl r) H Q
theorem scWn : FnScope ["self", "other"] ["self", "other"] (defScope (sLr 5)) := ⟨rfl, rfl, rfl, by decide +kernel, rfl, by decide +kernel, by decide +kernel⟩
theorem ok_Wn {CL f : Addr} {fd : FuncData} (F : Fun K "within" "LossRule.within" (sLr 5) f fd) (T : GlbT mg) (gC : mg "LossRule" = some (.ref CL)) (GP : Gfn P w K mg base 2 "is_part" ["one", "other"] spPt) : FnOk P w K mg base CX0 3 f fd ["self", "other"] (spWn K CL) := by
  obtain ⟨fP, fdP, GP, kP, bP, gP⟩ := GP
  refine F.ok scWn (fun vs H Q E h => ?_) (fun cdv A outer s H vs Q E hr h => ?_)
  · obtain ⟨o, u, C, D, L, M, rfl, _⟩ := h
    rfl
  · obtain ⟨o, u, C, D, L, N, rfl, GC, GD, hO, hU, okL, okM, l1, m1, l12, m12, k⟩ := h
    refine ⟨_, (pss_cons (ps_if (pt_not (pt_val (pe_callB call_isi (by rfl) T.inst (by decide +kernel) (pa_cons (pv 1) (pa_cons (pe_glob (v := .ref CL) (by rfl) gC (by rfl)) pa_nil))))) (pss_one ps_no) pss_nil)
      (pss_one (ps_ret (pe_call GP hr (by rfl) gP kP bP .nil pass0 (pa_cons (pe_fld (pv 0) rfl) (pa_cons (pe_fld (pv 1) rfl) pa_nil)))))), ?_⟩
    refine q_when (b := false) (et_is (et_not (et_B (ev_cb (ea_cons (ev_var rfl) (ea_cons ev_c ea_nil)) (rc_isL GD hU)))) rfl) (fun z => absurd z (by decide)) fun _ H1 e1 => ?_
    obtain ⟨dx, q, h1, mt⟩ := hO.mono e1
    obtain ⟨dx2, q2, h2, mt2⟩ := hU.mono e1
    refine s_retR (call_i (cons_i (ev_fld (ev_var (i := 0) rfl) h1 GC.ls.cls GC.ls.pl rfl H1 (Ex.refl H1) _ fun H2 e2 => cons_i (ev_fld (ev_var (i := 1) rfl) (e2 _ _ h2) GD.ls.cls GD.ls.pl rfl H2 (Ex.refl H2) _ fun H3 e3 => ?_))))
    exact ⟨q, q2, L, N, rfl, mt.mono (e2.trans e3), mt2.mono (e2.trans e3), okL, okM, l1, m1, l12, m12, fun r hr' H4 e4 => k r hr' H4 ((e1.trans (e2.trans e3)).trans e4)⟩
end
end K16
namespace K16
open PySem L2 Evl Gr StX EnT ClX RdX OwX OwC OpX Ls DnX DdT ClK
/-! ### _law_joined -/
def fV (s : PS) : List V := [oV s.1, oV s.2]
def fD (s : PS) : PyData := .tuple [oD s.1, oD s.2]
theorem fD_eqv (s t : PS) : PyData.eqv (fD s) (fD t) = decide (s = t) := by
  obtain ⟨a, b⟩ := s
  obtain ⟨c, d⟩ := t
  have h : PyData.eqv (fD (a, b)) (fD (c, d)) = (PyData.eqv (oD a) (oD c) && (PyData.eqv (oD b) (oD d) && true)) := by simp [fD, PyData.eqv, PyData.eqvAll]
  rw [h, oD_eqv, oD_eqv, Bool.and_true, Bool.eq_iff_iff, Bool.and_eq_true, decide_eq_true_iff, decide_eq_true_iff, decide_eq_true_iff, Prod.mk.injEq]
theorem oD_low (x : Option Nat) : Low 0 (oD x) := by
  cases x
  · exact low_non
  · exact low_int _
theorem fD_low (s : PS) : Low 1 (fD s) := low_tup (n := 0) fun d hd => by
  rcases List.mem_cons.mp hd with rfl | hd
  · exact oD_low _
  · rw [List.mem_singleton.mp hd]
    exact oD_low _
theorem dp_oV {K : PySem.W.Frag} {H : Hp} (x : Option Nat) : Dp K H (oV x) (oD x) := by
  cases x
  · exact .non
  · exact .int _
theorem dp_fV {K : PySem.W.Frag} {H : Hp} {a : Addr} (s : PS) (h : H a = some (.tup (fV s))) : Dp K H (.ref a) (fD s) := .tup (st_of h) (.cons (dp_oV _) (.cons (dp_oV _) .nil))
theorem RowT.tail {α : Type} {f : α → List V} {H : Hp} {x : V} {xs : List V} {m : α} {l : List α} (h : RowT f H (x :: xs) (m :: l)) : RowT f H xs l := ⟨by have := h.1; simpa using this, fun i y u hy hu => h.2 (i + 1) y u hy hu⟩
theorem row_dp {K : PySem.W.Frag} {H : Hp} : ∀ {xs : List V} {l : List PS}, RowT fV H xs l → DpAll K H xs (l.map fD)
  | [], [], _ => .nil
  | [], _ :: _, h => by cases h.1
  | _ :: _, [], h => by cases h.1
  | x :: xs, s :: l, h => by
    obtain ⟨a, rfl, ha⟩ := h.2 0 x s rfl rfl
    exact .cons (dp_fV s ha) (row_dp h.tail)
theorem fDs_low (l : List PS) : SeqAt.shaped (.list (l.map fD)) = true := low_shaped (n := 2) (low_list (n := 1) fun d hd => by
  obtain ⟨s, _, rfl⟩ := List.mem_map.mp hd
  exact fD_low s) (by decide)
section
variable {K : PySem.W.Frag} {σ : L2.St} {H : Hp} {ta tb to ti te : TE}
/-- a pair that is given as data -/
def EvF (K : PySem.W.Frag) (te : TE) (σ : L2.St) (H : Hp) (s : PS) : Prop := EvD K te σ H (fD s)
theorem ed_pair {s : PS} (h1 : Ev ta σ H (oV s.1)) (h2 : Ev tb σ H (oV s.2)) : EvD K (tTup (tCons ta (tCons tb tNil))) σ H (fD s) := fun H1 e Q q =>
  eu_tup (vs := fV s) (ea_cons h1 (ea_cons h2 ea_nil)) (by show 2 ≤ 100000; decide) H1 e _ fun p H2 _ e2 h2 => q (.ref p) H2 e2 (dp_fV s h2)
theorem et_fnotin {F : Addr} {xs : List V} {l : List PS} {s : PS} (hi : EvD K ti σ H (fD s)) (ho : Ev to σ H (.ref F)) (hF : H F = some (.lst xs)) (row : RowT fV H xs l) : EvT (tTest (tOp (rNotInD K) ti to)) σ H (!decide (s ∈ l)) := et_test fun H1 e Q q =>
  hi H1 e _ fun v H2 e2 hv => ho H2 (e.trans e2) _ fun H3 e3 => ⟨fD s, l.map fD, dp_up e3 _ hv, .lst (sq_of ((e.trans (e2.trans e3)) _ _ hF)) (row_dp (row.mono (e.trans (e2.trans e3)))), low_shaped (fD_low s) (by decide), fDs_low l, by
    have a : (l.map fD).any (fun z => PyData.eqv z (fD s)) = decide (s ∈ l) := by
      rw [List.any_map, Bool.eq_iff_iff, decide_eq_true_iff, List.any_eq_true]
      constructor
      · rintro ⟨t, ht, h⟩
        have h : PyData.eqv (fD t) (fD s) = true := h
        rw [fD_eqv, decide_eq_true_iff] at h
        rw [← h]
        exact ht
      · intro h
        exact ⟨s, h, by show PyData.eqv (fD s) (fD s) = true; rw [fD_eqv]; exact decide_eq_true rfl⟩
    rw [a]
    exact q H3 (e2.trans e3)⟩
theorem ev_findex {F : Addr} {xs : List V} {l : List PS} {s : PS} (ho : Ev to σ H (.ref F)) (hF : H F = some (.lst xs)) (row : RowT fV H xs l) (hi : EvD K ti σ H (fD s)) (hs : s ∈ l) : Ev (tBM K "list" (rIndexD K) to (tCons ti tNil)) σ H (.int ((l.idxOf s : Nat) : Int)) := fun H1 e Q k =>
  ho H1 e _ fun H2 e2 => ⟨.inl ⟨rfl, _, sq_of ((e.trans e2) _ _ hF)⟩, hi H2 (e.trans e2) _ fun v H3 e3 hv => ⟨F, _, fD s, l.map fD, l.idxOf s, fD s, rfl, rfl, .lst (sq_of ((e.trans (e2.trans e3)) _ _ hF)) (row_dp (row.mono (e.trans (e2.trans e3)))), hv, fDs_low l, low_shaped (fD_low s) (by decide),
    by rw [List.getElem?_map, idx_at hs]; rfl, by rw [fD_eqv]; exact decide_eq_true rfl, fun n z hn hz => by
    rw [List.getElem?_map] at hz
    obtain ⟨y, hy, rfl⟩ := Option.map_eq_some_iff.mp hz
    rw [fD_eqv]
    exact decide_eq_false (idx_first hn hy), k H3 (e2.trans e3)⟩⟩
/-- None if x is None else places[x][slot] -/
theorem ev_step {i j k : Nat} {a : Addr} {L : List Pl} {x : Option Nat} {c : Bool} (hx : σ[i]? = some (some (oV x))) (ha : σ[j]? = some (some (.ref a))) (hc : σ[k]? = some (some (.int (if c = true then 1 else 0)))) (hL : LT H a L) (lx : ∀ p, x = some p → p < L.length) :
    Ev (tIf (tTest (tOp rIsN (tVar i) (tC .non))) (tC .non) (tOp (rIxT K) (tOp (rIxL K) (tVar j) (tVar i)) (tVar k))) σ H (oV (stp L c x)) := by
  cases x with
  | none => exact ev_if (b := true) (et_is (et_test (ev_op (ev_var hx) ev_c fun H4 _ Q4 q4 => ⟨rfl, q4 H4 (Ex.refl H4)⟩)) (decide_eq_true rfl)) (fun _ => ev_c) fun z => absurd z (by decide)
  | some p =>
    obtain ⟨xs, h1, hh⟩ := hL.pair
    obtain ⟨d, hd, hdp⟩ := hh p (lx p rfl)
    refine ev_if (b := false) (et_is (et_test (ev_op (ev_var hx) ev_c fun H4 _ Q4 q4 => ⟨rfl, q4 H4 (Ex.refl H4)⟩)) (decide_eq_false fun z => by cases z)) (fun z => absurd z (by decide)) fun _ => ?_
    have at_ : (pV (kept L p, lost L p))[if c = true then 1 else 0]? = some (oV (stp L c (some p))) := by cases c <;> rfl
    exact ev_op (ev_op (ev_var ha) (ev_var hx) (rv_ixL (sq_of h1) (atI_nat hd))) (ev_is (ev_var hc) (show V.int (if c = true then 1 else 0) = V.int (((if c = true then 1 else 0 : Nat) : Nat) : Int) by cases c <;> rfl)) (rv_ixT (st_of hdp) (atI_nat at_))
theorem isn_o (x : Option Nat) : decide (oV x = V.non) = x.isNone := by
  cases x
  · rfl
  · exact decide_eq_false fun z => by cases z
theorem ev_isN {i : Nat} {x : Option Nat} (hx : σ[i]? = some (some (oV x))) : Ev (tOp rIsN (tVar i) (tC .non)) σ H (.bl x.isNone) := ev_is (ev_op (ev_var hx) ev_c fun H4 _ Q4 q4 => ⟨rfl, q4 H4 (Ex.refl H4)⟩) (congrArg V.bl (isn_o x))
theorem ev_notN {i : Nat} {x : Option Nat} (hx : σ[i]? = some (some (oV x))) : Ev (tOp rNotN (tVar i) (tC .non)) σ H (.bl x.isSome) := ev_is (ev_op (ev_var hx) ev_c fun H4 _ Q4 q4 => ⟨rfl, q4 H4 (Ex.refl H4)⟩) (by rw [isn_o]; cases x <;> rfl)
end
section
variable {P : Program} {w : World} {K : PySem.W.Frag} {mg : Str → Option Value} {base : Heap}
abbrev nJd : List Str := ["_law_one", "_law_other", "_law_either", "_law_found", "_law_rows", "_law_more", "_law_at", "_law_low", "_law_high", "_law_pair_here", "_law_lost", "_law_mine", "_law_its", "_law_gone"]
def spJd : Sp := fun vs H Q _ => ∃ (a b : Addr) (L M : List Pl) (e : Bool), vs = [.ref a, .ref b, .bl e] ∧ LT H a L ∧ LT H b M ∧ OkM L ∧ OkM M ∧ 1 ≤ L.length ∧ 1 ≤ M.length ∧ L.length ≤ 8 ∧ M.length ≤ 8 ∧
  ∀ t r mo H', Ex H H' → H' t = some (.tup [.ref r, .bl mo]) → LT H' r (least (joinP e L M)) → (e = false → (mo = false ↔ Part L M)) → Q (.ref t) H'
theorem scJd : FnScope nJd ["_law_one", "_law_other", "_law_either"] (defScope (top 43)) := ⟨rfl, rfl, rfl, by decide +kernel, rfl, by decide +kernel, by decide +kernel⟩
theorem ok_Jd {f : Addr} {fd : FuncData} (F : Fun K "_law_joined" "_law_joined" (top 43) f fd) (S : GlbS mg) (GL : Gfn P w K mg base 2 "_law_least" ["_law_places_so"] spLl) : FnOk P w K mg base CX0 3 f fd ["_law_one", "_law_other", "_law_either"] spJd := by
  obtain ⟨fL, fdL, GL, kL, bL, gL⟩ := GL
  refine F.ok scJd (fun vs H Q E h => ?_) (fun cdv A outer s H vs Q E hr h => ?_)
  · obtain ⟨a, b, L, M, e, rfl, _⟩ := h
    rfl
  · obtain ⟨a, b, L, M, e, rfl, hL, hM, okL, okM, l1, m1, l8, m8, kk⟩ := h
    have hu65 : (A.deeper (PyProof.Rows.envOfC "_law_joined" (defScope (top 43)) s.heap.objs.size f cdv)).units + 65 < cLine := by
      have := hr.un
      omega
    refine ⟨_, (pss_cons (ps_asg (pe_tup (pa_cons (pe_lst (pa_cons (pe_tup (pa_cons pe_int (pa_cons pe_int pa_nil))) pa_nil)) (pa_cons (pe_lst pa_nil) (pa_cons pe_bl (pa_cons pe_int pa_nil))))) (pg_tup rfl (pgs_cons (pg_name (i := 3) scJd.nd rfl (.inl rfl)) (pgs_cons (pg_name (i := 4) scJd.nd rfl (.inl rfl)) (pgs_cons (pg_name (i := 5) scJd.nd rfl (.inl rfl)) (pgs_cons (pg_name (i := 6) scJd.nd rfl (.inl rfl)) pgs_nil))))))
      (pss_cons (ps_while PassesOwn.never (pt_cmpR op_lt (pv 6) (pe_callB call_len_seq (by rfl) S.len PySem.boot_len (pa_cons (pv 3) pa_nil)) (nomark _))
        (pss_cons (ps_asg (pe_ix (show IxR _ (rIxL K) from ix_list) (pv 3) (pv 6) (fun _ _ => rfl)) (pg_tup rfl (pgs_cons (pg_name (i := 7) scJd.nd rfl (.inl rfl)) (pgs_cons (pg_name (i := 8) scJd.nd rfl (.inl rfl)) pgs_nil))))
      (pss_cons (ps_set (i := 9) scJd.nd rfl (.inl rfl) (pe_lst pa_nil))
      (pss_cons (ps_for PassesOwn.never rfl (pi_tup (pe_tup (pa_cons pe_int (pa_cons pe_int pa_nil)))) (pg_name (i := 10) scJd.nd rfl (.inl rfl))
            (pss_cons (ps_set (i := 11) scJd.nd rfl (.inl rfl) (pe_ifExp (pt_cmpR op_isN1 (pv 7) pe_non (nomark _)) pe_non (pe_ix (show IxR _ (rIxT K) from ix_tup) (pe_ix (show IxR _ (rIxL K) from ix_list) (pv 0) (pv 7) (fun _ _ => rfl)) (pv 10) (fun _ _ => rfl))))
      (pss_cons (ps_set (i := 12) scJd.nd rfl (.inl rfl) (pe_ifExp (pt_cmpR op_isN1 (pv 8) pe_non (nomark _)) pe_non (pe_ix (show IxR _ (rIxT K) from ix_tup) (pe_ix (show IxR _ (rIxL K) from ix_list) (pv 1) (pv 8) (fun _ _ => rfl)) (pv 10) (fun _ _ => rfl))))
      (pss_cons (ps_set (i := 5) scJd.nd rfl (.inl rfl) (pe_or (pv 5) (pe_one (pe_and (pe_cmpR op_notN1 (pv 11) pe_non (nomark _)) (pe_and (pe_cmpR op_isN1 (pv 12) pe_non (nomark _)) (pe_one (pe_cmpR op_notN1 (pv 8) pe_non (nomark _))))))))
      (pss_cons (ps_set (i := 13) scJd.nd rfl (.inl rfl) (pe_ifExp (pt_val (pv 2)) (pe_and (pe_cmpR op_isN1 (pv 11) pe_non (nomark _)) (pe_one (pe_cmpR op_isN1 (pv 12) pe_non (nomark _)))) (pe_or (pe_cmpR op_isN1 (pv 11) pe_non (nomark _)) (pe_one (pe_cmpR op_isN1 (pv 12) pe_non (nomark _))))))
      (pss_cons (ps_if (PW.pt (pw_and (pt_not (pt_val (pv 13))) (pw_and1 (pt_cmpR (op_notInD hu65) (pe_tup (pa_cons (pv 11) (pa_cons (pv 12) pa_nil))) (pv 3) (by with_unfolding_all rfl))))) (pss_one (ps_expr (pe_bm PySem.F.plainAttrs_list PySem.F.slot_list_append PySem.F.type_list_append mt_append (pv 3) (pa_cons (pe_tup (pa_cons (pv 11) (pa_cons (pv 12) pa_nil))) pa_nil)))) pss_nil)
      (pss_one (ps_expr (pe_bm PySem.F.plainAttrs_list PySem.F.slot_list_append PySem.F.type_list_append mt_append (pv 9) (pa_cons (pe_ifExp (pt_val (pv 13)) pe_non (pe_bm PySem.F.plainAttrs_list PySem.F.slot_list_index PySem.F.type_list_index (mt_indexD hu65) (pv 3) (pa_cons (pe_tup (pa_cons (pv 11) (pa_cons (pv 12) pa_nil))) pa_nil))) pa_nil))))))))))
      (pss_cons (ps_expr (pe_bm PySem.F.plainAttrs_list PySem.F.slot_list_append PySem.F.type_list_append mt_append (pv 4) (pa_cons (pe_tup (pa_cons (pe_ix (show IxR _ (rIxL K) from ix_list) (pv 9) pe_int (fun _ _ => rfl)) (pa_cons (pe_ix (show IxR _ (rIxL K) from ix_list) (pv 9) pe_int (fun _ _ => rfl)) pa_nil))) pa_nil)))
      (pss_one (ps_set (i := 6) scJd.nd rfl (.inl rfl) (pe_op op_add (pv 6) pe_int))))))))
      (pss_one (ps_ret (pe_tup (pa_cons (pe_call GL hr (by rfl) gL kL bL .nil pass0 (pa_cons (pv 4) pa_nil)) (pa_cons (pv 5) pa_nil))))))), ?_⟩
    have bnd : many2 L M ≤ 81 := by
      unfold many2
      exact Nat.le_trans (Nat.mul_le_mul (Nat.succ_le_succ l8) (Nat.succ_le_succ m8)) (by decide)
    obtain ⟨ov, ond, odn, o0, olen⟩ := ordP_is (e := e) okL okM l1 m1
    have start : L2.start nJd [V.ref a, .ref b, .bl e] = [some (.ref a), some (.ref b), some (.bl e), none, none, none, none, none, none, none, none, none, none, none] := rfl
    rw [start]
    refine q_asgG (tup_i (cons_i (lst_i (cons_i (eu_tup (vs := fV (some 0, some 0)) (ea_cons ev_c (ea_cons ev_c ea_nil)) (by show 2 ≤ 100000; decide) H (Ex.refl H) _ fun t0 H1 ht0 e1 h1 => ⟨by show 1 ≤ sizeLine; decide, fun Fo hFo => ?_⟩)))))
    have e2 := Ex.new (o := .lst [V.ref t0]) hFo
    have FH : H Fo = none := fresh_back e1 hFo
    have f2 : upd H1 Fo (.lst [V.ref t0]) Fo = some (.lst [V.ref t0]) := upd_same
    have h2 := e2 _ _ h1
    have E2 := e1.trans e2
    generalize upd H1 Fo (.lst [V.ref t0]) = H2 at e2 f2 h2 E2 ⊢
    refine cons_i (el_nil (σ := [some (.ref a), some (.ref b), some (.bl e), none, none, none, none, none, none, none, none, none, none, none]) (H := H2) H2 (Ex.refl H2) _ fun Rw H3 hRw e3 r3 => cons_i (c_i (cons_i (c_i ⟨by show 4 ≤ sizeLine; decide, fun T4 hT4 => ⟨T4, _, rfl, st_of upd_same, rfl, _, _, rfl, _, _, rfl, _, _, rfl, _, _, rfl, rfl, ?_⟩⟩))))
    have e4 := Ex.new (o := .tup [V.ref Fo, .ref Rw, .bl false, .int 0]) hT4
    have RH : H Rw = none := fresh_back E2 hRw
    have RF : Rw ≠ Fo := fun z => by rw [z, f2] at hRw; cases hRw
    have E4 := E2.trans (e3.trans e4)
    have f4 := (e3.trans e4) _ _ f2
    have h4 := (e3.trans e4) _ _ h2
    have r4 := e4 _ _ r3
    generalize upd H3 T4 (.tup [V.ref Fo, .ref Rw, .bl false, .int 0]) = H4 at E4 f4 h4 r4 ⊢
    refine q_while (fun m σ' H' => ∃ (i : Nat) (ord : List PS) (xs ys : List V) (mo : Bool) (x7 x8 x9 x10 x11 x12 x13 : Option V), m + i = many2 L M + 1 ∧ bfs (sucP e L M) m i ord = ordP e L M ∧ i ≤ ord.length ∧ (∀ s ∈ ord, VP e L M s) ∧ ord.Nodup ∧ (e = false → (mo = false ↔ ∀ (j : Nat) (s : PS), j < i → ord[j]? = some s → ∀ c, bad L M s c = false)) ∧
      σ' = [some (.ref a), some (.ref b), some (.bl e), some (.ref Fo), some (.ref Rw), some (.bl mo), some (.int (i : Int)), x7, x8, x9, x10, x11, x12, x13] ∧ Ex H H' ∧ H' Fo = some (.lst xs) ∧ RowT fV H' xs ord ∧ H' Rw = some (.lst ys) ∧ PlT H' ys ((ord.take i).map (rowP e L M (ordP e L M)))) (many2 L M + 1)
      ⟨0, [(some 0, some 0)], [V.ref t0], [], false, none, none, none, none, none, none, none, rfl, rfl, Nat.zero_le _, (fun s hs => by rw [List.mem_singleton.mp hs]; exact vp_0 l1 m1), by simp, (fun _ => ⟨fun _ j s hj => by omega, fun _ => rfl⟩), rfl, E4, f4, rwt_nil.snoc h4, r4, plt_nil⟩ ?_
    rintro m σ' H7 ⟨i, ord, xs, ys, mo, x7, x8, x9, x10, x11, x12, x13, hm, hw, li, oi, nd, hmo2, rfl, e7, f7, row7, r7, p7⟩
    have few := few2 e L M ord nd oi
    have lx := row7.1
    have ly : ys.length = i := by rw [p7.1, List.length_map, List.length_take]; omega
    refine ⟨decide (i < ord.length), et_is (et_test (ev_op (ev_var rfl) (ev_is (ev_cb (ea_cons (ev_var rfl) ea_nil) (rc_lenQ (.inl (sq_of f7)))) (by rw [lx])) rv_I0)) (decide_eq_decide.mpr (by omega)), fun hb H8 e8 => ⟨_, fun _ _ h => h, ?_⟩, fun hb H8 e8 => ?_⟩
    · have lt := of_decide_eq_true hb
      obtain ⟨f', rfl⟩ : ∃ f', m = f' + 1 := ⟨m - 1, by omega⟩
      have hp := List.getElem?_eq_getElem lt
      generalize ord[i] = s0 at hp
      have sv := oi s0 (List.mem_of_getElem? hp)
      have hw2 : bfs (sucP e L M) f' (i + 1) (grs ord (sucP e L M s0)) = ordP e L M := by rw [← hw, bfs_succ hp]
      obtain ⟨mo', hmo⟩ := bfs_more (succ := sucP e L M) f' (i + 1) (grs ord (sucP e L M s0))
      rw [hw2] at hmo
      obtain ⟨ta, hta, tva⟩ := row7.at hp
      refine q_asgG (ev_op (ev_var (i := 3) rfl) (ev_var rfl) (rv_ixL (sq_of (e8 _ _ f7)) (atI_nat hta)) H8 (Ex.refl H8) _ fun H9 e9 => ⟨ta, _, rfl, st_of ((e8.trans e9) _ _ tva), rfl, _, _, rfl, _, _, rfl, rfl, ?_⟩)
      refine q_asgL (xs := []) el_nil fun Ro HA hRo eA rA => ?_
      have EA := e8.trans (e9.trans eA)
      have RoH : H Ro = none := fresh_back (e7.trans (e8.trans e9)) hRo
      have n1 : Ro ≠ Fo := fun z => by rw [z, (e8.trans e9) _ _ f7] at hRo; cases hRo
      have n3 : Ro ≠ Rw := fun z => by rw [z, (e8.trans e9) _ _ r7] at hRo; cases hRo
      have keep : ∀ {HF : Hp} {u : HO} {x : Addr} {l : List V}, HF x = some (.lst l) → ∀ c ys, HF c = some (.tup ys) → upd HF x u c = some (.tup ys) := fun hx c ys hc => by rw [upd_ne fun z => by rw [z, hx] at hc; cases hc]; exact hc
      have one : ∀ {D : Ends} {c mo1 : Bool} {o' : List PS} {xs' r' : List V} {HB : Hp} {x11 x12 x13 : Option V}, o'.length ≤ 81 → r'.length ≤ 2 → (∃ more, ordP e L M = (if gone e (nxt L M s0 c) = true then o' else gr o' (nxt L M s0 c)) ++ more) → Ex H HB → HB Fo = some (.lst xs') → RowT fV HB xs' o' → HB Rw = some (.lst ys) → PlT HB ys ((ord.take i).map (rowP e L M (ordP e L M))) → HB Ro = some (.lst r') →
          (∀ (H' : Hp) (xs'' : List V) (y11 y12 y13 : Option V), (∀ c zs, HB c = some (.tup zs) → H' c = some (.tup zs)) → Ex H H' → H' Fo = some (.lst xs'') → RowT fV H' xs'' (if gone e (nxt L M s0 c) = true then o' else gr o' (nxt L M s0 c)) → H' Rw = some (.lst ys) → PlT H' ys ((ord.take i).map (rowP e L M (ordP e L M))) → H' Ro = some (.lst (r' ++ [oV (if gone e (nxt L M s0 c) = true then none else some ((ordP e L M).idxOf (nxt L M s0 c)))])) →
            D.nx [some (.ref a), some (.ref b), some (.bl e), some (.ref Fo), some (.ref Rw), some (.bl (mo1 || ((nxt L M s0 c).1.isSome && ((nxt L M s0 c).2.isNone && s0.2.isSome)))), some (.int (i : Int)), some (oV s0.1), some (oV s0.2), some (.ref Ro), some (.int (if c = true then 1 else 0)), y11, y12, y13] H') →
          tSeq (tAsg (tIf (tTest (tOp rIsN (tVar 7) (tC .non))) (tC .non) (tOp (rIxT K) (tOp (rIxL K) (tVar 0) (tVar 7)) (tVar 10))) (gName 11))
            (tSeq (tAsg (tIf (tTest (tOp rIsN (tVar 8) (tC .non))) (tC .non) (tOp (rIxT K) (tOp (rIxL K) (tVar 1) (tVar 8)) (tVar 10))) (gName 12))
            (tSeq (tAsg (tOrV (tVar 5) (tAndV (tOp rNotN (tVar 11) (tC .non)) (tAndV (tOp rIsN (tVar 12) (tC .non)) (tOp rNotN (tVar 8) (tC .non))))) (gName 5))
            (tSeq (tAsg (tIf (tB (tVar 2)) (tAndV (tOp rIsN (tVar 11) (tC .non)) (tOp rIsN (tVar 12) (tC .non))) (tOrV (tOp rIsN (tVar 11) (tC .non)) (tOp rIsN (tVar 12) (tC .non)))) (gName 13))
            (tSeq (tIfS (tAnd (tNot (tB (tVar 13))) (tTest (tOp (rNotInD K) (tTup (tCons (tVar 11) (tCons (tVar 12) tNil))) (tVar 3)))) (tDrop (tBM K "list" rAppend (tVar 3) (tCons (tTup (tCons (tVar 11) (tCons (tVar 12) tNil))) tNil))) tNext)
              (tDrop (tBM K "list" rAppend (tVar 9) (tCons (tIf (tB (tVar 13)) (tC .non) (tBM K "list" (rIndexD K) (tVar 3) (tCons (tTup (tCons (tVar 11) (tCons (tVar 12) tNil))) tNil))) tNil))))))) D
            [some (.ref a), some (.ref b), some (.bl e), some (.ref Fo), some (.ref Rw), some (.bl mo1), some (.int (i : Int)), some (oV s0.1), some (oV s0.2), some (.ref Ro), some (.int (if c = true then 1 else 0)), x11, x12, x13] HB := fun {D c mo1 o' xs' r' HB x11 x12 x13} l' lr' vis EB fB rowB rB pB roB fin => by
        refine q_asg (v := oV (nxt L M s0 c).1) (ev_step (L := L) (x := s0.1) (c := c) rfl rfl rfl (hL.mono EB) sv.1) fun HC eC => ?_
        refine q_asg (v := oV (nxt L M s0 c).2) (ev_step (L := M) (x := s0.2) (c := c) rfl rfl rfl (hM.mono (EB.trans eC)) sv.2.1) fun HD eD => ?_
        generalize nxt L M s0 c = t at vis fin
        refine q_asg (v := .bl (mo1 || (t.1.isSome && (t.2.isNone && s0.2.isSome)))) (ev_orV (ev_var rfl) fun _ => ev_andV (ev_notN rfl) fun _ => ev_andV (ev_isN rfl) fun _ => ev_notN rfl) fun HE eE => ?_
        refine q_asg (v := .bl (gone e t)) (ev_if (b := e) (et_B (ev_var rfl)) (fun he => ev_is (ev_andV (ev_isN (x := t.1) rfl) fun _ => ev_isN (x := t.2) rfl) (by unfold gone; rw [if_pos he])) (fun he => ev_is (ev_orV (ev_isN (x := t.1) rfl) fun _ => ev_isN (x := t.2) rfl) (by unfold gone; rw [if_neg (by rw [he]; decide)]))) fun HF eF => ?_
        have EF := eC.trans (eD.trans (eE.trans eF))
        have EHF := EB.trans EF
        have fF := EF _ _ fB
        have rowF := rowB.mono EF
        have rF := EF _ _ rB
        have pF := pB.mono EF
        have roF := EF _ _ roB
        have allF : ∀ c zs, HB c = some (.tup zs) → HF c = some (.tup zs) := fun c zs h => EF _ _ h
        have lxs := rowF.1
        show tSeq _ _ D [some (.ref a), some (.ref b), some (.bl e), some (.ref Fo), some (.ref Rw), some (.bl (mo1 || (t.1.isSome && (t.2.isNone && s0.2.isSome)))), some (.int (i : Int)), some (oV s0.1), some (oV s0.2), some (.ref Ro), some (.int (if c = true then 1 else 0)), some (oV t.1), some (oV t.2), some (.bl (gone e t))] HF
        have tail : ∀ {HG : Hp} {xs'' : List V}, (∀ c zs, HB c = some (.tup zs) → HG c = some (.tup zs)) → Ex H HG → HG Fo = some (.lst xs'') → RowT fV HG xs'' (if gone e t = true then o' else gr o' t) → HG Rw = some (.lst ys) → PlT HG ys ((ord.take i).map (rowP e L M (ordP e L M))) → HG Ro = some (.lst r') →
            tDrop (tBM K "list" rAppend (tVar 9) (tCons (tIf (tB (tVar 13)) (tC .non) (tBM K "list" (rIndexD K) (tVar 3) (tCons (tTup (tCons (tVar 11) (tCons (tVar 12) tNil))) tNil))) tNil)) D [some (.ref a), some (.ref b), some (.bl e), some (.ref Fo), some (.ref Rw), some (.bl (mo1 || (t.1.isSome && (t.2.isNone && s0.2.isSome)))), some (.int (i : Int)), some (oV s0.1), some (oV s0.2), some (.ref Ro), some (.int (if c = true then 1 else 0)), some (oV t.1), some (oV t.2), some (.bl (gone e t))] HG := fun {HG xs''} at_ a0 a1 a2 a3 a4 a5 => by
          refine s_app (K := K) (v := oV (if gone e t = true then none else some ((ordP e L M).idxOf t))) a5 (ev_var rfl) (ev_if (b := gone e t) (et_B (ev_var rfl)) (fun hg => ev_is ev_c (by rw [if_pos hg]; rfl)) fun hg => ?_) (by omega) fun HI eI => ?_
          · have ng : ¬ gone e t = true := by rw [hg]; decide
            rw [if_neg ng] at a2 ⊢
            rw [if_neg ng] at vis
            obtain ⟨more, vis⟩ := vis
            have mem := gr_mem o' t
            exact ev_is (ev_findex (ev_var rfl) a1 a2 (ed_pair (ev_var rfl) (ev_var rfl)) mem) (by rw [vis, idx_more mem]; rfl)
          · have ro1 := eI _ _ a5
            exact fin _ xs'' _ _ _ (fun c zs h => keep ro1 _ _ (eI _ _ (at_ c zs h))) (Ex.mut (a0.trans eI) RoH) (by rw [upd_ne n1.symm]; exact eI _ _ a1) (rwt_keep (keep ro1) (a2.mono eI)) (by rw [upd_ne n3.symm]; exact eI _ _ a3) (plt_keep (keep ro1) (a4.mono eI)) upd_same
        refine q_when (b := !gone e t && !decide (t ∈ o')) (et_and (et_not (et_B (ev_var rfl))) fun _ => et_fnotin (ed_pair (ev_var rfl) (ev_var rfl)) (ev_var rfl) fF rowF) (fun hb HG eG => ?_) (fun hb HG eG => ?_)
        · rw [Bool.and_eq_true] at hb
          have ng : gone e t = false := by simpa using hb.1
          have no : t ∉ o' := by simpa using hb.2
          have gg : (if gone e t = true then o' else gr o' t) = o' ++ [t] := by rw [if_neg (by rw [ng]; decide)]; exact if_neg no
          refine s_appU (K := K) (ys := fV t) (eG _ _ fF) (ev_var rfl) (eu_tup (ea_cons (ev_var rfl) (ea_cons (ev_var rfl) ea_nil)) (by show 2 ≤ 100000; decide)) (by omega) fun T HI hT eI hTc => ?_
          have E9 := eG.trans eI
          have f9 := E9 _ _ fF
          exact tail (fun c zs h => keep f9 _ _ (E9 _ _ (allF c zs h))) (Ex.mut (EHF.trans E9) FH) upd_same (by rw [gg]; exact rwt_keep (keep f9) ((rowF.mono E9).snoc hTc)) (by rw [upd_ne RF]; exact E9 _ _ rF) (plt_keep (keep f9) (pF.mono E9)) (by rw [upd_ne n1]; exact E9 _ _ roF)
        · have gg : (if gone e t = true then o' else gr o' t) = o' := by
            cases hg : gone e t with
            | true => exact if_pos rfl
            | false =>
              rw [hg] at hb
              have hin : t ∈ o' := by simpa using hb
              rw [if_neg (by decide)]
              exact if_pos hin
          exact tail (fun c zs h => eG _ _ (allF c zs h)) (EHF.trans eG) (eG _ _ fF) (by rw [gg]; exact rowF.mono eG) (eG _ _ rF) (pF.mono eG) (eG _ _ roF)
      have g0 := gone_f (M := L) (N := M) sv.2.2
      have suc := grs_suc (e := e) (L := L) (M := M) (s := s0) (ord := ord) g0
      refine for_iT (eu_tup (vs := [.int 0, .int 1]) (ea_cons ev_c (ea_cons ev_c ea_nil)) (by show 2 ≤ 100000; decide) HA (Ex.refl HA) _ fun Sx HB hSx eB sB => ⟨Sx, rfl, ⟨_, st_of sB⟩, ?_⟩)
      have EB := EA.trans eB
      refine for_it (walk_tup (K := K) (a := Sx) (xs := [.int 0, .int 1])) (fun j σ' H' => ∃ (o' : List PS) (xs' r' : List V) (mo1 : Bool) (y10 y11 y12 y13 : Option V), σ' = [some (.ref a), some (.ref b), some (.bl e), some (.ref Fo), some (.ref Rw), some (.bl mo1), some (.int (i : Int)), some (oV s0.1), some (oV s0.2), some (.ref Ro), y10, y11, y12, y13] ∧ Ex H H' ∧ H' Sx = some (.tup [.int 0, .int 1]) ∧ H' Fo = some (.lst xs') ∧ RowT fV H' xs' o' ∧ H' Rw = some (.lst ys) ∧ PlT H' ys ((ord.take i).map (rowP e L M (ordP e L M))) ∧ H' Ro = some (.lst r') ∧
          (j = 0 → o' = ord ∧ r' = [] ∧ mo1 = mo) ∧ (j = 1 → o' = gr ord (nxt L M s0 false) ∧ r' = [.int ((ordP e L M).idxOf (nxt L M s0 false) : Nat)] ∧ mo1 = (mo || ((nxt L M s0 false).1.isSome && ((nxt L M s0 false).2.isNone && s0.2.isSome)))) ∧
          (j = 2 → o' = grs ord (sucP e L M s0) ∧ r' = pV (rowP e L M (ordP e L M) s0) ∧ mo1 = (mo || ((nxt L M s0 false).1.isSome && ((nxt L M s0 false).2.isNone && s0.2.isSome)) || ((nxt L M s0 true).1.isSome && ((nxt L M s0 true).2.isNone && s0.2.isSome)))))
        ⟨ord, xs, [], mo, x10, x11, x12, x13, rfl, e7.trans EB, sB, EB _ _ f7, row7.mono EB, EB _ _ r7, p7.mono EB, eB _ _ rA, fun _ => ⟨rfl, rfl, rfl⟩, fun y => absurd y (by decide), fun y => absurd y (by decide)⟩ (fun j σ' H' _ ⟨_, _, _, _, _, _, _, _, _, _, h, _⟩ => st_of h) ?_ ?_
      · rintro j v σ' H4' H5' hj ⟨o', xs', r', mo1, y10, y11, y12, y13, rfl, eC, sC, fC, rowC, rC, pC, roC, c0, c1, _⟩ hy
        obtain ⟨rfl, hv⟩ := hy
        match j, hv with
        | 0, hv =>
          cases hv
          obtain ⟨rfl, rfl, rfl⟩ := c0 rfl
          refine one (c := false) (mo1 := mo1) (x11 := y11) (x12 := y12) (x13 := y13) (by omega) (by decide) ?_ eC fC rowC rC pC roC fun H' xs'' z11 z12 z13 tt b0 b1 b2 b4 b5 b6 => ?_
          · rw [if_neg (by rw [g0]; decide)]
            obtain ⟨m1', hm1⟩ := grs_more ([nxt L M s0 true].filter fun t => !gone e t) (gr o' (nxt L M s0 false))
            refine ⟨m1' ++ mo', ?_⟩
            rw [hmo, ← List.append_assoc, ← hm1]
            congr 1
            unfold sucP
            rw [List.filter_cons, if_pos (by rw [g0]; rfl)]
            rfl
          · rw [if_neg (by rw [g0]; decide)] at b2 b6
            exact ⟨_, xs'', _, _, _, _, _, _, rfl, b0, tt _ _ sC, b1, b2, b4, b5, b6, fun y => absurd y (by decide), fun _ => ⟨rfl, rfl, rfl⟩, fun y => absurd y (by decide)⟩
        | 1, hv =>
          cases hv
          obtain ⟨rfl, rfl, rfl⟩ := c1 rfl
          have l2 : (gr ord (nxt L M s0 false)).length ≤ 81 := Nat.le_trans (few2 e L M _ (gr_nd nd) (gr_in (vp_suc okL okM s0 sv _ (mem_suc.mpr ⟨⟨false, rfl⟩, g0⟩)) oi)) bnd
          refine one (c := true) (x11 := y11) (x12 := y12) (x13 := y13) l2 (by show 1 ≤ 2; decide) ⟨mo', by rw [hmo, suc]⟩ eC fC rowC rC pC roC fun H' xs'' z11 z12 z13 tt b0 b1 b2 b4 b5 b6 => ?_
          exact ⟨_, xs'', _, _, _, _, _, _, rfl, b0, tt _ _ sC, b1, b2, b4, b5, b6, fun y => absurd y (by decide), fun y => absurd y (by decide), fun _ => ⟨suc.symm, rfl, rfl⟩⟩
        | j + 2, hv => cases hv
      · rintro σ' HC ⟨o', xs', r', mo1, y10, y11, y12, y13, rfl, eC, sC, fC, rowC, rC, pC, roC, _, _, c2⟩
        obtain ⟨rfl, rfl, rfl⟩ := c2 rfl
        refine q_appU (K := K) (ys := pV (rowP e L M (ordP e L M) s0)) rC (ev_var rfl) (eu_tup (ea_cons (ev_op (ev_var rfl) ev_c (rv_ixL (sq_of roC) (atI_nat (j := 0) rfl))) (ea_cons (ev_op (ev_var rfl) ev_c (rv_ixL (sq_of roC) (atI_nat (j := 1) rfl))) ea_nil)) (by show 2 ≤ 100000; decide)) (by omega) fun T HD hT eD hTc => ?_
        have rD := eD _ _ rC
        have kR : ∀ c zs, HD c = some (.tup zs) → upd HD Rw (.lst (ys ++ [.ref T])) c = some (.tup zs) := keep rD
        obtain ⟨mr, hmr⟩ := grs_more (sucP e L M s0) ord
        have xD : Ex H (upd HD Rw (.lst (ys ++ [.ref T]))) := Ex.mut (eC.trans eD) RH
        have fD' : upd HD Rw (.lst (ys ++ [.ref T])) Fo = some (.lst xs') := by rw [upd_ne RF.symm]; exact eD _ _ fC
        have rowD := rwt_keep kR (rowC.mono eD)
        have pD' := plt_keep kR ((pC.mono eD).snoc hTc)
        have rD' : upd HD Rw (.lst (ys ++ [.ref T])) Rw = some (.lst (ys ++ [.ref T])) := upd_same
        generalize upd HD Rw (.lst (ys ++ [.ref T])) = HE at xD fD' rowD pD' rD' ⊢
        refine s_asg (v := .int ((i + 1 : Nat) : Int)) (ev_is (ev_op (ev_var rfl) ev_c rv_I0) (by show V.int _ = V.int _; congr 1)) fun HF eF => ?_
        refine ⟨f', Nat.lt_succ_self f', i + 1, _, _, _, _, _, _, _, _, _, _, _, by omega, hw2, ?_, grs_in _ _ (vp_suc okL okM s0 sv) oi, grs_nd _ _ nd, fun he => ?_, rfl, xD.trans eF, eF _ _ fD', rowD.mono eF, eF _ _ rD', ?_⟩
        · rw [hmr, List.length_append]
          omega
        · subst he
          have some2 : s0.2.isSome = true := by
            have g := sv.2.2
            cases h : s0.2 with
            | some _ => rfl
            | none =>
              obtain ⟨u, v⟩ := s0
              cases h
              cases u <;> cases g
          have eb : ∀ c, ((nxt L M s0 c).1.isSome && ((nxt L M s0 c).2.isNone && s0.2.isSome)) = bad L M s0 c := fun c => by rw [some2, Bool.and_true]; rfl
          rw [eb, eb, Bool.or_eq_false_iff, Bool.or_eq_false_iff, hmo2 rfl]
          constructor
          · rintro ⟨⟨h1, h2⟩, h3⟩ j s hj hs c
            rw [hmr, List.getElem?_append_left (by omega)] at hs
            by_cases cj : j < i
            · exact h1 j s cj hs c
            · obtain rfl : j = i := by omega
              rw [hp] at hs
              cases hs
              cases c
              · exact h2
              · exact h3
          · intro h
            refine ⟨⟨fun j s hj hs c => h j s (by omega) (by rw [hmr, List.getElem?_append_left (by omega)]; exact hs) c, h i s0 (by omega) ?_ false⟩, h i s0 (by omega) ?_ true⟩
            · rw [hmr, List.getElem?_append_left lt]; exact hp
            · rw [hmr, List.getElem?_append_left lt]; exact hp
        · have tk : (grs ord (sucP e L M s0)).take (i + 1) = ord.take i ++ [s0] := by
            rw [hmr, List.take_append_of_le_length (by omega), List.take_add_one, hp]
            rfl
          rw [tk, List.map_append]
          exact pD'.mono eF
    · have ge : ord.length ≤ i := Nat.le_of_not_lt (of_decide_eq_false hb)
      have eo : ordP e L M = ord := by rw [← hw, bfs_stop ge]
      have ei : i = ord.length := Nat.le_antisymm li ge
      have pE := p7.mono e8
      rw [ei, List.take_length, ← eo] at pE
      have jl := join_len1 (e := e) okL okM l1 m1
      refine s_retR (tup_i (cons_i ⟨_, rfl, Rw, joinP e L M, rfl, ⟨ys, e8 _ _ r7, pE⟩, join_ok okL okM l1 m1, jl.1, by omega, fun r H9 hr9 e9 lt9 => cons_i ⟨_, rfl, by show 2 ≤ sizeLine; decide, fun T hT => ?_⟩⟩))
      have eT := Ex.new (o := .tup [V.ref r, .bl mo]) hT
      refine kk T r mo _ (((e7.trans e8).trans e9).trans eT) upd_same (lt9.mono eT) fun he => ?_
      subst he
      rw [hmo2 rfl]
      constructor
      · intro nb
        refine part_yes okL okM l1 m1 fun s hs c => ?_
        rw [eo] at hs
        obtain ⟨j, hj⟩ := List.getElem?_of_mem hs
        exact nb j s (by have := (List.getElem?_eq_some_iff.mp hj).1; omega) hj c
      · intro pt j s hj hs c
        cases hbad : bad L M s c with
        | false => rfl
        | true =>
          refine absurd pt (bad_no (rch_ord (e := false) s ?_) hbad)
          rw [eo]
          exact List.mem_of_getElem? hs
end
end K16
namespace Ls
/-! ### joined rules of least places -/
variable {M N : List Pl} {e : Bool}
theorem join_leasts (okM : OkM M) (okN : OkM N) (m1 : 1 ≤ M.length) (n1 : 1 ≤ N.length) : least (joinP e (least M) (least N)) = least (joinP e M N) := by
  have a := least_ok okM m1
  have b := least_ok okN n1
  have c := least_pos okM m1
  have d := least_pos okN n1
  refine least_lang (join_ok a b c d) (join_ok okM okN m1 n1) (join_len1 a b c d).1 (join_len1 okM okN m1 n1).1 fun w => ?_
  rw [join_lets a b c d, join_lets okM okN m1 n1, lets_least okM m1, lets_least okN n1]
theorem join_leasts' (okM : OkM M) (okN : OkM N) (m1 : 1 ≤ M.length) (n1 : 1 ≤ N.length) : least (joinP e (least N) (least M)) = least (joinP e M N) := by
  have a := least_ok okM m1
  have b := least_ok okN n1
  have c := least_pos okM m1
  have d := least_pos okN n1
  refine least_lang (join_ok b a d c) (join_ok okM okN m1 n1) (join_len1 b a d c).1 (join_len1 okM okN m1 n1).1 fun w => ?_
  rw [join_lets b a d c, join_lets okM okN m1 n1, lets_least okM m1, lets_least okN n1]
  cases e <;> simp [cmb, Bool.and_comm, Bool.or_comm]
theorem join_lets_l (okM : OkM M) (okN : OkM N) (m1 : 1 ≤ M.length) (n1 : 1 ≤ N.length) (w : List Bool) : letsF (least (joinP e M N)) w = cmb e (letsF M w) (letsF N w) := by
  rw [lets_least (join_ok okM okN m1 n1) (join_len1 okM okN m1 n1).1, join_lets okM okN m1 n1]
theorem part_refl (M : List Pl) : Part M M := fun _ h => h
end Ls
namespace K16
open PySem L2 Evl Gr StX EnT ClX RdX OwX OwC OpX Ls DnX
/-! ### _law_places -/
theorem LT.keep {p l : Addr} {cells : List Int} {m : Nat} {H H' : Hp} {a : Addr} {M : List Pl} (hP : PenAt H p l cells m) (ha : a ≠ p) (kp : Keep p H H') (h : LT H a M) : LT H' a M := by
  obtain ⟨xs, h1, h2⟩ := h
  refine ⟨xs, kp _ _ h1 ha, h2.1, fun i x u hx hu => ?_⟩
  obtain ⟨b, e, hb⟩ := h2.2 i x u hx hu
  exact ⟨b, e, tup_keep hP kp hb⟩
theorem plt_keepP {p l : Addr} {cells : List Int} {m : Nat} {H H' : Hp} {xs : List V} {M : List Pl} (hP : PenAt H p l cells m) (kp : Keep p H H') (h : PlT H xs M) : PlT H' xs M := ⟨h.1, fun i x u hx hu => by
  obtain ⟨b, e, hb⟩ := h.2 i x u hx hu
  exact ⟨b, e, tup_keep hP kp hb⟩⟩
theorem pen_ne {p l D : Addr} {cells : List Int} {m : Nat} {H : Hp} (hP : PenAt H p l cells m) (hD : H D = none) : D ≠ p ∧ D ≠ l := by
  obtain ⟨_, _, h1, h2, _⟩ := hP
  exact ⟨fun z => (by rw [z, h1] at hD; cases hD), fun z => (by rw [z, h2] at hD; cases hD)⟩
theorem keep_none {p D : Addr} {H H' : Hp} (k : Keep p H H') (hD : H' D = none) (hp : D ≠ p) : H D = none := by
  cases c : H D with
  | none => rfl
  | some u => rw [k _ _ c hp] at hD; cases hD
section
variable {σ : L2.St} {H : Hp} {p l : Addr} {cells : List Int} {n i2 : Nat}
abbrev DRn (i2 : Nat) : TE := tCall spDraw [] E0 (tCons (tVar 0) (tCons (tVar i2) tNil))
abbrev DR3 : TE := tCall spDraw [] E0 (tCons (tVar 0) (tCons (tC (.int 3)) tNil))
theorem w_drn (h0 : σ[0]? = some (some (.ref p))) (h2 : σ[i2]? = some (some (.int (n : Int)))) (n0 : 0 < n) (n9 : n ≤ 1000) (h63 : cells.length ≤ 63) : EvW p l cells 1 (DRn i2) σ H (fun v => ∃ d : Nat, v = .int (d : Int) ∧ d < n) := fun m H1 kp hP hm Q q =>
  w_draw (many := (n : Int)) h0 (fun H1 _ => ev_var h2) (by omega) (by omega) h63 m H1 kp hP hm Q fun v H2 ⟨d, e, hd⟩ hP2 k2 => q v H2 ⟨d, e, by omega⟩ hP2 k2
/-- a pick of 0 and two drawn -/
theorem w_pick3 (h0 : σ[0]? = some (some (.ref p))) (h2 : σ[i2]? = some (some (.int (n : Int)))) (n0 : 0 < n) (n9 : n ≤ 1000) (h63 : cells.length ≤ 63) :
    EvW p l cells 3 (tCall spPick [] E0 (tCons (tVar 0) (tCons (tLst (tCons (tC (.int 0)) (tCons (DRn i2) (tCons (DRn i2) tNil)))) tNil))) σ H (fun v => ∃ d : Nat, v = .int (d : Int) ∧ d < n) := fun m H1 kp hP hm Q q => by
  refine call_i (cons_i ⟨_, h0, cons_i (lst_i (cons_i (c_i (cons_i ?_))))⟩)
  refine w_drn (n := n) h0 h2 n0 n9 h63 m H1 (Keep.of_ex (Ex.refl H1)) hP (by omega) _ fun v H2 hv hP2 k2 => cons_i ?_
  refine w_drn (n := n) h0 h2 n0 n9 h63 (m + 1) H2 (Keep.of_ex (Ex.refl H2)) hP2 (by omega) _ fun u H3 hu hP3 k3 => ⟨by show 3 ≤ sizeLine; decide, fun a ha => ?_⟩
  have e3 := Ex.new (o := .lst [V.int 0, v, u]) ha
  refine ⟨p, l, a, cells, m + 1 + 1, [V.int 0, v, u], rfl, hP3.mono e3 (Nat.le_refl _), by omega, h63, upd_same, (pen_ne hP3 ha).1, by show 0 < 3; decide, by show 3 ≤ 1000000; decide, fun j x H4 hx hP4 k4 => ?_⟩
  refine q x H4 ?_ hP4 ((k2.trans k3).trans ((Keep.of_ex e3).trans k4))
  have hx := List.mem_of_getElem? hx
  simp only [List.mem_cons, List.not_mem_nil, or_false] at hx
  rcases hx with rfl | rfl | rfl
  · exact ⟨0, rfl, n0⟩
  · exact hv
  · exact hu
/-- None, or a drawn one -/
theorem w_lost (h0 : σ[0]? = some (some (.ref p))) (h2 : σ[i2]? = some (some (.int (n : Int)))) (n0 : 0 < n) (n9 : n ≤ 1000) (h63 : cells.length ≤ 63) :
    EvW p l cells 2 (tIf (tTest (tOp rEq DR3 (tC (.int 0)))) (tC .non) (DRn i2)) σ H (fun v => ∃ x : Option Nat, v = oV x ∧ ∀ d, x = some d → d < n) := fun m H1 kp hP hm Q q => by
  show tTest _ σ H1 _
  refine op_i ?_
  refine w_draw (i := 0) (many := 3) h0 (fun H1 _ => ev_c) (by decide) (by decide) h63 m H1 (Keep.of_ex (Ex.refl H1)) hP (by omega) _ fun v H2 hv hP2 k2 => c_i ?_
  obtain ⟨d, rfl, hd⟩ := hv
  refine ⟨rfl, _, rfl, ?_⟩
  by_cases c : V.int (d : Int) = .int 0
  · rw [decide_eq_true c]
    exact iteT (c_i (q _ H2 ⟨none, rfl, fun d hd => by cases hd⟩ (hP2.le (by omega)) k2))
  · rw [decide_eq_false c]
    refine iteF ?_
    refine w_drn (n := n) h0 h2 n0 n9 h63 (m + 1) H2 (Keep.of_ex (Ex.refl H2)) hP2 (by omega) _ fun u H3 hu hP3 k3 => ?_
    obtain ⟨x, rfl, hx⟩ := hu
    exact q _ H3 ⟨some x, rfl, fun d hd => by cases hd; exact hx⟩ hP3 (k2.trans k3)
end
section
variable {P : Program} {w : World} {K : PySem.W.Frag} {mg : Str → Option Value} {base : Heap}
abbrev nPl : List Str := ["_law_pen_here", "_law_most", "_law_many", "_law_found", "_law_place", "_law_lost_so"]
def spPl : Sp := fun vs H Q _ => ∃ (p l : Addr) (cells : List Int) (m most : Nat), vs = [.ref p, .int (most : Int)] ∧ PenAt H p l cells m ∧ m + 1 + 5 * most ≤ 50000 ∧ cells.length ≤ 63 ∧ 1 ≤ most ∧ most ≤ 4 ∧
  ∀ q L H', H q = none → LT H' q L → OkM L → 1 ≤ L.length → L.length ≤ most → PenAt H' p l cells (m + 1 + 5 * most) → Keep p H H' → Q (.ref q) H'
theorem scPl : FnScope nPl ["_law_pen_here", "_law_most"] (defScope (top 39)) := ⟨rfl, rfl, rfl, by decide +kernel, rfl, by decide +kernel, by decide +kernel⟩
theorem ok_Pl {f : Addr} {fd : FuncData} (F : Fun K "_law_places" "_law_places" (top 39) f fd) (S : GlbS mg) (GD : Gfn P w K mg base 1 "_law_draw" ["_law_pen_here", "_law_top_so"] spDraw) (GP : Gfn P w K mg base 2 "_law_pick" ["_law_pen_here", "_law_some"] spPick) : FnOk P w K mg base CX0 3 f fd ["_law_pen_here", "_law_most"] spPl := by
  obtain ⟨fD, fdD, GD, kD, bD, gD⟩ := GD
  obtain ⟨fP, fdP, GP, kP, bP, gP⟩ := GP
  refine F.ok scPl (fun vs H Q E h => ?_) (fun cdv A outer s H vs Q E hr h => ?_)
  · obtain ⟨p, l, cells, m, most, rfl, _⟩ := h
    rfl
  · obtain ⟨p, l, cells, m, most, rfl, hP, hm, h63, m1, m4, k⟩ := h
    have r1 := hr.mono (show 1 ≤ 2 by decide)
    refine ⟨_, (pss_cons (ps_par (i := 2) (j := 3) rfl scPl.nd rfl rfl (by decide) rfl rfl (pa_cons (pe_op op_add pe_int (pe_call GD r1 (by rfl) gD kD bD .nil pass0 (pa_cons (pv 0) (pa_cons (pv 1) pa_nil)))) (pa_cons (pe_lst pa_nil) pa_nil)) (by rfl))
      (pss_cons (ps_for PassesOwn.never rfl (pi_range1 (by rfl) S.range (pa_cons (pv 2) pa_nil)) (pg_name (i := 4) scPl.nd rfl (.inl rfl))
        (pss_cons (ps_set (i := 5) scPl.nd rfl (.inl rfl) (pe_ifExp (pt_cmpR op_eq (pe_call GD r1 (by rfl) gD kD bD .nil pass0 (pa_cons (pv 0) (pa_cons pe_int pa_nil))) pe_int (nomark _)) pe_non (pe_call GD r1 (by rfl) gD kD bD .nil pass0 (pa_cons (pv 0) (pa_cons (pv 2) pa_nil)))))
      (pss_one (ps_expr (pe_bm PySem.F.plainAttrs_list PySem.F.slot_list_append PySem.F.type_list_append mt_append (pv 3) (pa_cons (pe_tup (pa_cons (pe_call GP hr (by rfl) gP kP bP .nil pass0 (pa_cons (pv 0) (pa_cons (pe_lst (pa_cons pe_int (pa_cons (pe_call GD r1 (by rfl) gD kD bD .nil pass0 (pa_cons (pv 0) (pa_cons (pv 2) pa_nil))) (pa_cons (pe_call GD r1 (by rfl) gD kD bD .nil pass0 (pa_cons (pv 0) (pa_cons (pv 2) pa_nil))) pa_nil)))) pa_nil))) (pa_cons (pv 5) pa_nil))) pa_nil))))))
      (pss_one (ps_ret (pv 3))))), ?_⟩
    refine q_par (cons_i (op_i (c_i ?_)))
    refine w_draw (i := 0) (σ := [some (.ref p), some (.int (most : Int)), none, none, none, none]) (many := (most : Int)) rfl (fun H1 _ => ev_var rfl) (by omega) (by omega) h63 m H (Keep.of_ex (Ex.refl H)) hP (by omega) _ fun v H1 hv hP1 k1 => ?_
    obtain ⟨d, rfl, hd⟩ := hv
    have hd : d < most := by omega
    refine ⟨_, _, rfl, rfl, ?_⟩
    have e1d : (1 : Int) + (d : Int) = ((d + 1 : Nat) : Int) := by omega
    dsimp only
    rw [e1d]
    refine cons_i (el_nil (σ := [some (.ref p), some (.int (most : Int)), none, none, none, none]) (H := H1) H1 (Ex.refl H1) _ fun f H2 hf e2 h2 => ?_)
    refine ⟨_, _, rfl, ?_⟩
    have fH := keep_none k1 hf (pen_ne hP1 hf).1
    have fp := pen_ne hP1 hf
    refine q_forR1 (n := ((d + 1 : Nat) : Int)) (ea_cons (ev_var rfl) ea_nil) (by omega) (fun i σ' H' => ∃ (x4 x5 : Option V) (xs : List V) (L : List Pl), σ' = [some (.ref p), some (.int (most : Int)), some (.int ((d + 1 : Nat) : Int)), some (.ref f), x4, x5] ∧ PenAt H' p l cells (m + 1 + 5 * i) ∧ Keep p H H' ∧ H' f = some (.lst xs) ∧ PlT H' xs L ∧ L.length = i ∧ ∀ x ∈ L, x.1 < d + 1 ∧ ∀ y, x.2 = some y → y < d + 1)
      (fun H3 e3 => ⟨none, none, [], [], rfl, hP1.mono (e2.trans e3) (by omega), k1.trans (Keep.of_ex (e2.trans e3)), e3 _ _ h2, plt_nil, rfl, fun x hx => (by cases hx)⟩) ?_ ?_
    · rintro i σ' H3 hi ⟨x4, x5, xs, L, rfl, hP3, k3, hf3, row3, lL, okL⟩
      have hi : i < d + 1 := by omega
      refine q_asgR ?_
      refine w_lost (n := d + 1) (i2 := 2) rfl rfl (by omega) (by omega) h63 (m + 1 + 5 * i) H3 (Keep.of_ex (Ex.refl H3)) hP3 (by omega) _ fun v H4 hv hP4 k4 => ?_
      obtain ⟨x, rfl, hx⟩ := hv
      have hf4 := k4 _ _ hf3 fp.1
      have row4 := plt_keepP hP3 k4 row3
      refine ⟨_, rfl, Or.inl ⟨rfl, xs, sq_of hf4⟩, cons_i (tup_i (cons_i ?_))⟩
      refine w_pick3 (n := d + 1) (i2 := 2) rfl rfl (by omega) (by omega) h63 (m + 1 + 5 * i + 2) H4 (Keep.of_ex (Ex.refl H4)) hP4 (by omega) _ fun v H5 hv hP5 k5 => cons_i ⟨_, rfl, ?_⟩
      obtain ⟨e, rfl, he⟩ := hv
      refine ⟨by show 2 ≤ sizeLine; decide, fun t ht => ?_⟩
      have e6 := Ex.new (o := .tup [V.int (e : Int), oV x]) ht
      have hf5 := k5 _ _ hf4 fp.1
      have hf6 := e6 _ _ hf5
      have ht6 : upd H5 t (.tup [V.int (e : Int), oV x]) t = some (.tup (pV (e, x))) := upd_same
      have row6 := ((plt_keepP hP4 k5 row4).mono e6).snoc ht6
      have hP6 := hP5.mono e6 (Nat.le_refl _)
      generalize upd H5 t (.tup [V.int (e : Int), oV x]) = H6 at e6 hf6 ht6 row6 hP6 ⊢
      refine ⟨f, xs, .ref t, rfl, rfl, hf6, sz_lt (by rw [row3.1]; omega), ?_⟩
      refine ⟨_, _, xs ++ [.ref t], L ++ [(e, x)], rfl, (hP6.upd' fp.1 fp.2).le (by omega), (((k3.trans k4).trans k5).trans (Keep.of_ex e6)).mut fH, upd_same, plt_keep (fun b ys hb => by rw [upd_ne fun z => by rw [z, hf6] at hb; cases hb]; exact hb) row6, by rw [List.length_append, lL]; rfl, fun y hy => ?_⟩
      rcases List.mem_append.mp hy with c | c
      · exact okL y c
      · rw [List.mem_singleton.mp c]
        exact ⟨he, hx⟩
    · rintro σ' H3 ⟨x4, x5, xs, L, rfl, hP3, k3, hf3, row3, lL, okL⟩
      have lL : L.length = d + 1 := by omega
      refine s_ret (v := .ref f) (ev_var rfl) fun H4 e4 => k f L H4 fH ⟨xs, e4 _ _ hf3, row3.mono e4⟩ (fun x hx => by rw [lL]; exact okL x hx) (by omega) (by omega) (hP3.mono e4 (by omega)) (k3.trans (Keep.of_ex e4))
end
end K16
namespace OwD
open PySem PySem.Spec PyProof.Rows L2 StX OpX
/-! ### operators between objects of own classes that are not below each other; readings by any of some classes -/
section
variable {prog : Program} {w : World} {A : Around} {E : Value → Shared → Prop} {s : Shared} {K : PySem.W.Frag} {x y C D f g L : Addr} {h₀ : Heap} {m : Str → Option Value} {ox oy : Obj} {od od' : Option Obj}
theorem bin_two {op : Operator} {Q : Value → Shared → Prop} (F : PyProof.Rows.Fr h₀ L s.heap m) (X₀ : K.In h₀) (I : PySem.W.InstAt s.heap x ox C od) (J : PySem.W.InstAt s.heap y oy D od') (ne : C ≠ D)
    (hc : PySem.W.selfFirst K C = true) (hs : PySem.W.findIn K (.ref C) (PySem.dunder op.info.2) = some (some (.ref f))) (hf : PySem.W.isFn K (.ref f) = true) (hr : PySem.W.findIn K (.ref C) (dunderR op.info.2) = some none)
    (hd : PySem.W.selfFirst K D = true) (hs' : PySem.W.findIn K (.ref D) (PySem.dunder op.info.2) = some (some (.ref g))) (hr' : PySem.W.findIn K (.ref D) (dunderR op.info.2) = some none) (hsub : PySem.W.subIn K (.ref D) (.ref C) = some false)
    (h : wpAny (model prog w) A (call (.ref f) [.ref x, .ref y]) (PySem.W.CmpBack Q) E s) : wpAny (model prog w) A (binaryOp op (.ref x) (.ref y)) Q E s := by
  have X := X₀.keeps F.keep
  obtain ⟨cd, rest, hcd, hm⟩ := PySem.W.ksp_first hc
  obtain ⟨cd', rest', hcd', hm'⟩ := PySem.W.ksp_first hd
  rcases hi : op.info with ⟨sym, nm'⟩
  rw [hi] at hs hr hs' hr'
  dsimp only at hs hr hs' hr'
  have one := PySem.W.ksp_try X I hs hf h
  obtain ⟨hh, gg, d, tt, os⟩ := s
  have L1 : PySem.W.Looks (model prog w) hh (typeOf (.ref x)) (.ref C) := I.type
  have L2 : PySem.W.Looks (model prog w) hh (typeOf (.ref y)) (.ref D) := J.type
  have L3 : PySem.W.Looks (model prog w) hh (fillsNumberSlot (.ref C) nm') true := PySem.W.fills_K X hcd hm hs
  have L4 : PySem.W.Looks (model prog w) hh (fillsNumberSlot (.ref D) nm') true := PySem.W.fills_K X hcd' hm' hs'
  have L5 : PySem.W.Looks (model prog w) hh (isSubtype (.ref D) (.ref C)) false := PySem.W.looks_subIn X hsub
  have L6 : PySem.W.Looks (model prog w) hh (numberSlotInPython (.ref C) nm') true := PySem.W.ksp_inPy X hs hr (.inl rfl)
  have L7 : PySem.W.Looks (model prog w) hh (numberSlotInPython (.ref D) nm') true := PySem.W.ksp_inPy X hs' hr' (.inl rfl)
  have hne : (Value.ref C == Value.ref D) = false := Bool.eq_false_iff.mpr fun q => by
    have := beq_iff_eq.mp q
    cases this
    exact ne rfl
  simp only [binaryOp, hi]
  refine wpAny_holding (wpAny_bind ?_)
  unfold binaryOp1
  refine wpAny_bind (L1.at (wpAny_bind (L2.at (wpAny_bind (L3.at ?_)))))
  simp only [hne, Bool.false_eq_true, if_false]
  ksp_lk
  refine wpAny_mono one (fun r s' hr' => ?_) fun _ _ e => e
  obtain ⟨v, rfl, hq⟩ := hr'
  ksp_lk
  exact hq
end
section
variable {X : Cx} {CX : CXT} {n : Nat} {g : Addr} {sp : Sp} {E : XK}
/-- a class whose objects have this operator, and no reflected one -/
structure OpAt (K : PySem.W.Frag) (C g : Addr) (op : Operator) : Prop where
  first : PySem.W.selfFirst K C = true
  has : Has K C g (PySem.dunder op.info.2)
  no : PySem.W.findIn K (.ref C) (dunderR op.info.2) = some none
/-- D is C, or not below it -/
def Off (K : PySem.W.Frag) (C D : Addr) : Prop := C = D ∨ PySem.W.subIn K (.ref D) (.ref C) = some false
def rS2 (X : Cx) (g : Addr) (op : Operator) (sp : Sp) (E : XK) : R2 := fun x y H Q => ∃ a b C D, x = .ref a ∧ y = .ref b ∧ InsC X H a C ∧ InsC X H b D ∧ OpAt X.K C g op ∧ OpAt X.K D g op ∧ Off X.K C D ∧ sp [.ref a, .ref b] H Q E
theorem op_bin2 {op : Operator} (F : FnR X.prog X.w X.K X.mg X.base CX n g sp) (hr : Room n X.A) (hx : Passes CX X E) : OpR X (binaryOp op) (rS2 X g op sp E) := by
  intro pins s σ H x y v u Q I rx ry hq
  obtain ⟨a, b, C, D, rfl, rfl, ha, hb, GC, GD, off, q⟩ := hq
  by_cases e : C = D
  · subst e
    exact op_binS GC.first GC.has F hr hx pins s σ H (.ref a) (.ref b) v u Q I rx ry ⟨a, b, rfl, rfl, ha, hb, q⟩
  · have sub := off.resolve_left e
    cases (show v = Value.ref a from rx)
    cases (show u = Value.ref b from ry)
    obtain ⟨ox, od, J, _⟩ := insC_at I ha
    obtain ⟨ox', od', J', _⟩ := insC_at I hb
    obtain ⟨m, hF⟩ := I.fr
    exact bin_two hF I.ok.mod.kin J J' e GC.first GC.has.at_ GC.has.fn GC.no GD.first GD.has.at_ GD.no sub (run_own (us := [.ref a, .ref b]) (vs := [.ref a, .ref b]) F hr hx I (.cons rfl (.cons rfl .nil)) q)
/-- x == y by any of some classes -/
def rEq2 (X : Cx) (g : Addr) (sp : Sp) (E : XK) : R2 := fun x y H Q => ∃ a b C D, x = .ref a ∧ y = .ref b ∧ InsC X H a C ∧ InsC X H b D ∧ Has X.K C g "__eq__" ∧ PySem.W.notFirst X.K C (.ref D) = true ∧ sp [.ref a, .ref b] H Q E
theorem op_eq2 (F : FnR X.prog X.w X.K X.mg X.base CX n g sp) (hr : Room n X.A) (hx : Passes CX X E) : OpR X (compareOp .Eq) (rEq2 X g sp E) := by
  intro pins s σ H x y v u Q I rx ry hq
  obtain ⟨a, b, C, D, rfl, rfl, ha, hb, G, nf, q⟩ := hq
  exact op_eqO (op := .Eq) (fun _ _ => rfl) G F hr hx pins s σ H (.ref a) (.ref b) v u Q I rx ry ⟨a, b, D, rfl, rfl, ha, hb, nf, q⟩
theorem pe_any {e : PySem.Expr} {G : Addr → Prop} {t : Addr → TE} (h : ∀ C, G C → PE X e (t C)) : PE X e (fun σ H Q => ∃ C, G C ∧ t C σ H Q) := ⟨fun pins s σ H Q I ⟨C, gC, q⟩ => (h C gC).run pins s σ H Q I q⟩
end
end OwD
namespace K16
open PySem L2 Evl Gr StX EnT ClX RdX OwX OwC OpX Ls DnX DdT ClK OwD
/-! ### _law_is, _law_lists -/
section
variable {σ : L2.St} {H : Hp} {te tl : TE} {K : PySem.W.Frag} {CL D o : Addr} {L : List Pl}
theorem el_is2 {xs ys : List V} (h : EvL te σ H xs) (e : xs = ys) : EvL te σ H ys := e ▸ h
/-- a list that is a name's, with what it holds -/
def EvLo (te : TE) (σ : L2.St) (H : Hp) (xs : List V) : Prop := ∀ H1, Ex H H1 → ∀ Q : VK, (∀ p H2, Ex H1 H2 → H2 p = some (.lst xs) → Q (.ref p) H2) → te σ H1 Q
theorem elo_new {xs : List V} (h : EvL te σ H xs) : EvLo te σ H xs := fun H1 e Q q => h H1 e Q fun p H2 _ e2 h2 => q p H2 e2 h2
theorem elo_var {p : Addr} {xs : List V} (h : Ev te σ H (.ref p)) (hp : H p = some (.lst xs)) : EvLo te σ H xs := fun H1 e Q q => h H1 e _ fun H2 e2 => q p H2 e2 ((e.trans e2) _ _ hp)
theorem el_catO {xs ys : List V} {ta tb : TE} (ha : EvLo ta σ H xs) (hb : EvLo tb σ H ys) (hz : xs.length + ys.length ≤ 100000) : EvL (tOp rCat ta tb) σ H (xs ++ ys) := fun H1 e Q q =>
  ha H1 e _ fun p H2 e2 h2 => hb H2 (e.trans e2) _ fun r H3 e3 h3 => ⟨p, r, xs, ys, rfl, rfl, e3 _ _ h2, h3, sz_of hz, fun d hd => q d _ (fresh_back (e2.trans e3) hd) ((e2.trans e3).trans (Ex.new hd)) upd_same⟩
/-- [g(z) for z in a list of texts] -/
theorem el_lcZ {a : Addr} {zs : List Str} {j : Nat} {vs : List Nat} (g : Str → Str) (h : Ev tl σ H (.ref a)) (hx : H a = some (.lst (zs.map V.str))) (hz : zs.length ≤ 40000) (hw : ∀ x, wipe ((wipe σ vs).set j (some x)) vs = wipe σ vs)
    (he : ∀ z ∈ zs, ∀ H1, Ex H H1 → Ev te ((wipe σ vs).set j (some (.str z))) H1 (.str (g z))) : EvL (tLc (iQ K tl) (gName j) tYes te vs) σ H ((zs.map g).map V.str) := by
  have c := el_lcQ (K := K) (te := te) (j := j) (vs := vs) (fun i => V.str (g (zs.getD i ""))) h (.inl (sq_of hx)) (by rw [List.length_map]; exact hz) hw (fun i x H1 e hxi => by
    rw [List.getElem?_map] at hxi
    obtain ⟨z, hz', rfl⟩ := Option.map_eq_some_iff.mp hxi
    have e1 : zs.getD i "" = z := by rw [List.getD_eq_getElem?_getD, hz']; rfl
    rw [e1]
    exact he z (List.mem_of_getElem? hz') H1 e)
  have q : (List.range (zs.map V.str).length).map (fun i => V.str (g (zs.getD i ""))) = (zs.map g).map V.str := by
    refine List.ext_getElem? fun i => ?_
    rw [List.getElem?_map, List.getElem?_map, List.getElem?_map, List.length_map]
    rcases Nat.lt_or_ge i zs.length with h | h
    · rw [List.getElem?_range h]
      show some (V.str (g (zs.getD i ""))) = _
      rw [List.getD_eq_getElem?_getD, List.getElem?_eq_getElem h]
      rfl
    · rw [List.getElem?_eq_none (by rw [List.length_range]; exact h), List.getElem?_eq_none h]
      rfl
  rw [q] at c
  exact c
theorem ed_plO {te : TE} (G : LsC K D) (h : Ev te σ H (.ref o)) (hO : RuAt H D o L) : EvD K (tFld K te "places") σ H (plD L) := ed_pl G h hO
end
section
variable {P : Program} {w : World} {K : PySem.W.Frag} {mg : Str → Option Value} {base : Heap}
abbrev nIs : List Str := ["_law_told", "_law_places_so"]
/-- what is told: the rule with these least places, or that they are too many -/
def ToldR (K : PySem.W.Frag) (CL CM : Addr) (H : Hp) (v : V) (L : List Pl) : Prop := (12 < L.length ∧ v = .str "many") ∨ (L.length ≤ 12 ∧ ∃ o, v = .ref o ∧ RuAt H CM o L)
def spIs (K : PySem.W.Frag) (CL CM : Addr) : Sp := fun vs H Q _ => ∃ (v : V) (q : Addr) (L : List Pl), vs = [v, .ref q] ∧ LT H q L ∧ ToldR K CL CM H v L ∧ RetV (.bl true) H Q
theorem scIs : FnScope nIs ["_law_told", "_law_places_so"] (defScope (top 45)) := ⟨rfl, rfl, rfl, by decide +kernel, rfl, by decide +kernel, by decide +kernel⟩
theorem ok_Is {CL CM f : Addr} {fd : FuncData} (F : Fun K "_law_is" "_law_is" (top 45) f fd) (T : GlbT mg) (S : GlbS mg) (gC : mg "LossRule" = some (.ref CL)) (GM : LsK K CL CM) : FnOk P w K mg base CX0 1 f fd ["_law_told", "_law_places_so"] (spIs K CL CM) := by
  refine F.ok scIs (fun vs H Q E h => ?_) (fun cdv A outer s H vs Q E hr h => ?_)
  · obtain ⟨v, q, L, rfl, _⟩ := h
    rfl
  · obtain ⟨v, q, L, rfl, hL, hT, k⟩ := h
    refine ⟨_, (pss_cons (ps_if (pt_cmpR op_gt (pe_callB call_len_seq (by rfl) S.len PySem.boot_len (pa_cons (pv 1) pa_nil)) pe_int (nomark _)) (pss_one (ps_ret (pe_cmpR op_eq (pv 0) pe_str (nomark _)))) pss_nil)
      (pss_one (ps_ret (pe_and (pe_callB call_isi (by rfl) T.inst (by decide +kernel) (pa_cons (pv 0) (pa_cons (pe_glob (v := .ref CL) (by rfl) gC (by rfl)) pa_nil))) (pe_one (pe_cmpR (op_eqD hr.units) (pe_fld (pv 0) rfl) (pe_tupleOf (by rfl) S.tuple (pv 1)) (nomark _))))))), ?_⟩
    obtain ⟨xs, hx, row⟩ := id hL
    refine q_when (b := decide (12 < L.length)) (et_is (et_test (ev_op (ev_cb (ea_cons (ev_var rfl) ea_nil) (rc_lenQ (.inl (sq_of hx)))) ev_c rv_I0)) (decide_eq_decide.mpr (by rw [row.1]; omega))) (fun hb H1 e1 => ?_) fun hb H1 e1 => ?_
    · have lt := of_decide_eq_true hb
      rcases hT with ⟨_, rfl⟩ | ⟨le, _⟩
      · exact s_ret (ev_is (ev_op (ev_var rfl) ev_c (rv_eq rfl)) (congrArg V.bl (decide_eq_true rfl))) fun H2 e2 => k H2 (e1.trans e2)
      · omega
    · have ge := of_decide_eq_false hb
      rcases hT with ⟨lt, _⟩ | ⟨_, o, rfl, hO⟩
      · exact absurd lt ge
      · have hO1 := hO.mono e1
        have ee : Ev (tOp (rEqD K) (tFld K (tVar 0) "places") (tThen (tVar 1) (kTup K))) [some (.ref o), some (.ref q)] H1 (.bl true) := ev_is (ev_eqD (ed_pl GM.ls (ev_var rfl) hO1) (ed_tupP (ev_var rfl) (e1 _ _ hx) (row.mono e1)) (low_shaped (plD_low _) (by decide)) (low_shaped (plD_low _) (by decide))) (by rw [plD_eqv]; exact congrArg V.bl (decide_eq_true rfl))
        exact s_ret (ev_is (ev_andV (b := true) (ev_cb (ea_cons (ev_var rfl) (ea_cons ev_c ea_nil)) (rc_isL GM hO1)) fun _ => ee) rfl) fun H2 e2 => k H2 (e1.trans e2)
abbrev nLi : List Str := ["_law_most", "_law_found", "_law_last", "_law_turn", "_law_losses_so"]
/-- lists of losses -/
def ZsOk (zs : List Str) (n : Nat) : Prop := ∀ z ∈ zs, LsOk z ∧ z.length ≤ n
def spLi : Sp := fun vs H Q _ => vs = [.int 5] ∧ ∀ a zs H', Ex H H' → H' a = some (.lst (zs.map V.str)) → ZsOk zs 5 → zs.length ≤ 63 → Q (.ref a) H'
theorem scLi : FnScope nLi ["_law_most"] (defScope (top 46)) := ⟨rfl, rfl, rfl, by decide +kernel, rfl, by decide +kernel, by decide +kernel⟩
theorem zs_app {zs : List Str} {n : Nat} {c : Str} (hc : c = "." ∨ c = "x") (h : ZsOk zs n) : ZsOk (zs.map (· ++ c)) (n + 1) := fun z hz => by
  obtain ⟨y, hy, rfl⟩ := List.mem_map.mp hz
  obtain ⟨h1, h2⟩ := h y hy
  have l1 : c.length = 1 := by rcases hc with rfl | rfl <;> decide +kernel
  refine ⟨fun d hd => ?_, by rw [TL.len_tl, TL.tl_append, List.length_append, ← TL.len_tl, ← TL.len_tl, l1]; omega⟩
  change d ∈ TL.tl (y ++ c) at hd
  rw [TL.tl_append] at hd
  rcases List.mem_append.mp hd with q | q
  · exact h1 d q
  · rcases hc with rfl | rfl
    · exact .inl (by have : TL.tl "." = [46] := by decide +kernel
                     rw [this] at q; exact List.mem_singleton.mp q)
    · exact .inr (by have : TL.tl "x" = [120] := by decide +kernel
                     rw [this] at q; exact List.mem_singleton.mp q)
theorem ok_Li {f : Addr} {fd : FuncData} (F : Fun K "_law_lists" "_law_lists" (top 46) f fd) (S : GlbS mg) : FnOk P w K mg base CX0 1 f fd ["_law_most"] spLi := by
  refine F.ok scLi (fun vs H Q E h => ?_) (fun cdv A outer s H vs Q E hr h => ?_)
  · obtain ⟨rfl, _⟩ := h
    rfl
  · obtain ⟨rfl, k⟩ := h
    refine ⟨_, (pss_cons (ps_par (i := 1) (j := 2) rfl scLi.nd rfl rfl (by decide) rfl rfl (pa_cons (pe_lst (pa_cons pe_str pa_nil)) (pa_cons (pe_lst (pa_cons pe_str pa_nil)) pa_nil)) (by rfl))
      (pss_cons (ps_for PassesOwn.never rfl (pi_range1 (by rfl) S.range (pa_cons (pv 0) pa_nil)) (pg_name (i := 3) scLi.nd rfl (.inl rfl))
        (pss_cons (ps_set (i := 2) scLi.nd rfl (.inl rfl) (pe_op op_cat (pe_lc (own := [("_law_losses_so", 4)]) (g := gName 4) rfl scLi.nd (pi_seq (pv 2)) (blkOk_by (own := [("_law_losses_so", 4)]) (N := nLi) (sc := defScope (top 46)) (by decide +kernel)) (fun _ _ _ _ _ => pg_name (i := 4) scLi.nd rfl (Or.inl rfl)) (fun _ _ _ _ _ => pts_nil) (fun _ _ _ _ _ => pe_op op_add_str (pv 4) pe_str))
            (pe_lc (own := [("_law_losses_so", 4)]) (g := gName 4) rfl scLi.nd (pi_seq (pv 2)) (blkOk_by (own := [("_law_losses_so", 4)]) (N := nLi) (sc := defScope (top 46)) (by decide +kernel)) (fun _ _ _ _ _ => pg_name (i := 4) scLi.nd rfl (Or.inl rfl)) (fun _ _ _ _ _ => pts_nil) (fun _ _ _ _ _ => pe_op op_add_str (pv 4) pe_str))))
      (pss_one (ps_set (i := 1) scLi.nd rfl (.inl rfl) (pe_op op_cat (pv 1) (pv 2))))))
      (pss_one (ps_ret (pv 1))))), ?_⟩
    refine q_par (cons_i (el_lst (vs := ([""] : List Str).map V.str) (ea_cons ev_c ea_nil) (by decide) H (Ex.refl H) _ fun a H1 ha e1 h1 => cons_i (el_lst (vs := ([""] : List Str).map V.str) (ea_cons ev_c ea_nil) (by decide) H1 (Ex.refl H1) _ fun b H2 hb e2 h2 => ⟨_, _, rfl, ?_⟩)))
    have ok0 : ZsOk [""] 0 := fun z hz => by
      rw [List.mem_singleton.mp hz]
      refine ⟨fun c hc => ?_, by decide +kernel⟩
      have : TL.tl "" = [] := by decide +kernel
      change c ∈ TL.tl "" at hc
      rw [this] at hc
      cases hc
    refine q_forR1 (j := 3) (n := 5) (ea_cons (ev_var rfl) ea_nil) (by decide) (fun i σ' H' => ∃ (a b : Addr) (fs ls : List Str) (x3 x4 : Option V), σ' = [some (.int 5), some (.ref a), some (.ref b), x3, x4] ∧ Ex H H' ∧ H' a = some (.lst (fs.map V.str)) ∧ H' b = some (.lst (ls.map V.str)) ∧ ZsOk fs i ∧ ZsOk ls i ∧ ls.length = 2 ^ i ∧ fs.length + 1 = 2 ^ (i + 1))
      (fun H3 e3 => ⟨a, b, [""], [""], none, none, rfl, e1.trans (e2.trans e3), (e2.trans e3) _ _ h1, e3 _ _ h2, ok0, ok0, rfl, rfl⟩) ?_ ?_
    · rintro i σ' H3 hi ⟨a, b, fs, ls, x3, x4, rfl, e3, ha, hb, okf, okl, ll, lf⟩
      have i5 : i < 5 := by omega
      have p16 : 2 ^ i ≤ 16 := by
        have := Nat.pow_le_pow_right (n := 2) (by decide) (show i ≤ 4 by omega)
        exact this
      have p2 : 2 ^ (i + 1) = 2 ^ i * 2 := Nat.pow_succ 2 i
      have p4 : 2 ^ (i + 1 + 1) = 2 ^ i * 2 * 2 := by rw [Nat.pow_succ, p2]
      have one : ∀ (c : Str), c.length = 1 → ∀ H5, Ex H3 H5 → EvL (tLc (iQ K (tVar 2)) (gName 4) tYes (tOp (fun x y H Q => ∃ i j, x = .str i ∧ y = .str j ∧ i.length + j.length ≤ sizeLine ∧ Q (.str (i ++ j)) H) (tVar 4) (tC (.str c))) [4]) [some (.int 5), some (.ref a), some (.ref b), some (.int (i : Int)), x4] H5 ((ls.map (· ++ c)).map V.str) := fun c hc H5 e5 => el_lcZ (g := (· ++ c)) (ev_var rfl) (e5 _ _ hb) (by omega) (fun _ => rfl) fun z hz H6 e6 => ev_addS (ev_var rfl) ev_c (by rw [hc]; have := (okl z hz).2; omega)
      refine q_asgL (el_is2 (el_cat (one "." (by decide +kernel) H3 (Ex.refl H3)) (one "x" (by decide +kernel) H3 (Ex.refl H3)) (by simp only [List.length_map]; omega)) (List.map_append (f := V.str)).symm) fun b' H4 hb' e4 h4 => ?_
      refine s_asgL (el_is2 (el_catO (elo_var (ev_var rfl) (e4 _ _ ha)) (elo_var (ev_var rfl) h4) (by simp only [List.length_map, List.length_append]; omega)) (List.map_append (f := V.str)).symm) fun a' H5 ha' e5 h5 => ?_
      have okl' : ZsOk (ls.map (· ++ ("." : Str)) ++ ls.map (· ++ ("x" : Str))) (i + 1) := fun z hz => by
        rcases List.mem_append.mp hz with q | q
        · exact zs_app (.inl rfl) okl z q
        · exact zs_app (.inr rfl) okl z q
      refine ⟨a', b', _, _, _, _, rfl, e3.trans (e4.trans e5), h5, e5 _ _ h4, fun z hz => ?_, okl', by simp only [List.length_map, List.length_append]; omega, by simp only [List.length_map, List.length_append]; omega⟩
      rcases List.mem_append.mp hz with q | q
      · exact ⟨(okf z q).1, Nat.le_succ_of_le (okf z q).2⟩
      · exact okl' z q
    · rintro σ' H3 ⟨a, b, fs, ls, x3, x4, rfl, e3, ha, hb, okf, okl, ll, lf⟩
      refine s_ret (v := .ref a) (ev_var rfl) fun H4 e4 => k a fs H4 (e3.trans e4) (e4 _ _ ha) okf ?_
      have e64 : fs.length + 1 = 64 := lf
      omega
end
end K16
namespace K16
open PySem L2 Evl Gr StX EnT ClX RdX OwX OwC OpX Ls DnX DdT ClK OwD LamX EXC
/-! ### _law_heard -/
abbrev sHd : Stmt := top 44
abbrev nHd : List Str := ["_law_ask", "error"]
theorem scHd : FnScope nHd ["_law_ask"] (defScope sHd) := ⟨rfl, rfl, rfl, by decide +kernel, rfl, by decide +kernel, by decide +kernel⟩
theorem takes_len {X : Cx} {W : WX} (t : Takes X W) : Takes X (fun c d σ H => σ.length = X.N.length → W c d σ H) := fun u s' ⟨a, B, sI, pins, σ, H, cls, d, e, I, nb, up, sky, na, os, ag, w⟩ => t u s' ⟨a, B, sI, pins, σ, H, cls, d, e, I, nb, up, sky, na, os, ag, w I.len⟩
/-- the wish of what _law_heard asks for: too many places are told -/
def HdE (cM : Addr) (Q : VK) : XK := fun cls d H1 => cls = .ref cM ∧ ∃ dd, d = some dd ∧ H1 dd = some (.xd [("most", .int 12), ("what", .str "places")]) ∧ ∀ H2, Ex H1 H2 → Q (.str "many") H2
def THd (cM : Addr) : (XK → Hp → VK → Prop) → Hp → VK → Prop := fun tl H Q => tl (HdE cM Q) H Q
structure HdK (K : PySem.W.Frag) (mg : Str → Option Value) (cM : Addr) : Prop where
  gM : mg "TooMany" = some (.ref cM)
  hit : PySem.W.exmOne K (.ref cM) (.ref cM) = some true
  xf : XfC K cM
  fm : PySem.W.findIn K (.ref cM) "most" = some none
  fw : PySem.W.findIn K (.ref cM) "what" = some none
def hD : PyData := .tuple [.str "places", .int 12]
theorem hD_low : Low 1 hD := low_tup (n := 0) fun d hd => by
  rcases List.mem_cons.mp hd with rfl | hd
  · exact low_str (by decide +kernel)
  · rw [List.mem_singleton.mp hd]
    exact low_int _
section
variable {K : PySem.W.Frag} {σ : L2.St} {H : Hp} {ta tb te : TE}
theorem ev_xf {a C dd : Addr} {fs : List (Str × V)} {v : V} {f : Str} (h : Ev te σ H (.ref a)) (hd : H dd = some (.xd fs)) (l : fs.lookup f = some v) : Ev (tXf a (.ref C) (some dd) C f te) σ H v := fun H1 e Q q =>
  h H1 e _ fun H2 e2 => ⟨rfl, rfl, dd, fs, v, rfl, (e.trans e2) _ _ hd, l, q H2 e2⟩
theorem ed_hd (h1 : Ev ta σ H (.str "places")) (h2 : Ev tb σ H (.int 12)) : EvD K (tTup (tCons ta (tCons tb tNil))) σ H hD := fun H1 e Q q =>
  eu_tup (vs := [.str "places", .int 12]) (ea_cons h1 (ea_cons h2 ea_nil)) (by show 2 ≤ 100000; decide) H1 e _ fun p H2 _ e2 h2 => q (.ref p) H2 e2 (.tup (st_of h2) (.cons (.str _) (.cons (.int _) .nil)))
end
theorem heard_gives {X : Cx} {q : Str} {g : Addr} {cdg : Value} {cM : Addr} (T : HdK X.K X.mg cM) (hr : Room 1 X.A) : GivesTo X nHd "_law_heard" (defScope sHd) g cdg (defBody sHd) "_law_ask" q (THd cM) := by
  intro f c' s H Q tl act hc h
  have hu : (cxOf C8.CX0 X.prog X.w X.K X.mg X.base nHd "_law_heard" (defScope sHd) g cdg X.A X.stack s H C8.E0).nox.A.units + 64 < cLine := by
    have := (hr.deeper (PyProof.Rows.envOfC "_law_heard" (defScope sHd) s.heap.objs.size g cdg)).units
    exact this
  refine ⟨_, pss_one (ps_try_as (X := (cxOf C8.CX0 X.prog X.w X.K X.mg X.base nHd "_law_heard" (defScope sHd) g cdg X.A X.stack s H C8.E0).nox) (c := .ref cM) (i := 1) (Wout := fun _ _ _ _ => False)
      (tb := fun W D σ H => ∃ Ech : XK, (∀ cls d σ' H', Ech cls d H' → σ'.length = 2 → W cls d σ' H') ∧ σ[0]? = some (some (.ref f)) ∧ H c' = some (CodeO c' q) ∧ tl Ech H D.rt)
      rfl rfl scHd.nd rfl rfl ⟨rfl, by decide, .inl T.gM⟩ L2.takes0 (fun W pn xe tk _ => ?_) (fun a oe cls d pn hz hf => pss_one (ps_ret (pe_ifExp (pt_cmpR (show OpR _ (compareOp .Eq) (rEqD X.K) from op_eqD (by exact hu)) (pe_tup (pa_cons (pe_xf (C := cM) T.xf T.fw hz hf (pv 1)) (pa_cons (pe_xf (C := cM) T.xf T.fm hz hf (pv 1)) pa_nil))) (pe_tup (pa_cons pe_str (pa_cons pe_int pa_nil))) (nomark _)) pe_str pe_str)))), ?_⟩
  · refine ⟨fun pins s' σ H D I h' => ?_⟩
    obtain ⟨Ech, hW, h1, h2, h3⟩ := h'
    exact (pss_one (ps_ret (act _ pn xe Ech _ _ (takes_len tk) (fun cls d σ' H2 e l => hW cls d σ' H2 e l)))).run pins s' σ H D I ⟨h1, h2, h3⟩
  · refine ⟨HdE cM Q, fun cls d σ' H1 hE hlen => ?_, rfl, hc, h⟩
    obtain ⟨rfl, dd, rfl, hd, kk⟩ := hE
    obtain ⟨x, y, rfl⟩ : ∃ x y, σ' = [x, y] := by
      match σ', hlen with
      | [x, y], _ => exact ⟨x, y, rfl⟩
    refine ⟨true, T.hit, fun _ a ha => ?_, fun z => absurd z (by decide)⟩
    refine s_ret (v := .str "many") (ev_if (b := true) (et_is (et_test (ev_eqD (K := X.K) (ed_hd (ev_xf (ev_var rfl) hd rfl) (ev_xf (ev_var rfl) hd rfl)) (ed_hd ev_c ev_c) (low_shaped hD_low (by decide)) (low_shaped hD_low (by decide)))) (by decide +kernel)) (fun _ => ev_c) fun z => absurd z (by decide)) fun H2 e2 => kk H2 e2
theorem many_hd {cM : Addr} {H : Hp} {Q : VK} (k : ∀ H2, Ex H H2 → Q (.str "many") H2) : Many cM H (HdE cM Q) := fun d H' _ e hd => ⟨rfl, d, rfl, hd, fun H2 e2 => k H2 (e.trans e2)⟩
/-- a def as it stands behind the top, its code object known -/
structure FunC (K : PySem.W.Frag) (x qual : Str) (st : Stmt) (f : Addr) (fd : FuncData) (c : Addr) : Prop where
  ex : ∃ (oc : Value) (od : Option Addr) (kV doc pm : Value) (an : Option Addr) (ct : Value) (osl : Array (Option Value)),
    fd = PySem.W.fnOf x qual (defArgs st) (defBody st) (defScope st) .none kV doc pm an (.ref c) ct ∧ K.lookup f = some ⟨oc, od, .func fd, osl⟩ ∧ PySem.W.codeIn K (.ref c) qual = true
  kp : PySem.W.keepIn K (.ref f) = true
section
variable {P : Program} {w : World} {K : PySem.W.Frag} {mg : Str → Option Value} {base : Heap}
theorem FunC.fn {x qual : Str} {st : Stmt} {f c : Addr} {fd : FuncData} (F : FunC K x qual st f fd c) : Fun K x qual st f fd := by
  obtain ⟨oc, od, kV, doc, pm, an, ct, osl, h⟩ := F.ex
  exact ⟨⟨oc, od, kV, doc, pm, an, .ref c, ct, osl, h⟩, F.kp⟩
theorem FunC.ok {x qual : Str} {st : Stmt} {f c : Addr} {fd : FuncData} {N ps : List Str} {k : Nat} {sp : Sp} (F : FunC K x qual st f fd c) (S : FnScope N ps (defScope st)) (len : ∀ vs H Q E, sp vs H Q E → vs.length = ps.length)
    (hbody : ∀ (A : Around) (outer : List Env) (s : Shared) (H : Hp) (vs : List V) (Q : VK) (E : XK), Room k (A.deeper (PyProof.Rows.envOfC qual (defScope st) s.heap.objs.size f (.ref c))) → sp vs H Q E →
      ∃ t, PSs (cxOf CX0 P w K mg base N qual (defScope st) f (.ref c) A outer s H E).nox (defBody st) t ∧ t { nx := fun _ H' => Q .non H', rt := Q } (L2.start N vs) H) : FnOk P w K mg base CX0 (k + 1) f fd ps sp := by
  obtain ⟨oc, od, kV, doc, pm, an, ct, osl, rfl, lk, hcd⟩ := F.ex
  refine fn_of lk hcd S len fun A outer s H vs Q E hr hsp => ?_
  obtain ⟨t, h, q⟩ := hbody A outer s H vs Q E hr hsp
  exact ⟨t, h.nox, q⟩
end
theorem pe_heardG {X : Cx} {T : List (Addr × Str)} {scope : Scope} {params : Arguments} {body : PySem.Expr} {c Pc fH cM : Addr} {fdH : FuncData} {t : XK → TE} {p lpos pos : PySem.Pos}
    (hg : Gl X "_law_heard") (gH : X.mg "_law_heard" = some (.ref fH)) (FH : Fun X.K "_law_heard" "_law_heard" sHd fH fdH) (bH : Binds X.K fdH ["_law_ask"] []) (HK : HdK X.K X.mg cM)
    (TB : TabB X.base X.mg c Pc) (hcode : X.env.code = .ref c) (hT : (Pc, X.env.qual ++ "<lambda>") ∈ T) (hu : ∀ p ∈ T, p.1 = Pc → p.2 = X.env.qual ++ "<lambda>") (hr : Room 8 X.A) (L : LamS X.env.scope scope) (hdef : defaultsOf params X.env = ([], []))
    (hbind : ∀ (q : Str) (cl : List (Str × Addr)) (pm cv ctv : Value), bindArgs (PySem.W.kla_fn "<lambda>" q params body scope cl pm cv ctv) ⟨[], []⟩ = pure [])
    (hbody : ∀ (A : Around) (outer : List Env) (s : Shared) (H : Hp) (E : XK) (f c' : Addr), Room 6 (A.deeper (lamEnv X scope s.heap.objs.size f c')) → PE (lamCx X A outer s H E scope f c') body (t E)) :
    PE X (.Call (.Name "_law_heard" p) [.Lambda params body scope lpos] [] pos) (tLam T (THd cM) t) := by
  obtain ⟨ocH, odH, kVH, docH, pmH, anH, cdH, ctH, oslH, rfl, lkH, hcH⟩ := FH.ex
  exact pe_lamcall (T := T) (TT := THd cM) (k := 6) (Ng := nHd) (a := "_law_ask") hg gH FH.kp lkH hcH bH scHd rfl (.inl rfl) (heard_gives HK (hr.mono (by decide))) TB hcode hT hu hr L hdef hbind hbody
end K16
namespace K16
open PySem L2 Evl Gr StX EnT ClX RdX OwX OwC OpX Ls DnX OwU ClK
/-! ### rules as they are read -/
def EvR (C : Addr) (te : TE) (σ : L2.St) (H : Hp) (L : List Pl) : Prop := ∀ H1, Ex H H1 → ∀ Q : VK, (∀ o H2, Ex H1 H2 → RuAt H2 C o L → Q (.ref o) H2) → te σ H1 Q
theorem RuAt.ins {H : Hp} {C o : Addr} {L : List Pl} (h : RuAt H C o L) : ∃ dx fs, H o = some (.ins C dx fs) := by
  obtain ⟨dx, q, h1, _⟩ := h
  exact ⟨dx, _, h1⟩
theorem RuAt.keep {p l : Addr} {cells : List Int} {m : Nat} {H H' : Hp} {C o : Addr} {L : List Pl} (hP : PenAt H p l cells m) (kp : Keep p H H') (h : RuAt H C o L) : RuAt H' C o L := by
  obtain ⟨dx, q, h1, xs, h2, row⟩ := h
  have h1p : o ≠ p := fun z => by
    obtain ⟨_, _, q, _⟩ := hP
    rw [z, q] at h1
    cases h1
  exact ⟨dx, q, kp _ _ h1 h1p, xs, tup_keep hP kp h2, plt_keepP hP kp row⟩
def lD (L : List Pl) : PyData := .list (L.map pD)
theorem lD_eqv (L N : List Pl) : PyData.eqv (lD L) (lD N) = decide (L = N) := by
  show PyData.eqvAll (L.map pD) (N.map pD) = _
  exact eqvAll_map pD pD_eqv L N
theorem pD_low (m : Pl) : Low 1 (pD m) := by
  obtain ⟨a, b⟩ := m
  refine low_tup (n := 0) fun d hd => ?_
  rcases List.mem_cons.mp hd with rfl | hd
  · exact low_int _
  · rw [List.mem_singleton.mp hd]
    cases b
    · exact low_non
    · exact low_int _
theorem lD_low (L : List Pl) : Low 2 (lD L) := low_list (n := 1) fun d hd => by
  obtain ⟨m, _, rfl⟩ := List.mem_map.mp hd
  exact pD_low m
theorem lt_dp {K : PySem.W.Frag} {H : Hp} {a : Addr} {L : List Pl} (h : LT H a L) : Dp K H (.ref a) (lD L) := by
  obtain ⟨xs, h1, h2⟩ := h
  exact .lst (sq_of h1) (plt_dp h2)
section
variable {P : Program} {w : World} {K : PySem.W.Frag} {mg : Str → Option Value} {base : Heap} {CL C D : Addr} {σ : L2.St} {H : Hp} {ta tb te : TE} {t : TA} {L N : List Pl} {o : Addr}
theorem er_var (h : Ev ta σ H (.ref o)) (hO : RuAt H C o L) : EvR C ta σ H L := fun H1 e Q q => h H1 e _ fun H2 e2 => q o H2 e2 (hO.mono (e.trans e2))
theorem EvR.mono {H' : Hp} (h : EvR C te σ H L) (e : Ex H H') : EvR C te σ H' L := fun H1 e1 => h H1 (e.trans e1)
theorem er_total {m : Nat} {E : XK} (h : EvA t σ H [.int (m : Int)]) (m8 : m ≤ 8) : EvR C (tMakeR C (spTo C) E t) σ H (least (totalM m)) := fun H1 e Q q => h H1 e _ fun H2 e2 x dx hx hd hn =>
  ⟨x, dx, m, rfl, upd_same, m8, fun H3 e3 q' mt => ⟨rfl, by
    have i1 : H3 x = some (.ins C dx []) := e3 _ _ upd_same
    exact q x _ (Ex.mut (e2.trans (((Ex.new hd).trans (Ex.new (by rw [upd_ne hn.symm]; exact hx))).trans e3)) (fresh_back e2 hx)) (ru_new i1 mt)⟩⟩
theorem er_burst {m a : Nat} {E : XK} (h : EvA t σ H [.int (m : Int), .int (a : Int)]) (m1 : 1 ≤ m) (m8 : m ≤ 8) (a1 : 1 ≤ a) (a8 : a ≤ 8) (ma : m + a ≤ 12) : EvR C (tMakeR C (spBu C) E t) σ H (least (burstM m a)) := fun H1 e Q q => h H1 e _ fun H2 e2 x dx hx hd hn =>
  ⟨x, dx, m, a, rfl, upd_same, m1, m8, a1, a8, ma, fun H3 e3 q' mt => ⟨rfl, by
    have i1 : H3 x = some (.ins C dx []) := e3 _ _ upd_same
    exact q x _ (Ex.mut (e2.trans (((Ex.new hd).trans (Ex.new (by rw [upd_ne hn.symm]; exact hx))).trans e3)) (fresh_back e2 hx)) (ru_new i1 mt)⟩⟩
theorem ev_letsR {z : Str} {E : XK} (h : EvR C ta σ H L) (hz : Ev tb σ H (.str z)) (ok : OkM L) (l1 : 1 ≤ L.length) (lz : LsOk z) (z400 : z.length ≤ 400) : Ev (tMeth C "lets" (spLe C) [] E ta (tCons tb tNil)) σ H (.bl (letsF L (bits z))) := fun H1 e Q q =>
  h H1 e _ fun o H2 e2 ru => by
    obtain ⟨dx, r, h1, mt⟩ := id ru
    exact ⟨o, dx, _, rfl, h1, rfl, hz H2 (e.trans e2) _ fun H3 e3 => ⟨o, L, z, rfl, ru.mono e3, ok, l1, lz, z400, fun H4 e4 => q H4 ((e2.trans e3).trans e4)⟩⟩
theorem ed_plR (G : LsC K C) (h : EvR C ta σ H L) : EvD K (tFld K ta "places") σ H (plD L) := fun H1 e Q q =>
  h H1 e _ fun o H2 e2 ru => by
    obtain ⟨dx, r, h1, mt⟩ := id ru
    exact ⟨o, C, dx, _, _, rfl, h1, G.cls, G.pl, rfl, q _ H2 e2 (mt_dp mt)⟩
theorem ev_eqR {X : Cx} {E : XK} (nf : PySem.W.notFirst X.K C (.ref D) = true) (k : LsK X.K CL C) (k' : LsK X.K CL D) (ha : EvR C ta σ H L) (hb : EvR D tb σ H N) : Ev (tOp (rEqO X C (spEqR X.K CL) E) ta tb) σ H (.bl (decide (L = N))) := fun H1 e Q q =>
  ha H1 e _ fun o H2 e2 ru => hb H2 (e.trans e2) _ fun u H3 e3 ru' => ⟨o, u, D, rfl, rfl, .inr (ru.mono e3).ins, .inr ru'.ins, nf, o, C, .ref u, L, rfl, k, ru.mono e3, .inl ⟨u, D, N, rfl, k', ru', fun H4 e4 => q H4 ((e2.trans e3).trans e4)⟩⟩
end
end K16
namespace K16
open PySem L2 Evl Gr StX EnT ClX RdX OwX OwC OpX Ls DnX DdT ClK OwD
/-! ### _law_pair -/
/-- a rule of any of the classes, with places whose least are its own -/
def PickR (G : Addr → Prop) (H : Hp) (x : V) : Prop := ∃ (o C : Addr) (M : List Pl), x = .ref o ∧ G C ∧ RuAt H C o (least M) ∧ OkM M ∧ 1 ≤ M.length ∧ M.length ≤ 4
theorem PickR.mono {G : Addr → Prop} {H H' : Hp} {x : V} (e : Ex H H') (h : PickR G H x) : PickR G H' x := by
  obtain ⟨o, C, M, h1, h2, h3, h4⟩ := h
  exact ⟨o, C, M, h1, h2, h3.mono e, h4⟩
theorem PickR.keep {G : Addr → Prop} {p l : Addr} {cells : List Int} {m : Nat} {H H' : Hp} {x : V} (hP : PenAt H p l cells m) (kp : Keep p H H') (h : PickR G H x) : PickR G H' x := by
  obtain ⟨o, C, M, h1, h2, h3, h4⟩ := h
  exact ⟨o, C, M, h1, h2, h3.keep hP kp, h4⟩
def EvPk (G : Addr → Prop) (te : TE) (σ : L2.St) (H : Hp) : Prop := ∀ H1, Ex H H1 → ∀ Q : VK, (∀ x H2, Ex H1 H2 → PickR G H2 x → Q x H2) → te σ H1 Q
def EvPks (G : Addr → Prop) (n : Nat) (t : TA) (σ : L2.St) (H : Hp) : Prop := ∀ H1, Ex H H1 → ∀ Q : List V → Hp → Prop, (∀ xs H2, Ex H1 H2 → xs.length = n → (∀ x ∈ xs, PickR G H2 x) → Q xs H2) → t σ H1 Q
section
variable {G : Addr → Prop} {σ : L2.St} {H : Hp} {te : TE} {t : TA} {n : Nat} {C : Addr} {M : List Pl}
theorem eps_nil : EvPks G 0 tNil σ H := fun H1 e Q q => q [] H1 (Ex.refl H1) rfl fun x hx => (by cases hx)
theorem eps_cons (h : EvPk G te σ H) (hr : EvPks G n t σ H) : EvPks G (n + 1) (tCons te t) σ H := fun H1 e Q q =>
  h H1 e _ fun x H2 e2 px => hr H2 (e.trans e2) _ fun xs H3 e3 l hx => q (x :: xs) H3 (e2.trans e3) (by rw [List.length_cons, l]) fun y hy => by
    rcases List.mem_cons.mp hy with rfl | hy
    · exact px.mono e3
    · exact hx y hy
theorem epk_of (g : G C) (h : EvR C te σ H (least M)) (ok : OkM M) (l1 : 1 ≤ M.length) (l4 : M.length ≤ 4) : EvPk G te σ H := fun H1 e Q q => h H1 e _ fun o H2 e2 ru => q _ H2 e2 ⟨o, C, M, rfl, g, ru, ok, l1, l4⟩
theorem total_len {m : Nat} : (totalM m).length = m + 1 := by unfold totalM; rw [List.length_map, List.length_range]
theorem epk_T {m : Nat} {E : XK} (g : G C) (h : EvA t σ H [.int (m : Int)]) (m3 : m ≤ 3) : EvPk G (tMakeR C (spTo C) E t) σ H := epk_of g (er_total h (by omega)) (total_ok m) (by rw [total_len]; omega) (by rw [total_len]; omega)
theorem epk_B {m a : Nat} {E : XK} (g : G C) (h : EvA t σ H [.int (m : Int), .int (a : Int)]) (m1 : 1 ≤ m) (a1 : 1 ≤ a) (ma : m + a ≤ 4) : EvPk G (tMakeR C (spBu C) E t) σ H := epk_of g (er_burst h m1 (by omega) a1 (by omega) (by omega)) (burst_ok m1 a1) (by rw [burst_len a1]; omega) (by rw [burst_len a1]; omega)
end
section
variable {P : Program} {w : World} {K : PySem.W.Frag} {mg : Str → Option Value} {base : Heap}
abbrev nPr : List Str := ["_law_pen_here", "_law_way", "_law_made", "_law_places_so"]
def spPr (G : Addr → Prop) : Sp := fun vs H Q _ => ∃ (p l : Addr) (cells : List Int) (m : Nat), vs = [.ref p] ∧ PenAt H p l cells m ∧ m + 17 ≤ 50000 ∧ cells.length ≤ 63 ∧
  ∀ t o q C M H', H' t = some (.tup [.ref o, .ref q]) → q ≠ p → G C → RuAt H' C o (least M) → LT H' q M → OkM M → 1 ≤ M.length → M.length ≤ 4 → PenAt H' p l cells (m + 17) → Keep p H H' → Q (.ref t) H'
theorem scPr : FnScope nPr ["_law_pen_here"] (defScope (top 47)) := ⟨rfl, rfl, rfl, by decide +kernel, rfl, by decide +kernel, by decide +kernel⟩
theorem ok_Pr {G : Addr → Prop} {CM CB CT fB fT f : Addr} {fd : FuncData} (F : Fun K "_law_pair" "_law_pair" (top 47) f fd) (T : Glb mg) (gl : ∀ C, G C → LsC K C) (GM : G CM) (GB : G CB) (GT : G CT)
    (MB : Mk K CB fB) (FB : FnR P w K mg base CX0 4 fB (spBu CB)) (gB : mg "Burst" = some (.ref CB)) (MT : Mk K CT fT) (FT : FnR P w K mg base CX0 4 fT (spTo CT)) (gT : mg "Total" = some (.ref CT))
    (GD : Gfn P w K mg base 1 "_law_draw" ["_law_pen_here", "_law_top_so"] spDraw) (GP : Gfn P w K mg base 2 "_law_pick" ["_law_pen_here", "_law_some"] spPick) (GPl : Gfn P w K mg base 3 "_law_places" ["_law_pen_here", "_law_most"] spPl) (GO : Gfn P w K mg base 6 "_law_of_pairs" ["_law_places_so"] (spOp CM)) :
    FnOk P w K mg base CX0 7 f fd ["_law_pen_here"] (spPr G) := by
  obtain ⟨f1, fd1, G1, k1, b1, g1⟩ := GD
  obtain ⟨f2, fd2, G2, k2, b2, g2⟩ := GP
  obtain ⟨f3, fd3, G3, k3, b3, g3⟩ := GPl
  obtain ⟨f4, fd4, G4, k4, b4, g4⟩ := GO
  refine F.ok scPr (fun vs H Q E h => ?_) (fun cdv A outer s H vs Q E hr h => ?_)
  · obtain ⟨p, l, cells, m, rfl, _⟩ := h
    rfl
  · obtain ⟨p, l, cells, m, rfl, hP, hm, h63, k⟩ := h
    have r1 := hr.mono (show 1 ≤ 6 by decide)
    have r2 := hr.mono (show 2 ≤ 6 by decide)
    have r3 := hr.mono (show 3 ≤ 6 by decide)
    have r5 := hr.mono (show 5 ≤ 6 by decide)
    refine ⟨_, (pss_cons (ps_set (i := 1) scPr.nd rfl (.inl rfl) (pe_call G1 r1 (by rfl) g1 k1 b1 .nil pass0 (pa_cons (pv 0) (pa_cons pe_int pa_nil))))
      (pss_cons (ps_if (pt_cmpR op_eq (pv 1) pe_int (nomark _))
        (pss_cons (ps_set (i := 2) scPr.nd rfl (.inl rfl) (pe_call G2 r2 (by rfl) g2 k2 b2 .nil pass0 (pa_cons (pv 0) (pa_cons (pe_lst (pa_cons (pe_makeR (E := E0) MT FT r5 (by rfl) gT pass0 (pa_cons pe_int pa_nil)) (pa_cons (pe_makeR (E := E0) MT FT r5 (by rfl) gT pass0 (pa_cons pe_int pa_nil)) (pa_cons (pe_makeR (E := E0) MB FB r5 (by rfl) gB pass0 (pa_cons pe_int (pa_cons pe_int pa_nil))) (pa_cons (pe_makeR (E := E0) MB FB r5 (by rfl) gB pass0 (pa_cons pe_int (pa_cons pe_int pa_nil))) (pa_cons (pe_makeR (E := E0) MB FB r5 (by rfl) gB pass0 (pa_cons pe_int (pa_cons pe_int pa_nil))) (pa_cons (pe_makeR (E := E0) MB FB r5 (by rfl) gB pass0 (pa_cons pe_int (pa_cons pe_int pa_nil))) pa_nil))))))) pa_nil))))
      (pss_one (ps_ret (pe_tup (pa_cons (pv 2) (pa_cons (pe_callTy call_list_of (by rfl) T.list (by decide +kernel) (pa_cons (pe_fld (pv 2) rfl) pa_nil)) pa_nil)))))) pss_nil)
      (pss_cons (ps_set (i := 3) scPr.nd rfl (.inl rfl) (pe_call G3 r3 (by rfl) g3 k3 b3 .nil pass0 (pa_cons (pv 0) (pa_cons pe_int pa_nil))))
      (pss_one (ps_ret (pe_tup (pa_cons (pe_call G4 hr (by rfl) g4 k4 b4 .nil pass0 (pa_cons (pv 3) pa_nil)) (pa_cons (pv 3) pa_nil)))))))), ?_⟩
    refine q_asgR ?_
    refine w_draw (i := 0) (σ := [some (.ref p), none, none, none]) (many := 4) rfl (fun H1 _ => ev_c) (by decide) (by decide) h63 m H (Keep.of_ex (Ex.refl H)) hP (by omega) _ fun v H1 hv hP1 k1' => ?_
    obtain ⟨d, rfl, hd⟩ := hv
    show tSeq _ _ _ [some (.ref p), some (.int (d : Int)), none, none] H1
    refine q_when (b := decide (V.int (d : Int) = .int 0)) (et_test (ev_op (ev_var rfl) ev_c (rv_eq rfl))) (fun _ H2 e2 => ?_) fun _ H2 e2 => ?_
    · have hP2 := hP1.mono e2 (Nat.le_refl _)
      have mk : EvPks G 6 (tCons (tMakeR CT (spTo CT) E0 (tCons (tC (.int (1 : Nat))) tNil)) (tCons (tMakeR CT (spTo CT) E0 (tCons (tC (.int (2 : Nat))) tNil)) (tCons (tMakeR CB (spBu CB) E0 (tCons (tC (.int (1 : Nat))) (tCons (tC (.int (1 : Nat))) tNil))) (tCons (tMakeR CB (spBu CB) E0 (tCons (tC (.int (1 : Nat))) (tCons (tC (.int (2 : Nat))) tNil))) (tCons (tMakeR CB (spBu CB) E0 (tCons (tC (.int (2 : Nat))) (tCons (tC (.int (1 : Nat))) tNil))) (tCons (tMakeR CB (spBu CB) E0 (tCons (tC (.int (2 : Nat))) (tCons (tC (.int (2 : Nat))) tNil))) tNil)))))) [some (.ref p), some (.int (d : Int)), none, none] H2 :=
        eps_cons (epk_T GT (ea_cons ev_c ea_nil) (by decide)) (eps_cons (epk_T GT (ea_cons ev_c ea_nil) (by decide)) (eps_cons (epk_B GB (ea_cons ev_c (ea_cons ev_c ea_nil)) (by decide) (by decide) (by decide)) (eps_cons (epk_B GB (ea_cons ev_c (ea_cons ev_c ea_nil)) (by decide) (by decide) (by decide)) (eps_cons (epk_B GB (ea_cons ev_c (ea_cons ev_c ea_nil)) (by decide) (by decide) (by decide)) (eps_cons (epk_B GB (ea_cons ev_c (ea_cons ev_c ea_nil)) (by decide) (by decide) (by decide)) eps_nil)))))
      refine q_asgR (call_i (cons_i ⟨_, rfl, cons_i (lst_i (mk H2 (Ex.refl H2) _ fun xs H3 e3 lx px => ⟨sz_of (by omega), fun a ha => ?_⟩))⟩))
      have e4 := Ex.new (o := .lst xs) ha
      have hP3 := hP2.mono e3 (Nat.le_refl _)
      refine ⟨p, l, a, cells, m + 1, xs, rfl, hP3.mono e4 (Nat.le_refl _), by omega, h63, upd_same, (pen_ne hP3 ha).1, by omega, by omega, fun j x H5 hx hP5 k5 => ?_⟩
      obtain ⟨o, C, M, rfl, gC, ru, ok, l1, l4⟩ := ((px x (List.mem_of_getElem? hx)).mono e4).keep (hP3.mono e4 (Nat.le_refl _)) k5
      obtain ⟨dx, q, h1, ys, h2, row⟩ := id ru
      show tRet _ _ [some (.ref p), some (.int (d : Int)), some (.ref o), none] H5
      refine s_retR (tup_i (cons_i ⟨_, rfl, cons_i (el_ofT (K := K) (xs := ys) (fun H6 e6 Q6 q6 => ev_fld (ev_var (i := 2) rfl) h1 (gl C gC).cls (gl C gC).pl rfl H6 e6 _ fun H7 e7 => q6 q H7 e7 (st_of ((e6.trans e7) _ _ h2))) H5 (Ex.refl H5) _ fun b H6 hb e6 h6 => ⟨by show 2 ≤ sizeLine; decide, fun t ht => ?_⟩)⟩))
      have e7 := Ex.new (o := .tup [V.ref o, .ref b]) ht
      have ru7 := ru.mono (e6.trans e7)
      refine k t o b C (least M) _ upd_same (pen_ne hP5 hb).1 gC (by rw [least_least ok l1]; exact ru7) ⟨ys, e7 _ _ h6, row.mono (e6.trans e7)⟩ (least_ok ok l1) (least_pos ok l1) (Nat.le_trans (least_few ok l1) l4) ((hP5.mono (e6.trans e7) (Nat.le_refl _)).le (by omega)) ?_
      exact k1'.trans ((Keep.of_ex (e2.trans (e3.trans e4))).trans (k5.trans (Keep.of_ex (e6.trans e7))))
    · have hP2 := hP1.mono e2 (Nat.le_refl _)
      refine q_asgR (call_i (cons_i ⟨_, rfl, cons_i (c_i ?_)⟩))
      refine ⟨p, l, cells, m + 1, 3, rfl, hP2, by omega, h63, by decide, by decide, fun q M H3 hq mt ok l1 l3 hP3 k3 => ?_⟩
      have qp := (pen_ne hP2 hq).1
      show tRet _ _ [some (.ref p), some (.int (d : Int)), none, some (.ref q)] H3
      refine s_retR (tup_i (cons_i (call_i (cons_i ⟨_, rfl, q, M, rfl, mt, ok, l1, by omega, fun o H4 e4 ru => cons_i ⟨_, rfl, by show 2 ≤ sizeLine; decide, fun t ht => ?_⟩⟩))))
      have e5 := Ex.new (o := .tup [V.ref o, .ref q]) ht
      exact k t o q CM M _ upd_same qp GM (ru.mono e5) (mt.mono (e4.trans e5)) ok l1 (by omega) (hP3.mono (e4.trans e5) (by omega)) (k1'.trans ((Keep.of_ex e2).trans (k3.trans (Keep.of_ex (e4.trans e5)))))
end
end K16
namespace OwU
open PySem PySem.Spec PyProof.Rows L2 StX OpX
section
variable {X : Cx} {CX : CXT} {n : Nat} {C g : Addr} {sp : Sp} {E : XK}
/-- x != y: x of the class at C, y a text -/
def rNeS (X : Cx) (C : Addr) (sp : Sp) (E : XK) : R2 := fun x y H Q => ∃ a z, x = .ref a ∧ y = .str z ∧ InsC X H a C ∧ sp [.ref a, .str z] H (fun v H' => ∃ c, v = .bl c ∧ Q (.bl (!c)) H') E
theorem op_neS (h : Has X.K C g "__eq__") (hn : PySem.W.subIn X.K (.type "str") (.ref C) = some false) (hne : PySem.W.findIn X.K (.ref C) "__ne__" = some (some (.builtin "object.__ne__"))) (hm : PySem.W.mroIn X.K C (.type "object") = some true) (F : FnR X.prog X.w X.K X.mg X.base CX n g sp)
    (hr : Room (n + 1) X.A) (hx : Passes CX X E) : OpR X (compareOp .NotEq) (rNeS X C sp E) := fun pins s σ H x y v u Q I rx ry ⟨a, z, ex, ey, ha, q⟩ => by
  subst ex ey
  cases (show v = Value.ref a from rx)
  obtain ⟨t, et⟩ := (show ∃ t, u = Value.str z t from ry)
  subst et
  obtain ⟨ox, od, J, _⟩ := insC_at I ha
  refine ne_what hr.units0 hr.in1.units0 I.kIn J (PySem.W.Looks.of_pure rfl) rfl hn hne hm h.at_ h.fn (wpAny_mono (wpAny_call (SlX.run_at (us := [.ref a, .str z t]) (ws := [.ref a, .str z]) F hr.in1 I.env0.in1 hx I (.cons rfl (.cons ⟨t, rfl⟩ .nil)) q)) (fun r s' back => ?_) fun _ _ z => z)
  obtain ⟨_, H', I', rr, c, ec, qc⟩ := back
  subst ec
  cases (show r = Value.bool c from rr)
  exact ⟨c, rfl, .bl (!c), H', I', rfl, qc⟩
end
end OwU
namespace K16
open PySem L2 Evl Gr StX EnT ClX RdX OwX OwC OpX Ls DnX DdT ClK OwD LamX EXC OwU
/-! ### what the law asks -/
/-- all that the law asks of a class of rules -/
structure JuC (P : Program) (w : World) (K : PySem.W.Frag) (mg : Str → Option Value) (base : Heap) (CL fA fO fE fW : Addr) (edE edW : FuncData) (C : Addr) : Prop where
  k : LsK K CL C
  opA : OpAt K C fA .BitAnd
  opO : OpAt K C fO .BitOr
  hL : Meth K C "lets" fE
  lets : FnOk P w K mg base CX0 3 fE edE ["self", "losses"] (spLe C)
  hW : Meth K C "within" fW
theorem pen_ext {H H' : Hp} {p l : Addr} {cells : List Int} {m : Nat} (h : PenAt H p l cells m) (e : ExtN H H') : PenAt H' p l cells m := by
  obtain ⟨k, r, h1, h2, h3⟩ := h
  exact ⟨k, r, e _ _ h1 (fun ps z => by cases z), e _ _ h2 (fun ps z => by cases z), h3⟩
theorem tabs_keep {T : List (Addr × Str)} {H H' : Hp} {p l : Addr} {cells : List Int} {m : Nat} (h : Tabs T H) (hP : PenAt H p l cells m) (k : Keep p H H') : Tabs T H' := fun q hq => by
  obtain ⟨_, _, hp, _⟩ := hP
  obtain ⟨ps, h1, h2, h3⟩ := h q hq
  refine ⟨ps, k _ _ h1 (fun z => by rw [z, hp] at h1; cases h1), h2, fun pos cv hc => ?_⟩
  obtain ⟨c, e1, e2⟩ := h3 pos cv hc
  exact ⟨c, e1, k _ _ e2 (fun z => by rw [z, hp] at e2; unfold CodeO at e2; cases e2)⟩
theorem PlT.extN {H H' : Hp} {xs : List V} {M : List Pl} (e : ExtN H H') (h : PlT H xs M) : PlT H' xs M := ⟨h.1, fun i x m hx hm => by
  obtain ⟨b, eb, hb⟩ := h.2 i x m hx hm
  exact ⟨b, eb, e _ _ hb fun ps z => by cases z⟩⟩
theorem LT.extN {H H' : Hp} {a : Addr} {M : List Pl} (e : ExtN H H') (h : LT H a M) : LT H' a M := by
  obtain ⟨xs, h1, h2⟩ := h
  exact ⟨xs, e _ _ h1 (fun ps z => by cases z), h2.extN e⟩
theorem RuAt.extN {H H' : Hp} {C o : Addr} {L : List Pl} (e : ExtN H H') (h : RuAt H C o L) : RuAt H' C o L := by
  obtain ⟨dx, q, h1, xs, h2, row⟩ := h
  exact ⟨dx, q, e _ _ h1 (fun ps z => by cases z), xs, e _ _ h2 (fun ps z => by cases z), row.extN e⟩
section
variable {K : PySem.W.Frag} {CL CM : Addr} {H H' : Hp} {v : V} {L : List Pl}
theorem ToldR.extN (e : ExtN H H') (h : ToldR K CL CM H v L) : ToldR K CL CM H' v L := by
  rcases h with h | ⟨h1, o, h2, h3⟩
  · exact .inl h
  · exact .inr ⟨h1, o, h2, h3.extN e⟩
theorem ToldR.mono (e : Ex H H') (h : ToldR K CL CM H v L) : ToldR K CL CM H' v L := h.extN (ExtN.of e)
end
section
variable {X : Cx} {CL CM cT fg C D o u : Addr} {T : List (Addr × Str)} {σ : L2.St} {H : Hp} {ta tb te : TE} {L M : List Pl} {Q : VK} {e : Bool} {op : Operator} {i j : Nat}
/-- one op other inside a lambda: the rule, or the refusal -/
theorem lam_bin (hi : σ[i]? = some (some (.ref o))) (hj : σ[j]? = some (some (.ref u))) (GC : LsK X.K CL C) (GD : LsK X.K CL D) (oC : OpAt X.K C fg op) (oD : OpAt X.K D fg op) (off : Off X.K C D) (hO : RuAt H C o L) (hU : RuAt H D u M)
    (okL : OkM L) (okM : OkM M) (l1 : 1 ≤ L.length) (m1 : 1 ≤ M.length) (l8 : L.length ≤ 8) (m8 : M.length ≤ 8) (hT : Tabs T H) (k : ∀ v H2, ExtN H H2 → Tabs T H2 → ToldR X.K CL CM H2 v (least (joinP e L M)) → Q v H2) :
    tLam T (THd cT) (fun E => tOp (rS2 X fg op (spBn X.K CL CM cT e) E) (tVar i) (tVar j)) σ H Q := ⟨hT, fun H1 x1 T1 =>
  ⟨_, hi, _, hj, o, u, C, D, rfl, rfl, .inr (hO.extN x1).ins, .inr (hU.extN x1).ins, oC, oD, off, o, u, C, D, L, M, rfl, GC, GD, hO.extN x1, hU.extN x1, okL, okM, l1, m1, l8, m8,
    fun hb => many_hd fun H4 e4 => k _ H4 (x1.trans (.of e4)) (T1.ext e4) (.inl ⟨hb, rfl⟩), fun hb x H4 e4 ru => k _ H4 (x1.trans (.of e4)) (T1.ext e4) (.inr ⟨hb, x, rfl, ru⟩)⟩⟩
/-- one op other, of few places -/
theorem er_bin {E : XK} {N : List Pl} (GC : LsK X.K CL C) (GD : LsK X.K CL D) (oC : OpAt X.K C fg op) (oD : OpAt X.K D fg op) (off : Off X.K C D) (ha : EvR C ta σ H L) (hb : EvR D tb σ H M) (okL : OkM L) (okM : OkM M) (l1 : 1 ≤ L.length) (m1 : 1 ≤ M.length) (l8 : L.length ≤ 8) (m8 : M.length ≤ 8)
    (hN : least (joinP e L M) = N) (n12 : N.length ≤ 12) : EvR CM (tOp (rS2 X fg op (spBn X.K CL CM cT e) E) ta tb) σ H N := fun H1 e1 Q q =>
  ha H1 e1 _ fun o H2 e2 ru => hb H2 (e1.trans e2) _ fun u H3 e3 ru' => ⟨o, u, C, D, rfl, rfl, .inr (ru.mono e3).ins, .inr ru'.ins, oC, oD, off, o, u, C, D, L, M, rfl, GC, GD, ru.mono e3, ru', okL, okM, l1, m1, l8, m8,
    fun z => absurd z (by rw [hN]; omega), fun _ x H4 e4 r => q x H4 ((e2.trans e3).trans e4) (by rw [← hN]; exact r)⟩
/-- _law_joined(..): its places, and whether the one lets a slot more -/
def tJo (K : PySem.W.Frag) (i j : Nat) (e : Bool) (n : Int) : TE := tOp (rIxT K) (tCall spJd [] E0 (tCons (tVar i) (tCons (tVar j) (tCons (tC (.bl e)) tNil)))) (tC (.int n))
theorem jo_0 {K : PySem.W.Frag} {a b : Addr} (hi : σ[i]? = some (some (.ref a))) (hj : σ[j]? = some (some (.ref b))) (hL : LT H a L) (hM : LT H b M) (okL : OkM L) (okM : OkM M) (l1 : 1 ≤ L.length) (m1 : 1 ≤ M.length) (l8 : L.length ≤ 8) (m8 : M.length ≤ 8)
    (H1 : Hp) (e1 : Ex H H1) (Q : VK) (q : ∀ r H2, Ex H1 H2 → LT H2 r (least (joinP e L M)) → Q (.ref r) H2) : tJo K i j e 0 σ H1 Q :=
  ⟨_, hi, _, hj, a, b, L, M, e, rfl, hL.mono e1, hM.mono e1, okL, okM, l1, m1, l8, m8, fun t r mo H2 e2 ht lt _ => rv_ixT (K := K) (st_of ht) (atI_nat (j := 0) rfl) H2 (Ex.refl H2) _ fun H3 e3 => q r H3 (e2.trans e3) (lt.mono e3)⟩
theorem jo_1 {K : PySem.W.Frag} {a b : Addr} {pb : Bool} (hp : pb = true ↔ Part L M) (hi : σ[i]? = some (some (.ref a))) (hj : σ[j]? = some (some (.ref b))) (hL : LT H a L) (hM : LT H b M) (okL : OkM L) (okM : OkM M) (l1 : 1 ≤ L.length) (m1 : 1 ≤ M.length) (l8 : L.length ≤ 8) (m8 : M.length ≤ 8) :
    Ev (tJo K i j false 1) σ H (.bl (!pb)) := fun H1 e1 Q q =>
  ⟨_, hi, _, hj, a, b, L, M, false, rfl, hL.mono e1, hM.mono e1, okL, okM, l1, m1, l8, m8, fun t r mo H2 e2 ht lt hm => by
    have : mo = !pb := by
      have h := (hm rfl).trans hp.symm
      cases mo <;> cases pb <;> simp at h ⊢
    exact rv_ixT (K := K) (st_of ht) (atI_nat (j := 1) rfl) H2 (Ex.refl H2) _ fun H3 e3 => by rw [this]; exact q H3 (e2.trans e3)⟩
theorem ev_any {G : Addr → Prop} {t : Addr → TE} {v : V} (g : G C) (h : Ev (t C) σ H v) : Ev (fun σ H Q => ∃ C, G C ∧ t C σ H Q) σ H v := fun H1 e Q q => ⟨C, g, h H1 e Q q⟩
theorem ev_within {K : PySem.W.Frag} {pb : Bool} {E : XK} (hp : pb = true ↔ Part L M) (GC : LsK K CL C) (GD : LsK K CL D) (ha : Ev ta σ H (.ref o)) (hO : RuAt H C o L) (hb : Ev tb σ H (.ref u)) (hU : RuAt H D u M) (okL : OkM L) (okM : OkM M) (l1 : 1 ≤ L.length) (m1 : 1 ≤ M.length) (l8 : L.length ≤ 12) (m8 : M.length ≤ 12) :
    Ev (tMeth C "within" (spWn K CL) [] E ta (tCons tb tNil)) σ H (.bl pb) := fun H1 e1 Q q =>
  ha H1 e1 _ fun H2 e2 => by
    obtain ⟨dx, r, h1, mt⟩ := hO.mono (e1.trans e2)
    refine ⟨o, dx, _, rfl, h1, rfl, hb H2 (e1.trans e2) _ fun H3 e3 => ?_⟩
    have E3 := e1.trans (e2.trans e3)
    exact ⟨o, u, C, D, L, M, rfl, GC, GD, hO.mono E3, hU.mono E3, okL, okM, l1, m1, l8, m8, fun r hr H4 e4 => by
      have : r = pb := by
        have h := hr.trans hp.symm
        cases r <;> cases pb <;> simp at h ⊢
      rw [this]
      exact q H4 ((e2.trans e3).trans e4)⟩
theorem part_pb (L M : List Pl) : ∃ pb : Bool, (pb = true ↔ Part L M) := by
  by_cases h : Part L M
  · exact ⟨true, by simp [h]⟩
  · exact ⟨false, by simp [h]⟩
theorem ed_leastM {K : PySem.W.Frag} {a : Addr} (hi : Ev ta σ H (.ref a)) (hL : LT H a L) (okL : OkM L) (l1 : 1 ≤ L.length) (l8 : L.length ≤ 100) : EvD K (tCall spLl [] E0 (tCons ta tNil)) σ H (lD (least L)) := fun H1 e1 Q q =>
  call_i (hi H1 e1 _ fun H2 e2 => ⟨a, L, rfl, hL.mono (e1.trans e2), okL, l1, l8, fun r H3 hr e3 lt => q (.ref r) H3 (e2.trans e3) (lt_dp lt)⟩)
theorem ed_listM {K : PySem.W.Frag} (G : LsC K C) (h : Ev ta σ H (.ref o)) (hO : RuAt H C o L) : EvD K (tCB (rListS K) (tCons (tFld K ta "places") tNil)) σ H (lD L) := fun H1 e1 Q q => by
  obtain ⟨dx, r, h1, xs, h2, row⟩ := id hO
  exact el_ofT (K := K) (xs := xs) (fun H6 e6 Q6 q6 => ev_fld h h1 G.cls G.pl rfl H6 e6 _ fun H7 e7 => q6 r H7 e7 (st_of ((e6.trans e7) _ _ h2))) H1 e1 _ fun b H2 hb e2 hb2 => q (.ref b) H2 e2 (lt_dp ⟨xs, hb2, row.mono (e1.trans e2)⟩)
end
end K16
namespace K16
open PySem L2 Evl Gr StX EnT ClX RdX OwX OwC OpX Ls DnX DdT ClK OwD LamX EXC OwU
/-! ### law -/
theorem last_and : least (joinP false (least (burstM 1 1)) (least (totalM 1))) = least (totalM 1) ∧ (least (burstM 1 1)).length ≤ 8 ∧ (least (totalM 1)).length ≤ 8 := by decide +kernel
theorem last_or : least (joinP true (least (burstM 1 1)) (least (totalM 1))) = least (burstM 1 1) := by decide +kernel
theorem et_same {σ : L2.St} {H : Hp} {ta tb : TE} {v u : V} (ha : Ev ta σ H v) (hb : Ev tb σ H u) (e : v = u) (sc : scal v u = true) : EvT (tTest (tOp rNe ta tb)) σ H false := et_is (et_test (ev_op ha hb (rv_ne sc))) (by rw [decide_eq_true e]; rfl)
theorem eqv_two (a b : Bool) : PyData.eqv (.list [.bool a, .bool b]) (.list [.bool true, .bool true]) = (a && b) := by cases a <;> cases b <;> decide +kernel
theorem in_two (a b : Bool) : ([PyData.bool a, PyData.bool b].any fun z => PyData.eqv z (.bool true)) = (a || b) := by cases a <;> cases b <;> decide +kernel
theorem low_b (b : Bool) : Low 0 (.bool b) := ⟨by simp [PyData.canLay0], by simp [PyData.depth]⟩
theorem two_low (a b : Bool) : Low 1 (.list [.bool a, .bool b]) := low_list (n := 0) fun d hd => by
  rcases List.mem_cons.mp hd with rfl | hd
  · exact low_b _
  · rw [List.mem_singleton.mp hd]
    exact low_b _
section
variable {K : PySem.W.Frag} {X : Cx} {CL CM : Addr} {σ : L2.St} {H : Hp} {ta tb te : TE} {v : V} {L : List Pl} {E : XK} {i : Nat}
theorem ed_2b {a b : Bool} (h1 : Ev ta σ H (.bl a)) (h2 : Ev tb σ H (.bl b)) : EvD K (tLst (tCons ta (tCons tb tNil))) σ H (.list [.bool a, .bool b]) := fun H1 e Q q =>
  el_lst (vs := [.bl a, .bl b]) (ea_cons h1 (ea_cons h2 ea_nil)) (by show 2 ≤ 100000; decide) H1 e _ fun p H2 _ e2 h2 => q (.ref p) H2 e2 (.lst (sq_of h2) (.cons (.bl _) (.cons (.bl _) .nil)))
theorem ed_twoV {p : Addr} {a b : Bool} (h : Ev te σ H (.ref p)) (hp : H p = some (.lst [.bl a, .bl b])) : EvD K te σ H (.list [.bool a, .bool b]) := ed_of h fun H1 e => .lst (sq_of (e _ _ hp)) (.cons (.bl _) (.cons (.bl _) .nil))
theorem ev_inTwo {p : Addr} {a b : Bool} (h : Ev te σ H (.ref p)) (hp : H p = some (.lst [.bl a, .bl b])) : Ev (tOp (rInD K) (tC (.bl true)) te) σ H (.bl (a || b)) := fun H1 e Q q =>
  h H1 e _ fun H2 e2 => ⟨.bool true, [.bool a, .bool b], .bl _, .lst (sq_of ((e.trans e2) _ _ hp)) (.cons (.bl _) (.cons (.bl _) .nil)), by decide +kernel, low_shaped (two_low a b) (by decide), by rw [in_two]; exact q H2 e2⟩
/-- x != "many" -/
theorem ev_neMany {fQ : Addr} (kM : LsK X.K CL CM) (ks : PySem.W.kitOne X.K (.type "str") (.ref CL) = some false) (hi : σ[i]? = some (some v)) (ht : ToldR X.K CL CM H v L) :
    Ev (tOp (fun x y H Q => rNe x y H Q ∨ rNeS X CM (spEqR X.K CL) E x y H Q) (tVar i) (tC (.str "many"))) σ H (.bl (decide (L.length ≤ 12))) := fun H1 e Q q => by
  rcases ht with ⟨lt, rfl⟩ | ⟨le, o, rfl, ru⟩
  · rw [decide_eq_false (Nat.not_le_of_lt lt)] at q
    exact ⟨_, hi, .inl (rv_ne (x := .str "many") (y := .str "many") rfl H1 (Ex.refl H1) _ fun H2 e2 => by rw [decide_eq_true rfl]; exact q H2 e2)⟩
  · rw [decide_eq_true le] at q
    exact ⟨_, hi, .inr ⟨o, "many", rfl, rfl, .inr (ru.mono e).ins, o, CM, .str "many", L, rfl, kM, ru.mono e, .inr ⟨"str", .base (.str _), ks, fun H4 e4 => ⟨false, rfl, q H4 e4⟩⟩⟩⟩
/-- x != "many" and x.lets(z) != what is due: never -/
theorem et_let {fQ : Addr} {z : Str} {j : Nat} {d : Bool} (kM : LsK X.K CL CM) (ks : PySem.W.kitOne X.K (.type "str") (.ref CL) = some false) (hi : σ[i]? = some (some v)) (ht : ToldR X.K CL CM H v L) (hz : σ[j]? = some (some (.str z))) (ok : OkM L) (l1 : 1 ≤ L.length) (lz : LsOk z) (z4 : z.length ≤ 400) (hd : Ev te σ H (.bl d)) (due : letsF L (bits z) = d) :
    EvT (tAnd (tTest (tOp (fun x y H Q => rNe x y H Q ∨ rNeS X CM (spEqR X.K CL) E x y H Q) (tVar i) (tC (.str "many")))) (tTest (tOp rNe (tMeth CM "lets" (spLe CM) [] E0 (tVar i) (tCons (tVar j) tNil)) te))) σ H false := by
  refine et_is (et_and (a := decide (L.length ≤ 12)) (b := false) (et_test (ev_neMany (fQ := fQ) kM ks hi ht)) fun h => ?_) (Bool.and_false _)
  rcases ht with ⟨lt, _⟩ | ⟨le, o, rfl, ru⟩
  · exact absurd (of_decide_eq_true h) (by omega)
  · exact et_same (ev_letsR (er_var (ev_var hi) ru) (ev_var hz) ok l1 lz z4) hd (by rw [due]) rfl
end
section
variable {P : Program} {w : World} {K : PySem.W.Frag} {mg : Str → Option Value} {base : Heap}
abbrev sLaw : Stmt := top 48
abbrev nLaw : List Str := ["_law_script", "_law_pen_here", "_law_some", "_law_lap", "_law_one", "_law_mine", "_law_other", "_law_its", "_law_both", "_law_either", "_law_losses_so", "_law_let"]
abbrev qLaw : Str := ("law" : Str) ++ ".<locals>." ++ "<lambda>"
def spLaw (K : PySem.W.Frag) (T : List (Addr × Str)) : Sp := fun vs H Q _ => ∃ (a : Addr) (ns : List Int), vs = [.ref a] ∧ SqL K H a (ns.map V.int) ∧ ns.length ≤ 63 ∧ Tabs T H ∧ ∀ H', Q (.bl true) H'
theorem scLaw : FnScope nLaw ["_law_script"] (defScope sLaw) := ⟨rfl, rfl, rfl, by decide +kernel, rfl, by decide +kernel, by decide +kernel⟩
theorem ok_Law {G : Addr → Prop} {CL CM CB CT cT fA fO fE fW fB fT fQ fHd f c Pc : Addr} {edE edW fd eHd : FuncData} {T : List (Addr × Str)} (F : FunC K "law" "law" sLaw f fd c) (TB : TabB base mg c Pc) (hT : (Pc, qLaw) ∈ T) (hu : ∀ p ∈ T, p.1 = Pc → p.2 = qLaw)
    (TT : GlbT mg) (TL : Glb mg) (S : GlbS mg) (HK : HdK K mg cT) (FH : Fun K "_law_heard" "_law_heard" sHd fHd eHd) (bH : Binds K eHd ["_law_ask"] []) (gH : mg "_law_heard" = some (.ref fHd))
    (J : ∀ C, G C → JuC P w K mg base CL fA fO fE fW edE edW C) (off : ∀ C D, G C → G D → Off K C D) (GM : G CM) (GB : G CB) (GT : G CT) (bE : Binds K edE ["self", "losses"] []) (bW : Binds K edW ["self", "other"] []) (FW : FnOk P w K mg base CX0 3 fW edW ["self", "other"] (spWn K CL))
    (FA : FnR P w K mg base (L2.CX P w) 6 fA (spBn K CL CM cT false)) (FO : FnR P w K mg base (L2.CX P w) 6 fO (spBn K CL CM cT true))
    (MB : Mk K CB fB) (FB : FnR P w K mg base CX0 4 fB (spBu CB)) (gB : mg "Burst" = some (.ref CB)) (MT : Mk K CT fT) (FT : FnR P w K mg base CX0 4 fT (spTo CT)) (gT : mg "Total" = some (.ref CT))
    (hQ : Has K CM fQ "__eq__") (eqF : FnR P w K mg base CX0 1 fQ (spEqR K CL)) (neM : PySem.W.findIn K (.ref CM) "__ne__" = some (some (.builtin "object.__ne__"))) (sS : PySem.W.subIn K (.type "str") (.ref CM) = some false) (kS : PySem.W.kitOne K (.type "str") (.ref CL) = some false)
    (nMT : PySem.W.notFirst K CM (.ref CT) = true) (nMB : PySem.W.notFirst K CM (.ref CB) = true)
    (GPe : Gfn P w K mg base 1 "_law_pen" ["_law_script"] (spPen K)) (GLi : Gfn P w K mg base 1 "_law_lists" ["_law_most"] spLi) (GPr : Gfn P w K mg base 7 "_law_pair" ["_law_pen_here"] (spPr G)) (GIs : Gfn P w K mg base 1 "_law_is" ["_law_told", "_law_places_so"] (spIs K CL CM))
    (GJo : Gfn P w K mg base 3 "_law_joined" ["_law_one", "_law_other", "_law_either"] spJd) (GLe : Gfn P w K mg base 2 "_law_least" ["_law_places_so"] spLl) :
    FnOk P w K mg base CX0 9 f fd ["_law_script"] (spLaw K T) := by
  obtain ⟨f1, fd1, G1, k1, b1, g1⟩ := GPe
  obtain ⟨f2, fd2, G2, k2, b2, g2⟩ := GLi
  obtain ⟨f3, fd3, G3, k3, b3, g3⟩ := GPr
  obtain ⟨f4, fd4, G4, k4, b4, g4⟩ := GIs
  obtain ⟨f5, fd5, G5, k5, b5, g5⟩ := GJo
  obtain ⟨f6, fd6, G6, k6, b6, g6⟩ := GLe
  refine F.ok scLaw (fun vs H Q E h => ?_) (fun A outer s H vs Q E hr h => ?_)
  · obtain ⟨a, ns, rfl, _⟩ := h
    rfl
  · obtain ⟨a, ns, rfl, hS, h63, tabs, k⟩ := h
    have r1 := hr.mono (show 1 ≤ 8 by decide)
    have r2 := hr.mono (show 2 ≤ 8 by decide)
    have r3 := hr.mono (show 3 ≤ 8 by decide)
    have r5 := hr.mono (show 5 ≤ 8 by decide)
    have r6 := hr.mono (show 6 ≤ 8 by decide)
    have r7 := hr.mono (show 7 ≤ 8 by decide)
    have hu65 : (cxOf CX0 P w K mg base nLaw "law" (defScope sLaw) f (.ref c) A outer s H E).nox.A.units + 65 < cLine := by
      have := r1.un
      exact (show (A.deeper (PyProof.Rows.envOfC "law" (defScope sLaw) s.heap.objs.size f (.ref c))).units + 65 < cLine by omega)
    refine ⟨_, (pss_cons (ps_set (i := 1) scLaw.nd rfl (.inl rfl) (pe_call G1 r1 (by rfl) g1 k1 b1 .nil pass0 (pa_cons (pv 0) pa_nil)))
      (pss_cons (ps_set (i := 2) scLaw.nd rfl (.inl rfl) (pe_call G2 r1 (by rfl) g2 k2 b2 .nil pass0 (pa_cons pe_int pa_nil)))
      (pss_cons (ps_for PassesOwn.never rfl (pi_range1 (by rfl) S.range (pa_cons pe_int pa_nil)) (pg_name (i := 3) scLaw.nd rfl (.inl rfl))
        (pss_cons (ps_asg (pe_call G3 r7 (by rfl) g3 k3 b3 .nil pass0 (pa_cons (pv 1) pa_nil)) (pg_tup rfl (pgs_cons (pg_name (i := 4) scLaw.nd rfl (.inr rfl)) (pgs_cons (pg_name (i := 5) scLaw.nd rfl (.inl rfl)) pgs_nil))))
      (pss_cons (ps_asg (pe_call G3 r7 (by rfl) g3 k3 b3 .nil pass0 (pa_cons (pv 1) pa_nil)) (pg_tup rfl (pgs_cons (pg_name (i := 6) scLaw.nd rfl (.inr rfl)) (pgs_cons (pg_name (i := 7) scLaw.nd rfl (.inl rfl)) pgs_nil))))
      (pss_cons (ps_set (i := 8) scLaw.nd rfl (.inl rfl) (pe_heardG (X := (cxOf CX0 P w K mg base nLaw "law" (defScope sLaw) f (.ref c) A outer s H E).nox) (T := T) (t := fun E2 => tOp (rS2 ((cxOf CX0 P w K mg base nLaw "law" (defScope sLaw) f (.ref c) A outer s H E).nox) fA .BitAnd (spBn K CL CM cT false) E2) (tVar 4) (tVar 6)) (by rfl) gH FH bH HK TB rfl hT hu hr (lamS_by (sc := defScope sLaw) (by decide +kernel)) rfl (fun _ _ _ _ _ => rfl) (fun A2 outer2 s2 H2 E2 f2 c2 hr2 => pe_op (show OpR _ _ (rS2 ((cxOf CX0 P w K mg base nLaw "law" (defScope sLaw) f (.ref c) A outer s H E).nox) fA .BitAnd (spBn K CL CM cT false) E2) from op_bin2 (E := E2) (op := .BitAnd) FA hr2 (passes_call (takes_of rfl rfl rfl rfl) fun _ _ _ _ z => z)) (pv 4) (pv 6))))
      (pss_cons (ps_set (i := 9) scLaw.nd rfl (.inl rfl) (pe_heardG (X := (cxOf CX0 P w K mg base nLaw "law" (defScope sLaw) f (.ref c) A outer s H E).nox) (T := T) (t := fun E2 => tOp (rS2 ((cxOf CX0 P w K mg base nLaw "law" (defScope sLaw) f (.ref c) A outer s H E).nox) fO .BitOr (spBn K CL CM cT true) E2) (tVar 6) (tVar 4)) (by rfl) gH FH bH HK TB rfl hT hu hr (lamS_by (sc := defScope sLaw) (by decide +kernel)) rfl (fun _ _ _ _ _ => rfl) (fun A2 outer2 s2 H2 E2 f2 c2 hr2 => pe_op (show OpR _ _ (rS2 ((cxOf CX0 P w K mg base nLaw "law" (defScope sLaw) f (.ref c) A outer s H E).nox) fO .BitOr (spBn K CL CM cT true) E2) from op_bin2 (E := E2) (op := .BitOr) FO hr2 (passes_call (takes_of rfl rfl rfl rfl) fun _ _ _ _ z => z)) (pv 6) (pv 4))))
      (pss_cons (ps_if (PW.pt (pw_or (pt_not (pt_val (pe_call G4 r1 (by rfl) g4 k4 b4 .nil pass0 (pa_cons (pv 8) (pa_cons (pe_ix (show IxR _ (rIxT K) from ix_tup) (pe_call G5 r3 (by rfl) g5 k5 b5 .nil pass0 (pa_cons (pv 5) (pa_cons (pv 7) (pa_cons pe_bl pa_nil)))) pe_int (fun _ _ => rfl)) pa_nil)))))
            (pw_or1 (pt_not (pt_val (pe_call G4 r1 (by rfl) g4 k4 b4 .nil pass0 (pa_cons (pv 9) (pa_cons (pe_ix (show IxR _ (rIxT K) from ix_tup) (pe_call G5 r3 (by rfl) g5 k5 b5 .nil pass0 (pa_cons (pv 5) (pa_cons (pv 7) (pa_cons pe_bl pa_nil)))) pe_int (fun _ _ => rfl)) pa_nil)))))))) (pss_one (ps_ret pe_bl)) pss_nil)
      (pss_cons (ps_if (PW.pt (pw_or (pt_cmpR op_ne (pe_any (G := G) (fun C gC => pe_meth (E := E0) (pv 4) (J C gC).k.ls.cls (J C gC).hW FW r3 bW .nil pass0 (pa_cons (pv 6) pa_nil))) (pe_not (pe_ix (show IxR _ (rIxT K) from ix_tup) (pe_call G5 r3 (by rfl) g5 k5 b5 .nil pass0 (pa_cons (pv 5) (pa_cons (pv 7) (pa_cons pe_bl pa_nil)))) pe_int (fun _ _ => rfl))) (nomark _))
            (pw_or1 (pt_not (pt_val (pe_any (G := G) (fun C gC => pe_meth (E := E0) (pv 4) (J C gC).k.ls.cls (J C gC).hW FW r3 bW .nil pass0 (pa_cons (pv 4) pa_nil)))))))) (pss_one (ps_ret pe_bl)) pss_nil)
      (pss_cons (ps_for PassesOwn.never rfl (pi_seq (pv 2)) (pg_name (i := 10) scLaw.nd rfl (.inl rfl))
            (pss_cons (ps_set (i := 11) scLaw.nd rfl (.inl rfl) (pe_lst (pa_cons (pe_any (G := G) (fun C gC => pe_meth (E := E0) (pv 4) (J C gC).k.ls.cls (J C gC).hL (J C gC).lets r3 bE .nil pass0 (pa_cons (pv 10) pa_nil))) (pa_cons (pe_any (G := G) (fun C gC => pe_meth (E := E0) (pv 6) (J C gC).k.ls.cls (J C gC).hL (J C gC).lets r3 bE .nil pass0 (pa_cons (pv 10) pa_nil))) pa_nil))))
      (pss_cons (ps_if (PW.pt (pw_and (pt_cmpR (op_ne.or (op_neS (E := E0) hQ sS neM (J CM GM).k.cm eqF r2 pass0)) (pv 8) pe_str (nomark _)) (pw_and1 (pt_cmpR op_ne (pe_meth (E := E0) (pv 8) (J CM GM).k.ls.cls (J CM GM).hL (J CM GM).lets r3 bE .nil pass0 (pa_cons (pv 10) pa_nil)) (pe_cmpR (op_eqD hr.units) (pv 11) (pe_lst (pa_cons pe_bl (pa_cons pe_bl pa_nil))) (nomark _)) (nomark _))))) (pss_one (ps_ret pe_bl)) pss_nil)
      (pss_one (ps_if (PW.pt (pw_and (pt_cmpR (op_ne.or (op_neS (E := E0) hQ sS neM (J CM GM).k.cm eqF r2 pass0)) (pv 9) pe_str (nomark _)) (pw_and1 (pt_cmpR op_ne (pe_meth (E := E0) (pv 9) (J CM GM).k.ls.cls (J CM GM).hL (J CM GM).lets r3 bE .nil pass0 (pa_cons (pv 10) pa_nil)) (pe_cmpR (op_inD hu65) pe_bl (pv 11) (by with_unfolding_all rfl)) (nomark _))))) (pss_one (ps_ret pe_bl)) pss_nil)))))
      (pss_one (ps_if (PW.pt (pw_or (pt_cmpR (op_neD hr.units) (pe_callTy call_list_of (by rfl) TL.list (by decide +kernel) (pa_cons (pe_fld (pv 4) rfl) pa_nil)) (pe_call G6 r2 (by rfl) g6 k6 b6 .nil pass0 (pa_cons (pv 5) pa_nil)) (nomark _))
            (pw_or1 (pt_cmpR (op_neD hr.units) (pe_callTy call_list_of (by rfl) TL.list (by decide +kernel) (pa_cons (pe_fld (pv 6) rfl) pa_nil)) (pe_call G6 r2 (by rfl) g6 k6 b6 .nil pass0 (pa_cons (pv 7) pa_nil)) (nomark _))))) (pss_one (ps_ret pe_bl)) pss_nil))))))))))
      (pss_one (ps_ret (pe_and (pe_cmpR (op_eqO (E := E0) (op := .Eq) (fun _ _ => rfl) hQ eqF r1 pass0) (pe_op (op_bin2 (E := E0) (op := .BitAnd) FA r6 (passN rfl rfl)) (pe_makeR (E := E0) MB FB r5 (by rfl) gB pass0 (pa_cons pe_int (pa_cons pe_int pa_nil))) (pe_makeR (E := E0) MT FT r5 (by rfl) gT pass0 (pa_cons pe_int pa_nil))) (pe_makeR (E := E0) MT FT r5 (by rfl) gT pass0 (pa_cons pe_int pa_nil)) (nomark _))
        (pe_one (pe_cmpR (op_eqO (E := E0) (op := .Eq) (fun _ _ => rfl) hQ eqF r1 pass0) (pe_op (op_bin2 (E := E0) (op := .BitOr) FO r6 (passN rfl rfl)) (pe_makeR (E := E0) MB FB r5 (by rfl) gB pass0 (pa_cons pe_int (pa_cons pe_int pa_nil))) (pe_makeR (E := E0) MT FT r5 (by rfl) gT pass0 (pa_cons pe_int pa_nil))) (pe_makeR (E := E0) MB FB r5 (by rfl) gB pass0 (pa_cons pe_int (pa_cons pe_int pa_nil))) (nomark _))))))))), ?_⟩
    refine q_call (ea_cons (ev_var rfl) ea_nil) fun H1 e1 => ⟨a, ns, rfl, ex_l e1 hS, h63, fun p l H2 hp hl e2 hP => ?_⟩
    refine q_asgR (call_i (cons_i (c_i ⟨rfl, fun sa zs H3 e3 h3 okz l63 => ?_⟩)))
    have P3 := hP.mono e3 (Nat.le_refl _)
    have T3 := tabs.ext (fun b o hb => (e1.trans (e2.trans e3)) b o hb)
    have sap : sa ≠ p := fun z => by
      obtain ⟨_, _, q, _⟩ := P3
      rw [← z, h3] at q
      cases zs with
      | nil => cases q
      | cons z zs => cases q
    refine q_forR1 (j := 3) (n := 4) (ea_cons ev_c ea_nil) (by decide) (fun i σ' H' => ∃ x3 x4 x5 x6 x7 x8 x9 x10 x11 : Option V, σ' = [some (.ref a), some (.ref p), some (.ref sa), x3, x4, x5, x6, x7, x8, x9, x10, x11] ∧ PenAt H' p l ns (34 * i) ∧ Tabs T H' ∧ H' sa = some (.lst (zs.map V.str)))
      (fun H4 e4 => ⟨none, none, none, none, none, none, none, none, none, rfl, P3.mono e4 (by omega), T3.ext (fun b o hb => e4 b o hb), e4 _ _ h3⟩) ?_ ?_
    · rintro i σ' H4 hi ⟨x3, x4, x5, x6, x7, x8, x9, x10, x11, rfl, P4, T4, s4⟩
      have hi : i < 4 := by omega
      refine q_asgG (call_i (cons_i ⟨_, rfl, p, l, ns, 34 * i, rfl, P4, by omega, h63, fun t1 o1 q1 C M H5 ht1 qp1 gC ru1 lt1 okM m1 m4 P5 k5 => ⟨t1, _, rfl, st_of ht1, rfl, _, _, rfl, _, _, rfl, rfl, ?_⟩⟩))
      refine q_asgG (call_i (cons_i ⟨_, rfl, p, l, ns, 34 * i + 17, rfl, P5, by omega, h63, fun t2 o2 q2 D N H6 ht2 qp2 gD ru2 lt2 okN n1 n4 P6 k6 => ⟨t2, _, rfl, st_of ht2, rfl, _, _, rfl, _, _, rfl, rfl, ?_⟩⟩))
      have ru1 := ru1.keep P5 k6
      have lt1 := lt1.keep P5 qp1 k6
      have T6 := tabs_keep (tabs_keep T4 P4 k5) P5 k6
      have s6 := k6 _ _ (k5 _ _ s4 sap) sap
      have JC := J C gC
      have JD := J D gD
      have okM' := least_ok okM m1
      have okN' := least_ok okN n1
      have m1' := least_pos okM m1
      have n1' := least_pos okN n1
      have m4' := Nat.le_trans (least_few okM m1) m4
      have n4' := Nat.le_trans (least_few okN n1) n4
      refine q_asgR (lam_bin (X := (cxOf CX0 P w K mg base nLaw "law" (defScope sLaw) f (.ref c) A outer s H E).nox) (e := false) (i := 4) (j := 6) (L := least M) (M := least N) rfl rfl JC.k JD.k JC.opA JD.opA (off C D gC gD) ru1 ru2 okM' okN' m1' n1' (by omega) (by omega) T6 fun v8 H7 y7 T7 told8 => ?_)
      refine q_asgR (lam_bin (X := (cxOf CX0 P w K mg base nLaw "law" (defScope sLaw) f (.ref c) A outer s H E).nox) (e := true) (i := 6) (j := 4) (L := least N) (M := least M) rfl rfl JD.k JC.k JD.opO JC.opO (off D C gD gC) (ru2.extN y7) (ru1.extN y7) okN' okM' n1' m1' (by omega) (by omega) T7 fun v9 H8 y8 T8 told9 => ?_)
      rw [join_leasts okM okN m1 n1] at told8
      rw [join_leasts' okM okN m1 n1] at told9
      have y := y7.trans y8
      have told8 := told8.extN y8
      have ru1 := ru1.extN y
      have ru2 := ru2.extN y
      have lt1 := lt1.extN y
      have lt2 := lt2.extN y
      have P8 := pen_ext P6 y
      have s8 := y _ _ s6 fun ps z => by cases z
      obtain ⟨pb, hpb⟩ := part_pb M N
      have hpb' : pb = true ↔ Part (least M) (least N) := hpb.trans (part_least okM okN m1 n1).symm
      have own : true = true ↔ Part (least M) (least M) := ⟨fun _ => part_refl _, fun _ => rfl⟩
      show tSeq _ _ _ [some (.ref a), some (.ref p), some (.ref sa), some (.int (i : Int)), some (.ref o1), some (.ref q1), some (.ref o2), some (.ref q2), some v8, some v9, x10, x11] H8
      have is8 : Ev (tCall (spIs K CL CM) [] E0 (tCons (tVar 8) (tCons (tJo K 5 7 false 0) tNil))) [some (.ref a), some (.ref p), some (.ref sa), some (.int (i : Int)), some (.ref o1), some (.ref q1), some (.ref o2), some (.ref q2), some v8, some v9, x10, x11] H8 (.bl true) := fun H9 e9 Q9 q9 =>
        call_i (cons_i ⟨_, rfl, cons_i (jo_0 (L := M) (M := N) rfl rfl lt1 lt2 okM okN m1 n1 (by omega) (by omega) H9 e9 _ fun r HA eA lt => ⟨v8, r, _, rfl, lt, told8.mono (e9.trans eA), fun HB eB => q9 HB (eA.trans eB)⟩)⟩)
      have is9 : Ev (tCall (spIs K CL CM) [] E0 (tCons (tVar 9) (tCons (tJo K 5 7 true 0) tNil))) [some (.ref a), some (.ref p), some (.ref sa), some (.int (i : Int)), some (.ref o1), some (.ref q1), some (.ref o2), some (.ref q2), some v8, some v9, x10, x11] H8 (.bl true) := fun H9 e9 Q9 q9 =>
        call_i (cons_i ⟨_, rfl, cons_i (jo_0 (L := M) (M := N) rfl rfl lt1 lt2 okM okN m1 n1 (by omega) (by omega) H9 e9 _ fun r HA eA lt => ⟨v9, r, _, rfl, lt, told9.mono (e9.trans eA), fun HB eB => q9 HB (eA.trans eB)⟩)⟩)
      refine q_when (b := false) (et_orF (et_is (et_not (et_B is8)) rfl) (et_is (et_not (et_B is9)) rfl)) (fun z => absurd z (by decide)) fun _ H9 e9 => ?_
      refine q_when (b := false) (et_orF (et_same (ev_any (t := fun C => tMeth C "within" (spWn K CL) [] E0 (tVar 4) (tCons (tVar 6) tNil)) gC (ev_within hpb' JC.k JD.k (ev_var rfl) (ru1.mono e9) (ev_var rfl) (ru2.mono e9) okM' okN' m1' n1' (by omega) (by omega))) (ev_notV (jo_1 (K := K) (i := 5) (j := 7) hpb rfl rfl (lt1.mono e9) (lt2.mono e9) okM okN m1 n1 (by omega) (by omega))) (by rw [Bool.not_not]) rfl)
        (et_is (et_not (et_B (ev_any (t := fun C => tMeth C "within" (spWn K CL) [] E0 (tVar 4) (tCons (tVar 4) tNil)) gC (ev_within own JC.k JC.k (ev_var rfl) (ru1.mono e9) (ev_var rfl) (ru1.mono e9) okM' okM' m1' m1' (by omega) (by omega))))) rfl)) (fun z => absurd z (by decide)) fun _ HA eA => ?_
      have E9 := e9.trans eA
      have jokF := join_ok (e := false) okM okN m1 n1
      have jokT := join_ok (e := true) okM okN m1 n1
      have jl1F := (join_len1 (e := false) okM okN m1 n1).1
      have jl1T := (join_len1 (e := true) okM okN m1 n1).1
      refine q_forQ (a := sa) (xs := zs.map V.str) (Hb := H8) (ev_var rfl) (.inl (sq_of s8)) E9 (fun j σ' H' => ∃ y10 y11 : Option V, σ' = [some (.ref a), some (.ref p), some (.ref sa), some (.int (i : Int)), some (.ref o1), some (.ref q1), some (.ref o2), some (.ref q2), some v8, some v9, y10, y11] ∧ Ex H8 H') (fun HB eB => ⟨x10, x11, rfl, E9.trans eB⟩) (fun _ _ _ _ ⟨_, _, _, h⟩ => h) ?_ ?_
      · rintro j x σ' HB hx ⟨y10, y11, rfl, eB⟩
        rw [List.getElem?_map] at hx
        obtain ⟨z, hz, rfl⟩ := Option.map_eq_some_iff.mp hx
        obtain ⟨lz, z5⟩ := okz z (List.mem_of_getElem? hz)
        show tSeq _ _ _ [some (.ref a), some (.ref p), some (.ref sa), some (.int (i : Int)), some (.ref o1), some (.ref q1), some (.ref o2), some (.ref q2), some v8, some v9, some (.str z), y11] HB
        refine q_asgL (el_lst (vs := [.bl (letsF M (bits z)), .bl (letsF N (bits z))]) (ea_cons (ev_is (ev_any (t := fun C => tMeth C "lets" (spLe C) [] E0 (tVar 4) (tCons (tVar 10) tNil)) gC (ev_letsR (er_var (ev_var rfl) (ru1.mono eB)) (ev_var rfl) okM' m1' lz (by omega))) (by rw [lets_least okM m1])) (ea_cons (ev_is (ev_any (t := fun C => tMeth C "lets" (spLe C) [] E0 (tVar 6) (tCons (tVar 10) tNil)) gD (ev_letsR (er_var (ev_var rfl) (ru2.mono eB)) (ev_var rfl) okN' n1' lz (by omega))) (by rw [lets_least okN n1])) ea_nil)) (by show 2 ≤ 100000; decide)) fun b HC hb eC hbC => ?_
        have EC := eB.trans eC
        refine q_when (b := false) (et_let (X := (cxOf CX0 P w K mg base nLaw "law" (defScope sLaw) f (.ref c) A outer s H E).nox) (fQ := fQ) (J CM GM).k kS rfl (told8.mono EC) rfl (least_ok jokF jl1F) (least_pos jokF jl1F) lz (by omega) (ev_eqD (K := K) (ed_twoV (ev_var rfl) hbC) (ed_2b ev_c ev_c) (low_shaped (two_low _ _) (by decide)) (low_shaped (two_low _ _) (by decide))) (by rw [eqv_two, join_lets_l okM okN m1 n1]; rfl)) (fun z => absurd z (by decide)) fun _ HD eD => ?_
        have ED := EC.trans eD
        refine s_when (b := false) (et_let (X := (cxOf CX0 P w K mg base nLaw "law" (defScope sLaw) f (.ref c) A outer s H E).nox) (fQ := fQ) (J CM GM).k kS rfl (told9.mono ED) rfl (least_ok jokT jl1T) (least_pos jokT jl1T) lz (by omega) (ev_inTwo (K := K) (ev_var rfl) (eD _ _ hbC)) (by rw [join_lets_l okM okN m1 n1]; rfl)) (fun z => absurd z (by decide)) fun _ HE eE => ⟨_, _, rfl, ED.trans eE⟩
      · rintro σ' HB ⟨y10, y11, rfl, eB⟩
        refine s_when (b := false) (et_orF (et_is (et_test (ev_neD (K := K) (ed_listM JC.k.ls (ev_var rfl) (ru1.mono eB)) (ed_leastM (ev_var rfl) (lt1.mono eB) okM m1 (by omega)) (low_shaped (lD_low _) (by decide)) (low_shaped (lD_low _) (by decide)))) (by rw [lD_eqv, decide_eq_true rfl]; rfl))
          (et_is (et_test (ev_neD (K := K) (ed_listM JD.k.ls (ev_var rfl) (ru2.mono eB)) (ed_leastM (ev_var rfl) (lt2.mono eB) okN n1 (by omega)) (low_shaped (lD_low _) (by decide)) (low_shaped (lD_low _) (by decide)))) (by rw [lD_eqv, decide_eq_true rfl]; rfl))) (fun z => absurd z (by decide)) fun _ HC eC => ?_
        exact ⟨_, _, _, _, _, _, _, _, _, rfl, P8.mono (eB.trans eC) (by omega), T8.ext (fun b o hb => (eB.trans eC) b o hb), (eB.trans eC) _ _ s8⟩
    · rintro σ' H4 ⟨x3, x4, x5, x6, x7, x8, x9, x10, x11, rfl, P4, T4, s4⟩
      have JM := J CM GM
      have JB := J CB GB
      have JT := J CT GT
      have mkT : ∀ {σ' : L2.St} {H' : Hp}, EvR CT (tMakeR CT (spTo CT) E0 (tCons (tC (.int (1 : Nat))) tNil)) σ' H' (least (totalM 1)) := er_total (ea_cons ev_c ea_nil) (by decide)
      have mkB : ∀ {σ' : L2.St} {H' : Hp}, EvR CB (tMakeR CB (spBu CB) E0 (tCons (tC (.int (1 : Nat))) (tCons (tC (.int (1 : Nat))) tNil))) σ' H' (least (burstM 1 1)) := er_burst (ea_cons ev_c (ea_cons ev_c ea_nil)) (by decide) (by decide) (by decide) (by decide) (by decide)
      have okT := total_ok 1
      have okB := burst_ok (m := 1) (a := 1) (by decide) (by decide)
      have lT : 1 ≤ (totalM 1).length := by decide
      have lB : 1 ≤ (burstM 1 1).length := by decide
      refine s_ret (v := .bl true) (ev_is (ev_andV (a := true) (b := true) (ev_is (ev_eqR (X := (cxOf CX0 P w K mg base nLaw "law" (defScope sLaw) f (.ref c) A outer s H E).nox) nMT JM.k JT.k (er_bin (X := (cxOf CX0 P w K mg base nLaw "law" (defScope sLaw) f (.ref c) A outer s H E).nox) (e := false) JB.k JT.k JB.opA JT.opA (off CB CT GB GT) mkB mkT (least_ok okB lB) (least_ok okT lT) (least_pos okB lB) (least_pos okT lT) last_and.2.1 last_and.2.2 last_and.1 (Nat.le_trans last_and.2.2 (by decide))) mkT) (congrArg V.bl (decide_eq_true rfl)))
        fun _ => ev_is (ev_eqR (X := (cxOf CX0 P w K mg base nLaw "law" (defScope sLaw) f (.ref c) A outer s H E).nox) nMB JM.k JB.k (er_bin (X := (cxOf CX0 P w K mg base nLaw "law" (defScope sLaw) f (.ref c) A outer s H E).nox) (e := true) JB.k JT.k JB.opO JT.opO (off CB CT GB GT) mkB mkT (least_ok okB lB) (least_ok okT lT) (least_pos okB lB) (least_pos okT lT) last_and.2.1 last_and.2.2 last_or (Nat.le_trans last_and.2.1 (by decide))) mkB) (congrArg V.bl (decide_eq_true rfl))) rfl) fun H5 e5 => k H5
end
end K16
namespace K16
open PySem L2 Evl Gr StX EnT ClX OpX RdX OwC OwX LamX EXC Ls DnX DdT ClK OwD OwU
/-- a def of the text named x, its full name y, where it stands -/
structure FQ (K : PySem.W.Frag) (x y : Str) (st : Stmt) (f : Addr) : Prop where
  l : ∃ (oc : Value) (od : Option Addr) (kV doc pm : Value) (an : Option Addr) (cdv ct : Value) (osl : Array (Option Value)),
    K.lookup f = some ⟨oc, od, .func (PySem.W.fnOf x y (defArgs st) (defBody st) (defScope st) .none kV doc pm an cdv ct), osl⟩ ∧ PySem.W.codeIn K cdv y = true
  k : PySem.W.keepIn K (.ref f) = true
theorem FQ.fn {K : PySem.W.Frag} {x y : Str} {st : Stmt} {f : Addr} (h : FQ K x y st f) : ∃ fd, Fun K x y st f fd := by
  obtain ⟨oc, od, kV, doc, pm, an, cdv, ct, osl, h1, h2⟩ := h.l
  exact ⟨_, fun_mk h1 h2 h.k⟩
/-- .. with its code object at c, the table of which is at P -/
structure FC (K : PySem.W.Frag) (x : Str) (st : Stmt) (f c P : Addr) : Prop where
  l : ∃ (oc : Value) (od : Option Addr) (kV doc pm : Value) (an : Option Addr) (ct : Value) (osl : Array (Option Value)),
    K.lookup f = some ⟨oc, od, .func (PySem.W.fnOf x x (defArgs st) (defBody st) (defScope st) .none kV doc pm an (.ref c) ct), osl⟩ ∧ PySem.W.codeIn K (.ref c) x = true
  k : PySem.W.keepIn K (.ref f) = true
  t : ∃ (e : Value) (dd : Option Addr) (vs : Array Value) (sl : Array (Option Value)), K.lookup c = some ⟨e, dd, .fields vs, sl⟩ ∧ vs[11]? = some (.ref P)
theorem FC.fn {K : PySem.W.Frag} {x : Str} {st : Stmt} {f c P : Addr} (h : FC K x st f c P) : ∃ (kV doc pm : Value) (an : Option Addr) (ct : Value), FunC K x x st f (PySem.W.fnOf x x (defArgs st) (defBody st) (defScope st) .none kV doc pm an (.ref c) ct) c := by
  obtain ⟨oc, od, kV, doc, pm, an, ct, osl, h1, h2⟩ := h.l
  exact ⟨kV, doc, pm, an, ct, ⟨oc, od, kV, doc, pm, an, ct, osl, rfl, h1, h2⟩, h.k⟩
theorem FC.tab {K : PySem.W.Frag} {x : Str} {st : Stmt} {f c P : Addr} (h : FC K x st f c P) (a : PySem.W.nsIn K mainGlobals x = some (some (.ref f))) : PySem.W.tabIn K x = some (c, P) := by
  obtain ⟨oc, od, kV, doc, pm, an, ct, osl, h1, h2⟩ := h.l
  obtain ⟨e, dd, vs, sl, h3, h4⟩ := h.t
  unfold PySem.W.tabIn
  rw [a]
  show (match K.lookup f with
    | some ⟨_, _, .func fd, _⟩ => _
    | _ => none) = _
  rw [h1]
  show (match K.lookup c with
    | some ⟨_, _, .fields vs, _⟩ => _
    | _ => none) = _
  rw [h3]
  show (match (vs[11]? : Option Value) with
    | some (.ref P) => some (c, P)
    | _ => none) = _
  rw [h4]
theorem noTab {K : PySem.W.Frag} {h : Heap} {P : Addr} (X : K.In h) (n : PySem.W.noTabs K = true) (e : h.get? P = some { cls := .none, data := .fields #[] }) : K.lookup P = none := by
  cases z : K.lookup P with
  | none => rfl
  | some o =>
    have e2 := X _ _ z
    rw [e] at e2
    cases e2
    have h2 := List.all_eq_true.mp n (P, _) (PySem.W.mem_of_lookupK z)
    exact absurd (show false = true from h2) Bool.false_ne_true
theorem kit_self {K : PySem.W.Frag} {C : Addr} : PySem.W.kitOne K (.ref C) (.ref C) = some true := by
  unfold PySem.W.kitOne
  rw [if_pos (by simp)]
theorem kit_sub {K : PySem.W.Frag} {C : Addr} {t : String} {b : Bool} (m : PySem.W.kitMeta t = true) (h : PySem.W.subIn K (.ref C) (.type t) = some b) : PySem.W.kitOne K (.ref C) (.type t) = some b := by
  unfold PySem.W.kitOne PySem.W.kitCls
  rw [if_neg (by simp)]
  show (if PySem.W.kitMeta t = true then PySem.W.subIn K (.ref C) (.type t) else none) = some b
  rw [if_pos m]
  exact h
theorem kit_of_ty {K : PySem.W.Frag} {C : Addr} {t : String} (h : PySem.W.subIn K (.type t) (.ref C) = some false) (c : (PySem.W.clsIn K C).isSome = true) (ty : PySem.W.typeIn K (.ref C) = some (.type "type")) : PySem.W.kitOne K (.type t) (.ref C) = some false := by
  unfold PySem.W.kitOne PySem.W.kitCls
  rw [if_neg (by simp)]
  show (if ((PySem.W.clsIn K C).isSome && PySem.W.typeIn K (.ref C) == some (.type "type")) = true then PySem.W.subIn K (.type t) (.ref C) else none) = some false
  rw [if_pos (by rw [c, ty]; rfl)]
  exact h

theorem kit_of_ref {K : PySem.W.Frag} {C D : Addr} (h : PySem.W.subIn K (.ref C) (.ref D) = some true) (c : (PySem.W.clsIn K D).isSome = true) (ty : PySem.W.typeIn K (.ref D) = some (.type "type")) : PySem.W.kitOne K (.ref C) (.ref D) = some true := by
  unfold PySem.W.kitOne PySem.W.kitCls
  split
  · rfl
  · show (if ((PySem.W.clsIn K D).isSome && PySem.W.typeIn K (.ref D) == some (.type "type")) = true then PySem.W.subIn K (.ref C) (.ref D) else none) = some true
    rw [if_pos (by rw [c, ty]; rfl)]
    exact h
theorem all_mk {l : PySem.W.OpenLaw} {w : World} {K : PySem.W.Frag} {h : Heap} {mg : Str → Option Value} {fa fInt fWi fSl fLo fPb fJp fPt fKn fLs fIp fFp fBp fPe fDr fPi fPl fOp fRe fLl fJd fHd fIs fLi fPr fLa cLa PLa CL CM CT CB mCM mCT mCB mQ mE mA mO mW B cT fT : Addr} (X : K.In h) (G : h.Ns mainGlobals mg) (hfa : mg "law" = some (.ref fa)) (hTab : ∀ x, x ∈ (["law"] : List Str) → ∀ c P, PySem.W.tabIn K x = some (c, P) → PySem.W.CodeHd h c P ∧ h.get? P = some { cls := .none, data := .fields #[] })
    (aInt : PySem.W.nsIn K mainGlobals "is_integer" = some (some (.ref fInt)))
    (hInt : FQ K "is_integer" "is_integer" (top 2) fInt)
    (aWi : PySem.W.nsIn K mainGlobals "is_within" = some (some (.ref fWi)))
    (hWi : FQ K "is_within" "is_within" (top 3) fWi)
    (aSl : PySem.W.nsIn K mainGlobals "is_slots" = some (some (.ref fSl)))
    (hSl : FQ K "is_slots" "is_slots" (top 14) fSl)
    (aLo : PySem.W.nsIn K mainGlobals "is_losses" = some (some (.ref fLo)))
    (hLo : FQ K "is_losses" "is_losses" (top 15) fLo)
    (aPb : PySem.W.nsIn K mainGlobals "place_behind" = some (some (.ref fPb)))
    (hPb : FQ K "place_behind" "place_behind" (top 16) fPb)
    (aJp : PySem.W.nsIn K mainGlobals "joined_places" = some (some (.ref fJp)))
    (hJp : FQ K "joined_places" "joined_places" (top 17) fJp)
    (aPt : PySem.W.nsIn K mainGlobals "is_part" = some (some (.ref fPt)))
    (hPt : FQ K "is_part" "is_part" (top 18) fPt)
    (aKn : PySem.W.nsIn K mainGlobals "place_kinds" = some (some (.ref fKn)))
    (hKn : FQ K "place_kinds" "place_kinds" (top 19) fKn)
    (aLs : PySem.W.nsIn K mainGlobals "least_places" = some (some (.ref fLs)))
    (hLs : FQ K "least_places" "least_places" (top 20) fLs)
    (aIp : PySem.W.nsIn K mainGlobals "is_place_pair" = some (some (.ref fIp)))
    (hIp : FQ K "is_place_pair" "is_place_pair" (top 26) fIp)
    (aFp : PySem.W.nsIn K mainGlobals "few_places" = some (some (.ref fFp)))
    (hFp : FQ K "few_places" "few_places" (top 27) fFp)
    (aBp : PySem.W.nsIn K mainGlobals "burst_places" = some (some (.ref fBp)))
    (hBp : FQ K "burst_places" "burst_places" (top 28) fBp)
    (aPe : PySem.W.nsIn K mainGlobals "_law_pen" = some (some (.ref fPe)))
    (hPe : FQ K "_law_pen" "_law_pen" (top 36) fPe)
    (aDr : PySem.W.nsIn K mainGlobals "_law_draw" = some (some (.ref fDr)))
    (hDr : FQ K "_law_draw" "_law_draw" (top 37) fDr)
    (aPi : PySem.W.nsIn K mainGlobals "_law_pick" = some (some (.ref fPi)))
    (hPi : FQ K "_law_pick" "_law_pick" (top 38) fPi)
    (aPl : PySem.W.nsIn K mainGlobals "_law_places" = some (some (.ref fPl)))
    (hPl : FQ K "_law_places" "_law_places" (top 39) fPl)
    (aOp : PySem.W.nsIn K mainGlobals "_law_of_pairs" = some (some (.ref fOp)))
    (hOp : FQ K "_law_of_pairs" "_law_of_pairs" (top 40) fOp)
    (aRe : PySem.W.nsIn K mainGlobals "_law_reached" = some (some (.ref fRe)))
    (hRe : FQ K "_law_reached" "_law_reached" (top 41) fRe)
    (aLl : PySem.W.nsIn K mainGlobals "_law_least" = some (some (.ref fLl)))
    (hLl : FQ K "_law_least" "_law_least" (top 42) fLl)
    (aJd : PySem.W.nsIn K mainGlobals "_law_joined" = some (some (.ref fJd)))
    (hJd : FQ K "_law_joined" "_law_joined" (top 43) fJd)
    (aHd : PySem.W.nsIn K mainGlobals "_law_heard" = some (some (.ref fHd)))
    (hHd : FQ K "_law_heard" "_law_heard" (top 44) fHd)
    (aIs : PySem.W.nsIn K mainGlobals "_law_is" = some (some (.ref fIs)))
    (hIs : FQ K "_law_is" "_law_is" (top 45) fIs)
    (aLi : PySem.W.nsIn K mainGlobals "_law_lists" = some (some (.ref fLi)))
    (hLi : FQ K "_law_lists" "_law_lists" (top 46) fLi)
    (aPr : PySem.W.nsIn K mainGlobals "_law_pair" = some (some (.ref fPr)))
    (hPr : FQ K "_law_pair" "_law_pair" (top 47) fPr)
    (aLa : PySem.W.nsIn K mainGlobals "law" = some (some (.ref fLa)))
    (hLa : FC K "law" (top 48) fLa cLa PLa)
    (hNT : PySem.W.noTabs K = true)
    (aCL : PySem.W.nsIn K mainGlobals "LossRule" = some (some (.ref CL)))
    (clsCL : Cls K CL)
    (aCM : PySem.W.nsIn K mainGlobals "MachineRule" = some (some (.ref CM)))
    (clsCM : Cls K CM)
    (aCT : PySem.W.nsIn K mainGlobals "Total" = some (some (.ref CT)))
    (clsCT : Cls K CT)
    (aCB : PySem.W.nsIn K mainGlobals "Burst" = some (some (.ref CB)))
    (clsCB : Cls K CB)
    (tyL : PySem.W.typeIn K (.ref CL) = some (.type "type"))
    (mkCM : PySem.W.makesIn K CM = true)
    (kpCM : PySem.W.keepIn K (.ref CM) = true)
    (ccCM : PySem.W.findIn K (.ref CM) "__class__" = some (some (.builtin "object.__class__")))
    (obCM : PySem.W.mroIn K CM (.type "object") = some true)
    (sbCM : PySem.W.subIn K (.ref CM) (.ref CL) = some true)
    (plCM : NoAttr K CM "places")
    (aICM : PySem.W.findIn K (.ref CM) "__init__" = some (some (.ref mCM)))
    (tICM : PySem.W.isFn K (.ref mCM) = true)
    (hICM : FQ K "__init__" "MachineRule.__init__" sMr mCM)
    (sfCM : PySem.W.selfFirst K CM = true)
    (aACM : PySem.W.findIn K (.ref CM) (PySem.dunder "and") = some (some (.ref mA)))
    (aOCM : PySem.W.findIn K (.ref CM) (PySem.dunder "or") = some (some (.ref mO)))
    (nACM : PySem.W.findIn K (.ref CM) (dunderR "and") = some (none))
    (nOCM : PySem.W.findIn K (.ref CM) (dunderR "or") = some (none))
    (aECM : PySem.W.findIn K (.ref CM) "lets" = some (some (.ref mE)))
    (aWCM : PySem.W.findIn K (.ref CM) "within" = some (some (.ref mW)))
    (mkCT : PySem.W.makesIn K CT = true)
    (kpCT : PySem.W.keepIn K (.ref CT) = true)
    (ccCT : PySem.W.findIn K (.ref CT) "__class__" = some (some (.builtin "object.__class__")))
    (obCT : PySem.W.mroIn K CT (.type "object") = some true)
    (sbCT : PySem.W.subIn K (.ref CT) (.ref CL) = some true)
    (plCT : NoAttr K CT "places")
    (aICT : PySem.W.findIn K (.ref CT) "__init__" = some (some (.ref mCT)))
    (tICT : PySem.W.isFn K (.ref mCT) = true)
    (hICT : FQ K "__init__" "Total.__init__" sTo mCT)
    (sfCT : PySem.W.selfFirst K CT = true)
    (aACT : PySem.W.findIn K (.ref CT) (PySem.dunder "and") = some (some (.ref mA)))
    (aOCT : PySem.W.findIn K (.ref CT) (PySem.dunder "or") = some (some (.ref mO)))
    (nACT : PySem.W.findIn K (.ref CT) (dunderR "and") = some (none))
    (nOCT : PySem.W.findIn K (.ref CT) (dunderR "or") = some (none))
    (aECT : PySem.W.findIn K (.ref CT) "lets" = some (some (.ref mE)))
    (aWCT : PySem.W.findIn K (.ref CT) "within" = some (some (.ref mW)))
    (mkCB : PySem.W.makesIn K CB = true)
    (kpCB : PySem.W.keepIn K (.ref CB) = true)
    (ccCB : PySem.W.findIn K (.ref CB) "__class__" = some (some (.builtin "object.__class__")))
    (obCB : PySem.W.mroIn K CB (.type "object") = some true)
    (sbCB : PySem.W.subIn K (.ref CB) (.ref CL) = some true)
    (plCB : NoAttr K CB "places")
    (aICB : PySem.W.findIn K (.ref CB) "__init__" = some (some (.ref mCB)))
    (tICB : PySem.W.isFn K (.ref mCB) = true)
    (hICB : FQ K "__init__" "Burst.__init__" sBu mCB)
    (sfCB : PySem.W.selfFirst K CB = true)
    (aACB : PySem.W.findIn K (.ref CB) (PySem.dunder "and") = some (some (.ref mA)))
    (aOCB : PySem.W.findIn K (.ref CB) (PySem.dunder "or") = some (some (.ref mO)))
    (nACB : PySem.W.findIn K (.ref CB) (dunderR "and") = some (none))
    (nOCB : PySem.W.findIn K (.ref CB) (dunderR "or") = some (none))
    (aECB : PySem.W.findIn K (.ref CB) "lets" = some (some (.ref mE)))
    (aWCB : PySem.W.findIn K (.ref CB) "within" = some (some (.ref mW)))
    (aQ : PySem.W.findIn K (.ref CM) "__eq__" = some (some (.ref mQ)))
    (tQ : PySem.W.isFn K (.ref mQ) = true)
    (hQ : FQ K "__eq__" "LossRule.__eq__" (sLr 0) mQ)
    (tE : PySem.W.isFn K (.ref mE) = true)
    (hE : FQ K "lets" "LossRule.lets" (sLr 2) mE)
    (tA : PySem.W.isFn K (.ref mA) = true)
    (hA : FQ K "__and__" "LossRule.__and__" (sLr 3) mA)
    (tO : PySem.W.isFn K (.ref mO) = true)
    (hO : FQ K "__or__" "LossRule.__or__" (sLr 4) mO)
    (tW : PySem.W.isFn K (.ref mW) = true)
    (hW : FQ K "within" "LossRule.within" (sLr 5) mW)
    (sCTCM : PySem.W.subIn K (.ref CT) (.ref CM) = some false)
    (sCBCM : PySem.W.subIn K (.ref CB) (.ref CM) = some false)
    (sCMCT : PySem.W.subIn K (.ref CM) (.ref CT) = some false)
    (sCBCT : PySem.W.subIn K (.ref CB) (.ref CT) = some false)
    (sCMCB : PySem.W.subIn K (.ref CM) (.ref CB) = some false)
    (sCTCB : PySem.W.subIn K (.ref CT) (.ref CB) = some false)
    (neM : PySem.W.findIn K (.ref CM) "__ne__" = some (some (.builtin "object.__ne__")))
    (nMT : PySem.W.notFirst K CM (.ref CT) = true)
    (nMB : PySem.W.notFirst K CM (.ref CB) = true)
    (sSM : PySem.W.subIn K (.type "str") (.ref CM) = some false)
    (sSL : PySem.W.subIn K (.type "str") (.ref CL) = some false)
    (cs : PySem.W.specialIn K (.builtin "object.__class__") "__get__" = some (some (.builtin "getset_descriptor.__get__")))
    (ct : PySem.W.takesIn K (.builtin "object.__class__") = some true)
    (gB : PySem.W.nsIn K mainGlobals "PostError" = some (some (.ref B)))
    (xT : CF K "TooMany" "TooMany.__init__" (inClass (top 9) 0) cT fT B)
    (xw : PySem.W.findIn K (.ref cT) "what" = some none)
    (xm : PySem.W.findIn K (.ref cT) "most" = some none)
    (bT : PySem.W.subIn K (.ref cT) (.type "BaseException") = some true)
    (tyT : PySem.W.typeIn K (.ref cT) = some (.type "type"))
    (zP : ∃ t, PySem.W.nsIn K mainGlobals "MOST_PLACES" = some (some (.int 12 t)))
    (zS : ∃ t, PySem.W.nsIn K mainGlobals "MOST_SLOTS" = some (some (.int 400 t)))
    (zL : ∃ t, PySem.W.nsIn K mainGlobals "MOST_LOSSES" = some (some (.int 8 t)))
    (zG : ∃ t, PySem.W.nsIn K mainGlobals "GONE" = some (some (.int (-1) t)))
    (z_isinstance : PySem.W.nsIn K mainGlobals "isinstance" = some (none))
    (z_int : PySem.W.nsIn K mainGlobals "int" = some (none))
    (z_bool : PySem.W.nsIn K mainGlobals "bool" = some (none))
    (z_str : PySem.W.nsIn K mainGlobals "str" = some (none))
    (z_len : PySem.W.nsIn K mainGlobals "len" = some (none))
    (z_abs : PySem.W.nsIn K mainGlobals "abs" = some (none))
    (z_list : PySem.W.nsIn K mainGlobals "list" = some (none))
    (z_range : PySem.W.nsIn K mainGlobals "range" = some (none))
    (z_tuple : PySem.W.nsIn K mainGlobals "tuple" = some (none))
    (z_enumerate : PySem.W.nsIn K mainGlobals "enumerate" = some (none))
    (z_zip : PySem.W.nsIn K mainGlobals "zip" = some (none))
    (z_dict : PySem.W.nsIn K mainGlobals "dict" = some (none))
    (z_repr : PySem.W.nsIn K mainGlobals "repr" = some (none))
    : LawAtS l w K CX0 9 63 "_law_script" mg fa h := by
  have eLa := hfa.symm.trans (PySem.W.mg_of X G aLa)
  cases eLa
  have gInt := PySem.W.mg_of X G aInt
  obtain ⟨dInt, FInt⟩ := hInt.fn
  have bInt : Binds K dInt ["value"] [] := FInt.binds fun _ _ _ _ _ _ us hl => match us, hl with | [_], _ => rfl
  have gWi := PySem.W.mg_of X G aWi
  obtain ⟨dWi, FWi⟩ := hWi.fn
  have bWi : Binds K dWi ["value", "least", "most"] [] := FWi.binds fun _ _ _ _ _ _ us hl => match us, hl with | [_, _, _], _ => rfl
  have gSl := PySem.W.mg_of X G aSl
  obtain ⟨dSl, FSl⟩ := hSl.fn
  have bSl : Binds K dSl ["value"] [] := FSl.binds fun _ _ _ _ _ _ us hl => match us, hl with | [_], _ => rfl
  have gLo := PySem.W.mg_of X G aLo
  obtain ⟨dLo, FLo⟩ := hLo.fn
  have bLo : Binds K dLo ["value"] [] := FLo.binds fun _ _ _ _ _ _ us hl => match us, hl with | [_], _ => rfl
  have gPb := PySem.W.mg_of X G aPb
  obtain ⟨dPb, FPb⟩ := hPb.fn
  have bPb : Binds K dPb ["places", "place", "slot"] [] := FPb.binds fun _ _ _ _ _ _ us hl => match us, hl with | [_, _, _], _ => rfl
  have gJp := PySem.W.mg_of X G aJp
  obtain ⟨dJp, FJp⟩ := hJp.fn
  have bJp : Binds K dJp ["one", "other", "is_both"] [] := FJp.binds fun _ _ _ _ _ _ us hl => match us, hl with | [_, _, _], _ => rfl
  have gPt := PySem.W.mg_of X G aPt
  obtain ⟨dPt, FPt⟩ := hPt.fn
  have bPt : Binds K dPt ["one", "other"] [] := FPt.binds fun _ _ _ _ _ _ us hl => match us, hl with | [_, _], _ => rfl
  have gKn := PySem.W.mg_of X G aKn
  obtain ⟨dKn, FKn⟩ := hKn.fn
  have bKn : Binds K dKn ["places"] [] := FKn.binds fun _ _ _ _ _ _ us hl => match us, hl with | [_], _ => rfl
  have gLs := PySem.W.mg_of X G aLs
  obtain ⟨dLs, FLs⟩ := hLs.fn
  have bLs : Binds K dLs ["places"] [] := FLs.binds fun _ _ _ _ _ _ us hl => match us, hl with | [_], _ => rfl
  have gIp := PySem.W.mg_of X G aIp
  obtain ⟨dIp, FIp⟩ := hIp.fn
  have bIp : Binds K dIp ["value", "many"] [] := FIp.binds fun _ _ _ _ _ _ us hl => match us, hl with | [_, _], _ => rfl
  have gFp := PySem.W.mg_of X G aFp
  obtain ⟨dFp, FFp⟩ := hFp.fn
  have bFp : Binds K dFp ["places"] [] := FFp.binds fun _ _ _ _ _ _ us hl => match us, hl with | [_], _ => rfl
  have gBp := PySem.W.mg_of X G aBp
  obtain ⟨dBp, FBp⟩ := hBp.fn
  have bBp : Binds K dBp ["most", "apart"] [] := FBp.binds fun _ _ _ _ _ _ us hl => match us, hl with | [_, _], _ => rfl
  have gPe := PySem.W.mg_of X G aPe
  obtain ⟨dPe, FPe⟩ := hPe.fn
  have bPe : Binds K dPe ["_law_script"] [] := FPe.binds fun _ _ _ _ _ _ us hl => match us, hl with | [_], _ => rfl
  have gDr := PySem.W.mg_of X G aDr
  obtain ⟨dDr, FDr⟩ := hDr.fn
  have bDr : Binds K dDr ["_law_pen_here", "_law_top_so"] [] := FDr.binds fun _ _ _ _ _ _ us hl => match us, hl with | [_, _], _ => rfl
  have gPi := PySem.W.mg_of X G aPi
  obtain ⟨dPi, FPi⟩ := hPi.fn
  have bPi : Binds K dPi ["_law_pen_here", "_law_some"] [] := FPi.binds fun _ _ _ _ _ _ us hl => match us, hl with | [_, _], _ => rfl
  have gPl := PySem.W.mg_of X G aPl
  obtain ⟨dPl, FPl⟩ := hPl.fn
  have bPl : Binds K dPl ["_law_pen_here", "_law_most"] [] := FPl.binds fun _ _ _ _ _ _ us hl => match us, hl with | [_, _], _ => rfl
  have gOp := PySem.W.mg_of X G aOp
  obtain ⟨dOp, FOp⟩ := hOp.fn
  have bOp : Binds K dOp ["_law_places_so"] [] := FOp.binds fun _ _ _ _ _ _ us hl => match us, hl with | [_], _ => rfl
  have gRe := PySem.W.mg_of X G aRe
  obtain ⟨dRe, FRe⟩ := hRe.fn
  have bRe : Binds K dRe ["_law_places_so"] [] := FRe.binds fun _ _ _ _ _ _ us hl => match us, hl with | [_], _ => rfl
  have gLl := PySem.W.mg_of X G aLl
  obtain ⟨dLl, FLl⟩ := hLl.fn
  have bLl : Binds K dLl ["_law_places_so"] [] := FLl.binds fun _ _ _ _ _ _ us hl => match us, hl with | [_], _ => rfl
  have gJd := PySem.W.mg_of X G aJd
  obtain ⟨dJd, FJd⟩ := hJd.fn
  have bJd : Binds K dJd ["_law_one", "_law_other", "_law_either"] [] := FJd.binds fun _ _ _ _ _ _ us hl => match us, hl with | [_, _, _], _ => rfl
  have gHd := PySem.W.mg_of X G aHd
  obtain ⟨dHd, FHd⟩ := hHd.fn
  have bHd : Binds K dHd ["_law_ask"] [] := FHd.binds fun _ _ _ _ _ _ us hl => match us, hl with | [_], _ => rfl
  have gIs := PySem.W.mg_of X G aIs
  obtain ⟨dIs, FIs⟩ := hIs.fn
  have bIs : Binds K dIs ["_law_told", "_law_places_so"] [] := FIs.binds fun _ _ _ _ _ _ us hl => match us, hl with | [_, _], _ => rfl
  have gLi := PySem.W.mg_of X G aLi
  obtain ⟨dLi, FLi⟩ := hLi.fn
  have bLi : Binds K dLi ["_law_most"] [] := FLi.binds fun _ _ _ _ _ _ us hl => match us, hl with | [_], _ => rfl
  have gPr := PySem.W.mg_of X G aPr
  obtain ⟨dPr, FPr⟩ := hPr.fn
  have bPr : Binds K dPr ["_law_pen_here"] [] := FPr.binds fun _ _ _ _ _ _ us hl => match us, hl with | [_], _ => rfl
  obtain ⟨kVLa, docLa, pmLa, anLa, ctLa, FLa⟩ := hLa.fn
  obtain ⟨CLa, ELa⟩ := hTab "law" (by decide) _ _ (hLa.tab aLa)
  obtain ⟨eICM, MICM⟩ := hICM.fn
  obtain ⟨eICT, MICT⟩ := hICT.fn
  have cICT : Binds K eICT ["self", "most"] [] := MICT.binds fun _ _ _ _ _ _ us hl => match us, hl with | [_, _], _ => rfl
  obtain ⟨eICB, MICB⟩ := hICB.fn
  have cICB : Binds K eICB ["self", "most", "apart"] [] := MICB.binds fun _ _ _ _ _ _ us hl => match us, hl with | [_, _, _], _ => rfl
  obtain ⟨eQ, MQ⟩ := hQ.fn
  have cQ : Binds K eQ ["self", "other"] [] := MQ.binds fun _ _ _ _ _ _ us hl => match us, hl with | [_, _], _ => rfl
  obtain ⟨eE, ME⟩ := hE.fn
  have cE : Binds K eE ["self", "losses"] [] := ME.binds fun _ _ _ _ _ _ us hl => match us, hl with | [_, _], _ => rfl
  obtain ⟨eA, MA⟩ := hA.fn
  have cA : Binds K eA ["self", "other"] [] := MA.binds fun _ _ _ _ _ _ us hl => match us, hl with | [_, _], _ => rfl
  obtain ⟨eO, MO⟩ := hO.fn
  have cO : Binds K eO ["self", "other"] [] := MO.binds fun _ _ _ _ _ _ us hl => match us, hl with | [_, _], _ => rfl
  obtain ⟨eW, MW⟩ := hW.fn
  have cW : Binds K eW ["self", "other"] [] := MW.binds fun _ _ _ _ _ _ us hl => match us, hl with | [_, _], _ => rfl
  obtain ⟨dT, FT⟩ := xT.fn
  have bTo : Binds K dT ["self", "what", "most"] [] := FT.binds fun _ _ _ _ _ _ us hl => match us, hl with | [_, _, _], _ => rfl
  have m_isinstance := PySem.W.mg_none_of X G z_isinstance
  have m_int := PySem.W.mg_none_of X G z_int
  have m_bool := PySem.W.mg_none_of X G z_bool
  have m_str := PySem.W.mg_none_of X G z_str
  have m_len := PySem.W.mg_none_of X G z_len
  have m_abs := PySem.W.mg_none_of X G z_abs
  have m_list := PySem.W.mg_none_of X G z_list
  have m_range := PySem.W.mg_none_of X G z_range
  have m_tuple := PySem.W.mg_none_of X G z_tuple
  have m_enumerate := PySem.W.mg_none_of X G z_enumerate
  have m_zip := PySem.W.mg_none_of X G z_zip
  have m_dict := PySem.W.mg_none_of X G z_dict
  have m_repr := PySem.W.mg_none_of X G z_repr
  have TT : GlbT mg := ⟨m_isinstance, m_int, m_bool, m_str, m_len⟩
  have TS : GlbS mg := ⟨m_len, m_range, m_tuple, m_list⟩
  have TG : Glb mg := ⟨m_int, m_abs, m_len, m_list⟩
  have TM : GlbM mg := ⟨m_enumerate, m_len⟩
  have TZ : GlbZ mg := ⟨m_zip, m_enumerate, m_dict, m_repr⟩
  have gCL := PySem.W.mg_of X G aCL
  have gCM := PySem.W.mg_of X G aCM
  have gCT := PySem.W.mg_of X G aCT
  have gCB := PySem.W.mg_of X G aCB
  have hP : ∃ t, mg "MOST_PLACES" = some (.int 12 t) := zP.imp fun _ e => PySem.W.mg_of X G e
  have hS' : ∃ t, mg "MOST_SLOTS" = some (.int 400 t) := zS.imp fun _ e => PySem.W.mg_of X G e
  have hL' : ∃ t, mg "MOST_LOSSES" = some (.int 8 t) := zL.imp fun _ e => PySem.W.mg_of X G e
  have hG : ∃ t, mg "GONE" = some (.int (-1) t) := zG.imp fun _ e => PySem.W.mg_of X G e
  have isL : (PySem.W.clsIn K CL).isSome = true := by
    obtain ⟨cd, hc, _⟩ := PySem.W.any_some clsCL.hd
    rw [hc]
    rfl
  have HK : HdK K mg cT := ⟨PySem.W.mg_of X G xT.b.aC, PySem.W.exm_ref bT xT.b.hd tyT ((xT.b.mro _).trans (by simp)), xT.b.xf, xm, xw⟩
  have GCM : LsC K CM := ⟨clsCM, plCM⟩
  have KCM : LsK K CL CM := ⟨GCM, ccCM, cs, ct, obCM, kit_of_ref sbCM isL tyL⟩
  have MkCM : Mk K CM mCM := ⟨mkCM, aICM, tICM, kpCM⟩
  have GCT : LsC K CT := ⟨clsCT, plCT⟩
  have KCT : LsK K CL CT := ⟨GCT, ccCT, cs, ct, obCT, kit_of_ref sbCT isL tyL⟩
  have MkCT : Mk K CT mCT := ⟨mkCT, aICT, tICT, kpCT⟩
  have GCB : LsC K CB := ⟨clsCB, plCB⟩
  have KCB : LsK K CL CB := ⟨GCB, ccCB, cs, ct, obCB, kit_of_ref sbCB isL tyL⟩
  have MkCB : Mk K CB mCB := ⟨mkCB, aICB, tICB, kpCB⟩
  refine ⟨PySem.W.fnOf "law" "law" (defArgs sLaw) (defBody sLaw) (defScope sLaw) .none kVLa docLa pmLa anLa (.ref cLa) ctLa, [(cLa, PLa)], spLaw K [(PLa, qLaw)], ?_, ?_, ?_, fun s v => .of_eq rfl, ?_, fun base _ _ TB => ?_⟩
  · intro p hp
    obtain rfl := List.mem_singleton.mp hp
    exact ELa
  · intro p hp
    obtain rfl := List.mem_singleton.mp hp
    exact noTab X hNT ELa
  · intro p hp
    obtain rfl := List.mem_singleton.mp hp
    exact CLa
  · intro H a ns hl _ hH hS
    refine ⟨a, ns, rfl, hS, hl, fun p hp => ?_, fun _ => rfl⟩
    obtain rfl := List.mem_singleton.mp hp
    exact .nil (hH _ (List.mem_cons_self ..))
  have TBl := TB (cLa, PLa) (List.mem_cons_self ..)
  have uL : ∀ p ∈ [(PLa, qLaw)], p.1 = PLa → p.2 = qLaw := fun p hp e => by
    obtain rfl := List.mem_singleton.mp hp
    rfl
  have BT : GTwo l.prog w K mg base "TooMany" "what" "most" cT fT dT := ⟨xT.b.ox, xT.a1, xT.t1, ok_I2 xT FT ⟨rfl, rfl, rfl, by decide +kernel, rfl, by decide +kernel, by decide +kernel⟩ rfl rfl rfl rfl (by decide +kernel) (by decide +kernel) (by decide +kernel) (by decide +kernel) xw xm, bTo, PySem.W.mg_of X G xT.b.aC⟩
  have oInt : FnOk l.prog w K mg base (CX0) 1 fInt dInt ["value"] (spIsInt K) := ok_isInt FInt TT
  have GInt : Gfn l.prog w K mg base 1 "is_integer" ["value"] (spIsInt K) := ⟨_, _, oInt, hInt.k, bInt, gInt⟩
  have oWi : FnOk l.prog w K mg base (CX0) 2 fWi dWi ["value", "least", "most"] (spWithin K) := ok_within FWi TT FInt bInt gInt
  have GWi : Gfn l.prog w K mg base 2 "is_within" ["value", "least", "most"] (spWithin K) := ⟨_, _, oWi, hWi.k, bWi, gWi⟩
  have oSl : FnOk l.prog w K mg base (CX0) 1 fSl dSl ["value"] (spIsl) := ok_Isl FSl TT
  have GSl : Gfn l.prog w K mg base 1 "is_slots" ["value"] (spIsl) := ⟨_, _, oSl, hSl.k, bSl, gSl⟩
  have oLo : FnOk l.prog w K mg base (CX0) 2 fLo dLo ["value"] (spIsl) := ok_Ilo FLo TT hS' GSl
  have GLo : Gfn l.prog w K mg base 2 "is_losses" ["value"] (spIsl) := ⟨_, _, oLo, hLo.k, bLo, gLo⟩
  have oPb : FnOk l.prog w K mg base (CX0) 1 fPb dPb ["places", "place", "slot"] (spPb) := ok_Pb FPb hG
  have GPb : Gfn l.prog w K mg base 1 "place_behind" ["places", "place", "slot"] (spPb) := ⟨_, _, oPb, hPb.k, bPb, gPb⟩
  have oJp : FnOk l.prog w K mg base (CX0) 2 fJp dJp ["one", "other", "is_both"] (spJp) := ok_Jp FJp TS hG GPb
  have GJp : Gfn l.prog w K mg base 2 "joined_places" ["one", "other", "is_both"] (spJp) := ⟨_, _, oJp, hJp.k, bJp, gJp⟩
  have oPt : FnOk l.prog w K mg base (CX0) 2 fPt dPt ["one", "other"] (spPt) := ok_Pt FPt TS hG GPb
  have GPt : Gfn l.prog w K mg base 2 "is_part" ["one", "other"] (spPt) := ⟨_, _, oPt, hPt.k, bPt, gPt⟩
  have oKn : FnOk l.prog w K mg base (CX0) 1 fKn dKn ["places"] (spKn K) := ok_Kn FKn TM
  have GKn : Gfn l.prog w K mg base 1 "place_kinds" ["places"] (spKn K) := ⟨_, _, oKn, hKn.k, bKn, gKn⟩
  have oLs : FnOk l.prog w K mg base (CX0) 2 fLs dLs ["places"] (spLs K) := ok_Ls FLs TS GKn
  have GLs : Gfn l.prog w K mg base 2 "least_places" ["places"] (spLs K) := ⟨_, _, oLs, hLs.k, bLs, gLs⟩
  have oIp : FnOk l.prog w K mg base (CX0) 3 fIp dIp ["value", "many"] (spIp K) := ok_Ip FIp TT TS GWi
  have GIp : Gfn l.prog w K mg base 3 "is_place_pair" ["value", "many"] (spIp K) := ⟨_, _, oIp, hIp.k, bIp, gIp⟩
  have oFp : FnOk l.prog w K mg base (CX0) 3 fFp dFp ["places"] (spFp K) := ok_Fp FFp TS hP GLs
  have GFp : Gfn l.prog w K mg base 3 "few_places" ["places"] (spFp K) := ⟨_, _, oFp, hFp.k, bFp, gFp⟩
  have oFx : FnOk l.prog w K mg base (L2.CX l.prog w) 3 fFp dFp ["places"] (spFx K cT) := ok_Fx FFp TS hP BT GLs
  have oBp : FnOk l.prog w K mg base (CX0) 1 fBp dBp ["most", "apart"] (spBp) := ok_Bp FBp TS
  have GBp : Gfn l.prog w K mg base 1 "burst_places" ["most", "apart"] (spBp) := ⟨_, _, oBp, hBp.k, bBp, gBp⟩
  have oIM : FnR l.prog w K mg base CX0 4 mCM (spMrA K CM) := ok_Mr MICM GCM TS m_enumerate hP GIp GFp
  have oIT : FnOk l.prog w K mg base CX0 4 mCT eICT ["self", "most"] (spTo CT) := ok_To MICT GCT TS hL' GWi GFp
  have oIB : FnOk l.prog w K mg base CX0 4 mCB eICB ["self", "most", "apart"] (spBu CB) := ok_Bu MICB GCB hL' GWi GBp GFp
  have oQ : FnOk l.prog w K mg base CX0 1 mQ eQ ["self", "other"] (spEqR K CL) := ok_EqR MQ gCL TT
  have oA : FnOk l.prog w K mg base (L2.CX l.prog w) 6 mA eA ["self", "other"] (spBn K CL CM cT false) := ok_An MA TT gCL MkCM oIM gCM GJp oFx hFp.k bFp gFp
  have oO : FnOk l.prog w K mg base (L2.CX l.prog w) 6 mO eO ["self", "other"] (spBn K CL CM cT true) := ok_Or MO TT gCL MkCM oIM gCM GJp oFx hFp.k bFp gFp
  have oW : FnOk l.prog w K mg base CX0 3 mW eW ["self", "other"] (spWn K CL) := ok_Wn MW TT gCL GPt
  have JCM : JuC l.prog w K mg base CL mA mO mE mW eE eW CM := ⟨KCM, ⟨sfCM, ⟨aACM, tA⟩, nACM⟩, ⟨sfCM, ⟨aOCM, tO⟩, nOCM⟩, ⟨aECM, tE, hE.k⟩, ok_Le ME GCM hG GLo GPb, ⟨aWCM, tW, hW.k⟩⟩
  have JCT : JuC l.prog w K mg base CL mA mO mE mW eE eW CT := ⟨KCT, ⟨sfCT, ⟨aACT, tA⟩, nACT⟩, ⟨sfCT, ⟨aOCT, tO⟩, nOCT⟩, ⟨aECT, tE, hE.k⟩, ok_Le ME GCT hG GLo GPb, ⟨aWCT, tW, hW.k⟩⟩
  have JCB : JuC l.prog w K mg base CL mA mO mE mW eE eW CB := ⟨KCB, ⟨sfCB, ⟨aACB, tA⟩, nACB⟩, ⟨sfCB, ⟨aOCB, tO⟩, nOCB⟩, ⟨aECB, tE, hE.k⟩, ok_Le ME GCB hG GLo GPb, ⟨aWCB, tW, hW.k⟩⟩
  have J : ∀ C, (C = CM ∨ C = CT ∨ C = CB) → JuC l.prog w K mg base CL mA mO mE mW eE eW C := fun C h => by
    rcases h with rfl | rfl | rfl
    · exact JCM
    · exact JCT
    · exact JCB
  have off : ∀ C D, (C = CM ∨ C = CT ∨ C = CB) → (D = CM ∨ D = CT ∨ D = CB) → Off K C D := fun C D h h' => by
    rcases h with rfl | rfl | rfl <;> rcases h' with rfl | rfl | rfl <;> first | exact .inl rfl | exact .inr sCTCM | exact .inr sCBCM | exact .inr sCMCT | exact .inr sCBCT | exact .inr sCMCB | exact .inr sCTCB
  have gl : ∀ C, (C = CM ∨ C = CT ∨ C = CB) → LsC K C := fun C h => (J C h).k.ls
  have oPe : FnOk l.prog w K mg base (CX0) 1 fPe dPe ["_law_script"] (spPen K) := ok_pen FPe TG
  have GPe : Gfn l.prog w K mg base 1 "_law_pen" ["_law_script"] (spPen K) := ⟨_, _, oPe, hPe.k, bPe, gPe⟩
  have oDr : FnOk l.prog w K mg base (CX0) 1 fDr dDr ["_law_pen_here", "_law_top_so"] (spDraw) := ok_draw FDr TG
  have GDr : Gfn l.prog w K mg base 1 "_law_draw" ["_law_pen_here", "_law_top_so"] (spDraw) := ⟨_, _, oDr, hDr.k, bDr, gDr⟩
  have oPi : FnOk l.prog w K mg base (CX0) 2 fPi dPi ["_law_pen_here", "_law_some"] (spPick) := ok_pick FPi TG FDr bDr gDr
  have GPi : Gfn l.prog w K mg base 2 "_law_pick" ["_law_pen_here", "_law_some"] (spPick) := ⟨_, _, oPi, hPi.k, bPi, gPi⟩
  have oPl : FnOk l.prog w K mg base (CX0) 3 fPl dPl ["_law_pen_here", "_law_most"] (spPl) := ok_Pl FPl TS GDr GPi
  have GPl : Gfn l.prog w K mg base 3 "_law_places" ["_law_pen_here", "_law_most"] (spPl) := ⟨_, _, oPl, hPl.k, bPl, gPl⟩
  have oOp : FnOk l.prog w K mg base (CX0) 6 fOp dOp ["_law_places_so"] (spOp CM) := ok_Op FOp TT MkCM oIM gCM
  have GOp : Gfn l.prog w K mg base 6 "_law_of_pairs" ["_law_places_so"] (spOp CM) := ⟨_, _, oOp, hOp.k, bOp, gOp⟩
  have oRe : FnOk l.prog w K mg base (CX0) 1 fRe dRe ["_law_places_so"] (spRe) := ok_Re FRe TS
  have GRe : Gfn l.prog w K mg base 1 "_law_reached" ["_law_places_so"] (spRe) := ⟨_, _, oRe, hRe.k, bRe, gRe⟩
  have oLl : FnOk l.prog w K mg base (CX0) 2 fLl dLl ["_law_places_so"] (spLl) := ok_Ll FLl TS TZ GRe
  have GLl : Gfn l.prog w K mg base 2 "_law_least" ["_law_places_so"] (spLl) := ⟨_, _, oLl, hLl.k, bLl, gLl⟩
  have oJd : FnOk l.prog w K mg base (CX0) 3 fJd dJd ["_law_one", "_law_other", "_law_either"] (spJd) := ok_Jd FJd TS GLl
  have GJd : Gfn l.prog w K mg base 3 "_law_joined" ["_law_one", "_law_other", "_law_either"] (spJd) := ⟨_, _, oJd, hJd.k, bJd, gJd⟩
  have oIs : FnOk l.prog w K mg base (CX0) 1 fIs dIs ["_law_told", "_law_places_so"] (spIs K CL CM) := ok_Is FIs TT TS gCL KCM
  have GIs : Gfn l.prog w K mg base 1 "_law_is" ["_law_told", "_law_places_so"] (spIs K CL CM) := ⟨_, _, oIs, hIs.k, bIs, gIs⟩
  have oLi : FnOk l.prog w K mg base (CX0) 1 fLi dLi ["_law_most"] (spLi) := ok_Li FLi TS
  have GLi : Gfn l.prog w K mg base 1 "_law_lists" ["_law_most"] (spLi) := ⟨_, _, oLi, hLi.k, bLi, gLi⟩
  have oPr : FnOk l.prog w K mg base (CX0) 7 fPr dPr ["_law_pen_here"] (spPr fun C => C = CM ∨ C = CT ∨ C = CB) := ok_Pr FPr TG gl (.inl rfl) (.inr (.inr rfl)) (.inr (.inl rfl)) MkCB (fnR0 oIB cICB) gCB MkCT (fnR0 oIT cICT) gCT GDr GPi GPl GOp
  have GPr : Gfn l.prog w K mg base 7 "_law_pair" ["_law_pen_here"] (spPr fun C => C = CM ∨ C = CT ∨ C = CB) := ⟨_, _, oPr, hPr.k, bPr, gPr⟩
  exact ok_Law (G := fun C => C = CM ∨ C = CT ∨ C = CB) (T := [(PLa, qLaw)]) FLa TBl (List.mem_cons_self ..) uL TT TG TS HK FHd bHd gHd J off (.inl rfl) (.inr (.inr rfl)) (.inr (.inl rfl)) cE cW oW (fnR0 oA cA) (fnR0 oO cO) MkCB (fnR0 oIB cICB) gCB MkCT (fnR0 oIT cICT) gCT ⟨aQ, tQ⟩ (fnR0 oQ cQ) neM sSM (kit_of_ty sSL isL tyL) nMT nMB GPe GLi GPr GIs GJd GLl
end K16
namespace LamX
open PySem PySem.Spec PyProof.Rows L2
/-- the walk where two defs of the text make code objects: what stands at their tables is told -/
theorem walk_two {l : PySem.W.OpenLaw} {n k : Nat} {q : Program} {loose : List Str} {XP : (Str → Option Value) → Heap → Prop} {YP : World → Heap → Prop} {d : DefRec} {K : Params → PySem.W.Frag} {CX : World → CXT} {x : Str} {xs : List Str}
    (hn : l.most = some n) (hn2 : n ≤ sizeLine) (hdf : d.params.defaults = []) (hr : Room k callerA) (hrec : ∀ y ∈ xs, ((recsOf q).any fun e => e.name == y) = true) (hY : ∀ (w : World) (h : Heap), YP w h → (K w.params).In h)
    (F : ∀ (w : World) (mg : Str → Option Value) (fa : Addr) (h : Heap), YP w h → (K w.params).In h → h.Ns mainGlobals mg → mg d.name = some (.ref fa) → (∀ y, y ∈ xs → ∀ c P, PySem.W.tabIn (K w.params) y = some (c, P) → PySem.W.CodeHd h c P ∧ h.get? P = some { cls := .none, data := .fields #[] }) → LawAtS l w (K w.params) (CX w) k n x mg fa h)
    (hCX : ∀ (w : World) (H : Hp) (s : Shared) (e : Value) (s' : Shared), CX w [] H s (fun _ _ _ => False) e s' → False) :
    PySem.W.WalkO q loose XP YP l.row.toRowW d [] (fun f vs => PySem.call f vs) := by
  refine Att.attach_callB hn hdf fun w s₀ s₁ mg mb fa o pm cd doc a vs ns G Y ho hd hcd hmg hobj hints hlen hbits hg => ?_
  have KX := hY w _ Y
  obtain ⟨fd, cs, sp, hT, nT, C, hb, hsp, hF⟩ := F w mg fa _ Y KX G.T.g hmg fun y hy c P ht => by
    cases z : (recsOf q).find? (fun e => e.name == y) with
    | none =>
      obtain ⟨dL, hm, hn1⟩ := List.any_eq_true.mp (hrec y hy)
      exact absurd hn1 (List.find?_eq_none.mp z dL hm)
    | some dL => exact PySem.W.tab_of G.T KX z ht
  exact law_callTs KX G.T.g G.T.b G.T.builtins G.T.nolimit hg hT nT C G.T.bmain hobj hints (Nat.le_trans hlen hn2) hr hF hb (fun H hH hS => hsp H a ns hlen hbits hH hS) fun H e s' => hCX w H s₁ e s'
end LamX
open PySem PySem.W PyProof.Rows
set_option maxRecDepth 100000 in
set_option maxHeartbeats 0 in
theorem PySem.Challenge.cw_layerpost_k16_whole_loss_rules_joined_holds : PySem.Challenge.rw_layerpost_k16_whole_loss_rules_joined.Holds := by
  w_on; o_law; k_head; (case hw => w_witness2)
  k_fill
  refine LamX.walk_two (l := PySem.Challenge.rw_layerpost_k16_whole_loss_rules_joined) (n := 63) (k := 9) (x := "_law_script") (xs := ["law"]) (CX := fun _ => L2.CX0) rfl (by decide) rfl ⟨rfl, by decide, by decide⟩ ?R (fun w h Y => PySem.W.km_in_of Y) ?F (fun _ _ _ _ _ z => z)
  case R =>
    intro y hy
    obtain rfl := List.mem_singleton.mp hy
    decide +kernel
  case F =>
    intro w mg fa h _ KX G hmg hTab
    refine' K16.all_mk KX G hmg hTab ?qaInt ?qhInt ?qaWi ?qhWi ?qaSl ?qhSl ?qaLo ?qhLo ?qaPb ?qhPb ?qaJp ?qhJp ?qaPt ?qhPt ?qaKn ?qhKn ?qaLs ?qhLs ?qaIp ?qhIp ?qaFp ?qhFp ?qaBp ?qhBp ?qaPe ?qhPe ?qaDr ?qhDr ?qaPi ?qhPi ?qaPl ?qhPl ?qaOp ?qhOp ?qaRe ?qhRe ?qaLl ?qhLl ?qaJd ?qhJd ?qaHd ?qhHd ?qaIs ?qhIs ?qaLi ?qhLi ?qaPr ?qhPr ?qaLa ?qhLa ?qhNT ?qaCL ?qclsCL ?qaCM ?qclsCM ?qaCT ?qclsCT ?qaCB ?qclsCB ?qtyL ?qmkCM ?qkpCM ?qccCM ?qobCM ?qsbCM ?qplCM ?qaICM ?qtICM ?qhICM ?qsfCM ?qaACM ?qaOCM ?qnACM ?qnOCM ?qaECM ?qaWCM ?qmkCT ?qkpCT ?qccCT ?qobCT ?qsbCT ?qplCT ?qaICT ?qtICT ?qhICT ?qsfCT ?qaACT ?qaOCT ?qnACT ?qnOCT ?qaECT ?qaWCT ?qmkCB ?qkpCB ?qccCB ?qobCB ?qsbCB ?qplCB ?qaICB ?qtICB ?qhICB ?qsfCB ?qaACB ?qaOCB ?qnACB ?qnOCB ?qaECB ?qaWCB ?qaQ ?qtQ ?qhQ ?qtE ?qhE ?qtA ?qhA ?qtO ?qhO ?qtW ?qhW ?qsCTCM ?qsCBCM ?qsCMCT ?qsCBCT ?qsCMCB ?qsCTCB ?qneM ?qnMT ?qnMB ?qsSM ?qsSL ?qcs ?qct ?qgB ?qxT ?qxw ?qxm ?qbT ?qtyT ?qzP ?qzS ?qzL ?qzG ?qz_isinstance ?qz_int ?qz_bool ?qz_str ?qz_len ?qz_abs ?qz_list ?qz_range ?qz_tuple ?qz_enumerate ?qz_zip ?qz_dict ?qz_repr
    (case qaInt => k_is)
    (case qhInt => exact ⟨⟨_, _, _, _, _, _, _, _, _, by k_is, by k_is⟩, by k_is⟩)
    (case qaWi => k_is)
    (case qhWi => exact ⟨⟨_, _, _, _, _, _, _, _, _, by k_is, by k_is⟩, by k_is⟩)
    (case qaSl => k_is)
    (case qhSl => exact ⟨⟨_, _, _, _, _, _, _, _, _, by k_is, by k_is⟩, by k_is⟩)
    (case qaLo => k_is)
    (case qhLo => exact ⟨⟨_, _, _, _, _, _, _, _, _, by k_is, by k_is⟩, by k_is⟩)
    (case qaPb => k_is)
    (case qhPb => exact ⟨⟨_, _, _, _, _, _, _, _, _, by k_is, by k_is⟩, by k_is⟩)
    (case qaJp => k_is)
    (case qhJp => exact ⟨⟨_, _, _, _, _, _, _, _, _, by k_is, by k_is⟩, by k_is⟩)
    (case qaPt => k_is)
    (case qhPt => exact ⟨⟨_, _, _, _, _, _, _, _, _, by k_is, by k_is⟩, by k_is⟩)
    (case qaKn => k_is)
    (case qhKn => exact ⟨⟨_, _, _, _, _, _, _, _, _, by k_is, by k_is⟩, by k_is⟩)
    (case qaLs => k_is)
    (case qhLs => exact ⟨⟨_, _, _, _, _, _, _, _, _, by k_is, by k_is⟩, by k_is⟩)
    (case qaIp => k_is)
    (case qhIp => exact ⟨⟨_, _, _, _, _, _, _, _, _, by k_is, by k_is⟩, by k_is⟩)
    (case qaFp => k_is)
    (case qhFp => exact ⟨⟨_, _, _, _, _, _, _, _, _, by k_is, by k_is⟩, by k_is⟩)
    (case qaBp => k_is)
    (case qhBp => exact ⟨⟨_, _, _, _, _, _, _, _, _, by k_is, by k_is⟩, by k_is⟩)
    (case qaPe => k_is)
    (case qhPe => exact ⟨⟨_, _, _, _, _, _, _, _, _, by k_is, by k_is⟩, by k_is⟩)
    (case qaDr => k_is)
    (case qhDr => exact ⟨⟨_, _, _, _, _, _, _, _, _, by k_is, by k_is⟩, by k_is⟩)
    (case qaPi => k_is)
    (case qhPi => exact ⟨⟨_, _, _, _, _, _, _, _, _, by k_is, by k_is⟩, by k_is⟩)
    (case qaPl => k_is)
    (case qhPl => exact ⟨⟨_, _, _, _, _, _, _, _, _, by k_is, by k_is⟩, by k_is⟩)
    (case qaOp => k_is)
    (case qhOp => exact ⟨⟨_, _, _, _, _, _, _, _, _, by k_is, by k_is⟩, by k_is⟩)
    (case qaRe => k_is)
    (case qhRe => exact ⟨⟨_, _, _, _, _, _, _, _, _, by k_is, by k_is⟩, by k_is⟩)
    (case qaLl => k_is)
    (case qhLl => exact ⟨⟨_, _, _, _, _, _, _, _, _, by k_is, by k_is⟩, by k_is⟩)
    (case qaJd => k_is)
    (case qhJd => exact ⟨⟨_, _, _, _, _, _, _, _, _, by k_is, by k_is⟩, by k_is⟩)
    (case qaHd => k_is)
    (case qhHd => exact ⟨⟨_, _, _, _, _, _, _, _, _, by k_is, by k_is⟩, by k_is⟩)
    (case qaIs => k_is)
    (case qhIs => exact ⟨⟨_, _, _, _, _, _, _, _, _, by k_is, by k_is⟩, by k_is⟩)
    (case qaLi => k_is)
    (case qhLi => exact ⟨⟨_, _, _, _, _, _, _, _, _, by k_is, by k_is⟩, by k_is⟩)
    (case qaPr => k_is)
    (case qhPr => exact ⟨⟨_, _, _, _, _, _, _, _, _, by k_is, by k_is⟩, by k_is⟩)
    (case qaLa => k_is)
    (case qhLa => exact ⟨⟨_, _, _, _, _, _, _, _, by k_is, by k_is⟩, by k_is, ⟨_, _, _, _, by k_is, rfl⟩⟩)
    (case qhNT => kernel_rfl)
    (case qaCL => k_is)
    (case qclsCL => exact ⟨by k_is, by k_is, by k_is, by k_is⟩)
    (case qaCM => k_is)
    (case qclsCM => exact ⟨by k_is, by k_is, by k_is, by k_is⟩)
    (case qaCT => k_is)
    (case qclsCT => exact ⟨by k_is, by k_is, by k_is, by k_is⟩)
    (case qaCB => k_is)
    (case qclsCB => exact ⟨by k_is, by k_is, by k_is, by k_is⟩)
    (case qtyL => k_is)
    (case qmkCM => k_is)
    (case qkpCM => k_is)
    (case qccCM => k_is)
    (case qobCM => k_is)
    (case qsbCM => k_is)
    (case qplCM => exact (by unfold L2.NoAttr; k_is))
    (case qaICM => k_is)
    (case qtICM => k_is)
    (case qhICM => exact ⟨⟨_, _, _, _, _, _, _, _, _, by k_is, by k_is⟩, by k_is⟩)
    (case qsfCM => k_is)
    (case qaACM => k_is)
    (case qaOCM => k_is)
    (case qnACM => k_is)
    (case qnOCM => k_is)
    (case qaECM => k_is)
    (case qaWCM => k_is)
    (case qmkCT => k_is)
    (case qkpCT => k_is)
    (case qccCT => k_is)
    (case qobCT => k_is)
    (case qsbCT => k_is)
    (case qplCT => exact (by unfold L2.NoAttr; k_is))
    (case qaICT => k_is)
    (case qtICT => k_is)
    (case qhICT => exact ⟨⟨_, _, _, _, _, _, _, _, _, by k_is, by k_is⟩, by k_is⟩)
    (case qsfCT => k_is)
    (case qaACT => k_is)
    (case qaOCT => k_is)
    (case qnACT => k_is)
    (case qnOCT => k_is)
    (case qaECT => k_is)
    (case qaWCT => k_is)
    (case qmkCB => k_is)
    (case qkpCB => k_is)
    (case qccCB => k_is)
    (case qobCB => k_is)
    (case qsbCB => k_is)
    (case qplCB => exact (by unfold L2.NoAttr; k_is))
    (case qaICB => k_is)
    (case qtICB => k_is)
    (case qhICB => exact ⟨⟨_, _, _, _, _, _, _, _, _, by k_is, by k_is⟩, by k_is⟩)
    (case qsfCB => k_is)
    (case qaACB => k_is)
    (case qaOCB => k_is)
    (case qnACB => k_is)
    (case qnOCB => k_is)
    (case qaECB => k_is)
    (case qaWCB => k_is)
    (case qaQ => k_is)
    (case qtQ => k_is)
    (case qhQ => exact ⟨⟨_, _, _, _, _, _, _, _, _, by k_is, by k_is⟩, by k_is⟩)
    (case qtE => k_is)
    (case qhE => exact ⟨⟨_, _, _, _, _, _, _, _, _, by k_is, by k_is⟩, by k_is⟩)
    (case qtA => k_is)
    (case qhA => exact ⟨⟨_, _, _, _, _, _, _, _, _, by k_is, by k_is⟩, by k_is⟩)
    (case qtO => k_is)
    (case qhO => exact ⟨⟨_, _, _, _, _, _, _, _, _, by k_is, by k_is⟩, by k_is⟩)
    (case qtW => k_is)
    (case qhW => exact ⟨⟨_, _, _, _, _, _, _, _, _, by k_is, by k_is⟩, by k_is⟩)
    (case qsCTCM => k_is)
    (case qsCBCM => k_is)
    (case qsCMCT => k_is)
    (case qsCBCT => k_is)
    (case qsCMCB => k_is)
    (case qsCTCB => k_is)
    (case qneM => k_is)
    (case qnMT => k_is)
    (case qnMB => k_is)
    (case qsSM => k_is)
    (case qsSL => k_is)
    (case qcs => k_is)
    (case qct => k_is)
    (case qgB => k_is)
    (case qxT => exact ⟨⟨by k_is, ⟨_, _, _, _, _, _, _, _, _, _, _, _, _, _, by k_is⟩, by k_is, by k_is, by k_is, by k_is, by k_is, by k_is⟩, by k_is, ⟨_, _, _, _, _, _, _, _, _, by k_is, by k_is⟩, by k_is, by k_is⟩)
    (case qxw => k_is)
    (case qxm => k_is)
    (case qbT => k_is)
    (case qtyT => k_is)
    (case qzP => exact ⟨_, by k_is⟩)
    (case qzS => exact ⟨_, by k_is⟩)
    (case qzL => exact ⟨_, by k_is⟩)
    (case qzG => exact ⟨_, by k_is⟩)
    (case qz_isinstance => k_is)
    (case qz_int => k_is)
    (case qz_bool => k_is)
    (case qz_str => k_is)
    (case qz_len => k_is)
    (case qz_abs => k_is)
    (case qz_list => k_is)
    (case qz_range => k_is)
    (case qz_tuple => k_is)
    (case qz_enumerate => k_is)
    (case qz_zip => k_is)
    (case qz_dict => k_is)
    (case qz_repr => k_is)
